/- The document's way up, by texts. -/
import Derived.Test.YtlbggkmblkhjoabDoorWl
import Derived.Test.YtlbggkmblkhjoabDoorNb
import Derived.Test.YtlbggkmblkhjoabDoorMi
namespace Go.Proofs.YtlbggkmblkhjoabDoor
open Go.RowKit

theorem step_alloc_as {md : Region.Mode} {ops : Array Oper} {Q : Exit → Act → World → Prop} {S : World → Prop} {fuel : Nat} {listed : Array Bool} {a : Act} {w : World} {i : Nat} {o : Oper} {rs : List Nat} (ho : ops[i]? = some o) (hgd : o.guard = none) (t : TypeId)
    (hop : o.op = .alloc t) (v' : Value) (w' : World) (hr : (Instr.alloc t true (.tuple #[])).run Tryd.prog w = .ok v' w') (hrest : AllReadyH Tryd.prog md ops Q S fuel listed a w rs)
    (h : S w' ∧ (S w' → wpAnyH Tryd.prog md ops Q S fuel (listed.setIfInBounds i true) (a.put o.dst v') w')) : AllReadyH Tryd.prog md ops Q S fuel listed a w (i :: rs) := by
  refine AllReadyH.cons ho (fun K hK => ?_) hrest
  rw [if_pos (by simp [Region.wanted, hgd])]
  unfold Oper.wp execOp
  simp only [hop, Sem.run_bind, hr, Result.andThen_ok]
  exact hK.out _ _ h.1 h.2
def Wayed (w w' : World) (e : Ending) (o : Option (List (List UInt8))) : Prop :=
  ∃ ao len cap, e = .returned (.tuple #[.slice ao len cap, .bool o.isSome]) ∧ (∀ ts, o = some ts → TxRow w.heap.size w' (.slice ao len cap) ts) ∧ Below w.heap.size w w'
theorem Own.chg {p : Nat → Prop} {w W : World} {base : Nat} {v : Value} {bs : List UInt8} (h : Own w base v bs) (hc : Chg p w W) (hp : ∀ k, base ≤ k → ¬ p k) : Own W base v bs := by
  obtain ⟨h1, g, cap, rfl⟩ := h
  refine ⟨⟨h1.1, ?_⟩, g, cap, rfl⟩
  rcases h1.2 with h0 | ⟨g', cap', cur, e, hB, hr, h2⟩
  · exact Or.inl h0
  · exact Or.inr ⟨g', cap', cur, e, hB, hc.row hr (hp g' hB), h2⟩
set_option maxHeartbeats 2000000 in
set_option maxRecDepth 10000 in
theorem nodeText_own (gh gT : Nat) (a : Int) (d e : List UInt8) (hd : d.length = 32) (he : e.length = 32) (w : World) (hH : HsAt w gh gT a) :
   Calls Tryd.prog 38 #[.pointer (some ⟨gh, 0, none⟩), .agg (S.v8 d), .agg (S.v8 e)] w fun r w' => ∃ v', r = .returned v' ∧ Own w' (w.heap.size + 1 + 1) v' (1 :: (d.take (S.cw a) ++ e.take (S.cw a))) ∧ Below w.heap.size w w' := by
  obtain ⟨n, hn⟩ : ∃ n, n = S.cw a := ⟨_, rfl⟩
  have hn32 : n ≤ 32 := by rw [hn]; exact S.cw_le a
  have HN := hide hn
  rw [← hn]
  have lh := block_lt_of_row hH.h
  have hc := (cells2 hH.h).2
  rw [← hn] at hc
  clear hn hH
  obtain ⟨W0, hW0⟩ : ∃ W, W = w.alloc (.cells (S.v8 d) 31) := ⟨_, rfl⟩
  obtain ⟨W1, hW1⟩ : ∃ W, W = W0.alloc (.cells (S.v8 e) 31) := ⟨_, rfl⟩
  obtain ⟨W2, hW2⟩ : ∃ W, W = W1.alloc (.cells #[.int .u8 1] 5) := ⟨_, rfl⟩
  have s0 : W0.heap.size = w.heap.size + 1 := by rw [hW0]; simp
  have s1 : W1.heap.size = w.heap.size + 2 := by rw [hW1]; simp [s0]
  have s2 : W2.heap.size = w.heap.size + 3 := by rw [hW2]; simp [s1]
  have B0 : Below w.heap.size w W0 := by rw [hW0]; exact (Below.refl _ _).alloc (Nat.le_refl _) _
  have B1 : Below W0.heap.size W0 W1 := by rw [hW1]; exact (Below.refl _ _).alloc (Nat.le_refl _) _
  have B2 : Below W1.heap.size W1 W2 := by rw [hW2]; exact (Below.refl _ _).alloc (Nat.le_refl _) _
  have ra : W2.heap[w.heap.size]? = some (.cells (S.v8 d) 31 (0, 0)) := (B2.block _ (by omega)).trans ((B1.block _ (by omega)).trans (by rw [hW0]; exact heap_alloc_new _ _))
  have rb : W2.heap[w.heap.size + 1]? = some (.cells (S.v8 e) 31 (0, 0)) := (B2.block _ (by omega)).trans (by rw [hW1, ← s0]; exact heap_alloc_new _ _)
  have rc : W2.heap[w.heap.size + 2]? = some (.cells #[.int .u8 1] 5 (0, 0)) := by rw [hW2, ← s1]; exact heap_alloc_new _ _
  have bb : Below w.heap.size w W2 := (B0.trans (B1.mono (by omega))).trans (B2.mono (by omega))
  have c2 : W2.cell? ⟨gh, 1, none⟩ = some (.int .i64 (n : Int)) := (bb.cell (p := ⟨gh, 1, none⟩) lh).trans hc
  have KEY := hide (run_append_bytes W2 (w.heap.size + 2) (.slice (some ⟨w.heap.size + 2, 0, none⟩) 1 1) (.slice (some ⟨w.heap.size, 0, none⟩) n 32) [1] (d.take n) 22 (own_one (x := 1) rfl rc (Nat.le_refl _)) (dig_part ra hd n hn32) (by simp; omega) (by omega))
  have RB := hide rb
  have BB := hide bb
  have S2 := hide s2
  have C0 := hide (show w.cell? ⟨gh, 1, none⟩ = some (.int .i64 (n : Int)) from hc)
  have HE := hide he
  have HD := hide hd
  have LH := hide lh
  have q1 : (0 : Int) ≤ (n : Int) := by omega
  have q2 : (n : Int) ≤ 32 := by omega
  have e2 := hW2
  rw [hW1, hW0] at e2
  rw [e2] at c2
  rw [e2] at KEY
  rw [show w.heap.size + 2 = w.heap.size + 1 + 1 from rfl] at KEY
  have E2 := hide e2
  clear hW0 hW1 hW2 s0 s1 s2 B0 B1 B2 ra rb rc bb hc hd he lh e2
  go_enter Tryd.func38, Tryd.ntmps38
  have KEY2 : Hid (∀ (v' : Value) (w' : World), Own w' (w.heap.size + 1 + 1) v' ([1] ++ d.take n) → Below (w.heap.size + 1 + 1) W2 w' → (w'.cell? ⟨gh, 1, none⟩ = some (.int .i64 (n : Int)) ∧ Below w.heap.size w w' ∧ ∃ v2 w2, (Builtin.append_ #[22, 22] 22 #[v', .slice (some ⟨w.heap.size + 1, 0, none⟩) n 32]).run Tryd.prog w' = .ok v2 w2 ∧ (Own w2 (w.heap.size + 1 + 1) v2 (([1] ++ d.take n) ++ e.take n) ∧ Below (w.heap.size + 1 + 1) w' w2))) := fun v' w' hO hB => by
    have hs := hB.size
    have hs2 := S2.out
    refine ⟨(hB.cell (p := ⟨gh, 1, none⟩) (by have := LH.out; show gh < _; omega)).trans ((BB.out.cell (p := ⟨gh, 1, none⟩) LH.out).trans C0.out), BB.out.trans (hB.mono (by omega)), ?_⟩
    exact run_append_bytes w' (w.heap.size + 1 + 1) v' _ ([1] ++ d.take n) (e.take n) 22 hO (dig_part ((hB.block _ (by omega)).trans RB.out) HE.out n hn32) (by simp; omega) (by omega)
  rw [E2.out] at KEY2
  clear E2 RB BB S2 C0 LH W2
  go_wp2_with (first | (at_builtin; (refine wpList_append_known rfl (.tmp 8) (.tmp 13) 22 22 rfl _ _ rfl rfl KEY.out ?_; rintro v' w' ⟨hO, hB⟩; obtain ⟨c3, b3, k3⟩ := KEY2.out v' w' hO hB; have K3 := hide k3; have B3 := hide b3; clear k3 b3 hO hB)) | (at_builtin; (refine wpList_append_known rfl (.tmp 15) (.tmp 20) 22 22 rfl _ _ rfl rfl K3.out ?_; rintro v2 w2 ⟨hO2, hB2⟩)))
  have HO := hide hO2
  have HB := hide (B3.out.trans (hB2.mono (by omega)))
  clear hO2 hB2
  go_wp2_with fail
  go_ret
  refine ⟨v2, rfl, ?_, HB.out⟩
  have := HO.out
  simpa using this
theorem bs41one (W : World) (a : Option Addr) (i j : Nat) : (Instr.buildSlice 39 1 #[(0, .slice a i j)]).run Tryd.prog W = .ok (.slice (some ⟨W.heap.size, 0, none⟩) 1 1) (W.alloc (.cells #[.slice a i j] 22)) := by
  go_simp
theorem txRow_one {W : World} {g B : Nat} {xo : Option Addr} {xn xc : Nat} {t : List UInt8} (h : W.heap[g]? = some (.cells #[.slice xo xn xc] 22 (0, 0))) (hB : B ≤ g) (ht : ∀ W', Chg (fun k => k = g) W W' → SliceAt W' (.slice xo xn xc) t) : TxRow B W (.slice (some ⟨g, 0, none⟩) 1 1) [t] := by
  refine ⟨[.slice xo xn xc], Or.inr ⟨g, 0, 1, _, rfl, h, by simp, by simp, ?_⟩, rfl, fun k hk => ?_, fun j x hj => ?_⟩
  · intro j x hx
    rw [Nat.zero_add]
    simpa using hx
  · simp only [Value.ownBlock, Option.some.injEq] at hk; omega
  · have hj0 : j = 0 := by
      have := (List.getElem?_eq_some_iff.1 hj).1
      simpa using this
    subst hj0
    simp only [List.getElem?_cons_zero, Option.some.injEq] at hj
    subst hj
    refine ⟨⟨_, _, _, rfl⟩, fun W' hW' => ht W' (hW'.mono (fun k _ e => ?_))⟩
    simp only [Value.ownBlock, Option.some.injEq] at e
    exact e.symm
set_option maxHeartbeats 4000000 in
set_option maxRecDepth 10000 in
theorem rway_none (vh v u : Value) (i n : Nat) (w : World) (h : n ≤ i) :
   Calls Tryd.prog 17 #[vh, v, .int .u64 (i : Int), .int .u64 (n : Int), u] w fun e w' => e = .returned (.tuple #[.slice none 0 0, .bool false]) ∧ w = w' := by
  have q1 : (n : Int) ≤ (i : Int) := by omega
  go_enter Tryd.func17, Tryd.ntmps17
  go_wp2
  go_ret2
  exact ⟨rfl, rfl⟩
set_option maxHeartbeats 16000000 in
set_option maxRecDepth 10000 in
theorem rway_any (gh gT : Nat) (a : Int) (v u : Value) (bs : List UInt8) (i n : Nat) (ps : List (List UInt8)) (w : World) (hin : i < n) (hn : n < 18446744073709551616) (hH : HsAt w gh gT a) (hv : SliceAt w v bs) (hl : bs.length + 1 ≤ 140737488355000) (hu : DgAt w u ps) (hps : ps.length ≤ 90000) :
   Calls Tryd.prog 17 #[.pointer (some ⟨gh, 0, none⟩), v, .int .u64 (i : Int), .int .u64 (n : Int), u] w fun e w' => Wayed w w' e (S.climb a bs i n ps) := by
  have hclimb : S.climb a bs i n ps = S.way a i (n - 1) (0 :: bs) ps := by rw [S.climb, if_pos hin]
  rw [hclimb]
  clear hclimb
  obtain ⟨ao, len, cap, rfl, hlen, _⟩ := hv.form
  obtain ⟨uo, uc, rfl⟩ := hu.form
  have HV := hide hv
  have HU := hide hu
  have HH := hide hH
  have HLn := hide hl
  obtain ⟨N, hN⟩ : ∃ N, N = ps.length := ⟨_, rfl⟩
  rw [← hN] at HU hps ⊢
  have HN := hide hN
  have q1 : ¬ (n : Int) ≤ (i : Int) := by omega
  have q1' : (i : Int) < (n : Int) := by omega
  have q2 : IntKind.u64.wrap ((n : Int) - 1) = ((n - 1 : Nat) : Int) := by rw [IntKind.wrap_u64]; omega
  clear hv hH hl hlen hu hN
  go_enter Tryd.func17, Tryd.ntmps17
  go_wp2_with fail
  refine (leafText_any gh _ bs w HV.out (by have := HLn.out; omega)).mono ?_
  rintro e w1 ⟨v1, rfl, s1, b1⟩
  obtain ⟨so, sn, sc, rfl, es, _⟩ := s1.form
  clear es
  obtain ⟨Y, hY⟩ : ∃ YQ, YQ = w1.alloc (.cells #[.slice so sn sc] 22) := ⟨_, rfl⟩
  have bY : Below w1.heap.size w1 Y := by rw [hY]; exact (Below.refl _ _).alloc (Nat.le_refl _) _
  have rY : Y.heap[w1.heap.size]? = some (.cells #[.slice so sn sc] 22 (0, 0)) := by rw [hY]; exact heap_alloc_new _ _
  have TX0 := hide (txRow_one (B := w.heap.size) (t := 0 :: bs) rY b1.size (fun W' hW' => s1.below (bY.trans (hW'.below _ bY.size (fun k hk e => by omega))) (Nat.le_refl _)))
  have BY := hide (b1.trans (bY.mono b1.size))
  have hbs := bs41one w1 so sn sc
  rw [← hY] at hbs
  obtain ⟨g1, hg1⟩ : ∃ g, g = w1.heap.size := ⟨_, rfl⟩
  rw [← hg1] at TX0 hbs
  clear hY bY rY b1 s1 hg1
  go_wp2_with (with_reducible refine at_op { dst := some 24, op := Op.buildSlice 39 1 #[(0, Operand.tmp 23)], type := 39, pos := "ref.go:25", after := #[{ on := 2, ground := Ground.data }], guard := none } ?_; refine wpList_buildSlice_as rfl 39 1 [(0, .tmp 23)] rfl [(0, .slice so sn sc)] rfl _ _ hbs ?_)
  clear hbs
  go_loopg [12, 13, 14, 15] (n - 1) (fun gk s12 s13 s14 s15 wr => ∃ (k f s : Nat) (ts : List (List UInt8)) (t : List UInt8), gk = s ∧ k ≤ N ∧ s15 = .int .i64 (k : Int) ∧ s13 = .int .u64 (f : Int) ∧ s14 = .int .u64 (s : Int) ∧ f < 18446744073709551616 ∧ s < 18446744073709551616 ∧ Hid (S.Up a i (n - 1) (0 :: bs) ps f s ts t (ps.drop k)) ∧ Hid (TxRow w.heap.size wr s12 (ts ++ [t])) ∧ ts.length = k ∧ t.length ≤ 140737488355000 ∧ Hid (Below w.heap.size w wr))
  case atStart => exact ⟨0, i, n - 1, [], 0 :: bs, rfl, by omega, rfl, rfl, rfl, by omega, by omega, S.Up.refl _ _ _ _ _, TX0, rfl, by simpa using HLn.out, BY⟩
  case round =>
    clear TX0 BY q1 q1' q2
    obtain ⟨k, f, s, ts, t, hg, hkN, rfl, rfl, rfl, hf, hs, HUP, HTX, hts, htl, HB⟩ := hrel
    obtain ⟨vo, vc, rfl⟩ := HTX.out.form
    obtain ⟨m, hm⟩ : ∃ m, m = (ts ++ [t]).length := ⟨_, rfl⟩
    rw [← hm] at HTX ⊢
    have hm2 : m = k + 1 := by rw [hm]; simp [hts]
    have HM := hide hm
    have HM2 := hide hm2
    have HTS := hide hts
    have HTL := hide htl
    clear hm hm2 hts htl
    by_cases hs0 : s = 0
    · have q3 : ¬ (s : Int) > 0 := by omega
      have q3' : ¬ (0 : Int) < (s : Int) := by omega
      subst hs0
      by_cases hkk : k = N
      · have q4 : ((k : Int) == (N : Int)) = true := by simp [hkk]
        have hd : ps.drop k = [] := List.drop_eq_nil_of_le (by rw [← HN.out, hkk]; exact Nat.le_refl _)
        rw [hd] at HUP
        clear hd hkk
        go_wp2_with fail
        go_ret2
        refine ⟨vo, m, vc, by rw [HUP.out.done]; rfl, fun ts' hts' => ?_, HB.out⟩
        rw [HUP.out.done] at hts'
        cases hts'
        exact HTX.out
      · have q4 : ((k : Int) == (N : Int)) = false := by simp; omega
        rw [drop_cons k (by rw [← HN.out]; omega)] at HUP
        go_wp2_with fail
        go_ret2
        refine ⟨vo, m, vc, by rw [HUP.out.over]; rfl, fun ts' hts' => ?_, HB.out⟩
        rw [HUP.out.over] at hts'
        cases hts'
    · have q3 : (s : Int) > 0 := by omega
      have q3' : (0 : Int) < (s : Int) := by omega
      by_cases hsk : f % 2 = 0 ∧ f = s
      · have q5 : (f : Int) % 2 = 0 := by omega
        have q6 : ((f : Int) == (s : Int)) = true := by simp; omega
        have HUPN := hide (HUP.out.skip hs0 hsk.1 hsk.2)
        clear HUP hsk
        go_wp2_with fail
        go_roundg (s / 2)
        case measure => omega
        case rel => exact ⟨k, f / 2, s / 2, ts, t, rfl, hkN, rfl, rfl, rfl, by omega, by omega, HUPN, HTX, HTS.out, HTL.out, HB⟩
      · have GATE : ∀ (P : Prop), (f % 2 = 1 → P) → (f % 2 = 0 → f ≠ s → P) → P := fun P h1 h2 => by
          by_cases ho : f % 2 = 1
          · exact h1 ho
          · exact h2 (by omega) (fun e => hsk ⟨by omega, e⟩)
        by_cases hkk : k = N
        · have q4 : ((k : Int) == (N : Int)) = true := by simp [hkk]
          have hd : ps.drop k = [] := List.drop_eq_nil_of_le (by rw [← HN.out, hkk]; exact Nat.le_refl _)
          rw [hd] at HUP
          clear hd hkk
          refine GATE _ (fun ho => ?_) (fun ho hfs => ?_)
          · have q5 : ¬ (f : Int) % 2 = 0 := by omega
            have q5' : (f : Int) % 2 = 1 := by omega
            clear GATE hsk
            go_wp2_with fail
            go_ret2
            refine ⟨none, 0, 0, by rw [HUP.out.short hs0]; rfl, fun ts' hts' => ?_, HB.out⟩
            rw [HUP.out.short hs0] at hts'
            cases hts'
          · have q5 : (f : Int) % 2 = 0 := by omega
            have q6 : ((f : Int) == (s : Int)) = false := by simp; omega
            clear GATE hsk
            go_wp2_with fail
            go_ret2
            refine ⟨none, 0, 0, by rw [HUP.out.short hs0]; rfl, fun ts' hts' => ?_, HB.out⟩
            rw [HUP.out.short hs0] at hts'
            cases hts'
        · have q4 : ((k : Int) == (N : Int)) = false := by simp; omega
          have hkN2 : k < N := by omega
          obtain ⟨gu, ou, cu, eu, hgu, hru, hpl⟩ := dg_at HU.out k (by rw [← HN.out]; omega)
          simp only [Value.slice.injEq] at eu
          obtain ⟨rfl, eN, rfl⟩ := eu
          clear eN hkk
          obtain ⟨p, hp⟩ : ∃ p, p = ps.getD k [] := ⟨_, rfl⟩
          rw [drop_cons k (by rw [← HN.out]; omega), ← hp] at HUP
          rw [← hp] at hru hpl
          have LP := hide hpl
          have HRU : Hid (∀ W, Below w.heap.size w W → W.rangeAt gu (ou + k * 32) (S.v8l p)) := fun W hW j x hx => (hW.cell (p := ⟨gu, ou + k * 32 + j, none⟩) hgu).trans (hru j x hx)
          obtain ⟨bl, offl, cl, e9, e9', e9b, hcl⟩ := HTX.out.bsAt.src (by simp)
          simp only [Value.slice.injEq] at e9
          obtain ⟨rfl, e9n, rfl⟩ := e9
          obtain ⟨x, hx, hxs⟩ := hcl k (by rw [← HM.out, HM2.out]; omega)
          rw [show (ts ++ [t]).getD k [] = t by rw [List.getD_eq_getElem?_getD, List.getElem?_append_right (by rw [HTS.out]; exact Nat.le_refl _), HTS.out, Nat.sub_self]; rfl] at hxs
          obtain ⟨xo, xl, xc, rfl, hxl, hxm⟩ := hxs.form
          have CX := hide hx
          have XS := hide hxs
          have HBLT := hide e9b
          have e1 : IntKind.i64.wrap ((m : Int) - 1) = (k : Int) := by rw [IntKind.wrap_i64]; have := HM2.out; omega
          have qk0 : (0 : Int) ≤ (k : Int) := by omega
          have qkm : (k : Int) < (m : Int) := by have := HM2.out; omega
          have qkN : (k : Int) < (N : Int) := by omega
          have qk1 : IntKind.i64.wrap ((k : Int) + 1) = ((k + 1 : Nat) : Int) := by rw [IntKind.wrap_i64]; omega
          obtain ⟨cwa, hcwa⟩ : ∃ c, c = S.cw a := ⟨_, rfl⟩
          have HCW := hide hcwa
          obtain ⟨D, hD⟩ : ∃ D, D = S.hsh a t := ⟨_, rfl⟩
          obtain ⟨E, hE⟩ : ∃ E, E = S.cut p cwa := ⟨_, rfl⟩
          have LD := hide (show D.length = 32 by rw [hD, S.hsh_length])
          have LE := hide (show E.length = 32 by rw [hE, S.cut_length]; exact LP.out)
          have ED := hide hD
          have EE := hide hE
          have HHr : Hid (HsAt wr gh gT a) := HH.out.below HB.out (Nat.le_refl _)
          have hsz := size_dig p LP.out
          clear hgu hru hpl hp e9n e9' e9b hcl hx hxs hxl hxm hcwa hD hE
          have GATE2 : ∀ (P : Prop), (f % 2 = 1 → P) → (f % 2 = 0 → f ≠ s → P) → P := GATE
          clear GATE hsk
          refine GATE2 _ (fun ho => ?_) (fun ho hfs => ?_)
          · have q5 : ¬ (f : Int) % 2 = 0 := by omega
            have q5' : (f : Int) % 2 = 1 := by omega
            have HUPN := hide (HUP.out.odd hs0 ho)
            clear GATE2 HUP
            rw [show S.txt a p (S.hsh a t) = S.txt a E D by rw [EE.out, HCW.out, ED.out, S.txt_cut_l]] at HUPN
            go_upto_region 13 with fail
            go_cut [16] from 28 to 93 (fun p16 wc => ∃ g16, p16 = .pointer (some ⟨g16, 0, none⟩) ∧ Hid (wc.heap[g16]? = some (.cells (S.v8 D) 31 (0, 0))) ∧ Hid (Below wr.heap.size wr wc))
            case first =>
              refine wp_region_noPanic ?_
              refine wp_region_held_drew (S := (fun W => Chg (fun _ => False) wr W)) follows ((Chg.refl _ _).drew) (fun hHeld => ?_)
              clear hHeld
              have hHeld : Chg (fun _ => False) wr wr.drew := (Chg.refl _ _).drew
              have CZ0 := hide hHeld
              generalize wr.drew = Z0 at CZ0 hHeld ⊢
              refine wpAnyH_take (i := 0) (oi := { dst := some 46, op := Op.move (Operand.tmp 0), type := 25, pos := "ref.go:38", after := #[], guard := none }) (v := ?_) rfl (by kernel_rfl) (by kernel_rfl) (by kernel_rfl) (fun _ _ _ h => h) (Or.inl ⟨by rfl, ?_⟩) (by assumption) ?_
              rotate_left
              · intro w hSw
                clear hSw
                go_simp
                all_goals with_reducible rfl
              simp only [Act.put, List.setIfInBounds_toArray, List.set_cons_zero, List.set_cons_succ]
              refine wpAnyH_take (i := 1) (oi := { dst := some 47, op := Op.nilCheck (Operand.tmp 46), type := 0, pos := "ref.go:38", after := #[{ on := 0, ground := Ground.data }], guard := none }) (v := ?_) rfl (by kernel_rfl) (by kernel_rfl) (by kernel_rfl) (fun _ _ _ h => h) (Or.inl ⟨by rfl, ?_⟩) (by assumption) ?_
              rotate_left
              · intro w hSw
                clear hSw
                go_simp
                all_goals with_reducible rfl
              simp only [Act.put, List.setIfInBounds_toArray, List.set_cons_zero, List.set_cons_succ]
              refine wpAnyH_take (i := 2) (oi := { dst := some 48, op := Op.fieldAddr 36 (Operand.tmp 47) 0, type := 0, pos := "ref.go:38", after := #[{ on := 1, ground := Ground.data }], guard := none }) (v := ?_) rfl (by kernel_rfl) (by kernel_rfl) (by kernel_rfl) (fun _ _ _ h => h) (Or.inl ⟨by rfl, ?_⟩) (by assumption) ?_
              rotate_left
              · intro w hSw
                clear hSw
                go_simp
                all_goals with_reducible rfl
              simp only [Act.put, List.setIfInBounds_toArray, List.set_cons_zero, List.set_cons_succ]
              refine wpAnyH_take (i := 3) (oi := { dst := some 49, op := Op.load 34 (Operand.tmp 48), type := 34, pos := "ref.go:38", after := #[{ on := 2, ground := Ground.data }], guard := none }) (v := ?_) rfl (by kernel_rfl) (by kernel_rfl) (by kernel_rfl) (fun _ _ _ h => h) (Or.inl ⟨by rfl, ?_⟩) (by assumption) ?_
              rotate_left
              · intro w hSw
                have c4 := (cells2 (HHr.out.below (hSw.below _ (Nat.le_refl _) (fun _ _ e => e)) (Nat.le_refl _)).h).1
                clear hSw
                go_simp
                all_goals with_reducible rfl
              simp only [Act.put, List.setIfInBounds_toArray, List.set_cons_zero, List.set_cons_succ]
              refine wpAnyH_take (i := 4) (oi := { dst := some 50, op := Op.move (Operand.tmp 12), type := 39, pos := "ref.go:38", after := #[], guard := none }) (v := ?_) rfl (by kernel_rfl) (by kernel_rfl) (by kernel_rfl) (fun _ _ _ h => h) (Or.inl ⟨by rfl, ?_⟩) (by assumption) ?_
              rotate_left
              · intro w hSw
                clear hSw
                go_simp
                all_goals with_reducible rfl
              simp only [Act.put, List.setIfInBounds_toArray, List.set_cons_zero, List.set_cons_succ]
              refine wpAnyH_take (i := 5) (oi := { dst := some 51, op := Op.move (Operand.tmp 12), type := 39, pos := "ref.go:38", after := #[], guard := none }) (v := ?_) rfl (by kernel_rfl) (by kernel_rfl) (by kernel_rfl) (fun _ _ _ h => h) (Or.inl ⟨by rfl, ?_⟩) (by assumption) ?_
              rotate_left
              · intro w hSw
                clear hSw
                go_simp
                all_goals with_reducible rfl
              simp only [Act.put, List.setIfInBounds_toArray, List.set_cons_zero, List.set_cons_succ]
              refine wpAnyH_take (i := 6) (oi := { dst := some 52, op := Op.call { callee := Callee.builtin Builtin.len, args := #[Operand.tmp 51], argTypes := #[39] }, type := 3, pos := "ref.go:38", after := #[{ on := 5, ground := Ground.data }], guard := none }) (v := ?_) rfl (by kernel_rfl) (by kernel_rfl) (by kernel_rfl) (fun _ _ _ h => h) (Or.inl ⟨by rfl, ?_⟩) (by assumption) ?_
              rotate_left
              · intro w hSw
                clear hSw
                go_simp
                all_goals with_reducible rfl
              simp only [Act.put, List.setIfInBounds_toArray, List.set_cons_zero, List.set_cons_succ]
              refine wpAnyH_take (i := 7) (oi := { dst := some 53, op := Op.binOp BinOp.sub 3 (Operand.tmp 52) (Operand.const (Value.int IntKind.i64 1)) 3, type := 3, pos := "ref.go:38", after := #[{ on := 6, ground := Ground.data }], guard := none }) (v := ?_) rfl (by kernel_rfl) (by kernel_rfl) (by kernel_rfl) (fun _ _ _ h => h) (Or.inl ⟨by rfl, ?_⟩) (by assumption) ?_
              rotate_left
              · intro w hSw
                clear hSw
                go_simp
                all_goals with_reducible rfl
              simp only [Act.put, List.setIfInBounds_toArray, List.set_cons_zero, List.set_cons_succ]
              refine wpAnyH_take (i := 8) (oi := { dst := some 54, op := Op.indexAddr 39 (Operand.tmp 50) (Operand.tmp 53), type := 0, pos := "ref.go:38", after := #[{ on := 4, ground := Ground.data }, { on := 7, ground := Ground.data }], guard := none }) (v := ?_) rfl (by kernel_rfl) (by kernel_rfl) (by kernel_rfl) (fun _ _ _ h => h) (Or.inl ⟨by rfl, ?_⟩) (by assumption) ?_
              rotate_left
              · intro w hSw
                clear hSw
                go_simp
                all_goals with_reducible rfl
              simp only [Act.put, List.setIfInBounds_toArray, List.set_cons_zero, List.set_cons_succ]
              refine wpAnyH_take (i := 9) (oi := { dst := some 55, op := Op.load 22 (Operand.tmp 54), type := 22, pos := "ref.go:38", after := #[{ on := 8, ground := Ground.data }], guard := none }) (v := ?_) rfl (by kernel_rfl) (by kernel_rfl) (by kernel_rfl) (fun _ _ _ h => h) (Or.inl ⟨by rfl, ?_⟩) (by assumption) ?_
              rotate_left
              · intro w hSw
                have c4 := ((hSw.below _ (Nat.le_refl _) (fun _ _ e => e)).cell (p := ⟨bl, offl + k, none⟩) HBLT.out).trans CX.out
                clear hSw
                go_simp
                all_goals with_reducible rfl
              simp only [Act.put, List.setIfInBounds_toArray, List.set_cons_zero, List.set_cons_succ]
              refine wpAnyH_take (i := 11) (oi := { dst := some 57, op := Op.move (Operand.tmp 0), type := 25, pos := "ref.go:38", after := #[], guard := none }) (v := ?_) rfl (by kernel_rfl) (by kernel_rfl) (by kernel_rfl) (fun _ _ _ h => h) (Or.inl ⟨by rfl, ?_⟩) (by assumption) ?_
              rotate_left
              · intro w hSw
                clear hSw
                go_simp
                all_goals with_reducible rfl
              simp only [Act.put, List.setIfInBounds_toArray, List.set_cons_zero, List.set_cons_succ]
              refine wpAnyH_take (i := 12) (oi := { dst := some 58, op := Op.nilCheck (Operand.tmp 57), type := 0, pos := "ref.go:38", after := #[{ on := 11, ground := Ground.data }], guard := none }) (v := ?_) rfl (by kernel_rfl) (by kernel_rfl) (by kernel_rfl) (fun _ _ _ h => h) (Or.inl ⟨by rfl, ?_⟩) (by assumption) ?_
              rotate_left
              · intro w hSw
                clear hSw
                go_simp
                all_goals with_reducible rfl
              simp only [Act.put, List.setIfInBounds_toArray, List.set_cons_zero, List.set_cons_succ]
              refine wpAnyH_take (i := 13) (oi := { dst := some 59, op := Op.fieldAddr 36 (Operand.tmp 58) 1, type := 0, pos := "ref.go:38", after := #[{ on := 12, ground := Ground.data }], guard := none }) (v := ?_) rfl (by kernel_rfl) (by kernel_rfl) (by kernel_rfl) (fun _ _ _ h => h) (Or.inl ⟨by rfl, ?_⟩) (by assumption) ?_
              rotate_left
              · intro w hSw
                clear hSw
                go_simp
                all_goals with_reducible rfl
              simp only [Act.put, List.setIfInBounds_toArray, List.set_cons_zero, List.set_cons_succ]
              refine wpAnyH_take (i := 14) (oi := { dst := some 60, op := Op.load 3 (Operand.tmp 59), type := 3, pos := "ref.go:38", after := #[{ on := 13, ground := Ground.data }], guard := none }) (v := ?_) rfl (by kernel_rfl) (by kernel_rfl) (by kernel_rfl) (fun _ _ _ h => h) (Or.inl ⟨by rfl, ?_⟩) (by assumption) ?_
              rotate_left
              · intro w hSw
                have c4 : w.cell? ⟨gh, 1, none⟩ = some (.int .i64 (cwa : Int)) := by rw [HCW.out]; exact (cells2 (HHr.out.below (hSw.below _ (Nat.le_refl _) (fun _ _ e => e)) (Nat.le_refl _)).h).2
                clear hSw
                go_simp
                all_goals with_reducible rfl
              simp only [Act.put, List.setIfInBounds_toArray, List.set_cons_zero, List.set_cons_succ]
              refine wpAnyH_ready (rs := [10, 16]) (by kernel_rfl) (by simp) ?_
              refine AllReadyH.cons (o := { dst := some 56, op := Op.call { callee := Callee.value (Operand.func 18), args := #[Operand.tmp 49, Operand.tmp 55], argTypes := #[34, 22] }, type := 31, pos := "ref.go:38", after := #[{ on := 3, ground := Ground.data }, { on := 9, ground := Ground.data }], guard := none }) rfl (fun K hK => ?_) ?_
              · skip
                go_simp
                refine (rsum_any gT _ t Z0 (HHr.out.below (CZ0.out.below _ (Nat.le_refl _) (fun _ _ e => e)) (Nat.le_refl _)).t (XS.out.below (CZ0.out.below _ (Nat.le_refl _) (fun _ _ e => e)) (Nat.le_refl _)) HTL.out).mono ?_
                rintro e Z1 ⟨rfl, hb2⟩
                obtain ⟨D0, hD0⟩ : ∃ D, D = S.sum t := ⟨_, rfl⟩
                have LD0 := hide (show D0.length = 32 by rw [hD0, S.sum_length])
                rw [← hD0]
                have ED0 := hide hD0
                clear hD0
                have CZ1 : Hid (Chg (fun _ => False) wr Z1) := CZ0.out.then hb2
                clear hb2 CZ0
                clear hHeld
                refine hK.out _ _ CZ1.out (fun hHeld => ?_)
                clear hK K
                try simp only [Act.put, List.setIfInBounds_toArray, List.set_cons_zero, List.set_cons_succ]
                refine wpAnyH_ready (rs := [15, 16]) (by kernel_rfl) (by simp) ?_
                refine AllReadyH.cons (o := { dst := some 61, op := Op.call { callee := Callee.value (Operand.func 26), args := #[Operand.tmp 56, Operand.tmp 60], argTypes := #[31, 3] }, type := 31, pos := "ref.go:38", after := #[{ on := 10, ground := Ground.data }, { on := 14, ground := Ground.data }, { on := 10, ground := Ground.chain }], guard := none }) rfl (fun K hK => ?_) ?_
                · skip
                  go_simp
                  refine (rcut_all D0 LD0.out (cwa : Int) Z1).mono ?_
                  rintro e Z2 ⟨rfl, hb2⟩
                  rw [show S.cut D0 (cwa : Int).toNat = D by rw [ED0.out, ED.out, HCW.out]; rfl]
                  have CZ2 : Hid (Chg (fun _ => False) wr Z2) := CZ1.out.then hb2
                  clear hb2 CZ1
                  clear hHeld
                  refine hK.out _ _ CZ2.out (fun hHeld => ?_)
                  clear hK K
                  try simp only [Act.put, List.setIfInBounds_toArray, List.set_cons_zero, List.set_cons_succ]
                  refine wpAnyH_ready (rs := [16]) (by kernel_rfl) (by simp) ?_
                  refine step_alloc_as (o := { dst := some 16, op := Op.alloc 31, type := 0, pos := "ref.go:38", after := #[], guard := none }) rfl rfl 31 rfl _ _ (alloc31 Z2) AllReadyH.nil ⟨CZ2.out.alloc _, fun hHeld => ?_⟩
                  clear hHeld
                  simp only [Act.put, List.setIfInBounds_toArray, List.set_cons_zero, List.set_cons_succ]
                  obtain ⟨g16, hg16⟩ : ∃ gg, gg = Z2.heap.size := ⟨_, rfl⟩
                  rw [← hg16]
                  generalize hZ : Z2.alloc _ = Z3
                  have hb2 : Below Z2.heap.size Z2 Z3 := by rw [← hZ]; exact (Below.refl _ _).alloc (Nat.le_refl _) _
                  have Rg16 : Hid (Z3.heap[g16]? = some (.cells (S.v8 (S.zeros 32)) 31 (0, 0))) := by rw [← hZ, hg16]; exact heap_alloc_new _ _
                  have Gg16 := hide (show wr.heap.size ≤ g16 by rw [hg16]; exact CZ2.out.size)
                  clear hZ hg16
                  have CZ3 : Hid (Chg (fun _ => False) wr Z3) := CZ2.out.then hb2
                  clear hb2 CZ2
                  have hHeld := CZ3.out
                  refine wpAnyH_ready (rs := [17]) (by kernel_rfl) (by simp) ?_
                  obtain ⟨Z4, hst, r6, C6, s6⟩ := store_dig Rg16.out (S.zeros_length _) LD.out
                  refine step_store_as (o := { dst := none, op := Op.store 31 (Operand.tmp 16) (Operand.tmp 61), type := 0, pos := "ref.go:38", after := #[{ on := 16, ground := Ground.data }, { on := 15, ground := Ground.data }, { on := 15, ground := Ground.chain }, { on := 0, ground := Ground.phase }, { on := 1, ground := Ground.phase }, { on := 2, ground := Ground.phase }, { on := 3, ground := Ground.phase }, { on := 4, ground := Ground.phase }, { on := 5, ground := Ground.phase }, { on := 6, ground := Ground.phase }, { on := 7, ground := Ground.phase }, { on := 8, ground := Ground.phase }, { on := 9, ground := Ground.phase }, { on := 10, ground := Ground.phase }, { on := 11, ground := Ground.phase }, { on := 12, ground := Ground.phase }, { on := 13, ground := Ground.phase }, { on := 14, ground := Ground.phase }, { on := 15, ground := Ground.phase }, { on := 16, ground := Ground.phase }], guard := none }) rfl rfl 31 (.tmp 16) (.tmp 61) rfl _ _ rfl rfl Z4 hst AllReadyH.nil ⟨CZ3.out.trans C6 (fun k hk e => by have := Gg16.out; omega), fun hHeld => ?_⟩
                  replace Rg16 : Hid (Z4.heap[g16]? = some (.cells (S.v8 D) 31 (0, 0))) := r6
                  have CZ4 : Hid (Chg (fun _ => False) wr Z4) := CZ3.out.trans C6 (fun k hk e => by have := Gg16.out; omega)
                  clear hst r6 C6 s6 CZ3
                  simp only [Act.put]
                  refine wpAnyH_done (by kernel_rfl) ?_ _
                  refine NoPanic.normal ?_
                  clear hHeld
                  have BF := hide (show Below wr.heap.size wr Z4 from (CZ4.out.below _ (Nat.le_refl _) (fun _ _ e => e)))
                  go_wp2_with fail
                  go_meet
                  case rel => exact ⟨g16, rfl, Rg16, BF⟩
                refine step_alloc_as (o := { dst := some 16, op := Op.alloc 31, type := 0, pos := "ref.go:38", after := #[], guard := none }) rfl rfl 31 rfl _ _ (alloc31 Z1) AllReadyH.nil ⟨CZ1.out.alloc _, fun hHeld => ?_⟩
                clear hHeld
                simp only [Act.put, List.setIfInBounds_toArray, List.set_cons_zero, List.set_cons_succ]
                obtain ⟨g16, hg16⟩ : ∃ gg, gg = Z1.heap.size := ⟨_, rfl⟩
                rw [← hg16]
                generalize hZ : Z1.alloc _ = Z2
                have hb2 : Below Z1.heap.size Z1 Z2 := by rw [← hZ]; exact (Below.refl _ _).alloc (Nat.le_refl _) _
                have Rg16 : Hid (Z2.heap[g16]? = some (.cells (S.v8 (S.zeros 32)) 31 (0, 0))) := by rw [← hZ, hg16]; exact heap_alloc_new _ _
                have Gg16 := hide (show wr.heap.size ≤ g16 by rw [hg16]; exact CZ1.out.size)
                clear hZ hg16
                have CZ2 : Hid (Chg (fun _ => False) wr Z2) := CZ1.out.then hb2
                clear hb2 CZ1
                have hHeld := CZ2.out
                refine wpAnyH_ready (rs := [15]) (by kernel_rfl) (by simp) ?_
                refine AllReadyH.cons (o := { dst := some 61, op := Op.call { callee := Callee.value (Operand.func 26), args := #[Operand.tmp 56, Operand.tmp 60], argTypes := #[31, 3] }, type := 31, pos := "ref.go:38", after := #[{ on := 10, ground := Ground.data }, { on := 14, ground := Ground.data }, { on := 10, ground := Ground.chain }], guard := none }) rfl (fun K hK => ?_) AllReadyH.nil
                go_simp
                refine (rcut_all D0 LD0.out (cwa : Int) Z2).mono ?_
                rintro e Z3 ⟨rfl, hb2⟩
                rw [show S.cut D0 (cwa : Int).toNat = D by rw [ED0.out, ED.out, HCW.out]; rfl]
                replace Rg16 : Hid (Z3.heap[g16]? = some (.cells (S.v8 (S.zeros 32)) 31 (0, 0))) := (hb2.block _ (block_lt_of_row Rg16.out)).trans Rg16.out
                have CZ3 : Hid (Chg (fun _ => False) wr Z3) := CZ2.out.then hb2
                clear hb2 CZ2
                clear hHeld
                refine hK.out _ _ CZ3.out (fun hHeld => ?_)
                clear hK K
                try simp only [Act.put, List.setIfInBounds_toArray, List.set_cons_zero, List.set_cons_succ]
                refine wpAnyH_ready (rs := [17]) (by kernel_rfl) (by simp) ?_
                obtain ⟨Z4, hst, r6, C6, s6⟩ := store_dig Rg16.out (S.zeros_length _) LD.out
                refine step_store_as (o := { dst := none, op := Op.store 31 (Operand.tmp 16) (Operand.tmp 61), type := 0, pos := "ref.go:38", after := #[{ on := 16, ground := Ground.data }, { on := 15, ground := Ground.data }, { on := 15, ground := Ground.chain }, { on := 0, ground := Ground.phase }, { on := 1, ground := Ground.phase }, { on := 2, ground := Ground.phase }, { on := 3, ground := Ground.phase }, { on := 4, ground := Ground.phase }, { on := 5, ground := Ground.phase }, { on := 6, ground := Ground.phase }, { on := 7, ground := Ground.phase }, { on := 8, ground := Ground.phase }, { on := 9, ground := Ground.phase }, { on := 10, ground := Ground.phase }, { on := 11, ground := Ground.phase }, { on := 12, ground := Ground.phase }, { on := 13, ground := Ground.phase }, { on := 14, ground := Ground.phase }, { on := 15, ground := Ground.phase }, { on := 16, ground := Ground.phase }], guard := none }) rfl rfl 31 (.tmp 16) (.tmp 61) rfl _ _ rfl rfl Z4 hst AllReadyH.nil ⟨CZ3.out.trans C6 (fun k hk e => by have := Gg16.out; omega), fun hHeld => ?_⟩
                replace Rg16 : Hid (Z4.heap[g16]? = some (.cells (S.v8 D) 31 (0, 0))) := r6
                have CZ4 : Hid (Chg (fun _ => False) wr Z4) := CZ3.out.trans C6 (fun k hk e => by have := Gg16.out; omega)
                clear hst r6 C6 s6 CZ3
                simp only [Act.put]
                refine wpAnyH_done (by kernel_rfl) ?_ _
                refine NoPanic.normal ?_
                clear hHeld
                have BF := hide (show Below wr.heap.size wr Z4 from (CZ4.out.below _ (Nat.le_refl _) (fun _ _ e => e)))
                go_wp2_with fail
                go_meet
                case rel => exact ⟨g16, rfl, Rg16, BF⟩
              refine step_alloc_as (o := { dst := some 16, op := Op.alloc 31, type := 0, pos := "ref.go:38", after := #[], guard := none }) rfl rfl 31 rfl _ _ (alloc31 Z0) AllReadyH.nil ⟨CZ0.out.alloc _, fun hHeld => ?_⟩
              clear hHeld
              simp only [Act.put, List.setIfInBounds_toArray, List.set_cons_zero, List.set_cons_succ]
              obtain ⟨g16, hg16⟩ : ∃ gg, gg = Z0.heap.size := ⟨_, rfl⟩
              rw [← hg16]
              generalize hZ : Z0.alloc _ = Z1
              have hb2 : Below Z0.heap.size Z0 Z1 := by rw [← hZ]; exact (Below.refl _ _).alloc (Nat.le_refl _) _
              have Rg16 : Hid (Z1.heap[g16]? = some (.cells (S.v8 (S.zeros 32)) 31 (0, 0))) := by rw [← hZ, hg16]; exact heap_alloc_new _ _
              have Gg16 := hide (show wr.heap.size ≤ g16 by rw [hg16]; exact CZ0.out.size)
              clear hZ hg16
              have CZ1 : Hid (Chg (fun _ => False) wr Z1) := CZ0.out.then hb2
              clear hb2 CZ0
              have hHeld := CZ1.out
              refine wpAnyH_ready (rs := [10]) (by kernel_rfl) (by simp) ?_
              refine AllReadyH.cons (o := { dst := some 56, op := Op.call { callee := Callee.value (Operand.func 18), args := #[Operand.tmp 49, Operand.tmp 55], argTypes := #[34, 22] }, type := 31, pos := "ref.go:38", after := #[{ on := 3, ground := Ground.data }, { on := 9, ground := Ground.data }], guard := none }) rfl (fun K hK => ?_) AllReadyH.nil
              go_simp
              refine (rsum_any gT _ t Z1 (HHr.out.below (CZ1.out.below _ (Nat.le_refl _) (fun _ _ e => e)) (Nat.le_refl _)).t (XS.out.below (CZ1.out.below _ (Nat.le_refl _) (fun _ _ e => e)) (Nat.le_refl _)) HTL.out).mono ?_
              rintro e Z2 ⟨rfl, hb2⟩
              obtain ⟨D0, hD0⟩ : ∃ D, D = S.sum t := ⟨_, rfl⟩
              have LD0 := hide (show D0.length = 32 by rw [hD0, S.sum_length])
              rw [← hD0]
              have ED0 := hide hD0
              clear hD0
              replace Rg16 : Hid (Z2.heap[g16]? = some (.cells (S.v8 (S.zeros 32)) 31 (0, 0))) := (hb2.block _ (block_lt_of_row Rg16.out)).trans Rg16.out
              have CZ2 : Hid (Chg (fun _ => False) wr Z2) := CZ1.out.then hb2
              clear hb2 CZ1
              clear hHeld
              refine hK.out _ _ CZ2.out (fun hHeld => ?_)
              clear hK K
              try simp only [Act.put, List.setIfInBounds_toArray, List.set_cons_zero, List.set_cons_succ]
              refine wpAnyH_ready (rs := [15]) (by kernel_rfl) (by simp) ?_
              refine AllReadyH.cons (o := { dst := some 61, op := Op.call { callee := Callee.value (Operand.func 26), args := #[Operand.tmp 56, Operand.tmp 60], argTypes := #[31, 3] }, type := 31, pos := "ref.go:38", after := #[{ on := 10, ground := Ground.data }, { on := 14, ground := Ground.data }, { on := 10, ground := Ground.chain }], guard := none }) rfl (fun K hK => ?_) AllReadyH.nil
              go_simp
              refine (rcut_all D0 LD0.out (cwa : Int) Z2).mono ?_
              rintro e Z3 ⟨rfl, hb2⟩
              rw [show S.cut D0 (cwa : Int).toNat = D by rw [ED0.out, ED.out, HCW.out]; rfl]
              replace Rg16 : Hid (Z3.heap[g16]? = some (.cells (S.v8 (S.zeros 32)) 31 (0, 0))) := (hb2.block _ (block_lt_of_row Rg16.out)).trans Rg16.out
              have CZ3 : Hid (Chg (fun _ => False) wr Z3) := CZ2.out.then hb2
              clear hb2 CZ2
              clear hHeld
              refine hK.out _ _ CZ3.out (fun hHeld => ?_)
              clear hK K
              try simp only [Act.put, List.setIfInBounds_toArray, List.set_cons_zero, List.set_cons_succ]
              refine wpAnyH_ready (rs := [17]) (by kernel_rfl) (by simp) ?_
              obtain ⟨Z4, hst, r6, C6, s6⟩ := store_dig Rg16.out (S.zeros_length _) LD.out
              refine step_store_as (o := { dst := none, op := Op.store 31 (Operand.tmp 16) (Operand.tmp 61), type := 0, pos := "ref.go:38", after := #[{ on := 16, ground := Ground.data }, { on := 15, ground := Ground.data }, { on := 15, ground := Ground.chain }, { on := 0, ground := Ground.phase }, { on := 1, ground := Ground.phase }, { on := 2, ground := Ground.phase }, { on := 3, ground := Ground.phase }, { on := 4, ground := Ground.phase }, { on := 5, ground := Ground.phase }, { on := 6, ground := Ground.phase }, { on := 7, ground := Ground.phase }, { on := 8, ground := Ground.phase }, { on := 9, ground := Ground.phase }, { on := 10, ground := Ground.phase }, { on := 11, ground := Ground.phase }, { on := 12, ground := Ground.phase }, { on := 13, ground := Ground.phase }, { on := 14, ground := Ground.phase }, { on := 15, ground := Ground.phase }, { on := 16, ground := Ground.phase }], guard := none }) rfl rfl 31 (.tmp 16) (.tmp 61) rfl _ _ rfl rfl Z4 hst AllReadyH.nil ⟨CZ3.out.trans C6 (fun k hk e => by have := Gg16.out; omega), fun hHeld => ?_⟩
              replace Rg16 : Hid (Z4.heap[g16]? = some (.cells (S.v8 D) 31 (0, 0))) := r6
              have CZ4 : Hid (Chg (fun _ => False) wr Z4) := CZ3.out.trans C6 (fun k hk e => by have := Gg16.out; omega)
              clear hst r6 C6 s6 CZ3
              simp only [Act.put]
              refine wpAnyH_done (by kernel_rfl) ?_ _
              refine NoPanic.normal ?_
              clear hHeld
              have BF := hide (show Below wr.heap.size wr Z4 from (CZ4.out.below _ (Nat.le_refl _) (fun _ _ e => e)))
              go_wp2_with fail
              go_meet
              case rel => exact ⟨g16, rfl, Rg16, BF⟩
            obtain ⟨g16, rfl, R16, BWC⟩ := hcut
            have HTC := hide (HTX.out.below BWC.out)
            have HBC := hide (HB.out.trans (BWC.out.mono HB.out.size))
            have HHc : Hid (HsAt wc gh gT a) := HHr.out.below BWC.out (Nat.le_refl _)
            clear HTX HB HHr BWC CX XS e1
            go_upto_region 14 with fail
            go_cut [17] from 28 to 93 (fun p17 wd => ∃ g17, p17 = .pointer (some ⟨g17, 0, none⟩) ∧ Hid (wd.heap[g17]? = some (.cells (S.v8 E) 31 (0, 0))) ∧ Hid (wd.heap[g16]? = some (.cells (S.v8 D) 31 (0, 0))) ∧ Hid (Below wc.heap.size wc wd))
            case first =>
              refine wp_region_noPanic ?_
              refine wp_region_held_drew (S := (fun W => Chg (fun _ => False) wc W)) follows ((Chg.refl _ _).drew) (fun hHeld => ?_)
              clear hHeld
              have hHeld : Chg (fun _ => False) wc wc.drew := (Chg.refl _ _).drew
              have CZ0 := hide hHeld
              have R16' : Hid (wc.drew.heap[g16]? = some (.cells (S.v8 D) 31 (0, 0))) := R16.out
              generalize wc.drew = Z0 at CZ0 hHeld R16' ⊢
              refine wpAnyH_take (i := 0) (oi := { dst := some 62, op := Op.move (Operand.tmp 4), type := 24, pos := "ref.go:39", after := #[], guard := none }) (v := ?_) rfl (by kernel_rfl) (by kernel_rfl) (by kernel_rfl) (fun _ _ _ h => h) (Or.inl ⟨by rfl, ?_⟩) (by assumption) ?_
              rotate_left
              · intro w hSw
                clear hSw
                go_simp
                all_goals with_reducible rfl
              simp only [Act.put, List.setIfInBounds_toArray, List.set_cons_zero, List.set_cons_succ]
              refine wpAnyH_take (i := 1) (oi := { dst := some 63, op := Op.move (Operand.tmp 15), type := 3, pos := "ref.go:39", after := #[], guard := none }) (v := ?_) rfl (by kernel_rfl) (by kernel_rfl) (by kernel_rfl) (fun _ _ _ h => h) (Or.inl ⟨by rfl, ?_⟩) (by assumption) ?_
              rotate_left
              · intro w hSw
                clear hSw
                go_simp
                all_goals with_reducible rfl
              simp only [Act.put, List.setIfInBounds_toArray, List.set_cons_zero, List.set_cons_succ]
              refine wpAnyH_take (i := 2) (oi := { dst := some 64, op := Op.indexAddr 24 (Operand.tmp 62) (Operand.tmp 63), type := 0, pos := "ref.go:39", after := #[{ on := 0, ground := Ground.data }, { on := 1, ground := Ground.data }], guard := none }) (v := ?_) rfl (by kernel_rfl) (by kernel_rfl) (by kernel_rfl) (fun _ _ _ h => h) (Or.inl ⟨by rfl, ?_⟩) (by assumption) ?_
              rotate_left
              · intro w hSw
                clear hSw
                go_simp
                all_goals with_reducible rfl
              simp only [Act.put, List.setIfInBounds_toArray, List.set_cons_zero, List.set_cons_succ]
              refine wpAnyH_take (i := 3) (oi := { dst := some 65, op := Op.load 31 (Operand.tmp 64), type := 31, pos := "ref.go:39", after := #[{ on := 2, ground := Ground.data }], guard := none }) (v := .agg (S.v8l p).toArray) rfl (by kernel_rfl) (by kernel_rfl) (by kernel_rfl) (fun _ _ _ h => h) (yieldsIf_load_mid (by rfl) _ _ rfl gu (ou + k * 32) rfl (S.v8l p) _ (fun _ hSw => HRU.out _ (HBC.out.trans (hSw.below _ HBC.out.size (fun _ _ e => e)))) Tryd.underlying31 rfl hsz) (by assumption) ?_
              simp only [Act.put, List.setIfInBounds_toArray, List.set_cons_zero, List.set_cons_succ]
              refine wpAnyH_take (i := 4) (oi := { dst := some 66, op := Op.move (Operand.tmp 0), type := 25, pos := "ref.go:39", after := #[], guard := none }) (v := ?_) rfl (by kernel_rfl) (by kernel_rfl) (by kernel_rfl) (fun _ _ _ h => h) (Or.inl ⟨by rfl, ?_⟩) (by assumption) ?_
              rotate_left
              · intro w hSw
                clear hSw
                go_simp
                all_goals with_reducible rfl
              simp only [Act.put, List.setIfInBounds_toArray, List.set_cons_zero, List.set_cons_succ]
              refine wpAnyH_take (i := 5) (oi := { dst := some 67, op := Op.nilCheck (Operand.tmp 66), type := 0, pos := "ref.go:39", after := #[{ on := 4, ground := Ground.data }], guard := none }) (v := ?_) rfl (by kernel_rfl) (by kernel_rfl) (by kernel_rfl) (fun _ _ _ h => h) (Or.inl ⟨by rfl, ?_⟩) (by assumption) ?_
              rotate_left
              · intro w hSw
                clear hSw
                go_simp
                all_goals with_reducible rfl
              simp only [Act.put, List.setIfInBounds_toArray, List.set_cons_zero, List.set_cons_succ]
              refine wpAnyH_take (i := 6) (oi := { dst := some 68, op := Op.fieldAddr 36 (Operand.tmp 67) 1, type := 0, pos := "ref.go:39", after := #[{ on := 5, ground := Ground.data }], guard := none }) (v := ?_) rfl (by kernel_rfl) (by kernel_rfl) (by kernel_rfl) (fun _ _ _ h => h) (Or.inl ⟨by rfl, ?_⟩) (by assumption) ?_
              rotate_left
              · intro w hSw
                clear hSw
                go_simp
                all_goals with_reducible rfl
              simp only [Act.put, List.setIfInBounds_toArray, List.set_cons_zero, List.set_cons_succ]
              refine wpAnyH_take (i := 7) (oi := { dst := some 69, op := Op.load 3 (Operand.tmp 68), type := 3, pos := "ref.go:39", after := #[{ on := 6, ground := Ground.data }], guard := none }) (v := ?_) rfl (by kernel_rfl) (by kernel_rfl) (by kernel_rfl) (fun _ _ _ h => h) (Or.inl ⟨by rfl, ?_⟩) (by assumption) ?_
              rotate_left
              · intro w hSw
                have c4 : w.cell? ⟨gh, 1, none⟩ = some (.int .i64 (cwa : Int)) := by rw [HCW.out]; exact (cells2 (HHc.out.below (hSw.below _ (Nat.le_refl _) (fun _ _ e => e)) (Nat.le_refl _)).h).2
                clear hSw
                go_simp
                all_goals with_reducible rfl
              simp only [Act.put, List.setIfInBounds_toArray, List.set_cons_zero, List.set_cons_succ]
              refine wpAnyH_ready (rs := [8, 9]) (by kernel_rfl) (by simp) ?_
              refine AllReadyH.cons (o := { dst := some 70, op := Op.call { callee := Callee.value (Operand.func 26), args := #[Operand.tmp 65, Operand.tmp 69], argTypes := #[31, 3] }, type := 31, pos := "ref.go:39", after := #[{ on := 3, ground := Ground.data }, { on := 7, ground := Ground.data }], guard := none }) rfl (fun K hK => ?_) ?_
              · skip
                go_simp
                refine (rcut_all p LP.out (cwa : Int) Z0).mono ?_
                rintro e Z1 ⟨rfl, hb2⟩
                rw [show S.cut p (cwa : Int).toNat = E by rw [EE.out]; rfl]
                replace R16' : Hid (Z1.heap[g16]? = some (.cells (S.v8 D) 31 (0, 0))) := (hb2.block _ (block_lt_of_row R16'.out)).trans R16'.out
                have CZ1 : Hid (Chg (fun _ => False) wc Z1) := CZ0.out.then hb2
                clear hb2 CZ0
                clear hHeld
                refine hK.out _ _ CZ1.out (fun hHeld => ?_)
                clear hK K
                try simp only [Act.put, List.setIfInBounds_toArray, List.set_cons_zero, List.set_cons_succ]
                refine wpAnyH_ready (rs := [9]) (by kernel_rfl) (by simp) ?_
                refine step_alloc_as (o := { dst := some 17, op := Op.alloc 31, type := 0, pos := "ref.go:39", after := #[], guard := none }) rfl rfl 31 rfl _ _ (alloc31 Z1) AllReadyH.nil ⟨CZ1.out.alloc _, fun hHeld => ?_⟩
                clear hHeld
                simp only [Act.put, List.setIfInBounds_toArray, List.set_cons_zero, List.set_cons_succ]
                obtain ⟨g17, hg17⟩ : ∃ gg, gg = Z1.heap.size := ⟨_, rfl⟩
                rw [← hg17]
                generalize hZ : Z1.alloc _ = Z2
                have hb2 : Below Z1.heap.size Z1 Z2 := by rw [← hZ]; exact (Below.refl _ _).alloc (Nat.le_refl _) _
                have Rg17 : Hid (Z2.heap[g17]? = some (.cells (S.v8 (S.zeros 32)) 31 (0, 0))) := by rw [← hZ, hg17]; exact heap_alloc_new _ _
                have Gg17 := hide (show wc.heap.size ≤ g17 by rw [hg17]; exact CZ1.out.size)
                clear hZ hg17
                replace R16' : Hid (Z2.heap[g16]? = some (.cells (S.v8 D) 31 (0, 0))) := (hb2.block _ (block_lt_of_row R16'.out)).trans R16'.out
                have CZ2 : Hid (Chg (fun _ => False) wc Z2) := CZ1.out.then hb2
                clear hb2 CZ1
                have hHeld := CZ2.out
                refine wpAnyH_ready (rs := [10]) (by kernel_rfl) (by simp) ?_
                obtain ⟨Z3, hst, r6, C6, s6⟩ := store_dig Rg17.out (S.zeros_length _) LE.out
                refine step_store_as (o := { dst := none, op := Op.store 31 (Operand.tmp 17) (Operand.tmp 70), type := 0, pos := "ref.go:39", after := #[{ on := 9, ground := Ground.data }, { on := 8, ground := Ground.data }, { on := 8, ground := Ground.chain }, { on := 0, ground := Ground.phase }, { on := 1, ground := Ground.phase }, { on := 2, ground := Ground.phase }, { on := 3, ground := Ground.phase }, { on := 4, ground := Ground.phase }, { on := 5, ground := Ground.phase }, { on := 6, ground := Ground.phase }, { on := 7, ground := Ground.phase }, { on := 8, ground := Ground.phase }, { on := 9, ground := Ground.phase }], guard := none }) rfl rfl 31 (.tmp 17) (.tmp 70) rfl _ _ rfl rfl Z3 hst AllReadyH.nil ⟨CZ2.out.trans C6 (fun k hk e => by have := Gg17.out; omega), fun hHeld => ?_⟩
                replace R16' : Hid (Z3.heap[g16]? = some (.cells (S.v8 D) 31 (0, 0))) := C6.row R16'.out (by have := Gg17.out; have := block_lt_of_row R16.out; omega)
                replace Rg17 : Hid (Z3.heap[g17]? = some (.cells (S.v8 E) 31 (0, 0))) := r6
                have CZ3 : Hid (Chg (fun _ => False) wc Z3) := CZ2.out.trans C6 (fun k hk e => by have := Gg17.out; omega)
                clear hst r6 C6 s6 CZ2
                simp only [Act.put]
                refine wpAnyH_done (by kernel_rfl) ?_ _
                refine NoPanic.normal ?_
                clear hHeld
                have BF := hide (show Below wc.heap.size wc Z3 from (CZ3.out.below _ (Nat.le_refl _) (fun _ _ e => e)))
                go_wp2_with fail
                go_meet
                case rel => exact ⟨g17, rfl, Rg17, R16', BF⟩
              refine step_alloc_as (o := { dst := some 17, op := Op.alloc 31, type := 0, pos := "ref.go:39", after := #[], guard := none }) rfl rfl 31 rfl _ _ (alloc31 Z0) AllReadyH.nil ⟨CZ0.out.alloc _, fun hHeld => ?_⟩
              clear hHeld
              simp only [Act.put, List.setIfInBounds_toArray, List.set_cons_zero, List.set_cons_succ]
              obtain ⟨g17, hg17⟩ : ∃ gg, gg = Z0.heap.size := ⟨_, rfl⟩
              rw [← hg17]
              generalize hZ : Z0.alloc _ = Z1
              have hb2 : Below Z0.heap.size Z0 Z1 := by rw [← hZ]; exact (Below.refl _ _).alloc (Nat.le_refl _) _
              have Rg17 : Hid (Z1.heap[g17]? = some (.cells (S.v8 (S.zeros 32)) 31 (0, 0))) := by rw [← hZ, hg17]; exact heap_alloc_new _ _
              have Gg17 := hide (show wc.heap.size ≤ g17 by rw [hg17]; exact CZ0.out.size)
              clear hZ hg17
              replace R16' : Hid (Z1.heap[g16]? = some (.cells (S.v8 D) 31 (0, 0))) := (hb2.block _ (block_lt_of_row R16'.out)).trans R16'.out
              have CZ1 : Hid (Chg (fun _ => False) wc Z1) := CZ0.out.then hb2
              clear hb2 CZ0
              have hHeld := CZ1.out
              refine wpAnyH_ready (rs := [8]) (by kernel_rfl) (by simp) ?_
              refine AllReadyH.cons (o := { dst := some 70, op := Op.call { callee := Callee.value (Operand.func 26), args := #[Operand.tmp 65, Operand.tmp 69], argTypes := #[31, 3] }, type := 31, pos := "ref.go:39", after := #[{ on := 3, ground := Ground.data }, { on := 7, ground := Ground.data }], guard := none }) rfl (fun K hK => ?_) AllReadyH.nil
              go_simp
              refine (rcut_all p LP.out (cwa : Int) Z1).mono ?_
              rintro e Z2 ⟨rfl, hb2⟩
              rw [show S.cut p (cwa : Int).toNat = E by rw [EE.out]; rfl]
              replace R16' : Hid (Z2.heap[g16]? = some (.cells (S.v8 D) 31 (0, 0))) := (hb2.block _ (block_lt_of_row R16'.out)).trans R16'.out
              replace Rg17 : Hid (Z2.heap[g17]? = some (.cells (S.v8 (S.zeros 32)) 31 (0, 0))) := (hb2.block _ (block_lt_of_row Rg17.out)).trans Rg17.out
              have CZ2 : Hid (Chg (fun _ => False) wc Z2) := CZ1.out.then hb2
              clear hb2 CZ1
              clear hHeld
              refine hK.out _ _ CZ2.out (fun hHeld => ?_)
              clear hK K
              try simp only [Act.put, List.setIfInBounds_toArray, List.set_cons_zero, List.set_cons_succ]
              refine wpAnyH_ready (rs := [10]) (by kernel_rfl) (by simp) ?_
              obtain ⟨Z3, hst, r6, C6, s6⟩ := store_dig Rg17.out (S.zeros_length _) LE.out
              refine step_store_as (o := { dst := none, op := Op.store 31 (Operand.tmp 17) (Operand.tmp 70), type := 0, pos := "ref.go:39", after := #[{ on := 9, ground := Ground.data }, { on := 8, ground := Ground.data }, { on := 8, ground := Ground.chain }, { on := 0, ground := Ground.phase }, { on := 1, ground := Ground.phase }, { on := 2, ground := Ground.phase }, { on := 3, ground := Ground.phase }, { on := 4, ground := Ground.phase }, { on := 5, ground := Ground.phase }, { on := 6, ground := Ground.phase }, { on := 7, ground := Ground.phase }, { on := 8, ground := Ground.phase }, { on := 9, ground := Ground.phase }], guard := none }) rfl rfl 31 (.tmp 17) (.tmp 70) rfl _ _ rfl rfl Z3 hst AllReadyH.nil ⟨CZ2.out.trans C6 (fun k hk e => by have := Gg17.out; omega), fun hHeld => ?_⟩
              replace R16' : Hid (Z3.heap[g16]? = some (.cells (S.v8 D) 31 (0, 0))) := C6.row R16'.out (by have := Gg17.out; have := block_lt_of_row R16.out; omega)
              replace Rg17 : Hid (Z3.heap[g17]? = some (.cells (S.v8 E) 31 (0, 0))) := r6
              have CZ3 : Hid (Chg (fun _ => False) wc Z3) := CZ2.out.trans C6 (fun k hk e => by have := Gg17.out; omega)
              clear hst r6 C6 s6 CZ2
              simp only [Act.put]
              refine wpAnyH_done (by kernel_rfl) ?_ _
              refine NoPanic.normal ?_
              clear hHeld
              have BF := hide (show Below wc.heap.size wc Z3 from (CZ3.out.below _ (Nat.le_refl _) (fun _ _ e => e)))
              go_wp2_with fail
              go_meet
              case rel => exact ⟨g17, rfl, Rg17, R16', BF⟩
            obtain ⟨g17, rfl, R17, R16b, BWD⟩ := hcut
            have HTD := hide (HTC.out.below BWD.out)
            have HBD := hide (HBC.out.trans (BWD.out.mono HBC.out.size))
            have HHd : Hid (HsAt wc gh gT a) := HHc.out.below BWD.out (Nat.le_refl _)
            have hl1 := load_dig R17.out LE.out
            have hl2 := load_dig R16b.out LD.out
            clear HTC HBC HHc BWD R16
            go_wp2_with (first | (with_reducible refine at_op { dst := some 78, op := Op.load 31 (Operand.tmp 17), type := 31, pos := "ref.go:42", after := #[], guard := none } ?_; refine wpList_load_as rfl 31 (.tmp 17) rfl (.pointer (some ⟨g17, 0, none⟩)) rfl (.agg (S.v8 E)) hl1 ?_) | (with_reducible refine at_op { dst := some 79, op := Op.load 31 (Operand.tmp 16), type := 31, pos := "ref.go:42", after := #[], guard := none } ?_; refine wpList_load_as rfl 31 (.tmp 16) rfl (.pointer (some ⟨g16, 0, none⟩)) rfl (.agg (S.v8 D)) hl2 ?_))
            clear hl1 hl2
            refine (nodeText_own gh gT a E D LE.out LD.out wc HHd.out).mono ?_
            rintro e w5 ⟨v5, rfl, s5, b5⟩
            obtain ⟨gy, yc, ey⟩ := s5.2
            obtain ⟨yn, hyn⟩ : ∃ n, n = (1 :: (List.take (S.cw a) E ++ List.take (S.cw a) D)).length := ⟨_, rfl⟩
            rw [← hyn] at ey
            subst ey
            clear hyn
            have htx : (1 :: (List.take (S.cw a) E ++ List.take (S.cw a) D)) = S.txt a E D := rfl
            rw [htx] at s5
            obtain ⟨X5, hX5⟩ : ∃ YQ, YQ = w5.alloc (.cells #[.slice (some ⟨gy, 0, none⟩) yn yc] 22) := ⟨_, rfl⟩
            have bX5 : Below w5.heap.size w5 X5 := by rw [hX5]; exact (Below.refl _ _).alloc (Nat.le_refl _) _
            have rX5 : X5.heap[w5.heap.size]? = some (.cells #[.slice (some ⟨gy, 0, none⟩) yn yc] 22 (0, 0)) := by rw [hX5]; exact heap_alloc_new _ _
            have hbs := bs41one w5 (some ⟨gy, 0, none⟩) yn yc
            rw [← hX5] at hbs
            have bdX : Below wc.heap.size wc X5 := b5.trans (bX5.mono b5.size)
            have hlt0 : ∀ k', (Value.slice (some ⟨bl, offl, none⟩) m vc).ownBlock = some k' → k' < wc.heap.size := fun k' hk' => by
              obtain ⟨vs, h1, _⟩ := HTD.out.ls
              exact h1.lt hk'
            have hsx : ∀ W, Chg (fun k => (Value.slice (some ⟨bl, offl, none⟩) m vc).ownBlock = some k) X5 W → SliceAt W (.slice (some ⟨gy, 0, none⟩) yn yc) (S.txt a E D) := fun W hW => (Own.chg (p := fun k => (Value.slice (some ⟨bl, offl, none⟩) m vc).ownBlock = some k) s5 ((Chg.ofBelow' bX5).trans hW (fun _ _ e => e)) (fun k hk e => by have := hlt0 k e; omega)).sliceAt (by have := S.txt_length a E D; omega)
            have KEY := hide (run_append_tx X5 w.heap.size w5.heap.size (.slice (some ⟨bl, offl, none⟩) m vc) (some ⟨gy, 0, none⟩) yn yc (ts ++ [t]) (S.txt a E D) 39 (HTD.out.below bdX) rX5 hsx (by rw [← HM.out, HM2.out]; omega) (Nat.le_trans HBD.out.size bdX.size))
            have BX := hide (HBD.out.trans (bdX.mono HBD.out.size))
            obtain ⟨g5, hg5⟩ : ∃ g, g = w5.heap.size := ⟨_, rfl⟩
            rw [← hg5] at KEY hbs
            clear hX5 bX5 rX5 bdX hlt0 hsx hg5 b5 s5 htx
            go_wp2_with (first | (with_reducible refine at_op { dst := some 81, op := Op.buildSlice 39 1 #[(0, Operand.tmp 80)], type := 39, pos := "ref.go:42", after := #[{ on := 4, ground := Ground.data }], guard := none } ?_; refine wpList_buildSlice_as rfl 39 1 [(0, .tmp 80)] rfl [(0, .slice (some ⟨gy, 0, none⟩) yn yc)] rfl _ _ hbs ?_) | (at_builtin; (refine wpList_append_known rfl (.tmp 76) (.tmp 81) 39 39 rfl _ _ rfl rfl KEY.out ?_; rintro v6 w6 ⟨hR6, hB6⟩; have R6 := hide hR6; have B6 := hide (BX.out.trans hB6); clear hR6 hB6)))
            go_roundg (s / 2)
            case measure => omega
            case rel => exact ⟨k + 1, f / 2, s / 2, ts ++ [t], _, rfl, by omega, by first | rfl | simp, rfl, rfl, by omega, by omega, HUPN, R6, by simp [HTS.out], by have := S.txt_length a E D; omega, B6⟩
          · have q5 : (f : Int) % 2 = 0 := by omega
            have q6 : ((f : Int) == (s : Int)) = false := by simp; omega
            have HUPN := hide (HUP.out.even hs0 ho hfs)
            clear GATE2 HUP
            rw [show S.txt a (S.hsh a t) p = S.txt a D E by rw [EE.out, HCW.out, ED.out, S.txt_cut_r]] at HUPN
            go_upto_region 13 with fail
            go_cut [16] from 28 to 93 (fun p16 wc => ∃ g16, p16 = .pointer (some ⟨g16, 0, none⟩) ∧ Hid (wc.heap[g16]? = some (.cells (S.v8 D) 31 (0, 0))) ∧ Hid (Below wr.heap.size wr wc))
            case first =>
              refine wp_region_noPanic ?_
              refine wp_region_held_drew (S := (fun W => Chg (fun _ => False) wr W)) follows ((Chg.refl _ _).drew) (fun hHeld => ?_)
              clear hHeld
              have hHeld : Chg (fun _ => False) wr wr.drew := (Chg.refl _ _).drew
              have CZ0 := hide hHeld
              generalize wr.drew = Z0 at CZ0 hHeld ⊢
              refine wpAnyH_take (i := 0) (oi := { dst := some 46, op := Op.move (Operand.tmp 0), type := 25, pos := "ref.go:38", after := #[], guard := none }) (v := ?_) rfl (by kernel_rfl) (by kernel_rfl) (by kernel_rfl) (fun _ _ _ h => h) (Or.inl ⟨by rfl, ?_⟩) (by assumption) ?_
              rotate_left
              · intro w hSw
                clear hSw
                go_simp
                all_goals with_reducible rfl
              simp only [Act.put, List.setIfInBounds_toArray, List.set_cons_zero, List.set_cons_succ]
              refine wpAnyH_take (i := 1) (oi := { dst := some 47, op := Op.nilCheck (Operand.tmp 46), type := 0, pos := "ref.go:38", after := #[{ on := 0, ground := Ground.data }], guard := none }) (v := ?_) rfl (by kernel_rfl) (by kernel_rfl) (by kernel_rfl) (fun _ _ _ h => h) (Or.inl ⟨by rfl, ?_⟩) (by assumption) ?_
              rotate_left
              · intro w hSw
                clear hSw
                go_simp
                all_goals with_reducible rfl
              simp only [Act.put, List.setIfInBounds_toArray, List.set_cons_zero, List.set_cons_succ]
              refine wpAnyH_take (i := 2) (oi := { dst := some 48, op := Op.fieldAddr 36 (Operand.tmp 47) 0, type := 0, pos := "ref.go:38", after := #[{ on := 1, ground := Ground.data }], guard := none }) (v := ?_) rfl (by kernel_rfl) (by kernel_rfl) (by kernel_rfl) (fun _ _ _ h => h) (Or.inl ⟨by rfl, ?_⟩) (by assumption) ?_
              rotate_left
              · intro w hSw
                clear hSw
                go_simp
                all_goals with_reducible rfl
              simp only [Act.put, List.setIfInBounds_toArray, List.set_cons_zero, List.set_cons_succ]
              refine wpAnyH_take (i := 3) (oi := { dst := some 49, op := Op.load 34 (Operand.tmp 48), type := 34, pos := "ref.go:38", after := #[{ on := 2, ground := Ground.data }], guard := none }) (v := ?_) rfl (by kernel_rfl) (by kernel_rfl) (by kernel_rfl) (fun _ _ _ h => h) (Or.inl ⟨by rfl, ?_⟩) (by assumption) ?_
              rotate_left
              · intro w hSw
                have c4 := (cells2 (HHr.out.below (hSw.below _ (Nat.le_refl _) (fun _ _ e => e)) (Nat.le_refl _)).h).1
                clear hSw
                go_simp
                all_goals with_reducible rfl
              simp only [Act.put, List.setIfInBounds_toArray, List.set_cons_zero, List.set_cons_succ]
              refine wpAnyH_take (i := 4) (oi := { dst := some 50, op := Op.move (Operand.tmp 12), type := 39, pos := "ref.go:38", after := #[], guard := none }) (v := ?_) rfl (by kernel_rfl) (by kernel_rfl) (by kernel_rfl) (fun _ _ _ h => h) (Or.inl ⟨by rfl, ?_⟩) (by assumption) ?_
              rotate_left
              · intro w hSw
                clear hSw
                go_simp
                all_goals with_reducible rfl
              simp only [Act.put, List.setIfInBounds_toArray, List.set_cons_zero, List.set_cons_succ]
              refine wpAnyH_take (i := 5) (oi := { dst := some 51, op := Op.move (Operand.tmp 12), type := 39, pos := "ref.go:38", after := #[], guard := none }) (v := ?_) rfl (by kernel_rfl) (by kernel_rfl) (by kernel_rfl) (fun _ _ _ h => h) (Or.inl ⟨by rfl, ?_⟩) (by assumption) ?_
              rotate_left
              · intro w hSw
                clear hSw
                go_simp
                all_goals with_reducible rfl
              simp only [Act.put, List.setIfInBounds_toArray, List.set_cons_zero, List.set_cons_succ]
              refine wpAnyH_take (i := 6) (oi := { dst := some 52, op := Op.call { callee := Callee.builtin Builtin.len, args := #[Operand.tmp 51], argTypes := #[39] }, type := 3, pos := "ref.go:38", after := #[{ on := 5, ground := Ground.data }], guard := none }) (v := ?_) rfl (by kernel_rfl) (by kernel_rfl) (by kernel_rfl) (fun _ _ _ h => h) (Or.inl ⟨by rfl, ?_⟩) (by assumption) ?_
              rotate_left
              · intro w hSw
                clear hSw
                go_simp
                all_goals with_reducible rfl
              simp only [Act.put, List.setIfInBounds_toArray, List.set_cons_zero, List.set_cons_succ]
              refine wpAnyH_take (i := 7) (oi := { dst := some 53, op := Op.binOp BinOp.sub 3 (Operand.tmp 52) (Operand.const (Value.int IntKind.i64 1)) 3, type := 3, pos := "ref.go:38", after := #[{ on := 6, ground := Ground.data }], guard := none }) (v := ?_) rfl (by kernel_rfl) (by kernel_rfl) (by kernel_rfl) (fun _ _ _ h => h) (Or.inl ⟨by rfl, ?_⟩) (by assumption) ?_
              rotate_left
              · intro w hSw
                clear hSw
                go_simp
                all_goals with_reducible rfl
              simp only [Act.put, List.setIfInBounds_toArray, List.set_cons_zero, List.set_cons_succ]
              refine wpAnyH_take (i := 8) (oi := { dst := some 54, op := Op.indexAddr 39 (Operand.tmp 50) (Operand.tmp 53), type := 0, pos := "ref.go:38", after := #[{ on := 4, ground := Ground.data }, { on := 7, ground := Ground.data }], guard := none }) (v := ?_) rfl (by kernel_rfl) (by kernel_rfl) (by kernel_rfl) (fun _ _ _ h => h) (Or.inl ⟨by rfl, ?_⟩) (by assumption) ?_
              rotate_left
              · intro w hSw
                clear hSw
                go_simp
                all_goals with_reducible rfl
              simp only [Act.put, List.setIfInBounds_toArray, List.set_cons_zero, List.set_cons_succ]
              refine wpAnyH_take (i := 9) (oi := { dst := some 55, op := Op.load 22 (Operand.tmp 54), type := 22, pos := "ref.go:38", after := #[{ on := 8, ground := Ground.data }], guard := none }) (v := ?_) rfl (by kernel_rfl) (by kernel_rfl) (by kernel_rfl) (fun _ _ _ h => h) (Or.inl ⟨by rfl, ?_⟩) (by assumption) ?_
              rotate_left
              · intro w hSw
                have c4 := ((hSw.below _ (Nat.le_refl _) (fun _ _ e => e)).cell (p := ⟨bl, offl + k, none⟩) HBLT.out).trans CX.out
                clear hSw
                go_simp
                all_goals with_reducible rfl
              simp only [Act.put, List.setIfInBounds_toArray, List.set_cons_zero, List.set_cons_succ]
              refine wpAnyH_take (i := 11) (oi := { dst := some 57, op := Op.move (Operand.tmp 0), type := 25, pos := "ref.go:38", after := #[], guard := none }) (v := ?_) rfl (by kernel_rfl) (by kernel_rfl) (by kernel_rfl) (fun _ _ _ h => h) (Or.inl ⟨by rfl, ?_⟩) (by assumption) ?_
              rotate_left
              · intro w hSw
                clear hSw
                go_simp
                all_goals with_reducible rfl
              simp only [Act.put, List.setIfInBounds_toArray, List.set_cons_zero, List.set_cons_succ]
              refine wpAnyH_take (i := 12) (oi := { dst := some 58, op := Op.nilCheck (Operand.tmp 57), type := 0, pos := "ref.go:38", after := #[{ on := 11, ground := Ground.data }], guard := none }) (v := ?_) rfl (by kernel_rfl) (by kernel_rfl) (by kernel_rfl) (fun _ _ _ h => h) (Or.inl ⟨by rfl, ?_⟩) (by assumption) ?_
              rotate_left
              · intro w hSw
                clear hSw
                go_simp
                all_goals with_reducible rfl
              simp only [Act.put, List.setIfInBounds_toArray, List.set_cons_zero, List.set_cons_succ]
              refine wpAnyH_take (i := 13) (oi := { dst := some 59, op := Op.fieldAddr 36 (Operand.tmp 58) 1, type := 0, pos := "ref.go:38", after := #[{ on := 12, ground := Ground.data }], guard := none }) (v := ?_) rfl (by kernel_rfl) (by kernel_rfl) (by kernel_rfl) (fun _ _ _ h => h) (Or.inl ⟨by rfl, ?_⟩) (by assumption) ?_
              rotate_left
              · intro w hSw
                clear hSw
                go_simp
                all_goals with_reducible rfl
              simp only [Act.put, List.setIfInBounds_toArray, List.set_cons_zero, List.set_cons_succ]
              refine wpAnyH_take (i := 14) (oi := { dst := some 60, op := Op.load 3 (Operand.tmp 59), type := 3, pos := "ref.go:38", after := #[{ on := 13, ground := Ground.data }], guard := none }) (v := ?_) rfl (by kernel_rfl) (by kernel_rfl) (by kernel_rfl) (fun _ _ _ h => h) (Or.inl ⟨by rfl, ?_⟩) (by assumption) ?_
              rotate_left
              · intro w hSw
                have c4 : w.cell? ⟨gh, 1, none⟩ = some (.int .i64 (cwa : Int)) := by rw [HCW.out]; exact (cells2 (HHr.out.below (hSw.below _ (Nat.le_refl _) (fun _ _ e => e)) (Nat.le_refl _)).h).2
                clear hSw
                go_simp
                all_goals with_reducible rfl
              simp only [Act.put, List.setIfInBounds_toArray, List.set_cons_zero, List.set_cons_succ]
              refine wpAnyH_ready (rs := [10, 16]) (by kernel_rfl) (by simp) ?_
              refine AllReadyH.cons (o := { dst := some 56, op := Op.call { callee := Callee.value (Operand.func 18), args := #[Operand.tmp 49, Operand.tmp 55], argTypes := #[34, 22] }, type := 31, pos := "ref.go:38", after := #[{ on := 3, ground := Ground.data }, { on := 9, ground := Ground.data }], guard := none }) rfl (fun K hK => ?_) ?_
              · skip
                go_simp
                refine (rsum_any gT _ t Z0 (HHr.out.below (CZ0.out.below _ (Nat.le_refl _) (fun _ _ e => e)) (Nat.le_refl _)).t (XS.out.below (CZ0.out.below _ (Nat.le_refl _) (fun _ _ e => e)) (Nat.le_refl _)) HTL.out).mono ?_
                rintro e Z1 ⟨rfl, hb2⟩
                obtain ⟨D0, hD0⟩ : ∃ D, D = S.sum t := ⟨_, rfl⟩
                have LD0 := hide (show D0.length = 32 by rw [hD0, S.sum_length])
                rw [← hD0]
                have ED0 := hide hD0
                clear hD0
                have CZ1 : Hid (Chg (fun _ => False) wr Z1) := CZ0.out.then hb2
                clear hb2 CZ0
                clear hHeld
                refine hK.out _ _ CZ1.out (fun hHeld => ?_)
                clear hK K
                try simp only [Act.put, List.setIfInBounds_toArray, List.set_cons_zero, List.set_cons_succ]
                refine wpAnyH_ready (rs := [15, 16]) (by kernel_rfl) (by simp) ?_
                refine AllReadyH.cons (o := { dst := some 61, op := Op.call { callee := Callee.value (Operand.func 26), args := #[Operand.tmp 56, Operand.tmp 60], argTypes := #[31, 3] }, type := 31, pos := "ref.go:38", after := #[{ on := 10, ground := Ground.data }, { on := 14, ground := Ground.data }, { on := 10, ground := Ground.chain }], guard := none }) rfl (fun K hK => ?_) ?_
                · skip
                  go_simp
                  refine (rcut_all D0 LD0.out (cwa : Int) Z1).mono ?_
                  rintro e Z2 ⟨rfl, hb2⟩
                  rw [show S.cut D0 (cwa : Int).toNat = D by rw [ED0.out, ED.out, HCW.out]; rfl]
                  have CZ2 : Hid (Chg (fun _ => False) wr Z2) := CZ1.out.then hb2
                  clear hb2 CZ1
                  clear hHeld
                  refine hK.out _ _ CZ2.out (fun hHeld => ?_)
                  clear hK K
                  try simp only [Act.put, List.setIfInBounds_toArray, List.set_cons_zero, List.set_cons_succ]
                  refine wpAnyH_ready (rs := [16]) (by kernel_rfl) (by simp) ?_
                  refine step_alloc_as (o := { dst := some 16, op := Op.alloc 31, type := 0, pos := "ref.go:38", after := #[], guard := none }) rfl rfl 31 rfl _ _ (alloc31 Z2) AllReadyH.nil ⟨CZ2.out.alloc _, fun hHeld => ?_⟩
                  clear hHeld
                  simp only [Act.put, List.setIfInBounds_toArray, List.set_cons_zero, List.set_cons_succ]
                  obtain ⟨g16, hg16⟩ : ∃ gg, gg = Z2.heap.size := ⟨_, rfl⟩
                  rw [← hg16]
                  generalize hZ : Z2.alloc _ = Z3
                  have hb2 : Below Z2.heap.size Z2 Z3 := by rw [← hZ]; exact (Below.refl _ _).alloc (Nat.le_refl _) _
                  have Rg16 : Hid (Z3.heap[g16]? = some (.cells (S.v8 (S.zeros 32)) 31 (0, 0))) := by rw [← hZ, hg16]; exact heap_alloc_new _ _
                  have Gg16 := hide (show wr.heap.size ≤ g16 by rw [hg16]; exact CZ2.out.size)
                  clear hZ hg16
                  have CZ3 : Hid (Chg (fun _ => False) wr Z3) := CZ2.out.then hb2
                  clear hb2 CZ2
                  have hHeld := CZ3.out
                  refine wpAnyH_ready (rs := [17]) (by kernel_rfl) (by simp) ?_
                  obtain ⟨Z4, hst, r6, C6, s6⟩ := store_dig Rg16.out (S.zeros_length _) LD.out
                  refine step_store_as (o := { dst := none, op := Op.store 31 (Operand.tmp 16) (Operand.tmp 61), type := 0, pos := "ref.go:38", after := #[{ on := 16, ground := Ground.data }, { on := 15, ground := Ground.data }, { on := 15, ground := Ground.chain }, { on := 0, ground := Ground.phase }, { on := 1, ground := Ground.phase }, { on := 2, ground := Ground.phase }, { on := 3, ground := Ground.phase }, { on := 4, ground := Ground.phase }, { on := 5, ground := Ground.phase }, { on := 6, ground := Ground.phase }, { on := 7, ground := Ground.phase }, { on := 8, ground := Ground.phase }, { on := 9, ground := Ground.phase }, { on := 10, ground := Ground.phase }, { on := 11, ground := Ground.phase }, { on := 12, ground := Ground.phase }, { on := 13, ground := Ground.phase }, { on := 14, ground := Ground.phase }, { on := 15, ground := Ground.phase }, { on := 16, ground := Ground.phase }], guard := none }) rfl rfl 31 (.tmp 16) (.tmp 61) rfl _ _ rfl rfl Z4 hst AllReadyH.nil ⟨CZ3.out.trans C6 (fun k hk e => by have := Gg16.out; omega), fun hHeld => ?_⟩
                  replace Rg16 : Hid (Z4.heap[g16]? = some (.cells (S.v8 D) 31 (0, 0))) := r6
                  have CZ4 : Hid (Chg (fun _ => False) wr Z4) := CZ3.out.trans C6 (fun k hk e => by have := Gg16.out; omega)
                  clear hst r6 C6 s6 CZ3
                  simp only [Act.put]
                  refine wpAnyH_done (by kernel_rfl) ?_ _
                  refine NoPanic.normal ?_
                  clear hHeld
                  have BF := hide (show Below wr.heap.size wr Z4 from (CZ4.out.below _ (Nat.le_refl _) (fun _ _ e => e)))
                  go_wp2_with fail
                  go_meet
                  case rel => exact ⟨g16, rfl, Rg16, BF⟩
                refine step_alloc_as (o := { dst := some 16, op := Op.alloc 31, type := 0, pos := "ref.go:38", after := #[], guard := none }) rfl rfl 31 rfl _ _ (alloc31 Z1) AllReadyH.nil ⟨CZ1.out.alloc _, fun hHeld => ?_⟩
                clear hHeld
                simp only [Act.put, List.setIfInBounds_toArray, List.set_cons_zero, List.set_cons_succ]
                obtain ⟨g16, hg16⟩ : ∃ gg, gg = Z1.heap.size := ⟨_, rfl⟩
                rw [← hg16]
                generalize hZ : Z1.alloc _ = Z2
                have hb2 : Below Z1.heap.size Z1 Z2 := by rw [← hZ]; exact (Below.refl _ _).alloc (Nat.le_refl _) _
                have Rg16 : Hid (Z2.heap[g16]? = some (.cells (S.v8 (S.zeros 32)) 31 (0, 0))) := by rw [← hZ, hg16]; exact heap_alloc_new _ _
                have Gg16 := hide (show wr.heap.size ≤ g16 by rw [hg16]; exact CZ1.out.size)
                clear hZ hg16
                have CZ2 : Hid (Chg (fun _ => False) wr Z2) := CZ1.out.then hb2
                clear hb2 CZ1
                have hHeld := CZ2.out
                refine wpAnyH_ready (rs := [15]) (by kernel_rfl) (by simp) ?_
                refine AllReadyH.cons (o := { dst := some 61, op := Op.call { callee := Callee.value (Operand.func 26), args := #[Operand.tmp 56, Operand.tmp 60], argTypes := #[31, 3] }, type := 31, pos := "ref.go:38", after := #[{ on := 10, ground := Ground.data }, { on := 14, ground := Ground.data }, { on := 10, ground := Ground.chain }], guard := none }) rfl (fun K hK => ?_) AllReadyH.nil
                go_simp
                refine (rcut_all D0 LD0.out (cwa : Int) Z2).mono ?_
                rintro e Z3 ⟨rfl, hb2⟩
                rw [show S.cut D0 (cwa : Int).toNat = D by rw [ED0.out, ED.out, HCW.out]; rfl]
                replace Rg16 : Hid (Z3.heap[g16]? = some (.cells (S.v8 (S.zeros 32)) 31 (0, 0))) := (hb2.block _ (block_lt_of_row Rg16.out)).trans Rg16.out
                have CZ3 : Hid (Chg (fun _ => False) wr Z3) := CZ2.out.then hb2
                clear hb2 CZ2
                clear hHeld
                refine hK.out _ _ CZ3.out (fun hHeld => ?_)
                clear hK K
                try simp only [Act.put, List.setIfInBounds_toArray, List.set_cons_zero, List.set_cons_succ]
                refine wpAnyH_ready (rs := [17]) (by kernel_rfl) (by simp) ?_
                obtain ⟨Z4, hst, r6, C6, s6⟩ := store_dig Rg16.out (S.zeros_length _) LD.out
                refine step_store_as (o := { dst := none, op := Op.store 31 (Operand.tmp 16) (Operand.tmp 61), type := 0, pos := "ref.go:38", after := #[{ on := 16, ground := Ground.data }, { on := 15, ground := Ground.data }, { on := 15, ground := Ground.chain }, { on := 0, ground := Ground.phase }, { on := 1, ground := Ground.phase }, { on := 2, ground := Ground.phase }, { on := 3, ground := Ground.phase }, { on := 4, ground := Ground.phase }, { on := 5, ground := Ground.phase }, { on := 6, ground := Ground.phase }, { on := 7, ground := Ground.phase }, { on := 8, ground := Ground.phase }, { on := 9, ground := Ground.phase }, { on := 10, ground := Ground.phase }, { on := 11, ground := Ground.phase }, { on := 12, ground := Ground.phase }, { on := 13, ground := Ground.phase }, { on := 14, ground := Ground.phase }, { on := 15, ground := Ground.phase }, { on := 16, ground := Ground.phase }], guard := none }) rfl rfl 31 (.tmp 16) (.tmp 61) rfl _ _ rfl rfl Z4 hst AllReadyH.nil ⟨CZ3.out.trans C6 (fun k hk e => by have := Gg16.out; omega), fun hHeld => ?_⟩
                replace Rg16 : Hid (Z4.heap[g16]? = some (.cells (S.v8 D) 31 (0, 0))) := r6
                have CZ4 : Hid (Chg (fun _ => False) wr Z4) := CZ3.out.trans C6 (fun k hk e => by have := Gg16.out; omega)
                clear hst r6 C6 s6 CZ3
                simp only [Act.put]
                refine wpAnyH_done (by kernel_rfl) ?_ _
                refine NoPanic.normal ?_
                clear hHeld
                have BF := hide (show Below wr.heap.size wr Z4 from (CZ4.out.below _ (Nat.le_refl _) (fun _ _ e => e)))
                go_wp2_with fail
                go_meet
                case rel => exact ⟨g16, rfl, Rg16, BF⟩
              refine step_alloc_as (o := { dst := some 16, op := Op.alloc 31, type := 0, pos := "ref.go:38", after := #[], guard := none }) rfl rfl 31 rfl _ _ (alloc31 Z0) AllReadyH.nil ⟨CZ0.out.alloc _, fun hHeld => ?_⟩
              clear hHeld
              simp only [Act.put, List.setIfInBounds_toArray, List.set_cons_zero, List.set_cons_succ]
              obtain ⟨g16, hg16⟩ : ∃ gg, gg = Z0.heap.size := ⟨_, rfl⟩
              rw [← hg16]
              generalize hZ : Z0.alloc _ = Z1
              have hb2 : Below Z0.heap.size Z0 Z1 := by rw [← hZ]; exact (Below.refl _ _).alloc (Nat.le_refl _) _
              have Rg16 : Hid (Z1.heap[g16]? = some (.cells (S.v8 (S.zeros 32)) 31 (0, 0))) := by rw [← hZ, hg16]; exact heap_alloc_new _ _
              have Gg16 := hide (show wr.heap.size ≤ g16 by rw [hg16]; exact CZ0.out.size)
              clear hZ hg16
              have CZ1 : Hid (Chg (fun _ => False) wr Z1) := CZ0.out.then hb2
              clear hb2 CZ0
              have hHeld := CZ1.out
              refine wpAnyH_ready (rs := [10]) (by kernel_rfl) (by simp) ?_
              refine AllReadyH.cons (o := { dst := some 56, op := Op.call { callee := Callee.value (Operand.func 18), args := #[Operand.tmp 49, Operand.tmp 55], argTypes := #[34, 22] }, type := 31, pos := "ref.go:38", after := #[{ on := 3, ground := Ground.data }, { on := 9, ground := Ground.data }], guard := none }) rfl (fun K hK => ?_) AllReadyH.nil
              go_simp
              refine (rsum_any gT _ t Z1 (HHr.out.below (CZ1.out.below _ (Nat.le_refl _) (fun _ _ e => e)) (Nat.le_refl _)).t (XS.out.below (CZ1.out.below _ (Nat.le_refl _) (fun _ _ e => e)) (Nat.le_refl _)) HTL.out).mono ?_
              rintro e Z2 ⟨rfl, hb2⟩
              obtain ⟨D0, hD0⟩ : ∃ D, D = S.sum t := ⟨_, rfl⟩
              have LD0 := hide (show D0.length = 32 by rw [hD0, S.sum_length])
              rw [← hD0]
              have ED0 := hide hD0
              clear hD0
              replace Rg16 : Hid (Z2.heap[g16]? = some (.cells (S.v8 (S.zeros 32)) 31 (0, 0))) := (hb2.block _ (block_lt_of_row Rg16.out)).trans Rg16.out
              have CZ2 : Hid (Chg (fun _ => False) wr Z2) := CZ1.out.then hb2
              clear hb2 CZ1
              clear hHeld
              refine hK.out _ _ CZ2.out (fun hHeld => ?_)
              clear hK K
              try simp only [Act.put, List.setIfInBounds_toArray, List.set_cons_zero, List.set_cons_succ]
              refine wpAnyH_ready (rs := [15]) (by kernel_rfl) (by simp) ?_
              refine AllReadyH.cons (o := { dst := some 61, op := Op.call { callee := Callee.value (Operand.func 26), args := #[Operand.tmp 56, Operand.tmp 60], argTypes := #[31, 3] }, type := 31, pos := "ref.go:38", after := #[{ on := 10, ground := Ground.data }, { on := 14, ground := Ground.data }, { on := 10, ground := Ground.chain }], guard := none }) rfl (fun K hK => ?_) AllReadyH.nil
              go_simp
              refine (rcut_all D0 LD0.out (cwa : Int) Z2).mono ?_
              rintro e Z3 ⟨rfl, hb2⟩
              rw [show S.cut D0 (cwa : Int).toNat = D by rw [ED0.out, ED.out, HCW.out]; rfl]
              replace Rg16 : Hid (Z3.heap[g16]? = some (.cells (S.v8 (S.zeros 32)) 31 (0, 0))) := (hb2.block _ (block_lt_of_row Rg16.out)).trans Rg16.out
              have CZ3 : Hid (Chg (fun _ => False) wr Z3) := CZ2.out.then hb2
              clear hb2 CZ2
              clear hHeld
              refine hK.out _ _ CZ3.out (fun hHeld => ?_)
              clear hK K
              try simp only [Act.put, List.setIfInBounds_toArray, List.set_cons_zero, List.set_cons_succ]
              refine wpAnyH_ready (rs := [17]) (by kernel_rfl) (by simp) ?_
              obtain ⟨Z4, hst, r6, C6, s6⟩ := store_dig Rg16.out (S.zeros_length _) LD.out
              refine step_store_as (o := { dst := none, op := Op.store 31 (Operand.tmp 16) (Operand.tmp 61), type := 0, pos := "ref.go:38", after := #[{ on := 16, ground := Ground.data }, { on := 15, ground := Ground.data }, { on := 15, ground := Ground.chain }, { on := 0, ground := Ground.phase }, { on := 1, ground := Ground.phase }, { on := 2, ground := Ground.phase }, { on := 3, ground := Ground.phase }, { on := 4, ground := Ground.phase }, { on := 5, ground := Ground.phase }, { on := 6, ground := Ground.phase }, { on := 7, ground := Ground.phase }, { on := 8, ground := Ground.phase }, { on := 9, ground := Ground.phase }, { on := 10, ground := Ground.phase }, { on := 11, ground := Ground.phase }, { on := 12, ground := Ground.phase }, { on := 13, ground := Ground.phase }, { on := 14, ground := Ground.phase }, { on := 15, ground := Ground.phase }, { on := 16, ground := Ground.phase }], guard := none }) rfl rfl 31 (.tmp 16) (.tmp 61) rfl _ _ rfl rfl Z4 hst AllReadyH.nil ⟨CZ3.out.trans C6 (fun k hk e => by have := Gg16.out; omega), fun hHeld => ?_⟩
              replace Rg16 : Hid (Z4.heap[g16]? = some (.cells (S.v8 D) 31 (0, 0))) := r6
              have CZ4 : Hid (Chg (fun _ => False) wr Z4) := CZ3.out.trans C6 (fun k hk e => by have := Gg16.out; omega)
              clear hst r6 C6 s6 CZ3
              simp only [Act.put]
              refine wpAnyH_done (by kernel_rfl) ?_ _
              refine NoPanic.normal ?_
              clear hHeld
              have BF := hide (show Below wr.heap.size wr Z4 from (CZ4.out.below _ (Nat.le_refl _) (fun _ _ e => e)))
              go_wp2_with fail
              go_meet
              case rel => exact ⟨g16, rfl, Rg16, BF⟩
            obtain ⟨g16, rfl, R16, BWC⟩ := hcut
            have HTC := hide (HTX.out.below BWC.out)
            have HBC := hide (HB.out.trans (BWC.out.mono HB.out.size))
            have HHc : Hid (HsAt wc gh gT a) := HHr.out.below BWC.out (Nat.le_refl _)
            clear HTX HB HHr BWC CX XS e1
            go_upto_region 14 with fail
            go_cut [17] from 28 to 93 (fun p17 wd => ∃ g17, p17 = .pointer (some ⟨g17, 0, none⟩) ∧ Hid (wd.heap[g17]? = some (.cells (S.v8 E) 31 (0, 0))) ∧ Hid (wd.heap[g16]? = some (.cells (S.v8 D) 31 (0, 0))) ∧ Hid (Below wc.heap.size wc wd))
            case first =>
              refine wp_region_noPanic ?_
              refine wp_region_held_drew (S := (fun W => Chg (fun _ => False) wc W)) follows ((Chg.refl _ _).drew) (fun hHeld => ?_)
              clear hHeld
              have hHeld : Chg (fun _ => False) wc wc.drew := (Chg.refl _ _).drew
              have CZ0 := hide hHeld
              have R16' : Hid (wc.drew.heap[g16]? = some (.cells (S.v8 D) 31 (0, 0))) := R16.out
              generalize wc.drew = Z0 at CZ0 hHeld R16' ⊢
              refine wpAnyH_take (i := 0) (oi := { dst := some 62, op := Op.move (Operand.tmp 4), type := 24, pos := "ref.go:39", after := #[], guard := none }) (v := ?_) rfl (by kernel_rfl) (by kernel_rfl) (by kernel_rfl) (fun _ _ _ h => h) (Or.inl ⟨by rfl, ?_⟩) (by assumption) ?_
              rotate_left
              · intro w hSw
                clear hSw
                go_simp
                all_goals with_reducible rfl
              simp only [Act.put, List.setIfInBounds_toArray, List.set_cons_zero, List.set_cons_succ]
              refine wpAnyH_take (i := 1) (oi := { dst := some 63, op := Op.move (Operand.tmp 15), type := 3, pos := "ref.go:39", after := #[], guard := none }) (v := ?_) rfl (by kernel_rfl) (by kernel_rfl) (by kernel_rfl) (fun _ _ _ h => h) (Or.inl ⟨by rfl, ?_⟩) (by assumption) ?_
              rotate_left
              · intro w hSw
                clear hSw
                go_simp
                all_goals with_reducible rfl
              simp only [Act.put, List.setIfInBounds_toArray, List.set_cons_zero, List.set_cons_succ]
              refine wpAnyH_take (i := 2) (oi := { dst := some 64, op := Op.indexAddr 24 (Operand.tmp 62) (Operand.tmp 63), type := 0, pos := "ref.go:39", after := #[{ on := 0, ground := Ground.data }, { on := 1, ground := Ground.data }], guard := none }) (v := ?_) rfl (by kernel_rfl) (by kernel_rfl) (by kernel_rfl) (fun _ _ _ h => h) (Or.inl ⟨by rfl, ?_⟩) (by assumption) ?_
              rotate_left
              · intro w hSw
                clear hSw
                go_simp
                all_goals with_reducible rfl
              simp only [Act.put, List.setIfInBounds_toArray, List.set_cons_zero, List.set_cons_succ]
              refine wpAnyH_take (i := 3) (oi := { dst := some 65, op := Op.load 31 (Operand.tmp 64), type := 31, pos := "ref.go:39", after := #[{ on := 2, ground := Ground.data }], guard := none }) (v := .agg (S.v8l p).toArray) rfl (by kernel_rfl) (by kernel_rfl) (by kernel_rfl) (fun _ _ _ h => h) (yieldsIf_load_mid (by rfl) _ _ rfl gu (ou + k * 32) rfl (S.v8l p) _ (fun _ hSw => HRU.out _ (HBC.out.trans (hSw.below _ HBC.out.size (fun _ _ e => e)))) Tryd.underlying31 rfl hsz) (by assumption) ?_
              simp only [Act.put, List.setIfInBounds_toArray, List.set_cons_zero, List.set_cons_succ]
              refine wpAnyH_take (i := 4) (oi := { dst := some 66, op := Op.move (Operand.tmp 0), type := 25, pos := "ref.go:39", after := #[], guard := none }) (v := ?_) rfl (by kernel_rfl) (by kernel_rfl) (by kernel_rfl) (fun _ _ _ h => h) (Or.inl ⟨by rfl, ?_⟩) (by assumption) ?_
              rotate_left
              · intro w hSw
                clear hSw
                go_simp
                all_goals with_reducible rfl
              simp only [Act.put, List.setIfInBounds_toArray, List.set_cons_zero, List.set_cons_succ]
              refine wpAnyH_take (i := 5) (oi := { dst := some 67, op := Op.nilCheck (Operand.tmp 66), type := 0, pos := "ref.go:39", after := #[{ on := 4, ground := Ground.data }], guard := none }) (v := ?_) rfl (by kernel_rfl) (by kernel_rfl) (by kernel_rfl) (fun _ _ _ h => h) (Or.inl ⟨by rfl, ?_⟩) (by assumption) ?_
              rotate_left
              · intro w hSw
                clear hSw
                go_simp
                all_goals with_reducible rfl
              simp only [Act.put, List.setIfInBounds_toArray, List.set_cons_zero, List.set_cons_succ]
              refine wpAnyH_take (i := 6) (oi := { dst := some 68, op := Op.fieldAddr 36 (Operand.tmp 67) 1, type := 0, pos := "ref.go:39", after := #[{ on := 5, ground := Ground.data }], guard := none }) (v := ?_) rfl (by kernel_rfl) (by kernel_rfl) (by kernel_rfl) (fun _ _ _ h => h) (Or.inl ⟨by rfl, ?_⟩) (by assumption) ?_
              rotate_left
              · intro w hSw
                clear hSw
                go_simp
                all_goals with_reducible rfl
              simp only [Act.put, List.setIfInBounds_toArray, List.set_cons_zero, List.set_cons_succ]
              refine wpAnyH_take (i := 7) (oi := { dst := some 69, op := Op.load 3 (Operand.tmp 68), type := 3, pos := "ref.go:39", after := #[{ on := 6, ground := Ground.data }], guard := none }) (v := ?_) rfl (by kernel_rfl) (by kernel_rfl) (by kernel_rfl) (fun _ _ _ h => h) (Or.inl ⟨by rfl, ?_⟩) (by assumption) ?_
              rotate_left
              · intro w hSw
                have c4 : w.cell? ⟨gh, 1, none⟩ = some (.int .i64 (cwa : Int)) := by rw [HCW.out]; exact (cells2 (HHc.out.below (hSw.below _ (Nat.le_refl _) (fun _ _ e => e)) (Nat.le_refl _)).h).2
                clear hSw
                go_simp
                all_goals with_reducible rfl
              simp only [Act.put, List.setIfInBounds_toArray, List.set_cons_zero, List.set_cons_succ]
              refine wpAnyH_ready (rs := [8, 9]) (by kernel_rfl) (by simp) ?_
              refine AllReadyH.cons (o := { dst := some 70, op := Op.call { callee := Callee.value (Operand.func 26), args := #[Operand.tmp 65, Operand.tmp 69], argTypes := #[31, 3] }, type := 31, pos := "ref.go:39", after := #[{ on := 3, ground := Ground.data }, { on := 7, ground := Ground.data }], guard := none }) rfl (fun K hK => ?_) ?_
              · skip
                go_simp
                refine (rcut_all p LP.out (cwa : Int) Z0).mono ?_
                rintro e Z1 ⟨rfl, hb2⟩
                rw [show S.cut p (cwa : Int).toNat = E by rw [EE.out]; rfl]
                replace R16' : Hid (Z1.heap[g16]? = some (.cells (S.v8 D) 31 (0, 0))) := (hb2.block _ (block_lt_of_row R16'.out)).trans R16'.out
                have CZ1 : Hid (Chg (fun _ => False) wc Z1) := CZ0.out.then hb2
                clear hb2 CZ0
                clear hHeld
                refine hK.out _ _ CZ1.out (fun hHeld => ?_)
                clear hK K
                try simp only [Act.put, List.setIfInBounds_toArray, List.set_cons_zero, List.set_cons_succ]
                refine wpAnyH_ready (rs := [9]) (by kernel_rfl) (by simp) ?_
                refine step_alloc_as (o := { dst := some 17, op := Op.alloc 31, type := 0, pos := "ref.go:39", after := #[], guard := none }) rfl rfl 31 rfl _ _ (alloc31 Z1) AllReadyH.nil ⟨CZ1.out.alloc _, fun hHeld => ?_⟩
                clear hHeld
                simp only [Act.put, List.setIfInBounds_toArray, List.set_cons_zero, List.set_cons_succ]
                obtain ⟨g17, hg17⟩ : ∃ gg, gg = Z1.heap.size := ⟨_, rfl⟩
                rw [← hg17]
                generalize hZ : Z1.alloc _ = Z2
                have hb2 : Below Z1.heap.size Z1 Z2 := by rw [← hZ]; exact (Below.refl _ _).alloc (Nat.le_refl _) _
                have Rg17 : Hid (Z2.heap[g17]? = some (.cells (S.v8 (S.zeros 32)) 31 (0, 0))) := by rw [← hZ, hg17]; exact heap_alloc_new _ _
                have Gg17 := hide (show wc.heap.size ≤ g17 by rw [hg17]; exact CZ1.out.size)
                clear hZ hg17
                replace R16' : Hid (Z2.heap[g16]? = some (.cells (S.v8 D) 31 (0, 0))) := (hb2.block _ (block_lt_of_row R16'.out)).trans R16'.out
                have CZ2 : Hid (Chg (fun _ => False) wc Z2) := CZ1.out.then hb2
                clear hb2 CZ1
                have hHeld := CZ2.out
                refine wpAnyH_ready (rs := [10]) (by kernel_rfl) (by simp) ?_
                obtain ⟨Z3, hst, r6, C6, s6⟩ := store_dig Rg17.out (S.zeros_length _) LE.out
                refine step_store_as (o := { dst := none, op := Op.store 31 (Operand.tmp 17) (Operand.tmp 70), type := 0, pos := "ref.go:39", after := #[{ on := 9, ground := Ground.data }, { on := 8, ground := Ground.data }, { on := 8, ground := Ground.chain }, { on := 0, ground := Ground.phase }, { on := 1, ground := Ground.phase }, { on := 2, ground := Ground.phase }, { on := 3, ground := Ground.phase }, { on := 4, ground := Ground.phase }, { on := 5, ground := Ground.phase }, { on := 6, ground := Ground.phase }, { on := 7, ground := Ground.phase }, { on := 8, ground := Ground.phase }, { on := 9, ground := Ground.phase }], guard := none }) rfl rfl 31 (.tmp 17) (.tmp 70) rfl _ _ rfl rfl Z3 hst AllReadyH.nil ⟨CZ2.out.trans C6 (fun k hk e => by have := Gg17.out; omega), fun hHeld => ?_⟩
                replace R16' : Hid (Z3.heap[g16]? = some (.cells (S.v8 D) 31 (0, 0))) := C6.row R16'.out (by have := Gg17.out; have := block_lt_of_row R16.out; omega)
                replace Rg17 : Hid (Z3.heap[g17]? = some (.cells (S.v8 E) 31 (0, 0))) := r6
                have CZ3 : Hid (Chg (fun _ => False) wc Z3) := CZ2.out.trans C6 (fun k hk e => by have := Gg17.out; omega)
                clear hst r6 C6 s6 CZ2
                simp only [Act.put]
                refine wpAnyH_done (by kernel_rfl) ?_ _
                refine NoPanic.normal ?_
                clear hHeld
                have BF := hide (show Below wc.heap.size wc Z3 from (CZ3.out.below _ (Nat.le_refl _) (fun _ _ e => e)))
                go_wp2_with fail
                go_meet
                case rel => exact ⟨g17, rfl, Rg17, R16', BF⟩
              refine step_alloc_as (o := { dst := some 17, op := Op.alloc 31, type := 0, pos := "ref.go:39", after := #[], guard := none }) rfl rfl 31 rfl _ _ (alloc31 Z0) AllReadyH.nil ⟨CZ0.out.alloc _, fun hHeld => ?_⟩
              clear hHeld
              simp only [Act.put, List.setIfInBounds_toArray, List.set_cons_zero, List.set_cons_succ]
              obtain ⟨g17, hg17⟩ : ∃ gg, gg = Z0.heap.size := ⟨_, rfl⟩
              rw [← hg17]
              generalize hZ : Z0.alloc _ = Z1
              have hb2 : Below Z0.heap.size Z0 Z1 := by rw [← hZ]; exact (Below.refl _ _).alloc (Nat.le_refl _) _
              have Rg17 : Hid (Z1.heap[g17]? = some (.cells (S.v8 (S.zeros 32)) 31 (0, 0))) := by rw [← hZ, hg17]; exact heap_alloc_new _ _
              have Gg17 := hide (show wc.heap.size ≤ g17 by rw [hg17]; exact CZ0.out.size)
              clear hZ hg17
              replace R16' : Hid (Z1.heap[g16]? = some (.cells (S.v8 D) 31 (0, 0))) := (hb2.block _ (block_lt_of_row R16'.out)).trans R16'.out
              have CZ1 : Hid (Chg (fun _ => False) wc Z1) := CZ0.out.then hb2
              clear hb2 CZ0
              have hHeld := CZ1.out
              refine wpAnyH_ready (rs := [8]) (by kernel_rfl) (by simp) ?_
              refine AllReadyH.cons (o := { dst := some 70, op := Op.call { callee := Callee.value (Operand.func 26), args := #[Operand.tmp 65, Operand.tmp 69], argTypes := #[31, 3] }, type := 31, pos := "ref.go:39", after := #[{ on := 3, ground := Ground.data }, { on := 7, ground := Ground.data }], guard := none }) rfl (fun K hK => ?_) AllReadyH.nil
              go_simp
              refine (rcut_all p LP.out (cwa : Int) Z1).mono ?_
              rintro e Z2 ⟨rfl, hb2⟩
              rw [show S.cut p (cwa : Int).toNat = E by rw [EE.out]; rfl]
              replace R16' : Hid (Z2.heap[g16]? = some (.cells (S.v8 D) 31 (0, 0))) := (hb2.block _ (block_lt_of_row R16'.out)).trans R16'.out
              replace Rg17 : Hid (Z2.heap[g17]? = some (.cells (S.v8 (S.zeros 32)) 31 (0, 0))) := (hb2.block _ (block_lt_of_row Rg17.out)).trans Rg17.out
              have CZ2 : Hid (Chg (fun _ => False) wc Z2) := CZ1.out.then hb2
              clear hb2 CZ1
              clear hHeld
              refine hK.out _ _ CZ2.out (fun hHeld => ?_)
              clear hK K
              try simp only [Act.put, List.setIfInBounds_toArray, List.set_cons_zero, List.set_cons_succ]
              refine wpAnyH_ready (rs := [10]) (by kernel_rfl) (by simp) ?_
              obtain ⟨Z3, hst, r6, C6, s6⟩ := store_dig Rg17.out (S.zeros_length _) LE.out
              refine step_store_as (o := { dst := none, op := Op.store 31 (Operand.tmp 17) (Operand.tmp 70), type := 0, pos := "ref.go:39", after := #[{ on := 9, ground := Ground.data }, { on := 8, ground := Ground.data }, { on := 8, ground := Ground.chain }, { on := 0, ground := Ground.phase }, { on := 1, ground := Ground.phase }, { on := 2, ground := Ground.phase }, { on := 3, ground := Ground.phase }, { on := 4, ground := Ground.phase }, { on := 5, ground := Ground.phase }, { on := 6, ground := Ground.phase }, { on := 7, ground := Ground.phase }, { on := 8, ground := Ground.phase }, { on := 9, ground := Ground.phase }], guard := none }) rfl rfl 31 (.tmp 17) (.tmp 70) rfl _ _ rfl rfl Z3 hst AllReadyH.nil ⟨CZ2.out.trans C6 (fun k hk e => by have := Gg17.out; omega), fun hHeld => ?_⟩
              replace R16' : Hid (Z3.heap[g16]? = some (.cells (S.v8 D) 31 (0, 0))) := C6.row R16'.out (by have := Gg17.out; have := block_lt_of_row R16.out; omega)
              replace Rg17 : Hid (Z3.heap[g17]? = some (.cells (S.v8 E) 31 (0, 0))) := r6
              have CZ3 : Hid (Chg (fun _ => False) wc Z3) := CZ2.out.trans C6 (fun k hk e => by have := Gg17.out; omega)
              clear hst r6 C6 s6 CZ2
              simp only [Act.put]
              refine wpAnyH_done (by kernel_rfl) ?_ _
              refine NoPanic.normal ?_
              clear hHeld
              have BF := hide (show Below wc.heap.size wc Z3 from (CZ3.out.below _ (Nat.le_refl _) (fun _ _ e => e)))
              go_wp2_with fail
              go_meet
              case rel => exact ⟨g17, rfl, Rg17, R16', BF⟩
            obtain ⟨g17, rfl, R17, R16b, BWD⟩ := hcut
            have HTD := hide (HTC.out.below BWD.out)
            have HBD := hide (HBC.out.trans (BWD.out.mono HBC.out.size))
            have HHd : Hid (HsAt wc gh gT a) := HHc.out.below BWD.out (Nat.le_refl _)
            have hl1 := load_dig R16b.out LD.out
            have hl2 := load_dig R17.out LE.out
            clear HTC HBC HHc BWD R16
            go_wp2_with (first | (with_reducible refine at_op { dst := some 85, op := Op.load 31 (Operand.tmp 16), type := 31, pos := "ref.go:44", after := #[], guard := none } ?_; refine wpList_load_as rfl 31 (.tmp 16) rfl (.pointer (some ⟨g16, 0, none⟩)) rfl (.agg (S.v8 D)) hl1 ?_) | (with_reducible refine at_op { dst := some 86, op := Op.load 31 (Operand.tmp 17), type := 31, pos := "ref.go:44", after := #[], guard := none } ?_; refine wpList_load_as rfl 31 (.tmp 17) rfl (.pointer (some ⟨g17, 0, none⟩)) rfl (.agg (S.v8 E)) hl2 ?_))
            clear hl1 hl2
            refine (nodeText_own gh gT a D E LD.out LE.out wc HHd.out).mono ?_
            rintro e w5 ⟨v5, rfl, s5, b5⟩
            obtain ⟨gy, yc, ey⟩ := s5.2
            obtain ⟨yn, hyn⟩ : ∃ n, n = (1 :: (List.take (S.cw a) D ++ List.take (S.cw a) E)).length := ⟨_, rfl⟩
            rw [← hyn] at ey
            subst ey
            clear hyn
            have htx : (1 :: (List.take (S.cw a) D ++ List.take (S.cw a) E)) = S.txt a D E := rfl
            rw [htx] at s5
            obtain ⟨X5, hX5⟩ : ∃ YQ, YQ = w5.alloc (.cells #[.slice (some ⟨gy, 0, none⟩) yn yc] 22) := ⟨_, rfl⟩
            have bX5 : Below w5.heap.size w5 X5 := by rw [hX5]; exact (Below.refl _ _).alloc (Nat.le_refl _) _
            have rX5 : X5.heap[w5.heap.size]? = some (.cells #[.slice (some ⟨gy, 0, none⟩) yn yc] 22 (0, 0)) := by rw [hX5]; exact heap_alloc_new _ _
            have hbs := bs41one w5 (some ⟨gy, 0, none⟩) yn yc
            rw [← hX5] at hbs
            have bdX : Below wc.heap.size wc X5 := b5.trans (bX5.mono b5.size)
            have hlt0 : ∀ k', (Value.slice (some ⟨bl, offl, none⟩) m vc).ownBlock = some k' → k' < wc.heap.size := fun k' hk' => by
              obtain ⟨vs, h1, _⟩ := HTD.out.ls
              exact h1.lt hk'
            have hsx : ∀ W, Chg (fun k => (Value.slice (some ⟨bl, offl, none⟩) m vc).ownBlock = some k) X5 W → SliceAt W (.slice (some ⟨gy, 0, none⟩) yn yc) (S.txt a D E) := fun W hW => (Own.chg (p := fun k => (Value.slice (some ⟨bl, offl, none⟩) m vc).ownBlock = some k) s5 ((Chg.ofBelow' bX5).trans hW (fun _ _ e => e)) (fun k hk e => by have := hlt0 k e; omega)).sliceAt (by have := S.txt_length a D E; omega)
            have KEY := hide (run_append_tx X5 w.heap.size w5.heap.size (.slice (some ⟨bl, offl, none⟩) m vc) (some ⟨gy, 0, none⟩) yn yc (ts ++ [t]) (S.txt a D E) 39 (HTD.out.below bdX) rX5 hsx (by rw [← HM.out, HM2.out]; omega) (Nat.le_trans HBD.out.size bdX.size))
            have BX := hide (HBD.out.trans (bdX.mono HBD.out.size))
            obtain ⟨g5, hg5⟩ : ∃ g, g = w5.heap.size := ⟨_, rfl⟩
            rw [← hg5] at KEY hbs
            clear hX5 bX5 rX5 bdX hlt0 hsx hg5 b5 s5 htx
            go_wp2_with (first | (with_reducible refine at_op { dst := some 88, op := Op.buildSlice 39 1 #[(0, Operand.tmp 87)], type := 39, pos := "ref.go:44", after := #[{ on := 4, ground := Ground.data }], guard := none } ?_; refine wpList_buildSlice_as rfl 39 1 [(0, .tmp 87)] rfl [(0, .slice (some ⟨gy, 0, none⟩) yn yc)] rfl _ _ hbs ?_) | (at_builtin; (refine wpList_append_known rfl (.tmp 83) (.tmp 88) 39 39 rfl _ _ rfl rfl KEY.out ?_; rintro v6 w6 ⟨hR6, hB6⟩; have R6 := hide hR6; have B6 := hide (BX.out.trans hB6); clear hR6 hB6)))
            go_roundg (s / 2)
            case measure => omega
            case rel => exact ⟨k + 1, f / 2, s / 2, ts ++ [t], _, rfl, by omega, by first | rfl | simp, rfl, rfl, by omega, by omega, HUPN, R6, by simp [HTS.out], by have := S.txt_length a D E; omega, B6⟩
end Go.Proofs.YtlbggkmblkhjoabDoor
