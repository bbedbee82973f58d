/- The way up from a leaf. -/
import Derived.Test.YtlbggkmblkhjoaaDoorWe
namespace Go.Proofs.YtlbggkmblkhjoaaDoor
open Go.RowKit

/-- The texts of the way up from the leaf b at the place i of n. -/
def S.climb (a : Int) (b : List UInt8) (i n : Nat) (ps : List (List UInt8)) : Option (List (List UInt8)) := if i < n then S.way a i (n - 1) (0 :: b) ps else none
def Climbed (a : Int) (w w' : World) (e : Ending) (o : Option (List (List UInt8))) : Prop :=
  ∃ ao len cap, e = .returned (.tuple #[.slice ao len cap, .bool o.isSome]) ∧ (∀ ts, o = some ts → WyIs a w.heap.size w' (.slice ao len cap) ts) ∧ Below w.heap.size w w'
theorem dg_at {w : World} {v : Value} {ds : List (List UInt8)} (h : DgAt w v ds) (k : Nat) (hk : k < ds.length) : ∃ g off cap, v = .slice (some ⟨g, off, none⟩) ds.length cap ∧ g < w.heap.size ∧ w.rangeAt g (off + k * 32) (S.v8l (ds.getD k [])) ∧ (ds.getD k []).length = 32 := by
  obtain ⟨ao, cap, rfl, h1, h2, h3⟩ := h
  obtain ⟨g, off, rfl, h4, h5⟩ := h3 (by omega)
  exact ⟨g, off, cap, rfl, h4, h5 k hk, h2 _ (by rw [List.getD_eq_getElem?_getD, List.getElem?_eq_getElem hk]; exact List.getElem_mem hk)⟩
theorem DgAt.form {w : World} {v : Value} {ds : List (List UInt8)} (h : DgAt w v ds) : ∃ ao cap, v = .slice ao ds.length cap := by
  obtain ⟨ao, cap, rfl, _⟩ := h
  exact ⟨ao, cap, rfl⟩
theorem drop_cons {ds : List (List UInt8)} (k : Nat) (hk : k < ds.length) : ds.drop k = ds.getD k [] :: ds.drop (k + 1) := by
  rw [List.getD_eq_getElem?_getD, List.getElem?_eq_getElem hk]
  exact List.drop_eq_getElem_cons hk
set_option maxHeartbeats 4000000 in
set_option maxRecDepth 10000 in
theorem climb_none (a : Int) (v u : Value) (i n : Nat) (w : World) (h : n ≤ i) :
   Calls Tryd.prog 33 #[.int .i64 a, v, .int .u64 (i : Int), .int .u64 (n : Int), u] w fun e w' => e = .returned (.tuple #[.slice none 0 0, .bool false]) ∧ w = w' := by
  have q1 : (n : Int) ≤ (i : Int) := by omega
  go_enter Tryd.func33, Tryd.ntmps33
  go_wp2
  go_step3
  go_wp2
  rw [Exit.noGoto_ret]
  go_ret2
  exact ⟨rfl, rfl⟩
set_option maxHeartbeats 16000000 in
set_option maxRecDepth 10000 in
theorem climb_any (a : Int) (v u : Value) (bs : List UInt8) (i n : Nat) (ps : List (List UInt8)) (w : World) (hin : i < n) (hn : n < 18446744073709551616) (hv : SliceAt w v bs) (hl : bs.length + 1 ≤ 140737488355328) (hu : DgAt w u ps) (hps : ps.length ≤ 90000) (hK : KAt w) :
   Calls Tryd.prog 33 #[.int .i64 a, v, .int .u64 (i : Int), .int .u64 (n : Int), u] w fun e w' => Climbed a w w' e (S.climb a bs i n ps) := by
  have hclimb : S.climb a bs i n ps = S.way a i (n - 1) (0 :: bs) ps := by rw [S.climb, if_pos hin]
  rw [hclimb]
  clear hclimb
  obtain ⟨ao, len, cap, rfl, hlen, _⟩ := hv.form
  obtain ⟨uo, uc, rfl⟩ := hu.form
  have HV := hide hv
  have HU := hide hu
  have HK := hide hK
  have h0 := hK.pos
  have HLn := hide hl
  obtain ⟨N, hN⟩ : ∃ N, N = ps.length := ⟨_, rfl⟩
  rw [← hN] at HU hps ⊢
  have HN := hide hN
  have q1 : ¬ (n : Int) ≤ (i : Int) := by omega
  have q1' : (i : Int) < (n : Int) := by omega
  have q2 : IntKind.u64.wrap ((n : Int) - 1) = ((n - 1 : Nat) : Int) := by rw [IntKind.wrap_u64]; omega
  clear hv hK hl hlen hu hN
  go_enter Tryd.func33, Tryd.ntmps33
  go_wp2
  go_step3
  go_wp2_with fail
  refine (leafStep_any a _ bs w HV.out HLn.out HK.out).mono ?_
  rintro e w1 ⟨so, sn, sc, rfl, hp1, b1⟩
  obtain ⟨D, hD⟩ : ∃ D, D = S.hsh a (0 :: bs) := ⟨_, rfl⟩
  have LD := hide (show D.length = 32 by rw [hD, S.hsh_length])
  rw [← hD]
  have hbs := bs62one (.slice so sn sc, D) LD.out w1
  obtain ⟨Y, hY⟩ : ∃ Y, Y = w1.alloc (.cells (S.stc (.slice so sn sc, D)).toArray 91) := ⟨_, rfl⟩
  rw [← hY] at hbs
  have bY : Below w1.heap.size w1 Y := by rw [hY]; exact (Below.refl _ _).alloc (Nat.le_refl _) _
  have rY : Y.heap[w1.heap.size]? = some (.cells (S.stc (.slice so sn sc, D)).toArray 91 (0, 0)) := by rw [hY]; exact heap_alloc_new _ _
  have WY0 := hide (wy_one (a := a) (t := 0 :: bs) rY hD b1.size (fun W' hW' => hp1 W' (bY.trans (hW'.below _ bY.size (fun k hk e => by omega)))))
  have BY := hide (b1.trans (bY.mono b1.size))
  obtain ⟨g1, hg1⟩ : ∃ g, g = w1.heap.size := ⟨_, rfl⟩
  rw [← hg1] at WY0 hbs
  obtain ⟨L0, hL0⟩ : ∃ L, L = S.stc (.slice so sn sc, D) := ⟨_, rfl⟩
  rw [← hL0] at hbs ⊢
  clear hD hY bY rY hp1 b1 hg1 hL0
  go_wp2_with (with_reducible refine at_op { dst := some 25, op := Op.buildSlice 62 1 #[(0, Operand.tmp 24)], type := 62, pos := "way.go:40", after := #[{ on := 2, ground := Ground.data }], guard := none } ?_; refine wpList_buildSlice_as rfl 62 1 [(0, .tmp 24)] rfl [(0, .agg L0.toArray)] rfl _ _ hbs ?_)
  clear hbs
  go_step3
  go_wp2_with fail
  go_loopg [12, 13, 14, 31] N (fun gk s12 s13 s14 s31 wr => ∃ (k f s : Nat) (ts : List (List UInt8)) (t : List UInt8), k + gk = N ∧ s31 = .int .i64 (k : Int) ∧ s13 = .int .u64 (f : Int) ∧ s14 = .int .u64 (s : Int) ∧ f < 18446744073709551616 ∧ s < 18446744073709551616 ∧ Hid (S.Up a i (n - 1) (0 :: bs) ps f s ts t (ps.drop k)) ∧ Hid (WyIs a w.heap.size wr s12 (ts ++ [t])) ∧ ts.length ≤ k ∧ Hid (Below w.heap.size w wr))
  case atStart => exact ⟨0, i, n - 1, [], 0 :: bs, by omega, rfl, rfl, rfl, by omega, by omega, S.Up.refl _ _ _ _ _, WY0.out, by simp, BY.out⟩
  case round =>
    clear WY0 BY q1 q1' q2
    obtain ⟨k, f, s, ts, t, hk, rfl, rfl, rfl, hf, hs, hup, hwy, hts, hb⟩ := hrel
    obtain ⟨vo, vc, rfl⟩ := hwy.out.form
    obtain ⟨m, hm⟩ : ∃ m, m = (ts ++ [t]).length := ⟨_, rfl⟩
    rw [← hm] at hwy ⊢
    have hm2 : m = ts.length + 1 := by rw [hm]; simp
    have HM := hide hm
    have HM2 := hide hm2
    clear hm hm2
    cases gk with
    | zero =>
      have hkN : k = N := by omega
      have qk : ¬ (k : Int) < (N : Int) := by omega
      have hd : ps.drop k = [] := List.drop_eq_nil_of_le (by rw [← HN.out, hkN]; exact Nat.le_refl _)
      rw [hd] at hup
      clear hd hkN
      by_cases hs0 : s = 0
      · have q3 : ((s : Int) == 0) = true := by simp [hs0]
        go_wp2_with fail
        go_ret2
        subst hs0
        refine ⟨vo, m, vc, by rw [hup.out.done]; rfl, fun ts' hts' => ?_, hb.out⟩
        rw [hup.out.done] at hts'
        cases hts'
        exact hwy.out
      · have q3 : ((s : Int) == 0) = false := by simp; omega
        go_wp2_with fail
        go_ret2
        refine ⟨vo, m, vc, by rw [hup.out.short hs0]; rfl, fun ts' hts' => ?_, hb.out⟩
        rw [hup.out.short hs0] at hts'
        cases hts'
    | succ gO =>
      have qk : (k : Int) < (N : Int) := by omega
      have qk0 : (0 : Int) ≤ (k : Int) := by omega
      have qkw : IntKind.i64.wrap ((k : Int) + 1) = (k : Int) + 1 := by rw [IntKind.wrap_i64]; omega
      obtain ⟨gu, ou, cu, eu, hgu, hru, hpl⟩ := dg_at HU.out k (by rw [← HN.out]; omega)
      simp only [Value.slice.injEq] at eu
      obtain ⟨rfl, eN, rfl⟩ := eu
      clear eN
      obtain ⟨p, hp⟩ : ∃ p, p = ps.getD k [] := ⟨_, rfl⟩
      rw [drop_cons k (by rw [← HN.out]; omega), ← hp] at hup
      rw [← hp] at hru hpl
      have LP := hide hpl
      have hld := run_loadAt_mid (P := Tryd.prog) wr gu (ou + k * 32) 23 (S.v8l p) _ (fun j x hx => (hb.out.cell (p := ⟨gu, ou + k * 32 + j, none⟩) hgu).trans (hru j x hx)) Tryd.underlying23 rfl (by rw [S.v8l_length, LP.out]; exact size23)
      rw [← S.v8_eq] at hld
      obtain ⟨AL, Z, hal, hst, rz, bz, sz⟩ := lay_dig wr p LP.out
      have HWY := hide (hwy.out.below bz)
      have HWYO := hide hwy.out
      have HB := hide (hb.out.trans (bz.mono hb.out.size))
      have RZ := hide rz
      have HUP := hide hup.out
      obtain ⟨gb, hgb⟩ : ∃ g, g = wr.heap.size := ⟨_, rfl⟩
      rw [← hgb] at hal hst RZ
      have GB := hide (show wr.heap.size ≤ gb by omega)
      clear hgu hru hpl hp rz bz sz hwy hb hup hgb
      go_wp2_with (first | (with_reducible refine at_op { dst := some 34, op := Op.load 23 (Operand.tmp 33), type := 23, pos := "way.go:43", after := #[{ on := 0, ground := Ground.data }], guard := none } ?_; refine wpList_load_as rfl 23 (.tmp 33) rfl (.pointer (some ⟨gu, ou + k * 32, none⟩)) rfl (.agg (S.v8 p)) hld ?_) | (with_reducible refine at_op { dst := some 16, op := Op.alloc 23, type := 0, pos := "way.go:43", after := #[], guard := none } ?_; refine wpList_alloc_known rfl 23 rfl (.pointer (some ⟨gb, 0, none⟩)) AL hal ?_) | (with_reducible refine at_op { dst := none, op := Op.store 23 (Operand.tmp 16) (Operand.tmp 34), type := 0, pos := "way.go:43", after := #[{ on := 2, ground := Ground.data }, { on := 1, ground := Ground.data }, { on := 0, ground := Ground.phase }, { on := 1, ground := Ground.phase }, { on := 2, ground := Ground.phase }], guard := none } ?_; refine wpList_store_as rfl 23 (.tmp 16) (.tmp 34) rfl (.pointer (some ⟨gb, 0, none⟩)) (.agg (S.v8 p)) rfl rfl Z hst ?_))
      clear hld hal hst
      simp only [Act.put, List.setIfInBounds_toArray, List.set_cons_zero, List.set_cons_succ]
      go_loopg [12, 13, 14] s (fun g2 s12 s13 s14 wz => ∃ (f s : Nat), g2 = s ∧ s12 = .slice vo m vc ∧ s13 = .int .u64 (f : Int) ∧ s14 = .int .u64 (s : Int) ∧ f < 18446744073709551616 ∧ s < 18446744073709551616 ∧ Hid (S.Up a i (n - 1) (0 :: bs) ps f s ts t (p :: ps.drop (k + 1))) ∧ Z = wz)
      case atStart => exact ⟨f, s, rfl, rfl, rfl, rfl, hf, hs, HUP, rfl⟩
      case round =>
        clear HUP hf hs
        obtain ⟨f, s, hg2, rfl, rfl, rfl, hf, hs, HUP, rfl⟩ := hrel
        by_cases hs0 : s = 0
        · have q3 : ¬ (s : Int) > 0 := by omega
          have q3' : ¬ (0 : Int) < (s : Int) := by omega
          go_wp2_with fail
          try rw [Exit.noGoto_ret]
          go_ret2
          subst hs0
          refine ⟨none, 0, 0, by rw [HUP.out.over]; rfl, fun ts' hts' => ?_, HB.out⟩
          rw [HUP.out.over] at hts'
          cases hts'
        · have q3 : (s : Int) > 0 := by omega
          have q3' : (0 : Int) < (s : Int) := by omega
          have hlast : S.lastOf (ts ++ [t]) = t := S.lastOf_snoc ts t
          have HLT := hide hlast
          have hsz := size_dig p LP.out
          clear hlast
          by_cases ho : f % 2 = 1
          · have q5 : (f : Int) % 2 = 1 := by omega
            have HUPN := hide (HUP.out.odd hs0 ho)
            clear HUP
            go_wp2_with fail
            have NB : Hid (¬ (Value.slice vo m vc).ownBlock = some gb) := fun e => absurd (HWYO.out.blk e).2 (by have := GB.out; omega)
            refine wp_region_noPanic ?_
            refine wp_region_held_drew (S := (fun W => Chg (fun k => (Value.slice vo m vc).ownBlock = some k) Z W)) follows ((Chg.refl _ _).drew) (fun hHeld => ?_)
            clear hHeld
            have hHeld : Chg (fun k => (Value.slice vo m vc).ownBlock = some k) Z Z.drew := (Chg.refl _ _).drew
            have CZ0 := hide hHeld
            have HWY' : Hid (WyIs a w.heap.size Z.drew (.slice vo m vc) (ts ++ [t])) := HWY.out.below ((Below.refl _ _).drew)
            generalize Z.drew = Z0 at CZ0 hHeld HWY' ⊢
            refine wpAnyH_take (i := 0) (oi := { dst := some 49, op := Op.move (Operand.tmp 12), type := 62, pos := "way.go:49", after := #[], guard := none }) (v := ?_) rfl (by kernel_rfl) (by kernel_rfl) (by kernel_rfl) (fun _ _ _ h => h) (Or.inl ⟨by rfl, ?_⟩) (by assumption) ?_
            rotate_left
            · intro w hSw
              clear hSw
              go_simp
              all_goals with_reducible rfl
            simp only [Act.put, List.setIfInBounds_toArray, List.set_cons_zero, List.set_cons_succ]
            refine wpAnyH_take (i := 1) (oi := { dst := some 50, op := Op.move (Operand.tmp 0), type := 3, pos := "way.go:49", after := #[], guard := none }) (v := ?_) rfl (by kernel_rfl) (by kernel_rfl) (by kernel_rfl) (fun _ _ _ h => h) (Or.inl ⟨by rfl, ?_⟩) (by assumption) ?_
            rotate_left
            · intro w hSw
              clear hSw
              go_simp
              all_goals with_reducible rfl
            simp only [Act.put, List.setIfInBounds_toArray, List.set_cons_zero, List.set_cons_succ]
            refine wpAnyH_take (i := 2) (oi := { dst := some 51, op := Op.load 23 (Operand.tmp 16), type := 23, pos := "way.go:49", after := #[], guard := none }) (v := .agg (S.v8l p).toArray) rfl (by kernel_rfl) (by kernel_rfl) (by kernel_rfl) (fun _ _ _ h => h) (yieldsIf_load_mid (by rfl) _ _ rfl gb 0 rfl (S.v8l p) _ (fun _ hSw => rangeAt_row (hSw.row RZ.out (fun e => NB.out e))) Tryd.underlying23 rfl hsz) (by assumption) ?_
            simp only [Act.put, List.setIfInBounds_toArray, List.set_cons_zero, List.set_cons_succ]
            refine wpAnyH_take (i := 3) (oi := { dst := some 52, op := Op.move (Operand.tmp 12), type := 62, pos := "way.go:49", after := #[], guard := none }) (v := ?_) rfl (by kernel_rfl) (by kernel_rfl) (by kernel_rfl) (fun _ _ _ h => h) (Or.inl ⟨by rfl, ?_⟩) (by assumption) ?_
            rotate_left
            · intro w hSw
              clear hSw
              go_simp
              all_goals with_reducible rfl
            simp only [Act.put, List.setIfInBounds_toArray, List.set_cons_zero, List.set_cons_succ]
            refine wpAnyH_ready (rs := [4]) (by kernel_rfl) (by simp) ?_
            refine AllReadyH.cons (o := { dst := some 53, op := Op.call { callee := Callee.value (Operand.func 34), args := #[Operand.tmp 52], argTypes := #[62] }, type := 23, pos := "way.go:49", after := #[{ on := 3, ground := Ground.data }], guard := none }) rfl (fun K hK => ?_) AllReadyH.nil
            go_simp
            refine (top_any a w.heap.size _ (ts ++ [t]) Z0 HWY'.out (by simp) (by rw [← HM.out, HM2.out]; omega)).mono ?_
            rintro e Z1 ⟨rfl, hb2⟩
            rw [HLT.out]
            obtain ⟨D1, hD1⟩ : ∃ D, D = S.hsh a t := ⟨_, rfl⟩
            rw [← hD1]
            have ED1 := hide hD1
            have LD1 := hide (show D1.length = 32 by rw [hD1, S.hsh_length])
            clear hD1
            replace HWY' : Hid (WyIs a w.heap.size Z1 (.slice vo m vc) (ts ++ [t])) := HWY'.out.below hb2
            have CZ1 : Hid (Chg (fun k => (Value.slice vo m vc).ownBlock = some k) Z Z1) := CZ0.out.then hb2
            clear hb2 CZ0
            clear hHeld
            refine hK.out _ _ CZ1.out (fun hHeld => ?_)
            clear hK K
            try simp only [Act.put, List.setIfInBounds_toArray, List.set_cons_zero, List.set_cons_succ]
            refine wpAnyH_ready (rs := [5]) (by kernel_rfl) (by simp) ?_
            refine AllReadyH.cons (o := { dst := some 54, op := Op.call { callee := Callee.value (Operand.func 59), args := #[Operand.tmp 50, Operand.tmp 51, Operand.tmp 53], argTypes := #[3, 23, 23] }, type := 91, pos := "way.go:49", after := #[{ on := 1, ground := Ground.data }, { on := 2, ground := Ground.data }, { on := 4, ground := Ground.data }, { on := 4, ground := Ground.chain }], guard := none }) rfl (fun K hK => ?_) AllReadyH.nil
            go_simp
            refine (nodeStep_any a p D1 LP.out LD1.out Z1 (HK.out.below (HB.out.trans (CZ1.out.below w.heap.size HB.out.size (fun k hk e => by have := (HWY.out.blk e).1; omega))) h0)).mono ?_
            rintro e Z2 ⟨xo, xn, xc, rfl, hp2, hb2⟩
            obtain ⟨D2, hD2⟩ : ∃ D, D = S.hsh a (S.txt a p D1) := ⟨_, rfl⟩
            rw [← hD2]
            have ED2 := hide hD2
            have LD2 := hide (show D2.length = 32 by rw [hD2, S.hsh_length])
            clear hD2
            have HP2 : Hid (∀ W, Chg (fun k => (Value.slice vo m vc).ownBlock = some k) Z2 W → PartsAt W (.slice xo xn xc) (S.txt a p D1)) := fun W hW => hp2 W ⟨_, fun k hk => (HWY'.out.blk hk).2, hW⟩
            clear hp2
            replace HWY' : Hid (WyIs a w.heap.size Z2 (.slice vo m vc) (ts ++ [t])) := HWY'.out.below hb2
            have CZ2 : Hid (Chg (fun k => (Value.slice vo m vc).ownBlock = some k) Z Z2) := CZ1.out.then hb2
            clear hb2 CZ1
            clear hHeld
            refine hK.out _ _ CZ2.out (fun hHeld => ?_)
            clear hK K
            try simp only [Act.put, List.setIfInBounds_toArray, List.set_cons_zero, List.set_cons_succ]
            refine wpAnyH_ready (rs := [6]) (by kernel_rfl) (by simp) ?_
            refine step_buildSlice_as (o := { dst := some 55, op := Op.buildSlice 62 1 #[(0, Operand.tmp 54)], type := 62, pos := "way.go:49", after := #[{ on := 5, ground := Ground.data }], guard := none }) rfl rfl 62 1 [(0, .tmp 54)] rfl [(0, .agg (S.stc (.slice xo xn xc, D2)).toArray)] rfl _ _ (bs62one (.slice xo xn xc, D2) LD2.out Z2) AllReadyH.nil ⟨CZ2.out.alloc _, fun hHeld => ?_⟩
            clear hHeld
            simp only [Act.put, List.setIfInBounds_toArray, List.set_cons_zero, List.set_cons_succ]
            obtain ⟨gs, hgs⟩ : ∃ gg, gg = Z2.heap.size := ⟨_, rfl⟩
            rw [← hgs]
            generalize hZ : Z2.alloc _ = Z3
            have hb2 : Below Z2.heap.size Z2 Z3 := by rw [← hZ]; exact (Below.refl _ _).alloc (Nat.le_refl _) _
            have Rgs : Hid (Z3.heap[gs]? = some (.cells (S.stc (.slice xo xn xc, D2)).toArray 91 (0, 0))) := by rw [← hZ, hgs]; exact heap_alloc_new _ _
            have Ggs := hide (show Z.heap.size ≤ gs by rw [hgs]; exact CZ2.out.size)
            clear hZ hgs
            replace HWY' : Hid (WyIs a w.heap.size Z3 (.slice vo m vc) (ts ++ [t])) := HWY'.out.below hb2
            replace HP2 : Hid (∀ W, Chg (fun k => (Value.slice vo m vc).ownBlock = some k) Z3 W → PartsAt W (.slice xo xn xc) (S.txt a p D1)) := fun W hW => HP2.out W (((Chg.ofBelow' hb2).trans hW (fun _ _ e => e)))
            have CZ3 : Hid (Chg (fun k => (Value.slice vo m vc).ownBlock = some k) Z Z3) := CZ2.out.then hb2
            clear hb2 CZ2
            have hHeld := CZ3.out
            refine wpAnyH_ready (rs := [7]) (by kernel_rfl) (by simp) ?_
            obtain ⟨vn, Z4, hst, hwn, C6⟩ := run_append_st a Z3 w.heap.size gs (.slice vo m vc) (ts ++ [t]) (.slice xo xn xc, D2) (S.txt a p D1) 62 HWY'.out ED2.out rfl Rgs.out (fun W hW => HP2.out W (hW)) (by rw [← HM.out, HM2.out]; omega) (HB.out.trans (CZ3.out.below w.heap.size HB.out.size (fun k hk e => by have := (HWY.out.blk e).1; omega))).size
            refine step_append_as (o := { dst := some 56, op := Op.call { callee := Callee.builtin Builtin.append, args := #[Operand.tmp 49, Operand.tmp 55], argTypes := #[62, 62] }, type := 62, pos := "way.go:49", after := #[{ on := 0, ground := Ground.data }, { on := 6, ground := Ground.data }, { on := 5, ground := Ground.chain }], guard := none }) rfl rfl (.tmp 49) (.tmp 55) 62 62 rfl (.slice vo m vc) (.slice (some ⟨gs, 0, none⟩) 1 1) rfl rfl vn Z4 hst AllReadyH.nil ⟨CZ3.out.trans C6 (fun k hk e => e), fun hHeld => ?_⟩
            have CZ4 : Hid (Chg (fun k => (Value.slice vo m vc).ownBlock = some k) Z Z4) := CZ3.out.trans C6 (fun k hk e => e)
            obtain ⟨yo, yc, rfl⟩ := hwn.form
            obtain ⟨my, hmy⟩ : ∃ m, m = (ts ++ [t] ++ [S.txt a p D1]).length := ⟨_, rfl⟩
            have WYG := hide hwn
            rw [← hmy] at WYG ⊢
            clear hmy hwn
            clear hst C6 CZ3
            simp only [Act.put, List.setIfInBounds_toArray, List.set_cons_zero, List.set_cons_succ]
            refine wpAnyH_take (i := 8) (oi := { dst := some 12, op := Op.assign (Operand.tmp 56), type := 62, pos := "way.go:49", after := #[{ on := 7, ground := Ground.data }, { on := 7, ground := Ground.chain }, { on := 0, ground := Ground.phase }, { on := 1, ground := Ground.phase }, { on := 2, ground := Ground.phase }, { on := 3, ground := Ground.phase }, { on := 4, ground := Ground.phase }, { on := 5, ground := Ground.phase }, { on := 6, ground := Ground.phase }, { on := 7, ground := Ground.phase }], guard := none }) (v := ?_) rfl (by kernel_rfl) (by kernel_rfl) (by kernel_rfl) (fun _ _ _ h => h) (Or.inl ⟨by rfl, ?_⟩) (by assumption) ?_
            rotate_left
            · intro w hSw
              clear hSw
              go_simp
              all_goals with_reducible rfl
            simp only [Act.put, List.setIfInBounds_toArray, List.set_cons_zero, List.set_cons_succ]
            refine wpAnyH_done (by kernel_rfl) ?_ _
            refine NoPanic.normal ?_
            rw [ED1.out] at WYG
            have WYF := WYG
            have BF := hide (HB.out.trans (CZ4.out.below w.heap.size HB.out.size (fun k hk e => by have := (HWY.out.blk e).1; omega)))
            clear hHeld
            go_wp2_with fail
            go_roundg gO
            case measure => omega
            case rel => exact ⟨k + 1, f / 2, s / 2, ts ++ [t], _, by omega, by first | rfl | simp, rfl, rfl, by omega, by omega, HUPN, WYF, by simp; omega, BF⟩
          · have q5 : ¬ (f : Int) % 2 = 1 := by omega
            have q5' : (f : Int) % 2 = 0 := by omega
            by_cases hfs : f = s
            · have q6 : ((f : Int) == (s : Int)) = true := by simp; omega
              have HUPN := hide (HUP.out.skip hs0 (by omega) hfs)
              clear HUP hfs
              go_wp2_with fail
              go_roundg (s / 2)
              case measure => omega
              case rel => exact ⟨f / 2, s / 2, rfl, rfl, rfl, rfl, by omega, by omega, HUPN, rfl⟩
            · have q6 : ((f : Int) == (s : Int)) = false := by simp; omega
              have HUPN := hide (HUP.out.even hs0 (by omega) hfs)
              clear HUP
              go_wp2_with fail
              have NB : Hid (¬ (Value.slice vo m vc).ownBlock = some gb) := fun e => absurd (HWYO.out.blk e).2 (by have := GB.out; omega)
              refine wp_region_noPanic ?_
              refine wp_region_held_drew (S := (fun W => Chg (fun k => (Value.slice vo m vc).ownBlock = some k) Z W)) follows ((Chg.refl _ _).drew) (fun hHeld => ?_)
              clear hHeld
              have hHeld : Chg (fun k => (Value.slice vo m vc).ownBlock = some k) Z Z.drew := (Chg.refl _ _).drew
              have CZ0 := hide hHeld
              have HWY' : Hid (WyIs a w.heap.size Z.drew (.slice vo m vc) (ts ++ [t])) := HWY.out.below ((Below.refl _ _).drew)
              generalize Z.drew = Z0 at CZ0 hHeld HWY' ⊢
              refine wpAnyH_take (i := 0) (oi := { dst := some 60, op := Op.move (Operand.tmp 12), type := 62, pos := "way.go:52", after := #[], guard := none }) (v := ?_) rfl (by kernel_rfl) (by kernel_rfl) (by kernel_rfl) (fun _ _ _ h => h) (Or.inl ⟨by rfl, ?_⟩) (by assumption) ?_
              rotate_left
              · intro w hSw
                clear hSw
                go_simp
                all_goals with_reducible rfl
              simp only [Act.put, List.setIfInBounds_toArray, List.set_cons_zero, List.set_cons_succ]
              refine wpAnyH_take (i := 1) (oi := { dst := some 61, op := Op.move (Operand.tmp 0), type := 3, pos := "way.go:52", after := #[], guard := none }) (v := ?_) rfl (by kernel_rfl) (by kernel_rfl) (by kernel_rfl) (fun _ _ _ h => h) (Or.inl ⟨by rfl, ?_⟩) (by assumption) ?_
              rotate_left
              · intro w hSw
                clear hSw
                go_simp
                all_goals with_reducible rfl
              simp only [Act.put, List.setIfInBounds_toArray, List.set_cons_zero, List.set_cons_succ]
              refine wpAnyH_take (i := 2) (oi := { dst := some 62, op := Op.move (Operand.tmp 12), type := 62, pos := "way.go:52", after := #[], guard := none }) (v := ?_) rfl (by kernel_rfl) (by kernel_rfl) (by kernel_rfl) (fun _ _ _ h => h) (Or.inl ⟨by rfl, ?_⟩) (by assumption) ?_
              rotate_left
              · intro w hSw
                clear hSw
                go_simp
                all_goals with_reducible rfl
              simp only [Act.put, List.setIfInBounds_toArray, List.set_cons_zero, List.set_cons_succ]
              refine wpAnyH_take (i := 4) (oi := { dst := some 64, op := Op.load 23 (Operand.tmp 16), type := 23, pos := "way.go:52", after := #[], guard := none }) (v := .agg (S.v8l p).toArray) rfl (by kernel_rfl) (by kernel_rfl) (by kernel_rfl) (fun _ _ _ h => h) (yieldsIf_load_mid (by rfl) _ _ rfl gb 0 rfl (S.v8l p) _ (fun _ hSw => rangeAt_row (hSw.row RZ.out (fun e => NB.out e))) Tryd.underlying23 rfl hsz) (by assumption) ?_
              simp only [Act.put, List.setIfInBounds_toArray, List.set_cons_zero, List.set_cons_succ]
              refine wpAnyH_ready (rs := [3]) (by kernel_rfl) (by simp) ?_
              refine AllReadyH.cons (o := { dst := some 63, op := Op.call { callee := Callee.value (Operand.func 34), args := #[Operand.tmp 62], argTypes := #[62] }, type := 23, pos := "way.go:52", after := #[{ on := 2, ground := Ground.data }], guard := none }) rfl (fun K hK => ?_) AllReadyH.nil
              go_simp
              refine (top_any a w.heap.size _ (ts ++ [t]) Z0 HWY'.out (by simp) (by rw [← HM.out, HM2.out]; omega)).mono ?_
              rintro e Z1 ⟨rfl, hb2⟩
              rw [HLT.out]
              obtain ⟨D1, hD1⟩ : ∃ D, D = S.hsh a t := ⟨_, rfl⟩
              rw [← hD1]
              have ED1 := hide hD1
              have LD1 := hide (show D1.length = 32 by rw [hD1, S.hsh_length])
              clear hD1
              replace HWY' : Hid (WyIs a w.heap.size Z1 (.slice vo m vc) (ts ++ [t])) := HWY'.out.below hb2
              have CZ1 : Hid (Chg (fun k => (Value.slice vo m vc).ownBlock = some k) Z Z1) := CZ0.out.then hb2
              clear hb2 CZ0
              clear hHeld
              refine hK.out _ _ CZ1.out (fun hHeld => ?_)
              clear hK K
              try simp only [Act.put, List.setIfInBounds_toArray, List.set_cons_zero, List.set_cons_succ]
              refine wpAnyH_ready (rs := [5]) (by kernel_rfl) (by simp) ?_
              refine AllReadyH.cons (o := { dst := some 65, op := Op.call { callee := Callee.value (Operand.func 59), args := #[Operand.tmp 61, Operand.tmp 63, Operand.tmp 64], argTypes := #[3, 23, 23] }, type := 91, pos := "way.go:52", after := #[{ on := 1, ground := Ground.data }, { on := 3, ground := Ground.data }, { on := 4, ground := Ground.data }, { on := 3, ground := Ground.chain }], guard := none }) rfl (fun K hK => ?_) AllReadyH.nil
              go_simp
              refine (nodeStep_any a D1 p LD1.out LP.out Z1 (HK.out.below (HB.out.trans (CZ1.out.below w.heap.size HB.out.size (fun k hk e => by have := (HWY.out.blk e).1; omega))) h0)).mono ?_
              rintro e Z2 ⟨xo, xn, xc, rfl, hp2, hb2⟩
              obtain ⟨D2, hD2⟩ : ∃ D, D = S.hsh a (S.txt a D1 p) := ⟨_, rfl⟩
              rw [← hD2]
              have ED2 := hide hD2
              have LD2 := hide (show D2.length = 32 by rw [hD2, S.hsh_length])
              clear hD2
              have HP2 : Hid (∀ W, Chg (fun k => (Value.slice vo m vc).ownBlock = some k) Z2 W → PartsAt W (.slice xo xn xc) (S.txt a D1 p)) := fun W hW => hp2 W ⟨_, fun k hk => (HWY'.out.blk hk).2, hW⟩
              clear hp2
              replace HWY' : Hid (WyIs a w.heap.size Z2 (.slice vo m vc) (ts ++ [t])) := HWY'.out.below hb2
              have CZ2 : Hid (Chg (fun k => (Value.slice vo m vc).ownBlock = some k) Z Z2) := CZ1.out.then hb2
              clear hb2 CZ1
              clear hHeld
              refine hK.out _ _ CZ2.out (fun hHeld => ?_)
              clear hK K
              try simp only [Act.put, List.setIfInBounds_toArray, List.set_cons_zero, List.set_cons_succ]
              refine wpAnyH_ready (rs := [6]) (by kernel_rfl) (by simp) ?_
              refine step_buildSlice_as (o := { dst := some 66, op := Op.buildSlice 62 1 #[(0, Operand.tmp 65)], type := 62, pos := "way.go:52", after := #[{ on := 5, ground := Ground.data }], guard := none }) rfl rfl 62 1 [(0, .tmp 65)] rfl [(0, .agg (S.stc (.slice xo xn xc, D2)).toArray)] rfl _ _ (bs62one (.slice xo xn xc, D2) LD2.out Z2) AllReadyH.nil ⟨CZ2.out.alloc _, fun hHeld => ?_⟩
              clear hHeld
              simp only [Act.put, List.setIfInBounds_toArray, List.set_cons_zero, List.set_cons_succ]
              obtain ⟨gs, hgs⟩ : ∃ gg, gg = Z2.heap.size := ⟨_, rfl⟩
              rw [← hgs]
              generalize hZ : Z2.alloc _ = Z3
              have hb2 : Below Z2.heap.size Z2 Z3 := by rw [← hZ]; exact (Below.refl _ _).alloc (Nat.le_refl _) _
              have Rgs : Hid (Z3.heap[gs]? = some (.cells (S.stc (.slice xo xn xc, D2)).toArray 91 (0, 0))) := by rw [← hZ, hgs]; exact heap_alloc_new _ _
              have Ggs := hide (show Z.heap.size ≤ gs by rw [hgs]; exact CZ2.out.size)
              clear hZ hgs
              replace HWY' : Hid (WyIs a w.heap.size Z3 (.slice vo m vc) (ts ++ [t])) := HWY'.out.below hb2
              replace HP2 : Hid (∀ W, Chg (fun k => (Value.slice vo m vc).ownBlock = some k) Z3 W → PartsAt W (.slice xo xn xc) (S.txt a D1 p)) := fun W hW => HP2.out W (((Chg.ofBelow' hb2).trans hW (fun _ _ e => e)))
              have CZ3 : Hid (Chg (fun k => (Value.slice vo m vc).ownBlock = some k) Z Z3) := CZ2.out.then hb2
              clear hb2 CZ2
              have hHeld := CZ3.out
              refine wpAnyH_ready (rs := [7]) (by kernel_rfl) (by simp) ?_
              obtain ⟨vn, Z4, hst, hwn, C6⟩ := run_append_st a Z3 w.heap.size gs (.slice vo m vc) (ts ++ [t]) (.slice xo xn xc, D2) (S.txt a D1 p) 62 HWY'.out ED2.out rfl Rgs.out (fun W hW => HP2.out W (hW)) (by rw [← HM.out, HM2.out]; omega) (HB.out.trans (CZ3.out.below w.heap.size HB.out.size (fun k hk e => by have := (HWY.out.blk e).1; omega))).size
              refine step_append_as (o := { dst := some 67, op := Op.call { callee := Callee.builtin Builtin.append, args := #[Operand.tmp 60, Operand.tmp 66], argTypes := #[62, 62] }, type := 62, pos := "way.go:52", after := #[{ on := 0, ground := Ground.data }, { on := 6, ground := Ground.data }, { on := 5, ground := Ground.chain }], guard := none }) rfl rfl (.tmp 60) (.tmp 66) 62 62 rfl (.slice vo m vc) (.slice (some ⟨gs, 0, none⟩) 1 1) rfl rfl vn Z4 hst AllReadyH.nil ⟨CZ3.out.trans C6 (fun k hk e => e), fun hHeld => ?_⟩
              have CZ4 : Hid (Chg (fun k => (Value.slice vo m vc).ownBlock = some k) Z Z4) := CZ3.out.trans C6 (fun k hk e => e)
              obtain ⟨yo, yc, rfl⟩ := hwn.form
              obtain ⟨my, hmy⟩ : ∃ m, m = (ts ++ [t] ++ [S.txt a D1 p]).length := ⟨_, rfl⟩
              have WYG := hide hwn
              rw [← hmy] at WYG ⊢
              clear hmy hwn
              clear hst C6 CZ3
              simp only [Act.put, List.setIfInBounds_toArray, List.set_cons_zero, List.set_cons_succ]
              refine wpAnyH_take (i := 8) (oi := { dst := some 12, op := Op.assign (Operand.tmp 67), type := 62, pos := "way.go:52", after := #[{ on := 7, ground := Ground.data }, { on := 7, ground := Ground.chain }, { on := 0, ground := Ground.phase }, { on := 1, ground := Ground.phase }, { on := 2, ground := Ground.phase }, { on := 3, ground := Ground.phase }, { on := 4, ground := Ground.phase }, { on := 5, ground := Ground.phase }, { on := 6, ground := Ground.phase }, { on := 7, ground := Ground.phase }], guard := none }) (v := ?_) rfl (by kernel_rfl) (by kernel_rfl) (by kernel_rfl) (fun _ _ _ h => h) (Or.inl ⟨by rfl, ?_⟩) (by assumption) ?_
              rotate_left
              · intro w hSw
                clear hSw
                go_simp
                all_goals with_reducible rfl
              simp only [Act.put, List.setIfInBounds_toArray, List.set_cons_zero, List.set_cons_succ]
              refine wpAnyH_done (by kernel_rfl) ?_ _
              refine NoPanic.normal ?_
              rw [ED1.out] at WYG
              have WYF := WYG
              have BF := hide (HB.out.trans (CZ4.out.below w.heap.size HB.out.size (fun k hk e => by have := (HWY.out.blk e).1; omega)))
              clear hHeld
              go_wp2_with fail
              go_roundg gO
              case measure => omega
              case rel => exact ⟨k + 1, f / 2, s / 2, ts ++ [t], _, by omega, by first | rfl | simp, rfl, rfl, by omega, by omega, HUPN, WYF, by simp; omega, BF⟩
end Go.Proofs.YtlbggkmblkhjoaaDoor
