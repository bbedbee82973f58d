/- Records again: each copy's room is bound. -/
import Derived.Test.YtfjkddjdmlnbnaaDoorClc
namespace Go.Proofs.YtfjkddjdmlnbnaaDoor
open Go.RowKit
/-- The first k of the values are copies in blocks of their own, from base on; the others are as they were. -/
structure CopiesC (w : World) (base : Nat) (us vs : List Value) (k : Nat) (rs : List (List UInt8)) : Prop where
  len : us.length = rs.length
  new : ∀ j, j < k → ∃ gj cj, us.getD j default = .slice (some ⟨gj, 0, none⟩) (rs.getD j []).length cj ∧ Room w gj cj (rs.getD j []) ∧ base ≤ gj ∧ cj ≤ 9223372036854775807
  old : ∀ j, k ≤ j → us.getD j default = vs.getD j default
/-- What Records answers. -/
structure RecsC (w0 w : World) (lv : Value) (us : List Value) (rs : List (List UInt8)) : Prop where
  lists : Lists w lv us
  copies : CopiesC w w0.heap.size us us rs.length rs
  own : ∀ k, lv.ownBlock = some k → w0.heap.size ≤ k
theorem RecsC.reads {w0 w : World} {lv : Value} {us : List Value} {rs : List (List UInt8)} (h : RecsC w0 w lv us rs) (hm : ∀ r ∈ rs, r.length ≤ 140737488355328) : Reads w us rs := ⟨h.copies.len, fun j hj => by
  obtain ⟨gj, cj, e, hr, _⟩ := h.copies.new j hj
  rw [e]
  exact hr.sliceAt (hm _ (by rw [List.getD_eq_getElem?_getD, List.getElem?_eq_getElem hj]; exact List.getElem_mem _))⟩
set_option maxHeartbeats 4000000 in
set_option maxRecDepth 10000 in
theorem records_cap (p : Value) (f c t g : Nat) (rs : List (List UInt8)) (tv : Value) (op : Bool) (w : World) (hl : LgHas w g p f c t rs tv op) (hok : (S.hdOf t rs).Ok) (hm : (S.enc rs).length < 1000000) (hne : ∀ r ∈ rs, r ≠ []) :
   Calls Tryd.prog 13 #[.pointer (some ⟨g, 0, none⟩)] w fun e w' => ∃ lv us, e = .returned lv ∧ RecsC w w' lv us rs ∧ Below w.heap.size w w' := by
  obtain ⟨X, hu, hpre, hXm⟩ := hl.text
  obtain ⟨ao, cp, htv⟩ := hu.shape
  subst htv
  obtain ⟨h, hh⟩ : ∃ h, h = S.hdOf t rs := ⟨_, rfl⟩
  have hrow := hl.row
  rw [← hh] at hrow hok
  obtain ⟨U, hU⟩ : ∃ U, U = (S.enc rs).length := ⟨_, rfl⟩
  have HUU : Hid (h.used = U ∧ U = (S.enc rs).length) := ⟨by rw [hh, hU]; rfl, hU⟩
  have hUX : U ≤ X.length := by rw [hU]; exact hpre.length_le
  have hU6 : U < 1000000 := by omega
  have hcap := (hu.sliceAt (by omega)).le_cap
  have hut := hu.take U hUX
  have hx : X.take U = S.enc rs := by rw [hU]; exact (List.prefix_iff_eq_take.1 hpre).symm
  rw [hx] at hut
  have HST := hide (hut.sliceAt (by omega))
  have HROW := hide hrow
  have HOK := hide hok
  have HNE := hide hne
  have HM : Hid ((S.enc rs).length < 1000000) := hm
  have q1 : (0 : Int) ≤ (U : Int) := by omega
  have q2 : (U : Int) ≤ ((X.length : Nat) : Int) := by omega
  have q3 : (U : Int) ≤ (cp : Int) := by omega
  obtain ⟨N0, hN0⟩ : ∃ N0, N0 = X.length := ⟨_, rfl⟩
  rw [← hN0] at q2 HROW
  clear hl hu hpre hXm hh hrow hU hut hx hok hne hN0 hm hUX hcap
  go_enter Tryd.func13, Tryd.ntmps13
  go_upto_region 1 with fail
  refine wp_region_noPanic ?_
  refine wp_region_held_drew (S := (fun W => LgAt W g p f c h (.slice ao N0 cp) op)) follows HROW.out (fun hHeld => ?_)
  have B0 : Hid (Below w.heap.size w w.drew) := (Below.refl _ _).drew
  have ST := hide (HST.out.below B0.out (Nat.le_refl _))
  clear HROW
  generalize w.drew = Z1 at B0 ST hHeld ⊢
  refine wpAnyH_take (i := 0) (oi := { dst := some 8, op := Op.move (Operand.tmp 0), type := 23, pos := "wal.go:51", after := #[], guard := none }) (v := ?_) rfl (by kernel_rfl) (by kernel_rfl) (by kernel_rfl) (fun _ _ _ h => h) (Or.inl ⟨by rfl, ?_⟩) (by assumption) ?_
  rotate_left
  · intro w hSw
    clear hSw
    go_simp
    all_goals with_reducible rfl
  simp only [Act.put, List.setIfInBounds_toArray, List.set_cons_zero, List.set_cons_succ]
  refine wpAnyH_take (i := 1) (oi := { dst := some 9, op := Op.nilCheck (Operand.tmp 8), type := 0, pos := "wal.go:51", after := #[{ on := 0, ground := Ground.data }], guard := none }) (v := ?_) rfl (by kernel_rfl) (by kernel_rfl) (by kernel_rfl) (fun _ _ _ h => h) (Or.inl ⟨by rfl, ?_⟩) (by assumption) ?_
  rotate_left
  · intro w hSw
    clear hSw
    go_simp
    all_goals with_reducible rfl
  simp only [Act.put, List.setIfInBounds_toArray, List.set_cons_zero, List.set_cons_succ]
  refine wpAnyH_take (i := 2) (oi := { dst := some 10, op := Op.fieldAddr 75 (Operand.tmp 9) 2, type := 0, pos := "wal.go:51", after := #[{ on := 1, ground := Ground.data }], guard := none }) (v := ?_) rfl (by kernel_rfl) (by kernel_rfl) (by kernel_rfl) (fun _ _ _ h => h) (Or.inl ⟨by rfl, ?_⟩) (by assumption) ?_
  rotate_left
  · intro w hSw
    clear hSw
    go_simp
    all_goals with_reducible rfl
  simp only [Act.put, List.setIfInBounds_toArray, List.set_cons_zero, List.set_cons_succ]
  refine wpAnyH_take (i := 3) (oi := { dst := some 11, op := Op.load 29 (Operand.tmp 10), type := 29, pos := "wal.go:51", after := #[{ on := 2, ground := Ground.data }], guard := none }) (v := ?_) rfl (by kernel_rfl) (by kernel_rfl) (by kernel_rfl) (fun _ _ _ h => h) (Or.inl ⟨by rfl, ?_⟩) (by assumption) ?_
  rotate_left
  · intro w hSw
    have c37 := LgAt.text hSw HOK.out.sl
    clear hSw
    go_simp
    all_goals with_reducible rfl
  simp only [Act.put, List.setIfInBounds_toArray, List.set_cons_zero, List.set_cons_succ]
  refine wpAnyH_take (i := 4) (oi := { dst := some 12, op := Op.move (Operand.tmp 0), type := 23, pos := "wal.go:51", after := #[], guard := none }) (v := ?_) rfl (by kernel_rfl) (by kernel_rfl) (by kernel_rfl) (fun _ _ _ h => h) (Or.inl ⟨by rfl, ?_⟩) (by assumption) ?_
  rotate_left
  · intro w hSw
    clear hSw
    go_simp
    all_goals with_reducible rfl
  simp only [Act.put, List.setIfInBounds_toArray, List.set_cons_zero, List.set_cons_succ]
  refine wpAnyH_take (i := 5) (oi := { dst := some 13, op := Op.nilCheck (Operand.tmp 12), type := 0, pos := "wal.go:51", after := #[{ on := 4, ground := Ground.data }], guard := none }) (v := ?_) rfl (by kernel_rfl) (by kernel_rfl) (by kernel_rfl) (fun _ _ _ h => h) (Or.inl ⟨by rfl, ?_⟩) (by assumption) ?_
  rotate_left
  · intro w hSw
    clear hSw
    go_simp
    all_goals with_reducible rfl
  simp only [Act.put, List.setIfInBounds_toArray, List.set_cons_zero, List.set_cons_succ]
  refine wpAnyH_take (i := 6) (oi := { dst := some 14, op := Op.fieldAddr 75 (Operand.tmp 13) 1, type := 0, pos := "wal.go:51", after := #[{ on := 5, ground := Ground.data }], guard := none }) (v := ?_) rfl (by kernel_rfl) (by kernel_rfl) (by kernel_rfl) (fun _ _ _ h => h) (Or.inl ⟨by rfl, ?_⟩) (by assumption) ?_
  rotate_left
  · intro w hSw
    clear hSw
    go_simp
    all_goals with_reducible rfl
  simp only [Act.put, List.setIfInBounds_toArray, List.set_cons_zero, List.set_cons_succ]
  refine wpAnyH_take (i := 7) (oi := { dst := some 15, op := Op.fieldAddr 73 (Operand.tmp 14) 1, type := 0, pos := "wal.go:51", after := #[{ on := 6, ground := Ground.data }], guard := none }) (v := ?_) rfl (by kernel_rfl) (by kernel_rfl) (by kernel_rfl) (fun _ _ _ h => h) (Or.inl ⟨by rfl, ?_⟩) (by assumption) ?_
  rotate_left
  · intro w hSw
    clear hSw
    go_simp
    all_goals with_reducible rfl
  simp only [Act.put, List.setIfInBounds_toArray, List.set_cons_zero, List.set_cons_succ]
  refine wpAnyH_take (i := 8) (oi := { dst := some 16, op := Op.load 3 (Operand.tmp 15), type := 3, pos := "wal.go:51", after := #[{ on := 7, ground := Ground.data }], guard := none }) (v := ?_) rfl (by kernel_rfl) (by kernel_rfl) (by kernel_rfl) (fun _ _ _ h => h) (Or.inl ⟨by rfl, ?_⟩) (by assumption) ?_
  rotate_left
  · intro w hSw
    have c4 := LgAt.used hSw
    rw [HUU.out.1] at c4
    clear hSw
    go_simp
    all_goals with_reducible rfl
  simp only [Act.put, List.setIfInBounds_toArray, List.set_cons_zero, List.set_cons_succ]
  refine wpAnyH_take (i := 9) (oi := { dst := some 17, op := Op.slice 29 (Operand.tmp 11) none (some (Operand.tmp 16)) none, type := 29, pos := "wal.go:51", after := #[{ on := 3, ground := Ground.data }, { on := 8, ground := Ground.data }], guard := none }) (v := ?_) rfl (by kernel_rfl) (by kernel_rfl) (by kernel_rfl) (fun _ _ _ h => h) (Or.inl ⟨by rfl, ?_⟩) (by assumption) ?_
  rotate_left
  · intro w hSw
    clear hSw
    go_simp
    all_goals with_reducible rfl
  simp only [Act.put, List.setIfInBounds_toArray, List.set_cons_zero, List.set_cons_succ]
  refine wpAnyH_ready (rs := [10]) (by kernel_rfl) (by simp) ?_
  refine AllReadyH.cons (o := { dst := some 18, op := Op.call { callee := Callee.value (Operand.func 35), args := #[Operand.tmp 17], argTypes := #[29] }, type := 84, pos := "wal.go:51", after := #[{ on := 9, ground := Ground.data }], guard := none }) rfl (fun K hK => ?_) AllReadyH.nil
  go_simp
  refine (split_any _ rs Z1 ST.out HM.out).mono ?_
  rintro e Z2 ⟨lv, vs, rfl, hL, hRd, hOw, b2⟩
  have a2 := LgAt.below hHeld b2 (block_lt_of_row hHeld)
  clear hHeld
  refine hK.out _ _ a2 (fun hHeld => ?_)
  clear hK K
  try simp only [Act.put, List.setIfInBounds_toArray, List.set_cons_zero, List.set_cons_succ]
  have B2 : Hid (Below w.heap.size w Z2) := B0.out.trans (b2.mono B0.out.size)
  have RD : Hid (Reads Z2 vs rs) := hRd.below b2
  have OW : Hid (∀ k, lv.ownBlock = some k → w.heap.size ≤ k) := fun k hk => Nat.le_trans B0.out.size (hOw k hk)
  have RDw : Hid (Reads Z1 vs rs) := hRd
  have LS := hide hL
  have HB12 := hide b2
  have OW1 := hide hOw
  obtain ⟨al, cl, hlv⟩ := hL.shape
  subst hlv
  have hvl := hRd.1
  obtain ⟨N, hN⟩ : ∃ N, N = vs.length := ⟨_, rfl⟩
  rw [← hN] at LS OW OW1 hvl ⊢
  have HN : Hid (N = rs.length ∧ N = vs.length) := ⟨hvl, hN⟩
  have hN6 : N < 1000000 := by have := len_lt rs; have := HM.out; omega
  clear a2 b2 hL hRd hOw hvl hN ST
  refine wpAnyH_take (i := 11) (oi := { dst := some 7, op := Op.move (Operand.tmp 18), type := 84, pos := "wal.go:51", after := #[{ on := 10, ground := Ground.data }], guard := none }) (v := ?_) rfl (by kernel_rfl) (by kernel_rfl) (by kernel_rfl) (fun _ _ _ h => h) (Or.inl ⟨by rfl, ?_⟩) (by assumption) ?_
  rotate_left
  · intro w hSw
    clear hSw
    go_simp
    all_goals with_reducible rfl
  simp only [Act.put, List.setIfInBounds_toArray, List.set_cons_zero, List.set_cons_succ]
  refine wpAnyH_take (i := 12) (oi := { dst := some 19, op := Op.extract (Operand.tmp 7) 0, type := 31, pos := "wal.go:51", after := #[{ on := 11, ground := Ground.data }], guard := none }) (v := ?_) rfl (by kernel_rfl) (by kernel_rfl) (by kernel_rfl) (fun _ _ _ h => h) (Or.inl ⟨by rfl, ?_⟩) (by assumption) ?_
  rotate_left
  · intro w hSw
    clear hSw
    go_simp
    all_goals with_reducible rfl
  simp only [Act.put, List.setIfInBounds_toArray, List.set_cons_zero, List.set_cons_succ]
  refine wpAnyH_take (i := 13) (oi := { dst := some 20, op := Op.extract (Operand.tmp 7) 1, type := 4, pos := "wal.go:51", after := #[{ on := 11, ground := Ground.data }, { on := 14, ground := Ground.gcOnly Departure.lateStores }], guard := none }) (v := ?_) rfl (by kernel_rfl) (by kernel_rfl) (by kernel_rfl) (fun _ _ _ h => h) (Or.inl ⟨by rfl, ?_⟩) (by assumption) ?_
  rotate_left
  · intro w hSw
    clear hSw
    go_simp
    all_goals with_reducible rfl
  simp only [Act.put, List.setIfInBounds_toArray, List.set_cons_zero, List.set_cons_succ]
  refine wpAnyH_take (i := 14) (oi := { dst := some 3, op := Op.assign (Operand.tmp 19), type := 31, pos := "wal.go:51", after := #[{ on := 12, ground := Ground.data }, { on := 10, ground := Ground.chain }, { on := 0, ground := Ground.phase }, { on := 1, ground := Ground.phase }, { on := 2, ground := Ground.phase }, { on := 3, ground := Ground.phase }, { on := 4, ground := Ground.phase }, { on := 5, ground := Ground.phase }, { on := 6, ground := Ground.phase }, { on := 7, ground := Ground.phase }, { on := 8, ground := Ground.phase }, { on := 9, ground := Ground.phase }, { on := 10, ground := Ground.phase }, { on := 11, ground := Ground.phase }, { on := 12, ground := Ground.phase }, { on := 13, ground := Ground.textOnly Departure.lateStores }], guard := none }) (v := ?_) rfl (by kernel_rfl) (by kernel_rfl) (by kernel_rfl) (fun _ _ _ h => h) (Or.inl ⟨by rfl, ?_⟩) (by assumption) ?_
  rotate_left
  · intro w hSw
    clear hSw
    go_simp
    all_goals with_reducible rfl
  simp only [Act.put, List.setIfInBounds_toArray, List.set_cons_zero, List.set_cons_succ]
  refine wpAnyH_take (i := 15) (oi := { dst := some 4, op := Op.assign (Operand.tmp 20), type := 4, pos := "wal.go:51", after := #[{ on := 13, ground := Ground.data }, { on := 14, ground := Ground.chain }, { on := 0, ground := Ground.phase }, { on := 1, ground := Ground.phase }, { on := 2, ground := Ground.phase }, { on := 3, ground := Ground.phase }, { on := 4, ground := Ground.phase }, { on := 5, ground := Ground.phase }, { on := 6, ground := Ground.phase }, { on := 7, ground := Ground.phase }, { on := 8, ground := Ground.phase }, { on := 9, ground := Ground.phase }, { on := 10, ground := Ground.phase }, { on := 11, ground := Ground.phase }, { on := 12, ground := Ground.phase }, { on := 13, ground := Ground.phase }, { on := 14, ground := Ground.phase }], guard := none }) (v := ?_) rfl (by kernel_rfl) (by kernel_rfl) (by kernel_rfl) (fun _ _ _ h => h) (Or.inl ⟨by rfl, ?_⟩) (by assumption) ?_
  rotate_left
  · intro w hSw
    clear hSw
    go_simp
    all_goals with_reducible rfl
  simp only [Act.put, List.setIfInBounds_toArray, List.set_cons_zero, List.set_cons_succ]
  refine wpAnyH_done (by kernel_rfl) ?_ _
  refine NoPanic.normal ?_
  clear hHeld q1 q2 q3
  go_wp2_with fail
  go_loopw [23] (fun i wr => ∃ (k : Nat) (us : List Value), k ≤ N ∧ i = .int .i64 (k : Int) ∧ Lists wr (.slice al N cl) us ∧ CopiesC wr w.heap.size us vs k rs ∧ (∀ gj, gj < Z1.heap.size → wr.heap[gj]? = Z1.heap[gj]?) ∧ Below w.heap.size w wr ∧ Z1.heap.size ≤ wr.heap.size) (fun i _ => N - (intOf i).toNat)
  case atStart => exact ⟨0, vs, Nat.zero_le _, rfl, LS.out, ⟨by rw [← HN.out.2]; exact HN.out.1, fun j hj => absurd hj (Nat.not_lt_zero _), fun _ _ => rfl⟩, fun gj hj => HB12.out.block gj hj, B2.out, HB12.out.size⟩
  case round =>
    obtain ⟨k, us, hk, rfl, hL, hC, hZ, hB, hsz⟩ := hrel
    have LW := hide hL
    have CW := hide hC
    have ZW := hide hZ
    have BW := hide hB
    have hus : us.length = N := by rw [hC.len, ← HN.out.1]
    by_cases hlt : k < N
    · obtain ⟨gl, off, cc, hlv, hcap, hcell⟩ := hL.at k (by omega)
      simp only [Value.slice.injEq] at hlv
      obtain ⟨rfl, hz0, rfl⟩ := hlv
      clear hz0
      rw [hC.old k (Nat.le_refl _)] at hcell
      have hkr : k < rs.length := by rw [← HN.out.1]; exact hlt
      have hsv1 := RDw.out.2 k hkr
      have hsv : SliceAt wr (vs.getD k default) (rs.getD k []) := hsv1.chg ZW.out hsz
      have hrne := HNE.out _ (getD_mem hkr)
      obtain ⟨ax, nx, cx, hx, hnx, hz2⟩ := hsv.form
      rw [hx] at hsv hcell
      obtain ⟨bk, bo, rfl, hy1, hy2, hy3⟩ := hsv.src (List.length_pos_iff.2 hrne)
      clear hy1 hy2 hy3
      have HSV := hide hsv
      have HNX := hide hnx
      have hglw : Hid (w.heap.size ≤ gl) := OW.out gl rfl
      have hglt : gl < wr.heap.size := hL.lt rfl
      have HGLT := hide hglt
      have q1 : (0 : Int) ≤ (k : Int) := by omega
      have q2 : (k : Int) < (N : Int) := by omega
      have q3 : IntKind.i64.wrap ((k : Int) + 1) = (k : Int) + 1 := by rw [IntKind.wrap_i64]; omega
      have HUS := hide hus
      have HGZ : Hid (Z1.heap.size ≤ gl) := OW1.out gl rfl
      clear hL hC hZ hB hus hsv1 hsv hx hnx hz2 hrne hcap hglt
      go_wp2_with fail
      refine (clone_cap bk bo nx cx _ wr HSV.out).mono ?_
      rintro e w3 ⟨g3, c3, rfl, hg3, hr3, hc3, b3⟩
      rw [HNX.out]
      have L3 : Lists w3 (.slice (some ⟨gl, off, none⟩) N cl) us := LW.out.kept fun j hj => b3.block j (LW.out.lt hj)
      obtain ⟨gl', off', cc', hlv, hcap, c3c⟩ := L3.at k (by have := HUS.out; omega)
      simp only [Value.slice.injEq, Option.some.injEq, Addr.mk.injEq, and_true] at hlv
      obtain ⟨⟨rfl, rfl⟩, hz0, rfl⟩ := hlv
      obtain ⟨cur, hrow3, hfr⟩ : ∃ cur, w3.heap[gl]? = some (.cells cur 29 (0, 0)) ∧ True := by
        rcases L3 with ⟨h1, _⟩ | ⟨g', off', c', cur, h1, h2, _⟩
        · simp at h1
        · simp only [Value.slice.injEq, Option.some.injEq, Addr.mk.injEq, and_true] at h1
          obtain ⟨⟨rfl, rfl⟩, _⟩ := h1
          exact ⟨cur, h2, trivial⟩
      have f3 := frozen_of_row _ _ (off + k) _ _ hrow3
      obtain ⟨RL, hRL⟩ : ∃ RL, RL = (rs.getD k []).length := ⟨_, rfl⟩
      rw [← hRL]
      obtain ⟨NV, hNV⟩ : ∃ NV, NV = Value.slice (some ⟨g3, 0, none⟩) RL c3 := ⟨_, rfl⟩
      have L4 := hide (L3.set k NV (by have := HUS.out; omega))
      have hne3 : g3 ≠ gl := by have := HGLT.out; omega
      have C4 : Hid (CopiesC (w3.setCell ⟨gl, off + k, none⟩ NV) w.heap.size (us.set k NV) vs (k + 1) rs) := by
        have chr : ∀ gj, gj ≠ gl → (w3.setCell ⟨gl, off + k, none⟩ NV).heap[gj]? = w3.heap[gj]? := fun gj hj => heap_setCell_other w3 ⟨gl, off + k, none⟩ gj NV hj
        refine ⟨by rw [List.length_set]; exact CW.out.len, fun j hj => ?_, fun j hj => ?_⟩
        · by_cases e : j = k
          · subst e
            refine ⟨g3, c3, ?_, ?_, Nat.le_trans BW.out.size hg3, hc3⟩
            · rw [List.getD_eq_getElem?_getD, List.getElem?_set, if_pos rfl, if_pos (by have := HUS.out; omega), hNV, hRL]
              rfl
            · obtain ⟨cu, r1, r2⟩ := hr3
              exact ⟨cu, (chr g3 hne3).trans r1, r2⟩
          · obtain ⟨gj, cj, e1, e2, e3⟩ := CW.out.new j (by omega)
            refine ⟨gj, cj, ?_, ?_, e3⟩
            · rw [List.getD_eq_getElem?_getD, List.getElem?_set, if_neg (fun x => e x.symm), ← List.getD_eq_getElem?_getD]
              exact e1
            · obtain ⟨cu, r1, r2⟩ := e2
              by_cases hgg : gj = gl
              · exfalso
                subst hgg
                have r3 := (b3.block gj HGLT.out).trans r1
                rw [r3] at hrow3
                injection hrow3 with hrow3
                injection hrow3 with _ hty
                exact absurd hty (by decide)
              · exact ⟨cu, (chr gj hgg).trans ((b3.block gj (block_lt_of_row r1)).trans r1), r2⟩
        · rw [List.getD_eq_getElem?_getD, List.getElem?_set, if_neg (by omega), ← List.getD_eq_getElem?_getD]
          exact CW.out.old j (by omega)
      have Z4 : Hid (∀ gj, gj < Z1.heap.size → (w3.setCell ⟨gl, off + k, none⟩ NV).heap[gj]? = Z1.heap[gj]?) := fun gj hj => by
        have := HGZ.out
        rw [heap_setCell_other w3 ⟨gl, off + k, none⟩ gj NV (by show gj ≠ gl; omega), b3.block gj (by omega)]
        exact ZW.out gj hj
      have B4 : Hid (Below w.heap.size w (w3.setCell ⟨gl, off + k, none⟩ NV)) := (BW.out.trans (b3.mono BW.out.size)).setCell (p := ⟨gl, off + k, none⟩) hglw.out NV
      have S4 : Hid (Z1.heap.size ≤ (w3.setCell ⟨gl, off + k, none⟩ NV).heap.size) := Nat.le_trans (Nat.le_trans hsz b3.size) ((Below.refl 0 w3).setCell (p := ⟨gl, off + k, none⟩) (Nat.zero_le _) NV).size
      subst hNV
      clear hg3 hr3 b3 L3 hcap hz0 hrow3 hfr hne3 hcell hRL
      go_wp2_with fail
      go_roundw
      case rel => exact ⟨k + 1, _, by omega, by go_num, L4.out, C4.out, Z4.out, B4.out, S4.out⟩
      case measure => simp [intOf]; omega
    · have q2 : ¬ ((k : Int) < (N : Int)) := by omega
      have hkN : k = N := by omega
      have HKN := hide hkN
      clear hL hC hZ hB hkN hus
      go_wp2_with fail
      go_ret
      refine ⟨_, rfl, ⟨us, LW.out, ?_, OW.out⟩, BW.out⟩
      have hc := CW.out
      rw [HKN.out, HN.out.1] at hc
      exact ⟨hc.len, hc.new, fun _ _ => rfl⟩
end Go.Proofs.YtfjkddjdmlnbnaaDoor
