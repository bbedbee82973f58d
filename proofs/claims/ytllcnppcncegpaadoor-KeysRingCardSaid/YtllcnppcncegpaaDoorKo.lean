/- A ring's Holds. -/
import Derived.Test.YtllcnppcncegpaaDoorKm
namespace Go.Proofs.YtllcnppcncegpaaDoor
open Go.RowKit

namespace S
def rholds (T : List (List (List UInt8))) (x : Sg) : Bool := isT x.h.tree && (decide (0 ≤ x.h.epoch) && (decide (x.h.epoch < (eps T x.h.tree : Int)) && (mac (keyAt T x.h.tree x.h.epoch.toNat) (hb x.h) == x.tag)))
end S
set_option maxHeartbeats 8000000 in
set_option maxRecDepth 10000 in
theorem ringHolds_any (o : Rn) (ks : List UInt8) (T : List (List (List UInt8))) (x : S.Sg) (w : World) (ho : RgIs w o ks T) (hok : x.h.Ok) (ht : x.tag.length = 32) (hK : KAt w) :
   Calls Tryd.prog 12 #[.pointer (some ⟨o.gr, 0, none⟩), .agg (encG x).toArray] w fun e w' => e = .returned (.bool (S.rholds T x)) ∧ Below w.heap.size w w' := by
  have HO := hide ho
  have HK := hide hK
  have h0 := hK.pos
  have HOK := hide hok
  have HR := hide hok.r
  have HTL := hide ht
  obtain ⟨gr, sv, vs⟩ := o
  clear ho hK hok ht
  go_enter Tryd.func12, Tryd.ntmps12
  go_upto_region 1 with fail
  generalize hW0 : w.alloc _ = W0
  have B0 : Below w.heap.size w W0 := by rw [← hW0]; exact (Below.refl _ _).alloc (Nat.le_refl _) _
  have s0 : W0.heap.size = w.heap.size + 1 := by rw [← hW0]; simp
  have r0 : W0.heap[w.heap.size]? = some (.cells (encG x).toArray 34 (0, 0)) := by rw [← hW0]; exact heap_alloc_new _ _
  have BB : Hid (Below w.heap.size w W0) := B0
  have Q0 : Hid (W0.heap[w.heap.size]? = some (.cells (encG x).toArray 34 (0, 0))) := r0
  clear hW0 B0 s0 r0
  refine wp_region_noPanic ?_
  refine wp_region_held_drew (S := (fun W => Chg (fun _ => False) W0 W)) follows ((Chg.refl _ _).drew) (fun hHeld => ?_)
  clear hHeld
  have hHeld : Chg (fun _ => False) W0 W0.drew := (Chg.refl _ _).drew
  have CZ0 := hide hHeld
  have Q0' : Hid (W0.drew.heap[w.heap.size]? = some (.cells (encG x).toArray 34 (0, 0))) := Q0.out
  generalize W0.drew = Z0 at CZ0 hHeld Q0' ⊢
  refine wpAnyH_take (i := 0) (oi := { dst := some 7, op := Op.fieldAddr 34 (Operand.tmp 3) 0, type := 0, pos := "ring.go:54", after := #[], guard := none }) (v := ?_) rfl (by kernel_rfl) (by kernel_rfl) (by kernel_rfl) (fun _ _ _ h => h) (Or.inl ⟨by rfl, ?_⟩) (by assumption) ?_
  rotate_left
  · intro w hSw
    clear hSw
    go_simp
    all_goals with_reducible rfl
  simp only [Act.put, List.setIfInBounds_toArray, List.set_cons_zero, List.set_cons_succ]
  refine wpAnyH_take (i := 1) (oi := { dst := some 8, op := Op.fieldAddr 32 (Operand.tmp 7) 0, type := 0, pos := "ring.go:54", after := #[{ on := 0, ground := Ground.data }], guard := none }) (v := ?_) rfl (by kernel_rfl) (by kernel_rfl) (by kernel_rfl) (fun _ _ _ h => h) (Or.inl ⟨by rfl, ?_⟩) (by assumption) ?_
  rotate_left
  · intro w hSw
    clear hSw
    go_simp
    all_goals with_reducible rfl
  simp only [Act.put, List.setIfInBounds_toArray, List.set_cons_zero, List.set_cons_succ]
  refine wpAnyH_take (i := 2) (oi := { dst := some 9, op := Op.load 3 (Operand.tmp 8), type := 3, pos := "ring.go:54", after := #[{ on := 1, ground := Ground.data }], guard := none }) (v := ?_) rfl (by kernel_rfl) (by kernel_rfl) (by kernel_rfl) (fun _ _ _ h => h) (Or.inl ⟨by rfl, ?_⟩) (by assumption) ?_
  rotate_left
  · intro w hSw
    obtain ⟨c0, c1, c2, c3⟩ := g_cells (hSw.row Q0.out (fun e => e))
    clear hSw
    go_simp
    all_goals with_reducible rfl
  simp only [Act.put, List.setIfInBounds_toArray, List.set_cons_zero, List.set_cons_succ]
  refine wpAnyH_take (i := 3) (oi := { dst := some 10, op := Op.fieldAddr 34 (Operand.tmp 3) 0, type := 0, pos := "ring.go:54", after := #[{ on := 6, ground := Ground.gcOnly Departure.lateStores }], guard := none }) (v := ?_) rfl (by kernel_rfl) (by kernel_rfl) (by kernel_rfl) (fun _ _ _ h => h) (Or.inl ⟨by rfl, ?_⟩) (by assumption) ?_
  rotate_left
  · intro w hSw
    clear hSw
    go_simp
    all_goals with_reducible rfl
  simp only [Act.put, List.setIfInBounds_toArray, List.set_cons_zero, List.set_cons_succ]
  refine wpAnyH_take (i := 4) (oi := { dst := some 11, op := Op.fieldAddr 32 (Operand.tmp 10) 1, type := 0, pos := "ring.go:54", after := #[{ on := 3, ground := Ground.data }, { on := 6, ground := Ground.gcOnly Departure.lateStores }], guard := none }) (v := ?_) rfl (by kernel_rfl) (by kernel_rfl) (by kernel_rfl) (fun _ _ _ h => h) (Or.inl ⟨by rfl, ?_⟩) (by assumption) ?_
  rotate_left
  · intro w hSw
    clear hSw
    go_simp
    all_goals with_reducible rfl
  simp only [Act.put, List.setIfInBounds_toArray, List.set_cons_zero, List.set_cons_succ]
  refine wpAnyH_take (i := 5) (oi := { dst := some 12, op := Op.load 3 (Operand.tmp 11), type := 3, pos := "ring.go:54", after := #[{ on := 4, ground := Ground.data }, { on := 6, ground := Ground.gcOnly Departure.lateStores }], guard := none }) (v := ?_) rfl (by kernel_rfl) (by kernel_rfl) (by kernel_rfl) (fun _ _ _ h => h) (Or.inl ⟨by rfl, ?_⟩) (by assumption) ?_
  rotate_left
  · intro w hSw
    obtain ⟨c0, c1, c2, c3⟩ := g_cells (hSw.row Q0.out (fun e => e))
    clear hSw
    go_simp
    all_goals with_reducible rfl
  simp only [Act.put, List.setIfInBounds_toArray, List.set_cons_zero, List.set_cons_succ]
  refine wpAnyH_take (i := 6) (oi := { dst := some 5, op := Op.assign (Operand.tmp 9), type := 3, pos := "ring.go:54", after := #[{ on := 2, ground := Ground.data }, { on := 0, ground := Ground.phase }, { on := 1, ground := Ground.phase }, { on := 2, ground := Ground.phase }, { on := 3, ground := Ground.textOnly Departure.lateStores }, { on := 4, ground := Ground.textOnly Departure.lateStores }, { on := 5, ground := Ground.textOnly Departure.lateStores }], guard := none }) (v := ?_) rfl (by kernel_rfl) (by kernel_rfl) (by kernel_rfl) (fun _ _ _ h => h) (Or.inl ⟨by rfl, ?_⟩) (by assumption) ?_
  rotate_left
  · intro w hSw
    clear hSw
    go_simp
    all_goals with_reducible rfl
  simp only [Act.put, List.setIfInBounds_toArray, List.set_cons_zero, List.set_cons_succ]
  refine wpAnyH_take (i := 7) (oi := { dst := some 6, op := Op.assign (Operand.tmp 12), type := 3, pos := "ring.go:54", after := #[{ on := 5, ground := Ground.data }, { on := 6, ground := Ground.chain }, { on := 0, ground := Ground.phase }, { on := 1, ground := Ground.phase }, { on := 2, ground := Ground.phase }, { on := 3, ground := Ground.phase }, { on := 4, ground := Ground.phase }, { on := 5, ground := Ground.phase }, { on := 6, ground := Ground.phase }], guard := none }) (v := ?_) rfl (by kernel_rfl) (by kernel_rfl) (by kernel_rfl) (fun _ _ _ h => h) (Or.inl ⟨by rfl, ?_⟩) (by assumption) ?_
  rotate_left
  · intro w hSw
    clear hSw
    go_simp
    all_goals with_reducible rfl
  simp only [Act.put, List.setIfInBounds_toArray, List.set_cons_zero, List.set_cons_succ]
  refine wpAnyH_done (by kernel_rfl) ?_ _
  refine NoPanic.normal ?_
  clear hHeld
  have BX := hide (BB.out.trans (CZ0.out.below w.heap.size BB.out.size (fun k hk e => by omega)))
  generalize Z0 = X at BX Q0' ⊢
  clear CZ0 Q0 BB
  have HX := hide (HO.out.below BX.out)
  by_cases hT : S.isT x.h.tree = true
  · obtain ⟨n, hn1, hn⟩ := S.isT_nat hT
    have HT := hide hT
    by_cases hneg : x.h.epoch < 0
    · have HB : Hid (S.rholds T x = false) := by show S.rholds T x = false; simp [S.rholds, show ¬ (0 ≤ x.h.epoch) by omega]
      clear hn1 hT
      go_wp2_with fail
      refine (isTree_any x.h.tree X).mono ?_
      rintro r _ ⟨rfl, rfl⟩
      rw [HT.out]
      go_wp2_with fail
      go_ret
      exact ⟨by rw [HB.out]; rfl, BX.out⟩
    · obtain ⟨e, he⟩ : ∃ e : Nat, x.h.epoch = (e : Int) := ⟨x.h.epoch.toNat, by omega⟩
      have hl : (T.getD n []).length = S.eps T x.h.tree := by rw [hn1]; simp [S.eps]
      have hd := HX.out.rows n hn
      simp only at hd
      have hrow := HX.out.row
      have hvn := HX.out.vn
      simp only at hrow hvn
      obtain ⟨vo, vc, hv⟩ := hd.form
      rw [hl] at hv
      have c1 := row_cell hrow hvn n hn
      rw [hv] at c1
      have qe0 : (0 : Int) ≤ (e : Int) := by omega
      have qe1 : ¬ (e : Int) < 0 := by omega
      have q1 : (0 : Int) ≤ (n : Int) := by omega
      have q2 : (n : Int) < 16 := by omega
      by_cases hlt : x.h.epoch < (S.eps T x.h.tree : Int)
      · have HB : Hid (S.rholds T x = (S.mac (S.keyAt T x.h.tree e) (S.hb x.h) == x.tag)) := by show S.rholds T x = _; rw [S.rholds, hT, show decide (0 ≤ x.h.epoch) = true by simp; omega, show decide (x.h.epoch < (S.eps T x.h.tree : Int)) = true by simpa using hlt, show x.h.epoch.toNat = e by omega]; simp
        have hda := hd.dgAt (by have := HX.out.few n; omega) (HX.out.d32 n)
        obtain ⟨gk, ok, vc', hv', hgk, hrk, hkl⟩ := dg_at hda e (by omega)
        rw [hl] at hv'
        have hkey : (T.getD n []).getD e [] = S.keyAt T x.h.tree e := by rw [S.keyAt, hn1]; rfl
        rw [hkey] at hrk hkl
        obtain ⟨Ky, hKK⟩ : ∃ K, K = S.keyAt T x.h.tree e := ⟨_, rfl⟩
        rw [← hKK] at hrk hkl HB
        replace c1 := row_cell hrow hvn n hn
        rw [hv'] at c1
        obtain ⟨m, hm⟩ : ∃ m, m = S.eps T x.h.tree := ⟨_, rfl⟩
        rw [← hm] at c1 hv' hlt
        have qlt : (e : Int) < (m : Int) := by omega
        have qge : ¬ (m : Int) ≤ (e : Int) := by omega
        have VV := hide hv'
        have HKL := hide hkl
        have KR := hide hrk
        have LGK := hide hgk
        have RR := hide hrow
        have VN := hide hvn
        clear hv hv' hl hd hda hkey hKK hm hkl hrk hgk hlt hneg hrow hvn
        rw [hn1, he]
        rw [hn1] at HT
        have HE1 := hide hn1
        clear hn1 he hT
        go_wp2_with fail
        refine (isTree_any (n : Int) X).mono ?_
        rintro r _ ⟨rfl, rfl⟩
        rw [HT.out]
        go_upto_region 4 with fail
        clear c1
        refine wp_region_noPanic ?_
        refine wp_region_held_drew (S := (fun W => Chg (fun _ => False) X W)) follows ((Chg.refl _ _).drew) (fun hHeld => ?_)
        clear hHeld
        have hHeld : Chg (fun _ => False) X X.drew := (Chg.refl _ _).drew
        have CZ0 := hide hHeld
        have Q0'' : Hid (X.drew.heap[w.heap.size]? = some (.cells (encG x).toArray 34 (0, 0))) := Q0'.out
        generalize X.drew = Z0 at CZ0 hHeld Q0'' ⊢
        refine wpAnyH_take (i := 0) (oi := { dst := some 31, op := Op.move (Operand.tmp 0), type := 22, pos := "ring.go:58", after := #[], guard := none }) (v := ?_) rfl (by kernel_rfl) (by kernel_rfl) (by kernel_rfl) (fun _ _ _ h => h) (Or.inl ⟨by rfl, ?_⟩) (by assumption) ?_
        rotate_left
        · intro w hSw
          clear hSw
          go_simp
          all_goals with_reducible rfl
        simp only [Act.put, List.setIfInBounds_toArray, List.set_cons_zero, List.set_cons_succ]
        refine wpAnyH_take (i := 1) (oi := { dst := some 32, op := Op.move (Operand.tmp 5), type := 3, pos := "ring.go:58", after := #[], guard := none }) (v := ?_) rfl (by kernel_rfl) (by kernel_rfl) (by kernel_rfl) (fun _ _ _ h => h) (Or.inl ⟨by rfl, ?_⟩) (by assumption) ?_
        rotate_left
        · intro w hSw
          clear hSw
          go_simp
          all_goals with_reducible rfl
        simp only [Act.put, List.setIfInBounds_toArray, List.set_cons_zero, List.set_cons_succ]
        refine wpAnyH_take (i := 2) (oi := { dst := some 33, op := Op.nilCheck (Operand.tmp 31), type := 0, pos := "ring.go:58", after := #[{ on := 0, ground := Ground.data }], guard := none }) (v := ?_) rfl (by kernel_rfl) (by kernel_rfl) (by kernel_rfl) (fun _ _ _ h => h) (Or.inl ⟨by rfl, ?_⟩) (by assumption) ?_
        rotate_left
        · intro w hSw
          clear hSw
          go_simp
          all_goals with_reducible rfl
        simp only [Act.put, List.setIfInBounds_toArray, List.set_cons_zero, List.set_cons_succ]
        refine wpAnyH_take (i := 3) (oi := { dst := some 34, op := Op.fieldAddr 72 (Operand.tmp 33) 1, type := 0, pos := "ring.go:58", after := #[{ on := 2, ground := Ground.data }], guard := none }) (v := ?_) rfl (by kernel_rfl) (by kernel_rfl) (by kernel_rfl) (fun _ _ _ h => h) (Or.inl ⟨by rfl, ?_⟩) (by assumption) ?_
        rotate_left
        · intro w hSw
          clear hSw
          go_simp
          all_goals with_reducible rfl
        simp only [Act.put, List.setIfInBounds_toArray, List.set_cons_zero, List.set_cons_succ]
        refine wpAnyH_take (i := 4) (oi := { dst := some 35, op := Op.indexAddr 70 (Operand.tmp 34) (Operand.tmp 32), type := 0, pos := "ring.go:58", after := #[{ on := 3, ground := Ground.data }, { on := 1, ground := Ground.data }], guard := none }) (v := ?_) rfl (by kernel_rfl) (by kernel_rfl) (by kernel_rfl) (fun _ _ _ h => h) (Or.inl ⟨by rfl, ?_⟩) (by assumption) ?_
        rotate_left
        · intro w hSw
          clear hSw
          go_simp
          all_goals with_reducible rfl
        simp only [Act.put, List.setIfInBounds_toArray, List.set_cons_zero, List.set_cons_succ]
        refine wpAnyH_take (i := 5) (oi := { dst := some 36, op := Op.load 69 (Operand.tmp 35), type := 69, pos := "ring.go:58", after := #[{ on := 4, ground := Ground.data }], guard := none }) (v := ?_) rfl (by kernel_rfl) (by kernel_rfl) (by kernel_rfl) (fun _ _ _ h => h) (Or.inl ⟨by rfl, ?_⟩) (by assumption) ?_
        rotate_left
        · intro w hSw
          have c0 := (row_cell (hSw.row RR.out (fun e => e)) VN.out n hn).trans (by rw [VV.out])
          clear hSw
          go_simp
          all_goals with_reducible rfl
        simp only [Act.put, List.setIfInBounds_toArray, List.set_cons_zero, List.set_cons_succ]
        refine wpAnyH_take (i := 6) (oi := { dst := some 37, op := Op.move (Operand.tmp 6), type := 3, pos := "ring.go:58", after := #[], guard := none }) (v := ?_) rfl (by kernel_rfl) (by kernel_rfl) (by kernel_rfl) (fun _ _ _ h => h) (Or.inl ⟨by rfl, ?_⟩) (by assumption) ?_
        rotate_left
        · intro w hSw
          clear hSw
          go_simp
          all_goals with_reducible rfl
        simp only [Act.put, List.setIfInBounds_toArray, List.set_cons_zero, List.set_cons_succ]
        refine wpAnyH_take (i := 7) (oi := { dst := some 38, op := Op.indexAddr 69 (Operand.tmp 36) (Operand.tmp 37), type := 0, pos := "ring.go:58", after := #[{ on := 5, ground := Ground.data }, { on := 6, ground := Ground.data }], guard := none }) (v := ?_) rfl (by kernel_rfl) (by kernel_rfl) (by kernel_rfl) (fun _ _ _ h => h) (Or.inl ⟨by rfl, ?_⟩) (by assumption) ?_
        rotate_left
        · intro w hSw
          clear hSw
          go_simp
          all_goals with_reducible rfl
        simp only [Act.put, List.setIfInBounds_toArray, List.set_cons_zero, List.set_cons_succ]
        refine wpAnyH_take (i := 8) (oi := { dst := some 39, op := Op.load 30 (Operand.tmp 38), type := 30, pos := "ring.go:58", after := #[{ on := 7, ground := Ground.data }], guard := none }) (v := .agg (S.v8l Ky).toArray) rfl (by kernel_rfl) (by kernel_rfl) (by kernel_rfl) (fun _ _ _ h => h) (yieldsIf_load_mid (by rfl) _ _ rfl gk (ok + e * 32) rfl (S.v8l Ky) _ (fun _ hSw => (fun j v hjv => (World.cell?_of_block (hSw.block gk LGK.out (fun e => e))).trans (KR.out j v hjv))) Tryd.underlying30 rfl (by rw [size_dig _ HKL.out, S.v8_size, S.v8l_length])) (by assumption) ?_
        simp only [Act.put, List.setIfInBounds_toArray, List.set_cons_zero, List.set_cons_succ]
        refine wpAnyH_take (i := 9) (oi := { dst := some 40, op := Op.load 34 (Operand.tmp 3), type := 34, pos := "ring.go:58", after := #[], guard := none }) (v := .agg (encG x).toArray) rfl (by kernel_rfl) (by kernel_rfl) (by kernel_rfl) (fun _ _ _ h => h) (yieldsIf_load_mid (by rfl) _ _ rfl w.heap.size 0 rfl (encG x) _ (fun _ hSw => rangeAt_row (hSw.row Q0'.out (fun e => e))) Tryd.underlying34 rfl (by rw [size_g _ HR.out HTL.out, List.size_toArray])) (by assumption) ?_
        simp only [Act.put, List.setIfInBounds_toArray, List.set_cons_zero, List.set_cons_succ]
        refine wpAnyH_ready (rs := [10]) (by kernel_rfl) (by simp) ?_
        refine AllReadyH.cons (o := { dst := some 41, op := Op.call { callee := Callee.value (Operand.func 22), args := #[Operand.tmp 39, Operand.tmp 40], argTypes := #[30, 34] }, type := 4, pos := "ring.go:58", after := #[{ on := 8, ground := Ground.data }, { on := 9, ground := Ground.data }], guard := none }) rfl (fun K hK => ?_) AllReadyH.nil
        go_simp
        refine (holds_any Ky x Z0 HKL.out HOK.out HTL.out (HK.out.below (BX.out.trans (CZ0.out.below w.heap.size BX.out.size (fun k hk e => by omega))) h0)).mono ?_
        rintro e Z1 ⟨rfl, hb2⟩
        obtain ⟨b, hb⟩ : ∃ b, b = (S.mac Ky (S.hb x.h) == x.tag) := ⟨_, rfl⟩
        rw [← hb] at HB ⊢
        clear hb
        replace Q0'' : Hid (Z1.heap[w.heap.size]? = some (.cells (encG x).toArray 34 (0, 0))) := (hb2.block _ (block_lt_of_row Q0''.out)).trans Q0''.out
        have CZ1 : Hid (Chg (fun _ => False) X Z1) := CZ0.out.then hb2
        clear hb2 CZ0
        clear hHeld
        refine hK.out _ _ CZ1.out (fun hHeld => ?_)
        clear hK K
        try simp only [Act.put, List.setIfInBounds_toArray, List.set_cons_zero, List.set_cons_succ]
        refine wpAnyH_take (i := 11) (oi := { dst := some 4, op := Op.assign (Operand.tmp 41), type := 4, pos := "ring.go:58", after := #[{ on := 10, ground := Ground.data }, { on := 10, ground := Ground.chain }, { on := 0, ground := Ground.phase }, { on := 1, ground := Ground.phase }, { on := 2, ground := Ground.phase }, { on := 3, ground := Ground.phase }, { on := 4, ground := Ground.phase }, { on := 5, ground := Ground.phase }, { on := 6, ground := Ground.phase }, { on := 7, ground := Ground.phase }, { on := 8, ground := Ground.phase }, { on := 9, ground := Ground.phase }, { on := 10, ground := Ground.phase }], guard := none }) (v := ?_) rfl (by kernel_rfl) (by kernel_rfl) (by kernel_rfl) (fun _ _ _ h => h) (Or.inl ⟨by rfl, ?_⟩) (by assumption) ?_
        rotate_left
        · intro w hSw
          clear hSw
          go_simp
          all_goals with_reducible rfl
        simp only [Act.put, List.setIfInBounds_toArray, List.set_cons_zero, List.set_cons_succ]
        refine wpAnyH_done (by kernel_rfl) ?_ _
        refine NoPanic.normal ?_
        have BF := hide (BX.out.trans (CZ1.out.below w.heap.size BX.out.size (fun k hk e => by omega)))
        clear hHeld
        generalize Z1 = Y at BF ⊢
        go_wp2_with fail
        go_ret
        exact ⟨by rw [HB.out]; rfl, BF.out⟩
      · have HB : Hid (S.rholds T x = false) := by show S.rholds T x = false; simp [S.rholds, hlt]
        obtain ⟨m, hm⟩ : ∃ m, m = S.eps T x.h.tree := ⟨_, rfl⟩
        rw [← hm] at c1 hlt
        have qge : (m : Int) ≤ (e : Int) := by omega
        rw [hn1, he]
        rw [hn1] at HT
        clear hn1 he hT hv hl hd hm hrow hvn hlt hneg
        go_wp2_with fail
        refine (isTree_any (n : Int) X).mono ?_
        rintro r _ ⟨rfl, rfl⟩
        rw [HT.out]
        go_wp2_with fail
        go_ret
        exact ⟨by rw [HB.out]; rfl, BX.out⟩
  · have hT2 : S.isT x.h.tree = false := by simpa using hT
    have HT := hide hT2
    have HB : Hid (S.rholds T x = false) := by show S.rholds T x = false; simp [S.rholds, hT2]
    clear hT hT2
    go_wp2_with fail
    refine (isTree_any x.h.tree X).mono ?_
    rintro r _ ⟨rfl, rfl⟩
    rw [HT.out]
    go_wp2_with fail
    go_ret
    exact ⟨by rw [HB.out]; rfl, BX.out⟩
end Go.Proofs.YtllcnppcncegpaaDoor
