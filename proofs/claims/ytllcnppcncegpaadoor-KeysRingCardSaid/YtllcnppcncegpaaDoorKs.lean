/- KeysSign. -/
import Derived.Test.YtllcnppcncegpaaDoorKr
namespace Go.Proofs.YtllcnppcncegpaaDoor
open Go.RowKit

theorem step_conv_as {md : Region.Mode} {ops : Array Oper} {Q : Exit → Act → World → Prop} {S : World → Prop} {fuel : Nat} {listed : Array Bool} {a : Act} {w : World} {i : Nat} {o : Oper} {rs : List Nat} (ho : ops[i]? = some o) (hw : Region.wanted o (yielded ops a.tmps) = true) (t1 t2 : TypeId) (x : Operand)
    (hop : o.op = .convert t1 t2 x) (vx : Value) (hx : a.eval x = vx) (v' : Value) (hr : (convert t1 t2 vx).run Tryd.prog w = .ok v' w) (hrest : AllReadyH Tryd.prog md ops Q S fuel listed a w rs)
    (h : S w ∧ (S w → wpAnyH Tryd.prog md ops Q S fuel (listed.setIfInBounds i true) (a.put o.dst v') w)) : AllReadyH Tryd.prog md ops Q S fuel listed a w (i :: rs) := by
  subst hx
  refine AllReadyH.cons ho (fun K hK => ?_) hrest
  rw [if_pos hw]
  unfold Oper.wp execOp
  simp only [hop, Sem.run_bind, hr, Result.andThen_ok]
  exact hK.out _ _ h.1 h.2
theorem S.Sg.eqb_self (x : S.Sg) : x.eqb x = true := by rw [S.Sg.eqb, S.Hd.eqb_self]; simp
theorem S.sign_holds (k : List UInt8) (h : S.Hd) : (S.mac k (S.hb (S.sign k h).h) == (S.sign k h).tag) = true := by rw [S.sign_root, S.sign_tag]; simp
theorem equal_same (D : List UInt8) (hD : D.length = 32) (W : World) : (Op.equalIn 10000 30 (.agg (S.v8l D).toArray) (.agg (S.v8 D))).run Tryd.prog W = .ok true W := by
  rw [← S.v8_eq]; exact equal_dig D D hD hD true (by simp) W
theorem equal_gs (x : S.Sg) (hr : x.h.root.length = 32) (ht : x.tag.length = 32) (W : World) : (Op.equalIn 10000 34 (.agg (encG x).toArray) (.agg (encG x).toArray)).run Tryd.prog W = .ok true W := by
  have := equal_g x x hr hr ht ht W
  rw [S.Sg.eqb_self] at this
  exact this
set_option maxHeartbeats 40000000 in
set_option maxRecDepth 10000 in
theorem keysSign_walk (sv : Value) (ks : List UInt8) (tree epoch : Int) (draw : Nat) (h : S.Hd) (x : S.Sg) (w : World) (hs : SliceAt w sv ks) (hd : draw < 4294967296) (hok : h.Ok) (hxo : x.h.Ok) (hxt : x.tag.length = 32) (hK : KAt w) :
   Calls Tryd.prog 4 #[sv, .int .i64 tree, .int .i64 epoch, .int .u32 (draw : Int), .agg (encH h).toArray, .agg (encG x).toArray] w fun e w' => e = .returned (.bool true) ∧ Below w.heap.size w w' := by
  obtain ⟨so, sn, sc, rfl, hsn, hsm⟩ := hs.form
  have hcap := hs.le_cap
  have HS := hide hs
  have HK := hide hK
  have h0 := hK.pos
  have HDR := hide hd
  have HOK := hide hok
  have HR := hide hok.r
  have XOK := hide hxo
  have XR := hide hxo.r
  have XT := hide hxt
  have HSN := hide hsn
  clear hs hK hd hok hxo hxt hsn
  go_enter Tryd.func4, Tryd.ntmps4
  go_upto_region 1 with fail
  generalize hW0 : w.alloc _ = W0
  generalize hW1 : W0.alloc _ = W1
  have B0 : Below w.heap.size w W0 := by rw [← hW0]; exact (Below.refl _ _).alloc (Nat.le_refl _) _
  have s0 : W0.heap.size = w.heap.size + 1 := by rw [← hW0]; simp
  have r0 : W0.heap[w.heap.size]? = some (.cells (encH h).toArray 32 (0, 0)) := by rw [← hW0]; exact heap_alloc_new _ _
  have B1 : Below W0.heap.size W0 W1 := by rw [← hW1]; exact (Below.refl _ _).alloc (Nat.le_refl _) _
  have s1 : W1.heap.size = w.heap.size + 2 := by rw [← hW1]; simp [s0]
  have r1 : W1.heap[w.heap.size + 1]? = some (.cells (encG x).toArray 34 (0, 0)) := by rw [← hW1, ← s0]; exact heap_alloc_new _ _
  have BB : Hid (Below w.heap.size w W1) := (B0.trans (B1.mono (by omega)))
  have Q0 : Hid (W1.heap[w.heap.size]? = some (.cells (encH h).toArray 32 (0, 0))) := ((B1.block _ (by omega)).trans r0)
  have Q1 : Hid (W1.heap[w.heap.size + 1]? = some (.cells (encG x).toArray 34 (0, 0))) := r1
  clear hW0 B0 s0 r0 hW1 B1 s1 r1
  go_wp2_with fail
  refine (new_any W1).mono ?_
  rintro r W2 ⟨gT, rfl, hgT, hrT, hbT⟩
  have B2 := hide (BB.out.trans (hbT.mono BB.out.size))
  have RT := hide hrT
  have P0 : Hid (W2.heap[w.heap.size]? = some (.cells (encH h).toArray 32 (0, 0))) := (hbT.block _ (block_lt_of_row Q0.out)).trans Q0.out
  have P1 : Hid (W2.heap[w.heap.size + 1]? = some (.cells (encG x).toArray 34 (0, 0))) := (hbT.block _ (block_lt_of_row Q1.out)).trans Q1.out
  have S2 := hide (HS.out.below B2.out (Nat.le_refl _))
  clear hgT hrT hbT Q0 Q1 BB HS
  go_upto_if 20 with fail
  go_cut [0] (fun v wc => W2 = wc ∧ ∃ (a : Option Addr) (l c : Nat) (bs : List UInt8), v = .slice a l c ∧ l = bs.length ∧ l ≤ 200 ∧ Hid (SliceAt W2 (.slice a l c) bs))
  case first =>
    by_cases hlt : 200 < sn
    · have q1 : (200 : Int) < (sn : Int) := by omega
      have q2 : (200 : Int) ≤ (sc : Int) := by omega
      have Z := hide (part_to S2.out 200 (by omega))
      have ZL := hide (show 200 = (ks.take 200).length by rw [List.length_take, ← HSN.out]; omega)
      go_wp2_with fail
      go_meet
      exact ⟨rfl, so, 200, sc, ks.take 200, rfl, ZL.out, Nat.le_refl _, Z⟩
    · have q1 : ¬ ((200 : Int) < (sn : Int)) := by omega
      go_wp2_with fail
      go_meet
      exact ⟨rfl, so, sn, sc, ks, rfl, HSN.out, by omega, S2⟩
  case rest =>
    obtain ⟨rfl, a, l, c, bs, rfl, hl, hl2, SB⟩ := hcut
    clear HSN S2 hsm hcap
    have HL := hide hl
    clear hl
    go_wp2_with fail
    refine (roomy_any (.slice a l c) bs W2 SB.out (by have := HL.out; omega)).mono ?_
    rintro r W3 ⟨gF, rfl, hgF, hrF, hbF⟩
    rw [← HL.out]
    obtain ⟨N, hN⟩ : ∃ N, N = l + 80 := ⟨_, rfl⟩
    rw [← hN]
    have qN : (l : Int) ≤ (N : Int) := by omega
    have ql : (0 : Int) ≤ (l : Int) := by omega
    have B3 := hide (B2.out.trans (hbF.mono B2.out.size))
    have RF := hide hrF
    have HN := hide hN
    have SF := hide (show SliceAt W3 (.slice (some ⟨gF, 0, none⟩) l N) bs by have := roomy_at hrF (by have := HL.out; omega) N (by have := HL.out; omega); rw [← HL.out] at this; exact this)
    replace RT := hide ((hbF.block _ (block_lt_of_row RT.out)).trans RT.out)
    replace P0 := hide ((hbF.block _ (block_lt_of_row P0.out)).trans P0.out)
    replace P1 := hide ((hbF.block _ (block_lt_of_row P1.out)).trans P1.out)
    replace SB := hide (SB.out.below hbF (Nat.le_refl _))
    clear hgF hrF hbF B2 hN
    go_wp2_with fail
    refine (key_any (.slice (some ⟨gF, 0, none⟩) l N) bs tree epoch draw W3 HDR.out SF.out (HK.out.below B3.out h0)).mono ?_
    rintro r W4 ⟨rfl, hb4⟩
    obtain ⟨D, hD⟩ : ∃ D, D = S.key bs tree epoch draw := ⟨_, rfl⟩
    rw [← hD]
    have LD := hide (show D.length = 32 by rw [hD, S.key_length])
    have ED := hide hD
    obtain ⟨A5, W5, ha5, hs5, hr5, hb5, -⟩ := lay_dig W4 D LD.out
    obtain ⟨g15, hg15⟩ : ∃ g, g = W4.heap.size := ⟨_, rfl⟩
    rw [← hg15] at ha5 hs5 hr5
    have hb45 := hb4.trans (hb5.mono hb4.size)
    have B5 := hide (B3.out.trans (hb45.mono B3.out.size))
    have R15 := hide hr5
    replace RT := hide ((hb45.block _ (block_lt_of_row RT.out)).trans RT.out)
    replace RF := hide ((hb45.block _ (block_lt_of_row RF.out)).trans RF.out)
    replace P0 := hide ((hb45.block _ (block_lt_of_row P0.out)).trans P0.out)
    replace P1 := hide ((hb45.block _ (block_lt_of_row P1.out)).trans P1.out)
    replace SB := hide (SB.out.below hb45 (Nat.le_refl _))
    clear hb4 hb5 hb45 hr5 hg15 hD B3 SF qN ql
    go_upto_region 6 with (first | (with_reducible refine at_op { dst := some 15, op := Op.alloc 30, type := 0, pos := "law.go:62", after := #[], guard := none } ?_; refine wpList_alloc_known rfl 30 rfl _ _ ha5 ?_) | (with_reducible refine at_op { dst := none, op := Op.store 30 (Operand.tmp 15) (Operand.tmp 32), type := 0, pos := "law.go:62", after := #[{ on := 8, ground := Ground.data }, { on := 7, ground := Ground.data }, { on := 7, ground := Ground.chain }, { on := 0, ground := Ground.phase }, { on := 1, ground := Ground.phase }, { on := 2, ground := Ground.phase }, { on := 3, ground := Ground.phase }, { on := 4, ground := Ground.phase }, { on := 5, ground := Ground.phase }, { on := 6, ground := Ground.phase }, { on := 7, ground := Ground.phase }, { on := 8, ground := Ground.phase }], guard := none } ?_; refine wpList_store_as rfl 30 (.tmp 15) (.tmp 32) rfl (.pointer (some ⟨g15, 0, none⟩)) (.agg (S.v8 D)) rfl rfl W5 hs5 ?_))
    clear ha5 hs5 A5
    have ld1 := load_dig R15.out LD.out
    have ld2 := load_h P0.out HR.out
    go_wp2_with (first | (with_reducible refine at_op { dst := some 33, op := Op.load 30 (Operand.tmp 15), type := 30, pos := "law.go:63", after := #[], guard := none } ?_; refine wpList_load_as rfl 30 (.tmp 15) rfl (.pointer (some ⟨g15, 0, none⟩)) rfl (.agg (S.v8 D)) ld1 ?_) | (with_reducible refine at_op { dst := some 34, op := Op.load 32 (Operand.tmp 10), type := 32, pos := "law.go:63", after := #[], guard := none } ?_; refine wpList_load_as rfl 32 (.tmp 10) rfl (.pointer (some ⟨w.heap.size, 0, none⟩)) rfl (.agg (encH h).toArray) ld2 ?_))
    refine (sign_any D h W5 LD.out HOK.out (HK.out.below B5.out h0)).mono ?_
    rintro r W6 ⟨rfl, hb6⟩
    obtain ⟨G, hG⟩ : ∃ G, G = S.sign D h := ⟨_, rfl⟩
    rw [← hG]
    have GL1 := hide (show G.h.root.length = 32 by rw [hG, S.sign_root]; exact HR.out)
    have GL2 := hide (show G.tag.length = 32 by rw [hG]; exact S.sign_len _ _)
    have GOK := hide (show G.h.Ok by rw [hG, S.sign_root]; exact HOK.out)
    have GH := hide (show (S.mac D (S.hb G.h) == G.tag) = true by rw [hG]; exact S.sign_holds D h)
    have EG := hide hG
    obtain ⟨A7, W7, ha7, hs7, hr7, hb7, -⟩ := lay_g W6 G GL1.out GL2.out
    obtain ⟨g16, hg16⟩ : ∃ g, g = W6.heap.size := ⟨_, rfl⟩
    rw [← hg16] at ha7 hs7 hr7
    have hb67 := hb6.trans (hb7.mono hb6.size)
    have B7 := hide (B5.out.trans (hb67.mono B5.out.size))
    have R16 := hide hr7
    replace RT := hide ((hb67.block _ (block_lt_of_row RT.out)).trans RT.out)
    replace RF := hide ((hb67.block _ (block_lt_of_row RF.out)).trans RF.out)
    replace P0 := hide ((hb67.block _ (block_lt_of_row P0.out)).trans P0.out)
    replace P1 := hide ((hb67.block _ (block_lt_of_row P1.out)).trans P1.out)
    replace R15 := hide ((hb67.block _ (block_lt_of_row R15.out)).trans R15.out)
    replace SB := hide (SB.out.below hb67 (Nat.le_refl _))
    clear hb6 hb7 hb67 hr7 hg16 hG B5 ld1 ld2
    go_upto_region 7 with (first | (with_reducible refine at_op { dst := some 16, op := Op.alloc 34, type := 0, pos := "law.go:63", after := #[], guard := none } ?_; refine wpList_alloc_known rfl 34 rfl _ _ ha7 ?_) | (with_reducible refine at_op { dst := none, op := Op.store 34 (Operand.tmp 16) (Operand.tmp 35), type := 0, pos := "law.go:63", after := #[{ on := 3, ground := Ground.data }, { on := 2, ground := Ground.data }, { on := 2, ground := Ground.chain }, { on := 0, ground := Ground.phase }, { on := 1, ground := Ground.phase }, { on := 2, ground := Ground.phase }, { on := 3, ground := Ground.phase }], guard := none } ?_; refine wpList_store_as rfl 34 (.tmp 16) (.tmp 35) rfl (.pointer (some ⟨g16, 0, none⟩)) (.agg (encG G).toArray) rfl rfl W7 hs7 ?_))
    clear ha7 hs7 A7
    obtain ⟨st, hst⟩ : ∃ st : ByteArray, st = ⟨(S.hb h).toArray⟩ := ⟨_, rfl⟩
    have HST := hide hst
    have hss : (st == st) = true := by obtain ⟨a⟩ := st; show (a == a) = true; simp
    clear hst
    refine wp_region_noPanic ?_
    refine wp_region_held_drew (S := (fun W => Chg (fun _ => False) W7 W)) follows ((Chg.refl _ _).drew) (fun hHeld => ?_)
    clear hHeld
    have hHeld : Chg (fun _ => False) W7 W7.drew := (Chg.refl _ _).drew
    have CZ0 := hide hHeld
    generalize W7.drew = Z0 at CZ0 hHeld ⊢
    refine wpAnyH_take (i := 0) (oi := { dst := some 36, op := Op.load 30 (Operand.tmp 15), type := 30, pos := "law.go:64", after := #[], guard := none }) (v := .agg (S.v8l D).toArray) rfl (by kernel_rfl) (by kernel_rfl) (by kernel_rfl) (fun _ _ _ h => h) (yieldsIf_load_mid (by rfl) _ _ rfl g15 0 rfl (S.v8l D) _ (fun _ hSw => rangeAt_row (hSw.row R15.out (fun e => e))) Tryd.underlying30 rfl (by rw [size_dig _ LD.out, S.v8_size, S.v8l_length])) (by assumption) ?_
    simp only [Act.put, List.setIfInBounds_toArray, List.set_cons_zero, List.set_cons_succ]
    refine wpAnyH_take (i := 1) (oi := { dst := some 37, op := Op.move (Operand.tmp 13), type := 42, pos := "law.go:64", after := #[], guard := none }) (v := ?_) rfl (by kernel_rfl) (by kernel_rfl) (by kernel_rfl) (fun _ _ _ h => h) (Or.inl ⟨by rfl, ?_⟩) (by assumption) ?_
    rotate_left
    · intro w hSw
      clear hSw
      go_simp
      all_goals with_reducible rfl
    simp only [Act.put, List.setIfInBounds_toArray, List.set_cons_zero, List.set_cons_succ]
    refine wpAnyH_take (i := 2) (oi := { dst := some 38, op := Op.move (Operand.tmp 0), type := 41, pos := "law.go:64", after := #[], guard := none }) (v := ?_) rfl (by kernel_rfl) (by kernel_rfl) (by kernel_rfl) (fun _ _ _ h => h) (Or.inl ⟨by rfl, ?_⟩) (by assumption) ?_
    rotate_left
    · intro w hSw
      clear hSw
      go_simp
      all_goals with_reducible rfl
    simp only [Act.put, List.setIfInBounds_toArray, List.set_cons_zero, List.set_cons_succ]
    refine wpAnyH_take (i := 3) (oi := { dst := some 39, op := Op.move (Operand.tmp 1), type := 3, pos := "law.go:64", after := #[], guard := none }) (v := ?_) rfl (by kernel_rfl) (by kernel_rfl) (by kernel_rfl) (fun _ _ _ h => h) (Or.inl ⟨by rfl, ?_⟩) (by assumption) ?_
    rotate_left
    · intro w hSw
      clear hSw
      go_simp
      all_goals with_reducible rfl
    simp only [Act.put, List.setIfInBounds_toArray, List.set_cons_zero, List.set_cons_succ]
    refine wpAnyH_take (i := 4) (oi := { dst := some 40, op := Op.move (Operand.tmp 2), type := 3, pos := "law.go:64", after := #[], guard := none }) (v := ?_) rfl (by kernel_rfl) (by kernel_rfl) (by kernel_rfl) (fun _ _ _ h => h) (Or.inl ⟨by rfl, ?_⟩) (by assumption) ?_
    rotate_left
    · intro w hSw
      clear hSw
      go_simp
      all_goals with_reducible rfl
    simp only [Act.put, List.setIfInBounds_toArray, List.set_cons_zero, List.set_cons_succ]
    refine wpAnyH_take (i := 5) (oi := { dst := some 41, op := Op.move (Operand.tmp 3), type := 27, pos := "law.go:64", after := #[], guard := none }) (v := ?_) rfl (by kernel_rfl) (by kernel_rfl) (by kernel_rfl) (fun _ _ _ h => h) (Or.inl ⟨by rfl, ?_⟩) (by assumption) ?_
    rotate_left
    · intro w hSw
      clear hSw
      go_simp
      all_goals with_reducible rfl
    simp only [Act.put, List.setIfInBounds_toArray, List.set_cons_zero, List.set_cons_succ]
    refine wpAnyH_ready (rs := [6]) (by kernel_rfl) (by simp) ?_
    refine AllReadyH.cons (o := { dst := some 42, op := Op.call { callee := Callee.value (Operand.func 18), args := #[Operand.tmp 37, Operand.tmp 38, Operand.tmp 39, Operand.tmp 40, Operand.tmp 41], argTypes := #[42, 41, 3, 3, 27] }, type := 30, pos := "law.go:64", after := #[{ on := 1, ground := Ground.data }, { on := 2, ground := Ground.data }, { on := 3, ground := Ground.data }, { on := 4, ground := Ground.data }, { on := 5, ground := Ground.data }], guard := none }) rfl (fun K hK => ?_) AllReadyH.nil
    go_simp
    refine (rkey_any gT (.slice a l c) bs tree epoch draw Z0 (CZ0.out.row RT.out (fun e => e)) HDR.out (SB.out.below (CZ0.out.below _ (Nat.le_refl _) (fun _ _ e => e)) (Nat.le_refl _)) (by have := HL.out; omega)).mono ?_
    rintro e Z1 ⟨rfl, hb2⟩
    rw [← ED.out]
    have CZ1 : Hid (Chg (fun _ => False) W7 Z1) := CZ0.out.then hb2
    clear hb2 CZ0
    clear hHeld
    refine hK.out _ _ CZ1.out (fun hHeld => ?_)
    clear hK K
    try simp only [Act.put, List.setIfInBounds_toArray, List.set_cons_zero, List.set_cons_succ]
    refine wpAnyH_take (i := 7) (oi := { dst := some 43, op := Op.binOp BinOp.eql 30 (Operand.tmp 36) (Operand.tmp 42) 30, type := 4, pos := "law.go:64", after := #[{ on := 0, ground := Ground.data }, { on := 6, ground := Ground.data }], guard := none }) (v := ?_) rfl (by kernel_rfl) (by kernel_rfl) (by kernel_rfl) (fun _ _ _ h => h) (Or.inl ⟨by rfl, ?_⟩) (by assumption) ?_
    rotate_left
    · intro w hSw
      have e := equal_same D LD.out
      clear hSw
      go_simp
      all_goals with_reducible rfl
    simp only [Act.put, List.setIfInBounds_toArray, List.set_cons_zero, List.set_cons_succ]
    refine wpAnyH_take (i := 8) (oi := { dst := some 44, op := Op.move (Operand.tmp 43), type := 4, pos := "law.go:64", after := #[{ on := 7, ground := Ground.data }, { on := 6, ground := Ground.chain }], guard := none }) (v := ?_) rfl (by kernel_rfl) (by kernel_rfl) (by kernel_rfl) (fun _ _ _ h => h) (Or.inl ⟨by rfl, ?_⟩) (by assumption) ?_
    rotate_left
    · intro w hSw
      clear hSw
      go_simp
      all_goals with_reducible rfl
    simp only [Act.put, List.setIfInBounds_toArray, List.set_cons_zero, List.set_cons_succ]
    refine wpAnyH_take (i := 9) (oi := { dst := some 45, op := Op.load 32 (Operand.tmp 10), type := 32, pos := "law.go:64", after := #[{ on := 8, ground := Ground.guard }], guard := some (8, true) }) (v := .agg (encH h).toArray) rfl (by kernel_rfl) (by kernel_rfl) (by kernel_rfl) (fun _ _ _ h => h) (yieldsIf_load_mid (by rfl) _ _ rfl w.heap.size 0 rfl (encH h) _ (fun _ hSw => rangeAt_row (hSw.row P0.out (fun e => e))) Tryd.underlying32 rfl (by rw [size_h _ HR.out, List.size_toArray])) (by assumption) ?_
    simp only [Act.put, List.setIfInBounds_toArray, List.set_cons_zero, List.set_cons_succ]
    refine wpAnyH_take (i := 12) (oi := { dst := some 48, op := Op.load 32 (Operand.tmp 10), type := 32, pos := "law.go:64", after := #[{ on := 8, ground := Ground.guard }], guard := some (8, true) }) (v := .agg (encH h).toArray) rfl (by kernel_rfl) (by kernel_rfl) (by kernel_rfl) (fun _ _ _ h => h) (yieldsIf_load_mid (by rfl) _ _ rfl w.heap.size 0 rfl (encH h) _ (fun _ hSw => rangeAt_row (hSw.row P0.out (fun e => e))) Tryd.underlying32 rfl (by rw [size_h _ HR.out, List.size_toArray])) (by assumption) ?_
    simp only [Act.put, List.setIfInBounds_toArray, List.set_cons_zero, List.set_cons_succ]
    refine wpAnyH_ready (rs := [10]) (by kernel_rfl) (by simp) ?_
    refine AllReadyH.cons (o := { dst := some 46, op := Op.call { callee := Callee.value (Operand.func 19), args := #[Operand.tmp 45], argTypes := #[32] }, type := 41, pos := "law.go:64", after := #[{ on := 9, ground := Ground.data }, { on := 8, ground := Ground.chain }, { on := 8, ground := Ground.guard }], guard := some (8, true) }) rfl (fun K hK => ?_) AllReadyH.nil
    go_simp
    refine (bytes_any h Z1 HOK.out).mono ?_
    rintro e Z2 ⟨gb, rfl, hgb, hrb, hb2⟩
    have S1 : Hid (SliceAt Z2 (.slice (some ⟨gb, 0, none⟩) 57 57) (S.hb h)) := by have := hrb.sliceAt (by rw [S.hb_length _ HR.out]; omega); rw [S.hb_length _ HR.out] at this; exact this
    clear hrb hgb
    have CZ2 : Hid (Chg (fun _ => False) W7 Z2) := CZ1.out.then hb2
    clear hb2 CZ1
    clear hHeld
    refine hK.out _ _ CZ2.out (fun hHeld => ?_)
    clear hK K
    try simp only [Act.put, List.setIfInBounds_toArray, List.set_cons_zero, List.set_cons_succ]
    refine wpAnyH_ready (rs := [11, 13]) (by kernel_rfl) (by simp) ?_
    refine step_conv_as (o := { dst := some 47, op := Op.convert 41 9 (Operand.tmp 46), type := 9, pos := "law.go:64", after := #[{ on := 10, ground := Ground.data }, { on := 8, ground := Ground.guard }], guard := some (8, true) }) rfl (by rfl) 41 9 (.tmp 46) rfl (.slice (some ⟨gb, 0, none⟩) 57 57) rfl (.string st) (by rw [HST.out]; exact conv_slice S1.out) ?_ ⟨CZ2.out, fun hHeld => ?_⟩
    rotate_left
    · skip
      simp only [Act.put, List.setIfInBounds_toArray, List.set_cons_zero, List.set_cons_succ]
      clear S1
      refine wpAnyH_ready (rs := [13]) (by kernel_rfl) (by simp) ?_
      refine AllReadyH.cons (o := { dst := some 49, op := Op.call { callee := Callee.value (Operand.func 20), args := #[Operand.tmp 48], argTypes := #[32] }, type := 41, pos := "law.go:64", after := #[{ on := 12, ground := Ground.data }, { on := 10, ground := Ground.chain }, { on := 8, ground := Ground.guard }], guard := some (8, true) }) rfl (fun K hK => ?_) AllReadyH.nil
      go_simp
      refine (rbytes_any h Z2 HOK.out).mono ?_
      rintro e Z3 ⟨bo, bc, rfl, hsb, hb2⟩
      have S3 := hide hsb
      clear hsb
      have CZ3 : Hid (Chg (fun _ => False) W7 Z3) := CZ2.out.then hb2
      clear hb2 CZ2
      clear hHeld
      refine hK.out _ _ CZ3.out (fun hHeld => ?_)
      clear hK K
      try simp only [Act.put, List.setIfInBounds_toArray, List.set_cons_zero, List.set_cons_succ]
      refine wpAnyH_ready (rs := [14]) (by kernel_rfl) (by simp) ?_
      refine step_conv_as (o := { dst := some 50, op := Op.convert 41 9 (Operand.tmp 49), type := 9, pos := "law.go:64", after := #[{ on := 13, ground := Ground.data }, { on := 8, ground := Ground.guard }], guard := some (8, true) }) rfl (by rfl) 41 9 (.tmp 49) rfl (.slice bo 57 bc) rfl (.string st) (by rw [HST.out]; exact conv_slice S3.out) AllReadyH.nil ⟨CZ3.out, fun hHeld => ?_⟩
      simp only [Act.put, List.setIfInBounds_toArray, List.set_cons_zero, List.set_cons_succ]
      clear S3
      refine wpAnyH_take (i := 15) (oi := { dst := some 51, op := Op.binOp BinOp.eql 9 (Operand.tmp 47) (Operand.tmp 50) 9, type := 4, pos := "law.go:64", after := #[{ on := 11, ground := Ground.data }, { on := 14, ground := Ground.data }, { on := 8, ground := Ground.guard }], guard := some (8, true) }) (v := ?_) rfl (by kernel_rfl) (by kernel_rfl) (by kernel_rfl) (fun _ _ _ h => h) (Or.inl ⟨by rfl, ?_⟩) (by assumption) ?_
      rotate_left
      · intro w hSw
        clear hSw
        go_simp
        all_goals with_reducible rfl
      simp only [Act.put, List.setIfInBounds_toArray, List.set_cons_zero, List.set_cons_succ]
      refine wpAnyH_take (i := 16) (oi := { dst := some 52, op := Op.pick (Operand.tmp 44) (Operand.tmp 51) (Operand.const (Value.bool false)), type := 4, pos := "law.go:64", after := #[{ on := 8, ground := Ground.data }, { on := 15, ground := Ground.data }], guard := none }) (v := ?_) rfl (by kernel_rfl) (by kernel_rfl) (by kernel_rfl) (fun _ _ _ h => h) (Or.inl ⟨by rfl, ?_⟩) (by assumption) ?_
      rotate_left
      · intro w hSw
        clear hSw
        go_simp
        all_goals with_reducible rfl
      simp only [Act.put, List.setIfInBounds_toArray, List.set_cons_zero, List.set_cons_succ]
      refine wpAnyH_take (i := 17) (oi := { dst := some 53, op := Op.move (Operand.tmp 52), type := 4, pos := "law.go:64", after := #[{ on := 16, ground := Ground.data }, { on := 13, ground := Ground.chain }], guard := none }) (v := ?_) rfl (by kernel_rfl) (by kernel_rfl) (by kernel_rfl) (fun _ _ _ h => h) (Or.inl ⟨by rfl, ?_⟩) (by assumption) ?_
      rotate_left
      · intro w hSw
        clear hSw
        go_simp
        all_goals with_reducible rfl
      simp only [Act.put, List.setIfInBounds_toArray, List.set_cons_zero, List.set_cons_succ]
      refine wpAnyH_take (i := 18) (oi := { dst := some 54, op := Op.load 34 (Operand.tmp 16), type := 34, pos := "law.go:64", after := #[{ on := 17, ground := Ground.guard }], guard := some (17, true) }) (v := .agg (encG G).toArray) rfl (by kernel_rfl) (by kernel_rfl) (by kernel_rfl) (fun _ _ _ h => h) (yieldsIf_load_mid (by rfl) _ _ rfl g16 0 rfl (encG G) _ (fun _ hSw => rangeAt_row (hSw.row R16.out (fun e => e))) Tryd.underlying34 rfl (by rw [size_g _ GL1.out GL2.out, List.size_toArray])) (by assumption) ?_
      simp only [Act.put, List.setIfInBounds_toArray, List.set_cons_zero, List.set_cons_succ]
      refine wpAnyH_take (i := 19) (oi := { dst := some 55, op := Op.move (Operand.tmp 13), type := 42, pos := "law.go:64", after := #[{ on := 17, ground := Ground.guard }], guard := some (17, true) }) (v := ?_) rfl (by kernel_rfl) (by kernel_rfl) (by kernel_rfl) (fun _ _ _ h => h) (Or.inl ⟨by rfl, ?_⟩) (by assumption) ?_
      rotate_left
      · intro w hSw
        clear hSw
        go_simp
        all_goals with_reducible rfl
      simp only [Act.put, List.setIfInBounds_toArray, List.set_cons_zero, List.set_cons_succ]
      refine wpAnyH_take (i := 20) (oi := { dst := some 56, op := Op.load 30 (Operand.tmp 15), type := 30, pos := "law.go:64", after := #[{ on := 17, ground := Ground.guard }], guard := some (17, true) }) (v := .agg (S.v8l D).toArray) rfl (by kernel_rfl) (by kernel_rfl) (by kernel_rfl) (fun _ _ _ h => h) (yieldsIf_load_mid (by rfl) _ _ rfl g15 0 rfl (S.v8l D) _ (fun _ hSw => rangeAt_row (hSw.row R15.out (fun e => e))) Tryd.underlying30 rfl (by rw [size_dig _ LD.out, S.v8_size, S.v8l_length])) (by assumption) ?_
      simp only [Act.put, List.setIfInBounds_toArray, List.set_cons_zero, List.set_cons_succ]
      refine wpAnyH_take (i := 21) (oi := { dst := some 57, op := Op.load 32 (Operand.tmp 10), type := 32, pos := "law.go:64", after := #[{ on := 17, ground := Ground.guard }], guard := some (17, true) }) (v := .agg (encH h).toArray) rfl (by kernel_rfl) (by kernel_rfl) (by kernel_rfl) (fun _ _ _ h => h) (yieldsIf_load_mid (by rfl) _ _ rfl w.heap.size 0 rfl (encH h) _ (fun _ hSw => rangeAt_row (hSw.row P0.out (fun e => e))) Tryd.underlying32 rfl (by rw [size_h _ HR.out, List.size_toArray])) (by assumption) ?_
      simp only [Act.put, List.setIfInBounds_toArray, List.set_cons_zero, List.set_cons_succ]
      refine wpAnyH_ready (rs := [22]) (by kernel_rfl) (by simp) ?_
      refine AllReadyH.cons (o := { dst := some 58, op := Op.call { callee := Callee.value (Operand.func 21), args := #[Operand.tmp 55, Operand.tmp 56, Operand.tmp 57], argTypes := #[42, 30, 32] }, type := 34, pos := "law.go:64", after := #[{ on := 19, ground := Ground.data }, { on := 20, ground := Ground.data }, { on := 21, ground := Ground.data }, { on := 17, ground := Ground.chain }, { on := 17, ground := Ground.guard }], guard := some (17, true) }) rfl (fun K hK => ?_) AllReadyH.nil
      go_simp
      refine (rsign_any gT D h Z3 (CZ3.out.row RT.out (fun e => e)) LD.out HOK.out).mono ?_
      rintro e Z4 ⟨rfl, hb2⟩
      rw [← EG.out]
      have CZ4 : Hid (Chg (fun _ => False) W7 Z4) := CZ3.out.then hb2
      clear hb2 CZ3
      clear hHeld
      refine hK.out _ _ CZ4.out (fun hHeld => ?_)
      clear hK K
      try simp only [Act.put, List.setIfInBounds_toArray, List.set_cons_zero, List.set_cons_succ]
      refine wpAnyH_take (i := 23) (oi := { dst := some 59, op := Op.binOp BinOp.eql 34 (Operand.tmp 54) (Operand.tmp 58) 34, type := 4, pos := "law.go:64", after := #[{ on := 18, ground := Ground.data }, { on := 22, ground := Ground.data }, { on := 17, ground := Ground.guard }], guard := some (17, true) }) (v := ?_) rfl (by kernel_rfl) (by kernel_rfl) (by kernel_rfl) (fun _ _ _ h => h) (Or.inl ⟨by rfl, ?_⟩) (by assumption) ?_
      rotate_left
      · intro w hSw
        have e := equal_gs G GL1.out GL2.out
        clear hSw
        go_simp
        all_goals with_reducible rfl
      simp only [Act.put, List.setIfInBounds_toArray, List.set_cons_zero, List.set_cons_succ]
      refine wpAnyH_take (i := 24) (oi := { dst := some 60, op := Op.pick (Operand.tmp 53) (Operand.tmp 59) (Operand.const (Value.bool false)), type := 4, pos := "law.go:64", after := #[{ on := 17, ground := Ground.data }, { on := 23, ground := Ground.data }], guard := none }) (v := ?_) rfl (by kernel_rfl) (by kernel_rfl) (by kernel_rfl) (fun _ _ _ h => h) (Or.inl ⟨by rfl, ?_⟩) (by assumption) ?_
      rotate_left
      · intro w hSw
        clear hSw
        go_simp
        all_goals with_reducible rfl
      simp only [Act.put, List.setIfInBounds_toArray, List.set_cons_zero, List.set_cons_succ]
      refine wpAnyH_take (i := 25) (oi := { dst := some 61, op := Op.move (Operand.tmp 60), type := 4, pos := "law.go:64", after := #[{ on := 24, ground := Ground.data }, { on := 22, ground := Ground.chain }], guard := none }) (v := ?_) rfl (by kernel_rfl) (by kernel_rfl) (by kernel_rfl) (fun _ _ _ h => h) (Or.inl ⟨by rfl, ?_⟩) (by assumption) ?_
      rotate_left
      · intro w hSw
        clear hSw
        go_simp
        all_goals with_reducible rfl
      simp only [Act.put, List.setIfInBounds_toArray, List.set_cons_zero, List.set_cons_succ]
      refine wpAnyH_take (i := 26) (oi := { dst := some 62, op := Op.load 30 (Operand.tmp 15), type := 30, pos := "law.go:64", after := #[{ on := 25, ground := Ground.guard }], guard := some (25, true) }) (v := .agg (S.v8l D).toArray) rfl (by kernel_rfl) (by kernel_rfl) (by kernel_rfl) (fun _ _ _ h => h) (yieldsIf_load_mid (by rfl) _ _ rfl g15 0 rfl (S.v8l D) _ (fun _ hSw => rangeAt_row (hSw.row R15.out (fun e => e))) Tryd.underlying30 rfl (by rw [size_dig _ LD.out, S.v8_size, S.v8l_length])) (by assumption) ?_
      simp only [Act.put, List.setIfInBounds_toArray, List.set_cons_zero, List.set_cons_succ]
      refine wpAnyH_take (i := 27) (oi := { dst := some 63, op := Op.load 34 (Operand.tmp 16), type := 34, pos := "law.go:64", after := #[{ on := 25, ground := Ground.guard }], guard := some (25, true) }) (v := .agg (encG G).toArray) rfl (by kernel_rfl) (by kernel_rfl) (by kernel_rfl) (fun _ _ _ h => h) (yieldsIf_load_mid (by rfl) _ _ rfl g16 0 rfl (encG G) _ (fun _ hSw => rangeAt_row (hSw.row R16.out (fun e => e))) Tryd.underlying34 rfl (by rw [size_g _ GL1.out GL2.out, List.size_toArray])) (by assumption) ?_
      simp only [Act.put, List.setIfInBounds_toArray, List.set_cons_zero, List.set_cons_succ]
      refine wpAnyH_ready (rs := [28]) (by kernel_rfl) (by simp) ?_
      refine AllReadyH.cons (o := { dst := some 64, op := Op.call { callee := Callee.value (Operand.func 22), args := #[Operand.tmp 62, Operand.tmp 63], argTypes := #[30, 34] }, type := 4, pos := "law.go:64", after := #[{ on := 26, ground := Ground.data }, { on := 27, ground := Ground.data }, { on := 25, ground := Ground.chain }, { on := 25, ground := Ground.guard }], guard := some (25, true) }) rfl (fun K hK => ?_) AllReadyH.nil
      go_simp
      refine (holds_any D G Z4 LD.out GOK.out GL2.out (HK.out.below (B7.out.trans (CZ4.out.below w.heap.size B7.out.size (fun k hk e => by omega))) h0)).mono ?_
      rintro e Z5 ⟨rfl, hb2⟩
      rw [GH.out]
      have CZ5 : Hid (Chg (fun _ => False) W7 Z5) := CZ4.out.then hb2
      clear hb2 CZ4
      clear hHeld
      refine hK.out _ _ CZ5.out (fun hHeld => ?_)
      clear hK K
      try simp only [Act.put, List.setIfInBounds_toArray, List.set_cons_zero, List.set_cons_succ]
      refine wpAnyH_take (i := 29) (oi := { dst := some 65, op := Op.pick (Operand.tmp 61) (Operand.tmp 64) (Operand.const (Value.bool false)), type := 4, pos := "law.go:64", after := #[{ on := 25, ground := Ground.data }, { on := 28, ground := Ground.data }], guard := none }) (v := ?_) rfl (by kernel_rfl) (by kernel_rfl) (by kernel_rfl) (fun _ _ _ h => h) (Or.inl ⟨by rfl, ?_⟩) (by assumption) ?_
      rotate_left
      · intro w hSw
        clear hSw
        go_simp
        all_goals with_reducible rfl
      simp only [Act.put, List.setIfInBounds_toArray, List.set_cons_zero, List.set_cons_succ]
      refine wpAnyH_take (i := 30) (oi := { dst := some 66, op := Op.move (Operand.tmp 65), type := 4, pos := "law.go:64", after := #[{ on := 29, ground := Ground.data }, { on := 28, ground := Ground.chain }], guard := none }) (v := ?_) rfl (by kernel_rfl) (by kernel_rfl) (by kernel_rfl) (fun _ _ _ h => h) (Or.inl ⟨by rfl, ?_⟩) (by assumption) ?_
      rotate_left
      · intro w hSw
        clear hSw
        go_simp
        all_goals with_reducible rfl
      simp only [Act.put, List.setIfInBounds_toArray, List.set_cons_zero, List.set_cons_succ]
      refine wpAnyH_take (i := 31) (oi := { dst := some 67, op := Op.load 30 (Operand.tmp 15), type := 30, pos := "law.go:64", after := #[{ on := 30, ground := Ground.guard }], guard := some (30, true) }) (v := .agg (S.v8l D).toArray) rfl (by kernel_rfl) (by kernel_rfl) (by kernel_rfl) (fun _ _ _ h => h) (yieldsIf_load_mid (by rfl) _ _ rfl g15 0 rfl (S.v8l D) _ (fun _ hSw => rangeAt_row (hSw.row R15.out (fun e => e))) Tryd.underlying30 rfl (by rw [size_dig _ LD.out, S.v8_size, S.v8l_length])) (by assumption) ?_
      simp only [Act.put, List.setIfInBounds_toArray, List.set_cons_zero, List.set_cons_succ]
      refine wpAnyH_take (i := 32) (oi := { dst := some 68, op := Op.load 34 (Operand.tmp 11), type := 34, pos := "law.go:64", after := #[{ on := 30, ground := Ground.guard }], guard := some (30, true) }) (v := .agg (encG x).toArray) rfl (by kernel_rfl) (by kernel_rfl) (by kernel_rfl) (fun _ _ _ h => h) (yieldsIf_load_mid (by rfl) _ _ rfl (w.heap.size + 1) 0 rfl (encG x) _ (fun _ hSw => rangeAt_row (hSw.row P1.out (fun e => e))) Tryd.underlying34 rfl (by rw [size_g _ XR.out XT.out, List.size_toArray])) (by assumption) ?_
      simp only [Act.put, List.setIfInBounds_toArray, List.set_cons_zero, List.set_cons_succ]
      refine wpAnyH_take (i := 34) (oi := { dst := some 70, op := Op.move (Operand.tmp 13), type := 42, pos := "law.go:64", after := #[{ on := 30, ground := Ground.guard }], guard := some (30, true) }) (v := ?_) rfl (by kernel_rfl) (by kernel_rfl) (by kernel_rfl) (fun _ _ _ h => h) (Or.inl ⟨by rfl, ?_⟩) (by assumption) ?_
      rotate_left
      · intro w hSw
        clear hSw
        go_simp
        all_goals with_reducible rfl
      simp only [Act.put, List.setIfInBounds_toArray, List.set_cons_zero, List.set_cons_succ]
      refine wpAnyH_take (i := 35) (oi := { dst := some 71, op := Op.load 30 (Operand.tmp 15), type := 30, pos := "law.go:64", after := #[{ on := 30, ground := Ground.guard }], guard := some (30, true) }) (v := .agg (S.v8l D).toArray) rfl (by kernel_rfl) (by kernel_rfl) (by kernel_rfl) (fun _ _ _ h => h) (yieldsIf_load_mid (by rfl) _ _ rfl g15 0 rfl (S.v8l D) _ (fun _ hSw => rangeAt_row (hSw.row R15.out (fun e => e))) Tryd.underlying30 rfl (by rw [size_dig _ LD.out, S.v8_size, S.v8l_length])) (by assumption) ?_
      simp only [Act.put, List.setIfInBounds_toArray, List.set_cons_zero, List.set_cons_succ]
      refine wpAnyH_take (i := 36) (oi := { dst := some 72, op := Op.load 34 (Operand.tmp 11), type := 34, pos := "law.go:64", after := #[{ on := 30, ground := Ground.guard }], guard := some (30, true) }) (v := .agg (encG x).toArray) rfl (by kernel_rfl) (by kernel_rfl) (by kernel_rfl) (fun _ _ _ h => h) (yieldsIf_load_mid (by rfl) _ _ rfl (w.heap.size + 1) 0 rfl (encG x) _ (fun _ hSw => rangeAt_row (hSw.row P1.out (fun e => e))) Tryd.underlying34 rfl (by rw [size_g _ XR.out XT.out, List.size_toArray])) (by assumption) ?_
      simp only [Act.put, List.setIfInBounds_toArray, List.set_cons_zero, List.set_cons_succ]
      refine wpAnyH_ready (rs := [33]) (by kernel_rfl) (by simp) ?_
      refine AllReadyH.cons (o := { dst := some 69, op := Op.call { callee := Callee.value (Operand.func 22), args := #[Operand.tmp 67, Operand.tmp 68], argTypes := #[30, 34] }, type := 4, pos := "law.go:64", after := #[{ on := 31, ground := Ground.data }, { on := 32, ground := Ground.data }, { on := 30, ground := Ground.chain }, { on := 30, ground := Ground.guard }], guard := some (30, true) }) rfl (fun K hK => ?_) AllReadyH.nil
      go_simp
      refine (holds_any D x Z5 LD.out XOK.out XT.out (HK.out.below (B7.out.trans (CZ5.out.below w.heap.size B7.out.size (fun k hk e => by omega))) h0)).mono ?_
      rintro e Z6 ⟨rfl, hb2⟩
      obtain ⟨b, hb⟩ : ∃ b, b = (S.mac D (S.hb x.h) == x.tag) := ⟨_, rfl⟩
      rw [← hb]
      have EB := hide hb
      clear hb
      have CZ6 : Hid (Chg (fun _ => False) W7 Z6) := CZ5.out.then hb2
      clear hb2 CZ5
      clear hHeld
      refine hK.out _ _ CZ6.out (fun hHeld => ?_)
      clear hK K
      try simp only [Act.put, List.setIfInBounds_toArray, List.set_cons_zero, List.set_cons_succ]
      refine wpAnyH_ready (rs := [37]) (by kernel_rfl) (by simp) ?_
      refine AllReadyH.cons (o := { dst := some 73, op := Op.call { callee := Callee.value (Operand.func 23), args := #[Operand.tmp 70, Operand.tmp 71, Operand.tmp 72], argTypes := #[42, 30, 34] }, type := 4, pos := "law.go:64", after := #[{ on := 34, ground := Ground.data }, { on := 35, ground := Ground.data }, { on := 36, ground := Ground.data }, { on := 33, ground := Ground.chain }, { on := 30, ground := Ground.guard }], guard := some (30, true) }) rfl (fun K hK => ?_) AllReadyH.nil
      go_simp
      refine (rholds_any gT D x Z6 (CZ6.out.row RT.out (fun e => e)) LD.out XOK.out XT.out).mono ?_
      rintro e Z7 ⟨rfl, hb2⟩
      rw [← EB.out]
      have CZ7 : Hid (Chg (fun _ => False) W7 Z7) := CZ6.out.then hb2
      clear hb2 CZ6
      clear hHeld
      refine hK.out _ _ CZ7.out (fun hHeld => ?_)
      clear hK K
      try simp only [Act.put, List.setIfInBounds_toArray, List.set_cons_zero, List.set_cons_succ]
      refine wpAnyH_take (i := 38) (oi := { dst := some 74, op := Op.binOp BinOp.eql 4 (Operand.tmp 69) (Operand.tmp 73) 4, type := 4, pos := "law.go:64", after := #[{ on := 33, ground := Ground.data }, { on := 37, ground := Ground.data }, { on := 30, ground := Ground.guard }], guard := some (30, true) }) (v := ?_) rfl (by kernel_rfl) (by kernel_rfl) (by kernel_rfl) (fun _ _ _ h => h) (Or.inl ⟨by rfl, ?_⟩) (by assumption) ?_
      rotate_left
      · intro w hSw
        clear hSw
        go_simp
        all_goals with_reducible rfl
      simp only [Act.put, List.setIfInBounds_toArray, List.set_cons_zero, List.set_cons_succ]
      refine wpAnyH_take (i := 39) (oi := { dst := some 75, op := Op.pick (Operand.tmp 66) (Operand.tmp 74) (Operand.const (Value.bool false)), type := 4, pos := "law.go:64", after := #[{ on := 30, ground := Ground.data }, { on := 38, ground := Ground.data }], guard := none }) (v := ?_) rfl (by kernel_rfl) (by kernel_rfl) (by kernel_rfl) (fun _ _ _ h => h) (Or.inl ⟨by rfl, ?_⟩) (by assumption) ?_
      rotate_left
      · intro w hSw
        clear hSw
        go_simp
        all_goals with_reducible rfl
      simp only [Act.put, List.setIfInBounds_toArray, List.set_cons_zero, List.set_cons_succ]
      refine wpAnyH_take (i := 40) (oi := { dst := some 76, op := Op.move (Operand.tmp 75), type := 4, pos := "law.go:64", after := #[{ on := 39, ground := Ground.data }, { on := 37, ground := Ground.chain }], guard := none }) (v := ?_) rfl (by kernel_rfl) (by kernel_rfl) (by kernel_rfl) (fun _ _ _ h => h) (Or.inl ⟨by rfl, ?_⟩) (by assumption) ?_
      rotate_left
      · intro w hSw
        clear hSw
        go_simp
        all_goals with_reducible rfl
      simp only [Act.put, List.setIfInBounds_toArray, List.set_cons_zero, List.set_cons_succ]
      refine wpAnyH_take (i := 41) (oi := { dst := some 77, op := Op.move (Operand.tmp 14), type := 41, pos := "law.go:64", after := #[{ on := 40, ground := Ground.guard }], guard := some (40, true) }) (v := ?_) rfl (by kernel_rfl) (by kernel_rfl) (by kernel_rfl) (fun _ _ _ h => h) (Or.inl ⟨by rfl, ?_⟩) (by assumption) ?_
      rotate_left
      · intro w hSw
        clear hSw
        go_simp
        all_goals with_reducible rfl
      simp only [Act.put, List.setIfInBounds_toArray, List.set_cons_zero, List.set_cons_succ]
      refine wpAnyH_take (i := 42) (oi := { dst := some 78, op := Op.move (Operand.tmp 0), type := 41, pos := "law.go:64", after := #[{ on := 40, ground := Ground.guard }], guard := some (40, true) }) (v := ?_) rfl (by kernel_rfl) (by kernel_rfl) (by kernel_rfl) (fun _ _ _ h => h) (Or.inl ⟨by rfl, ?_⟩) (by assumption) ?_
      rotate_left
      · intro w hSw
        clear hSw
        go_simp
        all_goals with_reducible rfl
      simp only [Act.put, List.setIfInBounds_toArray, List.set_cons_zero, List.set_cons_succ]
      refine wpAnyH_ready (rs := [43]) (by kernel_rfl) (by simp) ?_
      refine AllReadyH.cons (o := { dst := some 79, op := Op.call { callee := Callee.value (Operand.func 24), args := #[Operand.tmp 77, Operand.tmp 78, Operand.const (Value.int IntKind.u8 165)], argTypes := #[41, 41, 5] }, type := 4, pos := "law.go:64", after := #[{ on := 41, ground := Ground.data }, { on := 42, ground := Ground.data }, { on := 40, ground := Ground.chain }, { on := 40, ground := Ground.guard }], guard := some (40, true) }) rfl (fun K hK => ?_) AllReadyH.nil
      go_simp
      refine (intact_any gF (.slice a l c) bs N Z7 (by have := HN.out; have := HL.out; omega) (SB.out.below (CZ7.out.below _ (Nat.le_refl _) (fun _ _ e => e)) (Nat.le_refl _)) (by have := HL.out; omega) (CZ7.out.row RF.out (fun e => e))).mono ?_
      rintro e Z8 ⟨rfl, hstl⟩
      have hb2 : Below Z7.heap.size Z7 Z8 := hstl.below _
      clear hstl
      have CZ8 : Hid (Chg (fun _ => False) W7 Z8) := CZ7.out.then hb2
      clear hb2 CZ7
      clear hHeld
      refine hK.out _ _ CZ8.out (fun hHeld => ?_)
      clear hK K
      try simp only [Act.put, List.setIfInBounds_toArray, List.set_cons_zero, List.set_cons_succ]
      refine wpAnyH_take (i := 44) (oi := { dst := some 80, op := Op.pick (Operand.tmp 76) (Operand.tmp 79) (Operand.const (Value.bool false)), type := 4, pos := "law.go:64", after := #[{ on := 40, ground := Ground.data }, { on := 43, ground := Ground.data }], guard := none }) (v := ?_) rfl (by kernel_rfl) (by kernel_rfl) (by kernel_rfl) (fun _ _ _ h => h) (Or.inl ⟨by rfl, ?_⟩) (by assumption) ?_
      rotate_left
      · intro w hSw
        clear hSw
        go_simp
        all_goals with_reducible rfl
      simp only [Act.put, List.setIfInBounds_toArray, List.set_cons_zero, List.set_cons_succ]
      refine wpAnyH_take (i := 45) (oi := { dst := some 81, op := Op.move (Operand.tmp 80), type := 4, pos := "law.go:64", after := #[{ on := 44, ground := Ground.data }, { on := 43, ground := Ground.chain }], guard := none }) (v := ?_) rfl (by kernel_rfl) (by kernel_rfl) (by kernel_rfl) (fun _ _ _ h => h) (Or.inl ⟨by rfl, ?_⟩) (by assumption) ?_
      rotate_left
      · intro w hSw
        clear hSw
        go_simp
        all_goals with_reducible rfl
      simp only [Act.put, List.setIfInBounds_toArray, List.set_cons_zero, List.set_cons_succ]
      refine wpAnyH_ready (rs := [46]) (by kernel_rfl) (by simp) ?_
      refine AllReadyH.cons (o := { dst := some 82, op := Op.call { callee := Callee.value (Operand.func 13), args := #[], argTypes := #[] }, type := 4, pos := "law.go:64", after := #[{ on := 45, ground := Ground.chain }, { on := 45, ground := Ground.guard }], guard := some (45, true) }) rfl (fun K hK => ?_) AllReadyH.nil
      go_simp
      refine (known_any Z8 (HK.out.below (B7.out.trans (CZ8.out.below w.heap.size B7.out.size (fun k hk e => by omega))) h0)).mono ?_
      rintro e Z9 ⟨rfl, hb2⟩
      have CZ9 : Hid (Chg (fun _ => False) W7 Z9) := CZ8.out.then hb2
      clear hb2 CZ8
      clear hHeld
      refine hK.out _ _ CZ9.out (fun hHeld => ?_)
      clear hK K
      try simp only [Act.put, List.setIfInBounds_toArray, List.set_cons_zero, List.set_cons_succ]
      refine wpAnyH_take (i := 47) (oi := { dst := some 83, op := Op.pick (Operand.tmp 81) (Operand.tmp 82) (Operand.const (Value.bool false)), type := 4, pos := "law.go:64", after := #[{ on := 45, ground := Ground.data }, { on := 46, ground := Ground.data }], guard := none }) (v := ?_) rfl (by kernel_rfl) (by kernel_rfl) (by kernel_rfl) (fun _ _ _ h => h) (Or.inl ⟨by rfl, ?_⟩) (by assumption) ?_
      rotate_left
      · intro w hSw
        clear hSw
        go_simp
        all_goals with_reducible rfl
      simp only [Act.put, List.setIfInBounds_toArray, List.set_cons_zero, List.set_cons_succ]
      refine wpAnyH_take (i := 48) (oi := { dst := some 12, op := Op.assign (Operand.tmp 83), type := 4, pos := "law.go:64", after := #[{ on := 47, ground := Ground.data }, { on := 46, ground := Ground.chain }, { on := 0, ground := Ground.phase }, { on := 1, ground := Ground.phase }, { on := 2, ground := Ground.phase }, { on := 3, ground := Ground.phase }, { on := 4, ground := Ground.phase }, { on := 5, ground := Ground.phase }, { on := 6, ground := Ground.phase }, { on := 7, ground := Ground.phase }, { on := 8, ground := Ground.phase }, { on := 9, ground := Ground.phase }, { on := 10, ground := Ground.phase }, { on := 11, ground := Ground.phase }, { on := 12, ground := Ground.phase }, { on := 13, ground := Ground.phase }, { on := 14, ground := Ground.phase }, { on := 15, ground := Ground.phase }, { on := 16, ground := Ground.phase }, { on := 17, ground := Ground.phase }, { on := 18, ground := Ground.phase }, { on := 19, ground := Ground.phase }, { on := 20, ground := Ground.phase }, { on := 21, ground := Ground.phase }, { on := 22, ground := Ground.phase }, { on := 23, ground := Ground.phase }, { on := 24, ground := Ground.phase }, { on := 25, ground := Ground.phase }, { on := 26, ground := Ground.phase }, { on := 27, ground := Ground.phase }, { on := 28, ground := Ground.phase }, { on := 29, ground := Ground.phase }, { on := 30, ground := Ground.phase }, { on := 31, ground := Ground.phase }, { on := 32, ground := Ground.phase }, { on := 33, ground := Ground.phase }, { on := 34, ground := Ground.phase }, { on := 35, ground := Ground.phase }, { on := 36, ground := Ground.phase }, { on := 37, ground := Ground.phase }, { on := 38, ground := Ground.phase }, { on := 39, ground := Ground.phase }, { on := 40, ground := Ground.phase }, { on := 41, ground := Ground.phase }, { on := 42, ground := Ground.phase }, { on := 43, ground := Ground.phase }, { on := 44, ground := Ground.phase }, { on := 45, ground := Ground.phase }, { on := 46, ground := Ground.phase }, { on := 47, ground := Ground.phase }], guard := none }) (v := ?_) rfl (by kernel_rfl) (by kernel_rfl) (by kernel_rfl) (fun _ _ _ h => h) (Or.inl ⟨by rfl, ?_⟩) (by assumption) ?_
      rotate_left
      · intro w hSw
        clear hSw
        go_simp
        all_goals with_reducible rfl
      simp only [Act.put, List.setIfInBounds_toArray, List.set_cons_zero, List.set_cons_succ]
      refine wpAnyH_done (by kernel_rfl) ?_ _
      refine NoPanic.normal ?_
      have BF := hide (B7.out.trans (CZ9.out.below w.heap.size B7.out.size (fun k hk e => by omega)))
      clear hHeld
      generalize Z9 = Y at BF ⊢
      go_wp2_with fail
      go_ret
      exact ⟨rfl, BF.out⟩
    refine AllReadyH.cons (o := { dst := some 49, op := Op.call { callee := Callee.value (Operand.func 20), args := #[Operand.tmp 48], argTypes := #[32] }, type := 41, pos := "law.go:64", after := #[{ on := 12, ground := Ground.data }, { on := 10, ground := Ground.chain }, { on := 8, ground := Ground.guard }], guard := some (8, true) }) rfl (fun K hK => ?_) AllReadyH.nil
    go_simp
    refine (rbytes_any h Z2 HOK.out).mono ?_
    rintro e Z3 ⟨bo, bc, rfl, hsb, hb2⟩
    have S3 := hide hsb
    clear hsb
    replace S1 : Hid (SliceAt Z3 (.slice (some ⟨gb, 0, none⟩) 57 57) (S.hb h)) := S1.out.below hb2 (Nat.le_refl _)
    have CZ3 : Hid (Chg (fun _ => False) W7 Z3) := CZ2.out.then hb2
    clear hb2 CZ2
    clear hHeld
    refine hK.out _ _ CZ3.out (fun hHeld => ?_)
    clear hK K
    try simp only [Act.put, List.setIfInBounds_toArray, List.set_cons_zero, List.set_cons_succ]
    refine wpAnyH_ready (rs := [11, 14]) (by kernel_rfl) (by simp) ?_
    refine step_conv_as (o := { dst := some 47, op := Op.convert 41 9 (Operand.tmp 46), type := 9, pos := "law.go:64", after := #[{ on := 10, ground := Ground.data }, { on := 8, ground := Ground.guard }], guard := some (8, true) }) rfl (by rfl) 41 9 (.tmp 46) rfl (.slice (some ⟨gb, 0, none⟩) 57 57) rfl (.string st) (by rw [HST.out]; exact conv_slice S1.out) ?_ ⟨CZ3.out, fun hHeld => ?_⟩
    rotate_left
    · skip
      simp only [Act.put, List.setIfInBounds_toArray, List.set_cons_zero, List.set_cons_succ]
      clear S1
      refine wpAnyH_ready (rs := [14]) (by kernel_rfl) (by simp) ?_
      refine step_conv_as (o := { dst := some 50, op := Op.convert 41 9 (Operand.tmp 49), type := 9, pos := "law.go:64", after := #[{ on := 13, ground := Ground.data }, { on := 8, ground := Ground.guard }], guard := some (8, true) }) rfl (by rfl) 41 9 (.tmp 49) rfl (.slice bo 57 bc) rfl (.string st) (by rw [HST.out]; exact conv_slice S3.out) AllReadyH.nil ⟨CZ3.out, fun hHeld => ?_⟩
      simp only [Act.put, List.setIfInBounds_toArray, List.set_cons_zero, List.set_cons_succ]
      clear S3
      refine wpAnyH_take (i := 15) (oi := { dst := some 51, op := Op.binOp BinOp.eql 9 (Operand.tmp 47) (Operand.tmp 50) 9, type := 4, pos := "law.go:64", after := #[{ on := 11, ground := Ground.data }, { on := 14, ground := Ground.data }, { on := 8, ground := Ground.guard }], guard := some (8, true) }) (v := ?_) rfl (by kernel_rfl) (by kernel_rfl) (by kernel_rfl) (fun _ _ _ h => h) (Or.inl ⟨by rfl, ?_⟩) (by assumption) ?_
      rotate_left
      · intro w hSw
        clear hSw
        go_simp
        all_goals with_reducible rfl
      simp only [Act.put, List.setIfInBounds_toArray, List.set_cons_zero, List.set_cons_succ]
      refine wpAnyH_take (i := 16) (oi := { dst := some 52, op := Op.pick (Operand.tmp 44) (Operand.tmp 51) (Operand.const (Value.bool false)), type := 4, pos := "law.go:64", after := #[{ on := 8, ground := Ground.data }, { on := 15, ground := Ground.data }], guard := none }) (v := ?_) rfl (by kernel_rfl) (by kernel_rfl) (by kernel_rfl) (fun _ _ _ h => h) (Or.inl ⟨by rfl, ?_⟩) (by assumption) ?_
      rotate_left
      · intro w hSw
        clear hSw
        go_simp
        all_goals with_reducible rfl
      simp only [Act.put, List.setIfInBounds_toArray, List.set_cons_zero, List.set_cons_succ]
      refine wpAnyH_take (i := 17) (oi := { dst := some 53, op := Op.move (Operand.tmp 52), type := 4, pos := "law.go:64", after := #[{ on := 16, ground := Ground.data }, { on := 13, ground := Ground.chain }], guard := none }) (v := ?_) rfl (by kernel_rfl) (by kernel_rfl) (by kernel_rfl) (fun _ _ _ h => h) (Or.inl ⟨by rfl, ?_⟩) (by assumption) ?_
      rotate_left
      · intro w hSw
        clear hSw
        go_simp
        all_goals with_reducible rfl
      simp only [Act.put, List.setIfInBounds_toArray, List.set_cons_zero, List.set_cons_succ]
      refine wpAnyH_take (i := 18) (oi := { dst := some 54, op := Op.load 34 (Operand.tmp 16), type := 34, pos := "law.go:64", after := #[{ on := 17, ground := Ground.guard }], guard := some (17, true) }) (v := .agg (encG G).toArray) rfl (by kernel_rfl) (by kernel_rfl) (by kernel_rfl) (fun _ _ _ h => h) (yieldsIf_load_mid (by rfl) _ _ rfl g16 0 rfl (encG G) _ (fun _ hSw => rangeAt_row (hSw.row R16.out (fun e => e))) Tryd.underlying34 rfl (by rw [size_g _ GL1.out GL2.out, List.size_toArray])) (by assumption) ?_
      simp only [Act.put, List.setIfInBounds_toArray, List.set_cons_zero, List.set_cons_succ]
      refine wpAnyH_take (i := 19) (oi := { dst := some 55, op := Op.move (Operand.tmp 13), type := 42, pos := "law.go:64", after := #[{ on := 17, ground := Ground.guard }], guard := some (17, true) }) (v := ?_) rfl (by kernel_rfl) (by kernel_rfl) (by kernel_rfl) (fun _ _ _ h => h) (Or.inl ⟨by rfl, ?_⟩) (by assumption) ?_
      rotate_left
      · intro w hSw
        clear hSw
        go_simp
        all_goals with_reducible rfl
      simp only [Act.put, List.setIfInBounds_toArray, List.set_cons_zero, List.set_cons_succ]
      refine wpAnyH_take (i := 20) (oi := { dst := some 56, op := Op.load 30 (Operand.tmp 15), type := 30, pos := "law.go:64", after := #[{ on := 17, ground := Ground.guard }], guard := some (17, true) }) (v := .agg (S.v8l D).toArray) rfl (by kernel_rfl) (by kernel_rfl) (by kernel_rfl) (fun _ _ _ h => h) (yieldsIf_load_mid (by rfl) _ _ rfl g15 0 rfl (S.v8l D) _ (fun _ hSw => rangeAt_row (hSw.row R15.out (fun e => e))) Tryd.underlying30 rfl (by rw [size_dig _ LD.out, S.v8_size, S.v8l_length])) (by assumption) ?_
      simp only [Act.put, List.setIfInBounds_toArray, List.set_cons_zero, List.set_cons_succ]
      refine wpAnyH_take (i := 21) (oi := { dst := some 57, op := Op.load 32 (Operand.tmp 10), type := 32, pos := "law.go:64", after := #[{ on := 17, ground := Ground.guard }], guard := some (17, true) }) (v := .agg (encH h).toArray) rfl (by kernel_rfl) (by kernel_rfl) (by kernel_rfl) (fun _ _ _ h => h) (yieldsIf_load_mid (by rfl) _ _ rfl w.heap.size 0 rfl (encH h) _ (fun _ hSw => rangeAt_row (hSw.row P0.out (fun e => e))) Tryd.underlying32 rfl (by rw [size_h _ HR.out, List.size_toArray])) (by assumption) ?_
      simp only [Act.put, List.setIfInBounds_toArray, List.set_cons_zero, List.set_cons_succ]
      refine wpAnyH_ready (rs := [22]) (by kernel_rfl) (by simp) ?_
      refine AllReadyH.cons (o := { dst := some 58, op := Op.call { callee := Callee.value (Operand.func 21), args := #[Operand.tmp 55, Operand.tmp 56, Operand.tmp 57], argTypes := #[42, 30, 32] }, type := 34, pos := "law.go:64", after := #[{ on := 19, ground := Ground.data }, { on := 20, ground := Ground.data }, { on := 21, ground := Ground.data }, { on := 17, ground := Ground.chain }, { on := 17, ground := Ground.guard }], guard := some (17, true) }) rfl (fun K hK => ?_) AllReadyH.nil
      go_simp
      refine (rsign_any gT D h Z3 (CZ3.out.row RT.out (fun e => e)) LD.out HOK.out).mono ?_
      rintro e Z4 ⟨rfl, hb2⟩
      rw [← EG.out]
      have CZ4 : Hid (Chg (fun _ => False) W7 Z4) := CZ3.out.then hb2
      clear hb2 CZ3
      clear hHeld
      refine hK.out _ _ CZ4.out (fun hHeld => ?_)
      clear hK K
      try simp only [Act.put, List.setIfInBounds_toArray, List.set_cons_zero, List.set_cons_succ]
      refine wpAnyH_take (i := 23) (oi := { dst := some 59, op := Op.binOp BinOp.eql 34 (Operand.tmp 54) (Operand.tmp 58) 34, type := 4, pos := "law.go:64", after := #[{ on := 18, ground := Ground.data }, { on := 22, ground := Ground.data }, { on := 17, ground := Ground.guard }], guard := some (17, true) }) (v := ?_) rfl (by kernel_rfl) (by kernel_rfl) (by kernel_rfl) (fun _ _ _ h => h) (Or.inl ⟨by rfl, ?_⟩) (by assumption) ?_
      rotate_left
      · intro w hSw
        have e := equal_gs G GL1.out GL2.out
        clear hSw
        go_simp
        all_goals with_reducible rfl
      simp only [Act.put, List.setIfInBounds_toArray, List.set_cons_zero, List.set_cons_succ]
      refine wpAnyH_take (i := 24) (oi := { dst := some 60, op := Op.pick (Operand.tmp 53) (Operand.tmp 59) (Operand.const (Value.bool false)), type := 4, pos := "law.go:64", after := #[{ on := 17, ground := Ground.data }, { on := 23, ground := Ground.data }], guard := none }) (v := ?_) rfl (by kernel_rfl) (by kernel_rfl) (by kernel_rfl) (fun _ _ _ h => h) (Or.inl ⟨by rfl, ?_⟩) (by assumption) ?_
      rotate_left
      · intro w hSw
        clear hSw
        go_simp
        all_goals with_reducible rfl
      simp only [Act.put, List.setIfInBounds_toArray, List.set_cons_zero, List.set_cons_succ]
      refine wpAnyH_take (i := 25) (oi := { dst := some 61, op := Op.move (Operand.tmp 60), type := 4, pos := "law.go:64", after := #[{ on := 24, ground := Ground.data }, { on := 22, ground := Ground.chain }], guard := none }) (v := ?_) rfl (by kernel_rfl) (by kernel_rfl) (by kernel_rfl) (fun _ _ _ h => h) (Or.inl ⟨by rfl, ?_⟩) (by assumption) ?_
      rotate_left
      · intro w hSw
        clear hSw
        go_simp
        all_goals with_reducible rfl
      simp only [Act.put, List.setIfInBounds_toArray, List.set_cons_zero, List.set_cons_succ]
      refine wpAnyH_take (i := 26) (oi := { dst := some 62, op := Op.load 30 (Operand.tmp 15), type := 30, pos := "law.go:64", after := #[{ on := 25, ground := Ground.guard }], guard := some (25, true) }) (v := .agg (S.v8l D).toArray) rfl (by kernel_rfl) (by kernel_rfl) (by kernel_rfl) (fun _ _ _ h => h) (yieldsIf_load_mid (by rfl) _ _ rfl g15 0 rfl (S.v8l D) _ (fun _ hSw => rangeAt_row (hSw.row R15.out (fun e => e))) Tryd.underlying30 rfl (by rw [size_dig _ LD.out, S.v8_size, S.v8l_length])) (by assumption) ?_
      simp only [Act.put, List.setIfInBounds_toArray, List.set_cons_zero, List.set_cons_succ]
      refine wpAnyH_take (i := 27) (oi := { dst := some 63, op := Op.load 34 (Operand.tmp 16), type := 34, pos := "law.go:64", after := #[{ on := 25, ground := Ground.guard }], guard := some (25, true) }) (v := .agg (encG G).toArray) rfl (by kernel_rfl) (by kernel_rfl) (by kernel_rfl) (fun _ _ _ h => h) (yieldsIf_load_mid (by rfl) _ _ rfl g16 0 rfl (encG G) _ (fun _ hSw => rangeAt_row (hSw.row R16.out (fun e => e))) Tryd.underlying34 rfl (by rw [size_g _ GL1.out GL2.out, List.size_toArray])) (by assumption) ?_
      simp only [Act.put, List.setIfInBounds_toArray, List.set_cons_zero, List.set_cons_succ]
      refine wpAnyH_ready (rs := [28]) (by kernel_rfl) (by simp) ?_
      refine AllReadyH.cons (o := { dst := some 64, op := Op.call { callee := Callee.value (Operand.func 22), args := #[Operand.tmp 62, Operand.tmp 63], argTypes := #[30, 34] }, type := 4, pos := "law.go:64", after := #[{ on := 26, ground := Ground.data }, { on := 27, ground := Ground.data }, { on := 25, ground := Ground.chain }, { on := 25, ground := Ground.guard }], guard := some (25, true) }) rfl (fun K hK => ?_) AllReadyH.nil
      go_simp
      refine (holds_any D G Z4 LD.out GOK.out GL2.out (HK.out.below (B7.out.trans (CZ4.out.below w.heap.size B7.out.size (fun k hk e => by omega))) h0)).mono ?_
      rintro e Z5 ⟨rfl, hb2⟩
      rw [GH.out]
      have CZ5 : Hid (Chg (fun _ => False) W7 Z5) := CZ4.out.then hb2
      clear hb2 CZ4
      clear hHeld
      refine hK.out _ _ CZ5.out (fun hHeld => ?_)
      clear hK K
      try simp only [Act.put, List.setIfInBounds_toArray, List.set_cons_zero, List.set_cons_succ]
      refine wpAnyH_take (i := 29) (oi := { dst := some 65, op := Op.pick (Operand.tmp 61) (Operand.tmp 64) (Operand.const (Value.bool false)), type := 4, pos := "law.go:64", after := #[{ on := 25, ground := Ground.data }, { on := 28, ground := Ground.data }], guard := none }) (v := ?_) rfl (by kernel_rfl) (by kernel_rfl) (by kernel_rfl) (fun _ _ _ h => h) (Or.inl ⟨by rfl, ?_⟩) (by assumption) ?_
      rotate_left
      · intro w hSw
        clear hSw
        go_simp
        all_goals with_reducible rfl
      simp only [Act.put, List.setIfInBounds_toArray, List.set_cons_zero, List.set_cons_succ]
      refine wpAnyH_take (i := 30) (oi := { dst := some 66, op := Op.move (Operand.tmp 65), type := 4, pos := "law.go:64", after := #[{ on := 29, ground := Ground.data }, { on := 28, ground := Ground.chain }], guard := none }) (v := ?_) rfl (by kernel_rfl) (by kernel_rfl) (by kernel_rfl) (fun _ _ _ h => h) (Or.inl ⟨by rfl, ?_⟩) (by assumption) ?_
      rotate_left
      · intro w hSw
        clear hSw
        go_simp
        all_goals with_reducible rfl
      simp only [Act.put, List.setIfInBounds_toArray, List.set_cons_zero, List.set_cons_succ]
      refine wpAnyH_take (i := 31) (oi := { dst := some 67, op := Op.load 30 (Operand.tmp 15), type := 30, pos := "law.go:64", after := #[{ on := 30, ground := Ground.guard }], guard := some (30, true) }) (v := .agg (S.v8l D).toArray) rfl (by kernel_rfl) (by kernel_rfl) (by kernel_rfl) (fun _ _ _ h => h) (yieldsIf_load_mid (by rfl) _ _ rfl g15 0 rfl (S.v8l D) _ (fun _ hSw => rangeAt_row (hSw.row R15.out (fun e => e))) Tryd.underlying30 rfl (by rw [size_dig _ LD.out, S.v8_size, S.v8l_length])) (by assumption) ?_
      simp only [Act.put, List.setIfInBounds_toArray, List.set_cons_zero, List.set_cons_succ]
      refine wpAnyH_take (i := 32) (oi := { dst := some 68, op := Op.load 34 (Operand.tmp 11), type := 34, pos := "law.go:64", after := #[{ on := 30, ground := Ground.guard }], guard := some (30, true) }) (v := .agg (encG x).toArray) rfl (by kernel_rfl) (by kernel_rfl) (by kernel_rfl) (fun _ _ _ h => h) (yieldsIf_load_mid (by rfl) _ _ rfl (w.heap.size + 1) 0 rfl (encG x) _ (fun _ hSw => rangeAt_row (hSw.row P1.out (fun e => e))) Tryd.underlying34 rfl (by rw [size_g _ XR.out XT.out, List.size_toArray])) (by assumption) ?_
      simp only [Act.put, List.setIfInBounds_toArray, List.set_cons_zero, List.set_cons_succ]
      refine wpAnyH_take (i := 34) (oi := { dst := some 70, op := Op.move (Operand.tmp 13), type := 42, pos := "law.go:64", after := #[{ on := 30, ground := Ground.guard }], guard := some (30, true) }) (v := ?_) rfl (by kernel_rfl) (by kernel_rfl) (by kernel_rfl) (fun _ _ _ h => h) (Or.inl ⟨by rfl, ?_⟩) (by assumption) ?_
      rotate_left
      · intro w hSw
        clear hSw
        go_simp
        all_goals with_reducible rfl
      simp only [Act.put, List.setIfInBounds_toArray, List.set_cons_zero, List.set_cons_succ]
      refine wpAnyH_take (i := 35) (oi := { dst := some 71, op := Op.load 30 (Operand.tmp 15), type := 30, pos := "law.go:64", after := #[{ on := 30, ground := Ground.guard }], guard := some (30, true) }) (v := .agg (S.v8l D).toArray) rfl (by kernel_rfl) (by kernel_rfl) (by kernel_rfl) (fun _ _ _ h => h) (yieldsIf_load_mid (by rfl) _ _ rfl g15 0 rfl (S.v8l D) _ (fun _ hSw => rangeAt_row (hSw.row R15.out (fun e => e))) Tryd.underlying30 rfl (by rw [size_dig _ LD.out, S.v8_size, S.v8l_length])) (by assumption) ?_
      simp only [Act.put, List.setIfInBounds_toArray, List.set_cons_zero, List.set_cons_succ]
      refine wpAnyH_take (i := 36) (oi := { dst := some 72, op := Op.load 34 (Operand.tmp 11), type := 34, pos := "law.go:64", after := #[{ on := 30, ground := Ground.guard }], guard := some (30, true) }) (v := .agg (encG x).toArray) rfl (by kernel_rfl) (by kernel_rfl) (by kernel_rfl) (fun _ _ _ h => h) (yieldsIf_load_mid (by rfl) _ _ rfl (w.heap.size + 1) 0 rfl (encG x) _ (fun _ hSw => rangeAt_row (hSw.row P1.out (fun e => e))) Tryd.underlying34 rfl (by rw [size_g _ XR.out XT.out, List.size_toArray])) (by assumption) ?_
      simp only [Act.put, List.setIfInBounds_toArray, List.set_cons_zero, List.set_cons_succ]
      refine wpAnyH_ready (rs := [33]) (by kernel_rfl) (by simp) ?_
      refine AllReadyH.cons (o := { dst := some 69, op := Op.call { callee := Callee.value (Operand.func 22), args := #[Operand.tmp 67, Operand.tmp 68], argTypes := #[30, 34] }, type := 4, pos := "law.go:64", after := #[{ on := 31, ground := Ground.data }, { on := 32, ground := Ground.data }, { on := 30, ground := Ground.chain }, { on := 30, ground := Ground.guard }], guard := some (30, true) }) rfl (fun K hK => ?_) AllReadyH.nil
      go_simp
      refine (holds_any D x Z5 LD.out XOK.out XT.out (HK.out.below (B7.out.trans (CZ5.out.below w.heap.size B7.out.size (fun k hk e => by omega))) h0)).mono ?_
      rintro e Z6 ⟨rfl, hb2⟩
      obtain ⟨b, hb⟩ : ∃ b, b = (S.mac D (S.hb x.h) == x.tag) := ⟨_, rfl⟩
      rw [← hb]
      have EB := hide hb
      clear hb
      have CZ6 : Hid (Chg (fun _ => False) W7 Z6) := CZ5.out.then hb2
      clear hb2 CZ5
      clear hHeld
      refine hK.out _ _ CZ6.out (fun hHeld => ?_)
      clear hK K
      try simp only [Act.put, List.setIfInBounds_toArray, List.set_cons_zero, List.set_cons_succ]
      refine wpAnyH_ready (rs := [37]) (by kernel_rfl) (by simp) ?_
      refine AllReadyH.cons (o := { dst := some 73, op := Op.call { callee := Callee.value (Operand.func 23), args := #[Operand.tmp 70, Operand.tmp 71, Operand.tmp 72], argTypes := #[42, 30, 34] }, type := 4, pos := "law.go:64", after := #[{ on := 34, ground := Ground.data }, { on := 35, ground := Ground.data }, { on := 36, ground := Ground.data }, { on := 33, ground := Ground.chain }, { on := 30, ground := Ground.guard }], guard := some (30, true) }) rfl (fun K hK => ?_) AllReadyH.nil
      go_simp
      refine (rholds_any gT D x Z6 (CZ6.out.row RT.out (fun e => e)) LD.out XOK.out XT.out).mono ?_
      rintro e Z7 ⟨rfl, hb2⟩
      rw [← EB.out]
      have CZ7 : Hid (Chg (fun _ => False) W7 Z7) := CZ6.out.then hb2
      clear hb2 CZ6
      clear hHeld
      refine hK.out _ _ CZ7.out (fun hHeld => ?_)
      clear hK K
      try simp only [Act.put, List.setIfInBounds_toArray, List.set_cons_zero, List.set_cons_succ]
      refine wpAnyH_take (i := 38) (oi := { dst := some 74, op := Op.binOp BinOp.eql 4 (Operand.tmp 69) (Operand.tmp 73) 4, type := 4, pos := "law.go:64", after := #[{ on := 33, ground := Ground.data }, { on := 37, ground := Ground.data }, { on := 30, ground := Ground.guard }], guard := some (30, true) }) (v := ?_) rfl (by kernel_rfl) (by kernel_rfl) (by kernel_rfl) (fun _ _ _ h => h) (Or.inl ⟨by rfl, ?_⟩) (by assumption) ?_
      rotate_left
      · intro w hSw
        clear hSw
        go_simp
        all_goals with_reducible rfl
      simp only [Act.put, List.setIfInBounds_toArray, List.set_cons_zero, List.set_cons_succ]
      refine wpAnyH_take (i := 39) (oi := { dst := some 75, op := Op.pick (Operand.tmp 66) (Operand.tmp 74) (Operand.const (Value.bool false)), type := 4, pos := "law.go:64", after := #[{ on := 30, ground := Ground.data }, { on := 38, ground := Ground.data }], guard := none }) (v := ?_) rfl (by kernel_rfl) (by kernel_rfl) (by kernel_rfl) (fun _ _ _ h => h) (Or.inl ⟨by rfl, ?_⟩) (by assumption) ?_
      rotate_left
      · intro w hSw
        clear hSw
        go_simp
        all_goals with_reducible rfl
      simp only [Act.put, List.setIfInBounds_toArray, List.set_cons_zero, List.set_cons_succ]
      refine wpAnyH_take (i := 40) (oi := { dst := some 76, op := Op.move (Operand.tmp 75), type := 4, pos := "law.go:64", after := #[{ on := 39, ground := Ground.data }, { on := 37, ground := Ground.chain }], guard := none }) (v := ?_) rfl (by kernel_rfl) (by kernel_rfl) (by kernel_rfl) (fun _ _ _ h => h) (Or.inl ⟨by rfl, ?_⟩) (by assumption) ?_
      rotate_left
      · intro w hSw
        clear hSw
        go_simp
        all_goals with_reducible rfl
      simp only [Act.put, List.setIfInBounds_toArray, List.set_cons_zero, List.set_cons_succ]
      refine wpAnyH_take (i := 41) (oi := { dst := some 77, op := Op.move (Operand.tmp 14), type := 41, pos := "law.go:64", after := #[{ on := 40, ground := Ground.guard }], guard := some (40, true) }) (v := ?_) rfl (by kernel_rfl) (by kernel_rfl) (by kernel_rfl) (fun _ _ _ h => h) (Or.inl ⟨by rfl, ?_⟩) (by assumption) ?_
      rotate_left
      · intro w hSw
        clear hSw
        go_simp
        all_goals with_reducible rfl
      simp only [Act.put, List.setIfInBounds_toArray, List.set_cons_zero, List.set_cons_succ]
      refine wpAnyH_take (i := 42) (oi := { dst := some 78, op := Op.move (Operand.tmp 0), type := 41, pos := "law.go:64", after := #[{ on := 40, ground := Ground.guard }], guard := some (40, true) }) (v := ?_) rfl (by kernel_rfl) (by kernel_rfl) (by kernel_rfl) (fun _ _ _ h => h) (Or.inl ⟨by rfl, ?_⟩) (by assumption) ?_
      rotate_left
      · intro w hSw
        clear hSw
        go_simp
        all_goals with_reducible rfl
      simp only [Act.put, List.setIfInBounds_toArray, List.set_cons_zero, List.set_cons_succ]
      refine wpAnyH_ready (rs := [43]) (by kernel_rfl) (by simp) ?_
      refine AllReadyH.cons (o := { dst := some 79, op := Op.call { callee := Callee.value (Operand.func 24), args := #[Operand.tmp 77, Operand.tmp 78, Operand.const (Value.int IntKind.u8 165)], argTypes := #[41, 41, 5] }, type := 4, pos := "law.go:64", after := #[{ on := 41, ground := Ground.data }, { on := 42, ground := Ground.data }, { on := 40, ground := Ground.chain }, { on := 40, ground := Ground.guard }], guard := some (40, true) }) rfl (fun K hK => ?_) AllReadyH.nil
      go_simp
      refine (intact_any gF (.slice a l c) bs N Z7 (by have := HN.out; have := HL.out; omega) (SB.out.below (CZ7.out.below _ (Nat.le_refl _) (fun _ _ e => e)) (Nat.le_refl _)) (by have := HL.out; omega) (CZ7.out.row RF.out (fun e => e))).mono ?_
      rintro e Z8 ⟨rfl, hstl⟩
      have hb2 : Below Z7.heap.size Z7 Z8 := hstl.below _
      clear hstl
      have CZ8 : Hid (Chg (fun _ => False) W7 Z8) := CZ7.out.then hb2
      clear hb2 CZ7
      clear hHeld
      refine hK.out _ _ CZ8.out (fun hHeld => ?_)
      clear hK K
      try simp only [Act.put, List.setIfInBounds_toArray, List.set_cons_zero, List.set_cons_succ]
      refine wpAnyH_take (i := 44) (oi := { dst := some 80, op := Op.pick (Operand.tmp 76) (Operand.tmp 79) (Operand.const (Value.bool false)), type := 4, pos := "law.go:64", after := #[{ on := 40, ground := Ground.data }, { on := 43, ground := Ground.data }], guard := none }) (v := ?_) rfl (by kernel_rfl) (by kernel_rfl) (by kernel_rfl) (fun _ _ _ h => h) (Or.inl ⟨by rfl, ?_⟩) (by assumption) ?_
      rotate_left
      · intro w hSw
        clear hSw
        go_simp
        all_goals with_reducible rfl
      simp only [Act.put, List.setIfInBounds_toArray, List.set_cons_zero, List.set_cons_succ]
      refine wpAnyH_take (i := 45) (oi := { dst := some 81, op := Op.move (Operand.tmp 80), type := 4, pos := "law.go:64", after := #[{ on := 44, ground := Ground.data }, { on := 43, ground := Ground.chain }], guard := none }) (v := ?_) rfl (by kernel_rfl) (by kernel_rfl) (by kernel_rfl) (fun _ _ _ h => h) (Or.inl ⟨by rfl, ?_⟩) (by assumption) ?_
      rotate_left
      · intro w hSw
        clear hSw
        go_simp
        all_goals with_reducible rfl
      simp only [Act.put, List.setIfInBounds_toArray, List.set_cons_zero, List.set_cons_succ]
      refine wpAnyH_ready (rs := [46]) (by kernel_rfl) (by simp) ?_
      refine AllReadyH.cons (o := { dst := some 82, op := Op.call { callee := Callee.value (Operand.func 13), args := #[], argTypes := #[] }, type := 4, pos := "law.go:64", after := #[{ on := 45, ground := Ground.chain }, { on := 45, ground := Ground.guard }], guard := some (45, true) }) rfl (fun K hK => ?_) AllReadyH.nil
      go_simp
      refine (known_any Z8 (HK.out.below (B7.out.trans (CZ8.out.below w.heap.size B7.out.size (fun k hk e => by omega))) h0)).mono ?_
      rintro e Z9 ⟨rfl, hb2⟩
      have CZ9 : Hid (Chg (fun _ => False) W7 Z9) := CZ8.out.then hb2
      clear hb2 CZ8
      clear hHeld
      refine hK.out _ _ CZ9.out (fun hHeld => ?_)
      clear hK K
      try simp only [Act.put, List.setIfInBounds_toArray, List.set_cons_zero, List.set_cons_succ]
      refine wpAnyH_take (i := 47) (oi := { dst := some 83, op := Op.pick (Operand.tmp 81) (Operand.tmp 82) (Operand.const (Value.bool false)), type := 4, pos := "law.go:64", after := #[{ on := 45, ground := Ground.data }, { on := 46, ground := Ground.data }], guard := none }) (v := ?_) rfl (by kernel_rfl) (by kernel_rfl) (by kernel_rfl) (fun _ _ _ h => h) (Or.inl ⟨by rfl, ?_⟩) (by assumption) ?_
      rotate_left
      · intro w hSw
        clear hSw
        go_simp
        all_goals with_reducible rfl
      simp only [Act.put, List.setIfInBounds_toArray, List.set_cons_zero, List.set_cons_succ]
      refine wpAnyH_take (i := 48) (oi := { dst := some 12, op := Op.assign (Operand.tmp 83), type := 4, pos := "law.go:64", after := #[{ on := 47, ground := Ground.data }, { on := 46, ground := Ground.chain }, { on := 0, ground := Ground.phase }, { on := 1, ground := Ground.phase }, { on := 2, ground := Ground.phase }, { on := 3, ground := Ground.phase }, { on := 4, ground := Ground.phase }, { on := 5, ground := Ground.phase }, { on := 6, ground := Ground.phase }, { on := 7, ground := Ground.phase }, { on := 8, ground := Ground.phase }, { on := 9, ground := Ground.phase }, { on := 10, ground := Ground.phase }, { on := 11, ground := Ground.phase }, { on := 12, ground := Ground.phase }, { on := 13, ground := Ground.phase }, { on := 14, ground := Ground.phase }, { on := 15, ground := Ground.phase }, { on := 16, ground := Ground.phase }, { on := 17, ground := Ground.phase }, { on := 18, ground := Ground.phase }, { on := 19, ground := Ground.phase }, { on := 20, ground := Ground.phase }, { on := 21, ground := Ground.phase }, { on := 22, ground := Ground.phase }, { on := 23, ground := Ground.phase }, { on := 24, ground := Ground.phase }, { on := 25, ground := Ground.phase }, { on := 26, ground := Ground.phase }, { on := 27, ground := Ground.phase }, { on := 28, ground := Ground.phase }, { on := 29, ground := Ground.phase }, { on := 30, ground := Ground.phase }, { on := 31, ground := Ground.phase }, { on := 32, ground := Ground.phase }, { on := 33, ground := Ground.phase }, { on := 34, ground := Ground.phase }, { on := 35, ground := Ground.phase }, { on := 36, ground := Ground.phase }, { on := 37, ground := Ground.phase }, { on := 38, ground := Ground.phase }, { on := 39, ground := Ground.phase }, { on := 40, ground := Ground.phase }, { on := 41, ground := Ground.phase }, { on := 42, ground := Ground.phase }, { on := 43, ground := Ground.phase }, { on := 44, ground := Ground.phase }, { on := 45, ground := Ground.phase }, { on := 46, ground := Ground.phase }, { on := 47, ground := Ground.phase }], guard := none }) (v := ?_) rfl (by kernel_rfl) (by kernel_rfl) (by kernel_rfl) (fun _ _ _ h => h) (Or.inl ⟨by rfl, ?_⟩) (by assumption) ?_
      rotate_left
      · intro w hSw
        clear hSw
        go_simp
        all_goals with_reducible rfl
      simp only [Act.put, List.setIfInBounds_toArray, List.set_cons_zero, List.set_cons_succ]
      refine wpAnyH_done (by kernel_rfl) ?_ _
      refine NoPanic.normal ?_
      have BF := hide (B7.out.trans (CZ9.out.below w.heap.size B7.out.size (fun k hk e => by omega)))
      clear hHeld
      generalize Z9 = Y at BF ⊢
      go_wp2_with fail
      go_ret
      exact ⟨rfl, BF.out⟩
    refine step_conv_as (o := { dst := some 50, op := Op.convert 41 9 (Operand.tmp 49), type := 9, pos := "law.go:64", after := #[{ on := 13, ground := Ground.data }, { on := 8, ground := Ground.guard }], guard := some (8, true) }) rfl (by rfl) 41 9 (.tmp 49) rfl (.slice bo 57 bc) rfl (.string st) (by rw [HST.out]; exact conv_slice S3.out) AllReadyH.nil ⟨CZ3.out, fun hHeld => ?_⟩
    simp only [Act.put, List.setIfInBounds_toArray, List.set_cons_zero, List.set_cons_succ]
    clear S3
    refine wpAnyH_ready (rs := [11]) (by kernel_rfl) (by simp) ?_
    refine step_conv_as (o := { dst := some 47, op := Op.convert 41 9 (Operand.tmp 46), type := 9, pos := "law.go:64", after := #[{ on := 10, ground := Ground.data }, { on := 8, ground := Ground.guard }], guard := some (8, true) }) rfl (by rfl) 41 9 (.tmp 46) rfl (.slice (some ⟨gb, 0, none⟩) 57 57) rfl (.string st) (by rw [HST.out]; exact conv_slice S1.out) AllReadyH.nil ⟨CZ3.out, fun hHeld => ?_⟩
    simp only [Act.put, List.setIfInBounds_toArray, List.set_cons_zero, List.set_cons_succ]
    clear S1
    refine wpAnyH_take (i := 15) (oi := { dst := some 51, op := Op.binOp BinOp.eql 9 (Operand.tmp 47) (Operand.tmp 50) 9, type := 4, pos := "law.go:64", after := #[{ on := 11, ground := Ground.data }, { on := 14, ground := Ground.data }, { on := 8, ground := Ground.guard }], guard := some (8, true) }) (v := ?_) rfl (by kernel_rfl) (by kernel_rfl) (by kernel_rfl) (fun _ _ _ h => h) (Or.inl ⟨by rfl, ?_⟩) (by assumption) ?_
    rotate_left
    · intro w hSw
      clear hSw
      go_simp
      all_goals with_reducible rfl
    simp only [Act.put, List.setIfInBounds_toArray, List.set_cons_zero, List.set_cons_succ]
    refine wpAnyH_take (i := 16) (oi := { dst := some 52, op := Op.pick (Operand.tmp 44) (Operand.tmp 51) (Operand.const (Value.bool false)), type := 4, pos := "law.go:64", after := #[{ on := 8, ground := Ground.data }, { on := 15, ground := Ground.data }], guard := none }) (v := ?_) rfl (by kernel_rfl) (by kernel_rfl) (by kernel_rfl) (fun _ _ _ h => h) (Or.inl ⟨by rfl, ?_⟩) (by assumption) ?_
    rotate_left
    · intro w hSw
      clear hSw
      go_simp
      all_goals with_reducible rfl
    simp only [Act.put, List.setIfInBounds_toArray, List.set_cons_zero, List.set_cons_succ]
    refine wpAnyH_take (i := 17) (oi := { dst := some 53, op := Op.move (Operand.tmp 52), type := 4, pos := "law.go:64", after := #[{ on := 16, ground := Ground.data }, { on := 13, ground := Ground.chain }], guard := none }) (v := ?_) rfl (by kernel_rfl) (by kernel_rfl) (by kernel_rfl) (fun _ _ _ h => h) (Or.inl ⟨by rfl, ?_⟩) (by assumption) ?_
    rotate_left
    · intro w hSw
      clear hSw
      go_simp
      all_goals with_reducible rfl
    simp only [Act.put, List.setIfInBounds_toArray, List.set_cons_zero, List.set_cons_succ]
    refine wpAnyH_take (i := 18) (oi := { dst := some 54, op := Op.load 34 (Operand.tmp 16), type := 34, pos := "law.go:64", after := #[{ on := 17, ground := Ground.guard }], guard := some (17, true) }) (v := .agg (encG G).toArray) rfl (by kernel_rfl) (by kernel_rfl) (by kernel_rfl) (fun _ _ _ h => h) (yieldsIf_load_mid (by rfl) _ _ rfl g16 0 rfl (encG G) _ (fun _ hSw => rangeAt_row (hSw.row R16.out (fun e => e))) Tryd.underlying34 rfl (by rw [size_g _ GL1.out GL2.out, List.size_toArray])) (by assumption) ?_
    simp only [Act.put, List.setIfInBounds_toArray, List.set_cons_zero, List.set_cons_succ]
    refine wpAnyH_take (i := 19) (oi := { dst := some 55, op := Op.move (Operand.tmp 13), type := 42, pos := "law.go:64", after := #[{ on := 17, ground := Ground.guard }], guard := some (17, true) }) (v := ?_) rfl (by kernel_rfl) (by kernel_rfl) (by kernel_rfl) (fun _ _ _ h => h) (Or.inl ⟨by rfl, ?_⟩) (by assumption) ?_
    rotate_left
    · intro w hSw
      clear hSw
      go_simp
      all_goals with_reducible rfl
    simp only [Act.put, List.setIfInBounds_toArray, List.set_cons_zero, List.set_cons_succ]
    refine wpAnyH_take (i := 20) (oi := { dst := some 56, op := Op.load 30 (Operand.tmp 15), type := 30, pos := "law.go:64", after := #[{ on := 17, ground := Ground.guard }], guard := some (17, true) }) (v := .agg (S.v8l D).toArray) rfl (by kernel_rfl) (by kernel_rfl) (by kernel_rfl) (fun _ _ _ h => h) (yieldsIf_load_mid (by rfl) _ _ rfl g15 0 rfl (S.v8l D) _ (fun _ hSw => rangeAt_row (hSw.row R15.out (fun e => e))) Tryd.underlying30 rfl (by rw [size_dig _ LD.out, S.v8_size, S.v8l_length])) (by assumption) ?_
    simp only [Act.put, List.setIfInBounds_toArray, List.set_cons_zero, List.set_cons_succ]
    refine wpAnyH_take (i := 21) (oi := { dst := some 57, op := Op.load 32 (Operand.tmp 10), type := 32, pos := "law.go:64", after := #[{ on := 17, ground := Ground.guard }], guard := some (17, true) }) (v := .agg (encH h).toArray) rfl (by kernel_rfl) (by kernel_rfl) (by kernel_rfl) (fun _ _ _ h => h) (yieldsIf_load_mid (by rfl) _ _ rfl w.heap.size 0 rfl (encH h) _ (fun _ hSw => rangeAt_row (hSw.row P0.out (fun e => e))) Tryd.underlying32 rfl (by rw [size_h _ HR.out, List.size_toArray])) (by assumption) ?_
    simp only [Act.put, List.setIfInBounds_toArray, List.set_cons_zero, List.set_cons_succ]
    refine wpAnyH_ready (rs := [22]) (by kernel_rfl) (by simp) ?_
    refine AllReadyH.cons (o := { dst := some 58, op := Op.call { callee := Callee.value (Operand.func 21), args := #[Operand.tmp 55, Operand.tmp 56, Operand.tmp 57], argTypes := #[42, 30, 32] }, type := 34, pos := "law.go:64", after := #[{ on := 19, ground := Ground.data }, { on := 20, ground := Ground.data }, { on := 21, ground := Ground.data }, { on := 17, ground := Ground.chain }, { on := 17, ground := Ground.guard }], guard := some (17, true) }) rfl (fun K hK => ?_) AllReadyH.nil
    go_simp
    refine (rsign_any gT D h Z3 (CZ3.out.row RT.out (fun e => e)) LD.out HOK.out).mono ?_
    rintro e Z4 ⟨rfl, hb2⟩
    rw [← EG.out]
    have CZ4 : Hid (Chg (fun _ => False) W7 Z4) := CZ3.out.then hb2
    clear hb2 CZ3
    clear hHeld
    refine hK.out _ _ CZ4.out (fun hHeld => ?_)
    clear hK K
    try simp only [Act.put, List.setIfInBounds_toArray, List.set_cons_zero, List.set_cons_succ]
    refine wpAnyH_take (i := 23) (oi := { dst := some 59, op := Op.binOp BinOp.eql 34 (Operand.tmp 54) (Operand.tmp 58) 34, type := 4, pos := "law.go:64", after := #[{ on := 18, ground := Ground.data }, { on := 22, ground := Ground.data }, { on := 17, ground := Ground.guard }], guard := some (17, true) }) (v := ?_) rfl (by kernel_rfl) (by kernel_rfl) (by kernel_rfl) (fun _ _ _ h => h) (Or.inl ⟨by rfl, ?_⟩) (by assumption) ?_
    rotate_left
    · intro w hSw
      have e := equal_gs G GL1.out GL2.out
      clear hSw
      go_simp
      all_goals with_reducible rfl
    simp only [Act.put, List.setIfInBounds_toArray, List.set_cons_zero, List.set_cons_succ]
    refine wpAnyH_take (i := 24) (oi := { dst := some 60, op := Op.pick (Operand.tmp 53) (Operand.tmp 59) (Operand.const (Value.bool false)), type := 4, pos := "law.go:64", after := #[{ on := 17, ground := Ground.data }, { on := 23, ground := Ground.data }], guard := none }) (v := ?_) rfl (by kernel_rfl) (by kernel_rfl) (by kernel_rfl) (fun _ _ _ h => h) (Or.inl ⟨by rfl, ?_⟩) (by assumption) ?_
    rotate_left
    · intro w hSw
      clear hSw
      go_simp
      all_goals with_reducible rfl
    simp only [Act.put, List.setIfInBounds_toArray, List.set_cons_zero, List.set_cons_succ]
    refine wpAnyH_take (i := 25) (oi := { dst := some 61, op := Op.move (Operand.tmp 60), type := 4, pos := "law.go:64", after := #[{ on := 24, ground := Ground.data }, { on := 22, ground := Ground.chain }], guard := none }) (v := ?_) rfl (by kernel_rfl) (by kernel_rfl) (by kernel_rfl) (fun _ _ _ h => h) (Or.inl ⟨by rfl, ?_⟩) (by assumption) ?_
    rotate_left
    · intro w hSw
      clear hSw
      go_simp
      all_goals with_reducible rfl
    simp only [Act.put, List.setIfInBounds_toArray, List.set_cons_zero, List.set_cons_succ]
    refine wpAnyH_take (i := 26) (oi := { dst := some 62, op := Op.load 30 (Operand.tmp 15), type := 30, pos := "law.go:64", after := #[{ on := 25, ground := Ground.guard }], guard := some (25, true) }) (v := .agg (S.v8l D).toArray) rfl (by kernel_rfl) (by kernel_rfl) (by kernel_rfl) (fun _ _ _ h => h) (yieldsIf_load_mid (by rfl) _ _ rfl g15 0 rfl (S.v8l D) _ (fun _ hSw => rangeAt_row (hSw.row R15.out (fun e => e))) Tryd.underlying30 rfl (by rw [size_dig _ LD.out, S.v8_size, S.v8l_length])) (by assumption) ?_
    simp only [Act.put, List.setIfInBounds_toArray, List.set_cons_zero, List.set_cons_succ]
    refine wpAnyH_take (i := 27) (oi := { dst := some 63, op := Op.load 34 (Operand.tmp 16), type := 34, pos := "law.go:64", after := #[{ on := 25, ground := Ground.guard }], guard := some (25, true) }) (v := .agg (encG G).toArray) rfl (by kernel_rfl) (by kernel_rfl) (by kernel_rfl) (fun _ _ _ h => h) (yieldsIf_load_mid (by rfl) _ _ rfl g16 0 rfl (encG G) _ (fun _ hSw => rangeAt_row (hSw.row R16.out (fun e => e))) Tryd.underlying34 rfl (by rw [size_g _ GL1.out GL2.out, List.size_toArray])) (by assumption) ?_
    simp only [Act.put, List.setIfInBounds_toArray, List.set_cons_zero, List.set_cons_succ]
    refine wpAnyH_ready (rs := [28]) (by kernel_rfl) (by simp) ?_
    refine AllReadyH.cons (o := { dst := some 64, op := Op.call { callee := Callee.value (Operand.func 22), args := #[Operand.tmp 62, Operand.tmp 63], argTypes := #[30, 34] }, type := 4, pos := "law.go:64", after := #[{ on := 26, ground := Ground.data }, { on := 27, ground := Ground.data }, { on := 25, ground := Ground.chain }, { on := 25, ground := Ground.guard }], guard := some (25, true) }) rfl (fun K hK => ?_) AllReadyH.nil
    go_simp
    refine (holds_any D G Z4 LD.out GOK.out GL2.out (HK.out.below (B7.out.trans (CZ4.out.below w.heap.size B7.out.size (fun k hk e => by omega))) h0)).mono ?_
    rintro e Z5 ⟨rfl, hb2⟩
    rw [GH.out]
    have CZ5 : Hid (Chg (fun _ => False) W7 Z5) := CZ4.out.then hb2
    clear hb2 CZ4
    clear hHeld
    refine hK.out _ _ CZ5.out (fun hHeld => ?_)
    clear hK K
    try simp only [Act.put, List.setIfInBounds_toArray, List.set_cons_zero, List.set_cons_succ]
    refine wpAnyH_take (i := 29) (oi := { dst := some 65, op := Op.pick (Operand.tmp 61) (Operand.tmp 64) (Operand.const (Value.bool false)), type := 4, pos := "law.go:64", after := #[{ on := 25, ground := Ground.data }, { on := 28, ground := Ground.data }], guard := none }) (v := ?_) rfl (by kernel_rfl) (by kernel_rfl) (by kernel_rfl) (fun _ _ _ h => h) (Or.inl ⟨by rfl, ?_⟩) (by assumption) ?_
    rotate_left
    · intro w hSw
      clear hSw
      go_simp
      all_goals with_reducible rfl
    simp only [Act.put, List.setIfInBounds_toArray, List.set_cons_zero, List.set_cons_succ]
    refine wpAnyH_take (i := 30) (oi := { dst := some 66, op := Op.move (Operand.tmp 65), type := 4, pos := "law.go:64", after := #[{ on := 29, ground := Ground.data }, { on := 28, ground := Ground.chain }], guard := none }) (v := ?_) rfl (by kernel_rfl) (by kernel_rfl) (by kernel_rfl) (fun _ _ _ h => h) (Or.inl ⟨by rfl, ?_⟩) (by assumption) ?_
    rotate_left
    · intro w hSw
      clear hSw
      go_simp
      all_goals with_reducible rfl
    simp only [Act.put, List.setIfInBounds_toArray, List.set_cons_zero, List.set_cons_succ]
    refine wpAnyH_take (i := 31) (oi := { dst := some 67, op := Op.load 30 (Operand.tmp 15), type := 30, pos := "law.go:64", after := #[{ on := 30, ground := Ground.guard }], guard := some (30, true) }) (v := .agg (S.v8l D).toArray) rfl (by kernel_rfl) (by kernel_rfl) (by kernel_rfl) (fun _ _ _ h => h) (yieldsIf_load_mid (by rfl) _ _ rfl g15 0 rfl (S.v8l D) _ (fun _ hSw => rangeAt_row (hSw.row R15.out (fun e => e))) Tryd.underlying30 rfl (by rw [size_dig _ LD.out, S.v8_size, S.v8l_length])) (by assumption) ?_
    simp only [Act.put, List.setIfInBounds_toArray, List.set_cons_zero, List.set_cons_succ]
    refine wpAnyH_take (i := 32) (oi := { dst := some 68, op := Op.load 34 (Operand.tmp 11), type := 34, pos := "law.go:64", after := #[{ on := 30, ground := Ground.guard }], guard := some (30, true) }) (v := .agg (encG x).toArray) rfl (by kernel_rfl) (by kernel_rfl) (by kernel_rfl) (fun _ _ _ h => h) (yieldsIf_load_mid (by rfl) _ _ rfl (w.heap.size + 1) 0 rfl (encG x) _ (fun _ hSw => rangeAt_row (hSw.row P1.out (fun e => e))) Tryd.underlying34 rfl (by rw [size_g _ XR.out XT.out, List.size_toArray])) (by assumption) ?_
    simp only [Act.put, List.setIfInBounds_toArray, List.set_cons_zero, List.set_cons_succ]
    refine wpAnyH_take (i := 34) (oi := { dst := some 70, op := Op.move (Operand.tmp 13), type := 42, pos := "law.go:64", after := #[{ on := 30, ground := Ground.guard }], guard := some (30, true) }) (v := ?_) rfl (by kernel_rfl) (by kernel_rfl) (by kernel_rfl) (fun _ _ _ h => h) (Or.inl ⟨by rfl, ?_⟩) (by assumption) ?_
    rotate_left
    · intro w hSw
      clear hSw
      go_simp
      all_goals with_reducible rfl
    simp only [Act.put, List.setIfInBounds_toArray, List.set_cons_zero, List.set_cons_succ]
    refine wpAnyH_take (i := 35) (oi := { dst := some 71, op := Op.load 30 (Operand.tmp 15), type := 30, pos := "law.go:64", after := #[{ on := 30, ground := Ground.guard }], guard := some (30, true) }) (v := .agg (S.v8l D).toArray) rfl (by kernel_rfl) (by kernel_rfl) (by kernel_rfl) (fun _ _ _ h => h) (yieldsIf_load_mid (by rfl) _ _ rfl g15 0 rfl (S.v8l D) _ (fun _ hSw => rangeAt_row (hSw.row R15.out (fun e => e))) Tryd.underlying30 rfl (by rw [size_dig _ LD.out, S.v8_size, S.v8l_length])) (by assumption) ?_
    simp only [Act.put, List.setIfInBounds_toArray, List.set_cons_zero, List.set_cons_succ]
    refine wpAnyH_take (i := 36) (oi := { dst := some 72, op := Op.load 34 (Operand.tmp 11), type := 34, pos := "law.go:64", after := #[{ on := 30, ground := Ground.guard }], guard := some (30, true) }) (v := .agg (encG x).toArray) rfl (by kernel_rfl) (by kernel_rfl) (by kernel_rfl) (fun _ _ _ h => h) (yieldsIf_load_mid (by rfl) _ _ rfl (w.heap.size + 1) 0 rfl (encG x) _ (fun _ hSw => rangeAt_row (hSw.row P1.out (fun e => e))) Tryd.underlying34 rfl (by rw [size_g _ XR.out XT.out, List.size_toArray])) (by assumption) ?_
    simp only [Act.put, List.setIfInBounds_toArray, List.set_cons_zero, List.set_cons_succ]
    refine wpAnyH_ready (rs := [33]) (by kernel_rfl) (by simp) ?_
    refine AllReadyH.cons (o := { dst := some 69, op := Op.call { callee := Callee.value (Operand.func 22), args := #[Operand.tmp 67, Operand.tmp 68], argTypes := #[30, 34] }, type := 4, pos := "law.go:64", after := #[{ on := 31, ground := Ground.data }, { on := 32, ground := Ground.data }, { on := 30, ground := Ground.chain }, { on := 30, ground := Ground.guard }], guard := some (30, true) }) rfl (fun K hK => ?_) AllReadyH.nil
    go_simp
    refine (holds_any D x Z5 LD.out XOK.out XT.out (HK.out.below (B7.out.trans (CZ5.out.below w.heap.size B7.out.size (fun k hk e => by omega))) h0)).mono ?_
    rintro e Z6 ⟨rfl, hb2⟩
    obtain ⟨b, hb⟩ : ∃ b, b = (S.mac D (S.hb x.h) == x.tag) := ⟨_, rfl⟩
    rw [← hb]
    have EB := hide hb
    clear hb
    have CZ6 : Hid (Chg (fun _ => False) W7 Z6) := CZ5.out.then hb2
    clear hb2 CZ5
    clear hHeld
    refine hK.out _ _ CZ6.out (fun hHeld => ?_)
    clear hK K
    try simp only [Act.put, List.setIfInBounds_toArray, List.set_cons_zero, List.set_cons_succ]
    refine wpAnyH_ready (rs := [37]) (by kernel_rfl) (by simp) ?_
    refine AllReadyH.cons (o := { dst := some 73, op := Op.call { callee := Callee.value (Operand.func 23), args := #[Operand.tmp 70, Operand.tmp 71, Operand.tmp 72], argTypes := #[42, 30, 34] }, type := 4, pos := "law.go:64", after := #[{ on := 34, ground := Ground.data }, { on := 35, ground := Ground.data }, { on := 36, ground := Ground.data }, { on := 33, ground := Ground.chain }, { on := 30, ground := Ground.guard }], guard := some (30, true) }) rfl (fun K hK => ?_) AllReadyH.nil
    go_simp
    refine (rholds_any gT D x Z6 (CZ6.out.row RT.out (fun e => e)) LD.out XOK.out XT.out).mono ?_
    rintro e Z7 ⟨rfl, hb2⟩
    rw [← EB.out]
    have CZ7 : Hid (Chg (fun _ => False) W7 Z7) := CZ6.out.then hb2
    clear hb2 CZ6
    clear hHeld
    refine hK.out _ _ CZ7.out (fun hHeld => ?_)
    clear hK K
    try simp only [Act.put, List.setIfInBounds_toArray, List.set_cons_zero, List.set_cons_succ]
    refine wpAnyH_take (i := 38) (oi := { dst := some 74, op := Op.binOp BinOp.eql 4 (Operand.tmp 69) (Operand.tmp 73) 4, type := 4, pos := "law.go:64", after := #[{ on := 33, ground := Ground.data }, { on := 37, ground := Ground.data }, { on := 30, ground := Ground.guard }], guard := some (30, true) }) (v := ?_) rfl (by kernel_rfl) (by kernel_rfl) (by kernel_rfl) (fun _ _ _ h => h) (Or.inl ⟨by rfl, ?_⟩) (by assumption) ?_
    rotate_left
    · intro w hSw
      clear hSw
      go_simp
      all_goals with_reducible rfl
    simp only [Act.put, List.setIfInBounds_toArray, List.set_cons_zero, List.set_cons_succ]
    refine wpAnyH_take (i := 39) (oi := { dst := some 75, op := Op.pick (Operand.tmp 66) (Operand.tmp 74) (Operand.const (Value.bool false)), type := 4, pos := "law.go:64", after := #[{ on := 30, ground := Ground.data }, { on := 38, ground := Ground.data }], guard := none }) (v := ?_) rfl (by kernel_rfl) (by kernel_rfl) (by kernel_rfl) (fun _ _ _ h => h) (Or.inl ⟨by rfl, ?_⟩) (by assumption) ?_
    rotate_left
    · intro w hSw
      clear hSw
      go_simp
      all_goals with_reducible rfl
    simp only [Act.put, List.setIfInBounds_toArray, List.set_cons_zero, List.set_cons_succ]
    refine wpAnyH_take (i := 40) (oi := { dst := some 76, op := Op.move (Operand.tmp 75), type := 4, pos := "law.go:64", after := #[{ on := 39, ground := Ground.data }, { on := 37, ground := Ground.chain }], guard := none }) (v := ?_) rfl (by kernel_rfl) (by kernel_rfl) (by kernel_rfl) (fun _ _ _ h => h) (Or.inl ⟨by rfl, ?_⟩) (by assumption) ?_
    rotate_left
    · intro w hSw
      clear hSw
      go_simp
      all_goals with_reducible rfl
    simp only [Act.put, List.setIfInBounds_toArray, List.set_cons_zero, List.set_cons_succ]
    refine wpAnyH_take (i := 41) (oi := { dst := some 77, op := Op.move (Operand.tmp 14), type := 41, pos := "law.go:64", after := #[{ on := 40, ground := Ground.guard }], guard := some (40, true) }) (v := ?_) rfl (by kernel_rfl) (by kernel_rfl) (by kernel_rfl) (fun _ _ _ h => h) (Or.inl ⟨by rfl, ?_⟩) (by assumption) ?_
    rotate_left
    · intro w hSw
      clear hSw
      go_simp
      all_goals with_reducible rfl
    simp only [Act.put, List.setIfInBounds_toArray, List.set_cons_zero, List.set_cons_succ]
    refine wpAnyH_take (i := 42) (oi := { dst := some 78, op := Op.move (Operand.tmp 0), type := 41, pos := "law.go:64", after := #[{ on := 40, ground := Ground.guard }], guard := some (40, true) }) (v := ?_) rfl (by kernel_rfl) (by kernel_rfl) (by kernel_rfl) (fun _ _ _ h => h) (Or.inl ⟨by rfl, ?_⟩) (by assumption) ?_
    rotate_left
    · intro w hSw
      clear hSw
      go_simp
      all_goals with_reducible rfl
    simp only [Act.put, List.setIfInBounds_toArray, List.set_cons_zero, List.set_cons_succ]
    refine wpAnyH_ready (rs := [43]) (by kernel_rfl) (by simp) ?_
    refine AllReadyH.cons (o := { dst := some 79, op := Op.call { callee := Callee.value (Operand.func 24), args := #[Operand.tmp 77, Operand.tmp 78, Operand.const (Value.int IntKind.u8 165)], argTypes := #[41, 41, 5] }, type := 4, pos := "law.go:64", after := #[{ on := 41, ground := Ground.data }, { on := 42, ground := Ground.data }, { on := 40, ground := Ground.chain }, { on := 40, ground := Ground.guard }], guard := some (40, true) }) rfl (fun K hK => ?_) AllReadyH.nil
    go_simp
    refine (intact_any gF (.slice a l c) bs N Z7 (by have := HN.out; have := HL.out; omega) (SB.out.below (CZ7.out.below _ (Nat.le_refl _) (fun _ _ e => e)) (Nat.le_refl _)) (by have := HL.out; omega) (CZ7.out.row RF.out (fun e => e))).mono ?_
    rintro e Z8 ⟨rfl, hstl⟩
    have hb2 : Below Z7.heap.size Z7 Z8 := hstl.below _
    clear hstl
    have CZ8 : Hid (Chg (fun _ => False) W7 Z8) := CZ7.out.then hb2
    clear hb2 CZ7
    clear hHeld
    refine hK.out _ _ CZ8.out (fun hHeld => ?_)
    clear hK K
    try simp only [Act.put, List.setIfInBounds_toArray, List.set_cons_zero, List.set_cons_succ]
    refine wpAnyH_take (i := 44) (oi := { dst := some 80, op := Op.pick (Operand.tmp 76) (Operand.tmp 79) (Operand.const (Value.bool false)), type := 4, pos := "law.go:64", after := #[{ on := 40, ground := Ground.data }, { on := 43, ground := Ground.data }], guard := none }) (v := ?_) rfl (by kernel_rfl) (by kernel_rfl) (by kernel_rfl) (fun _ _ _ h => h) (Or.inl ⟨by rfl, ?_⟩) (by assumption) ?_
    rotate_left
    · intro w hSw
      clear hSw
      go_simp
      all_goals with_reducible rfl
    simp only [Act.put, List.setIfInBounds_toArray, List.set_cons_zero, List.set_cons_succ]
    refine wpAnyH_take (i := 45) (oi := { dst := some 81, op := Op.move (Operand.tmp 80), type := 4, pos := "law.go:64", after := #[{ on := 44, ground := Ground.data }, { on := 43, ground := Ground.chain }], guard := none }) (v := ?_) rfl (by kernel_rfl) (by kernel_rfl) (by kernel_rfl) (fun _ _ _ h => h) (Or.inl ⟨by rfl, ?_⟩) (by assumption) ?_
    rotate_left
    · intro w hSw
      clear hSw
      go_simp
      all_goals with_reducible rfl
    simp only [Act.put, List.setIfInBounds_toArray, List.set_cons_zero, List.set_cons_succ]
    refine wpAnyH_ready (rs := [46]) (by kernel_rfl) (by simp) ?_
    refine AllReadyH.cons (o := { dst := some 82, op := Op.call { callee := Callee.value (Operand.func 13), args := #[], argTypes := #[] }, type := 4, pos := "law.go:64", after := #[{ on := 45, ground := Ground.chain }, { on := 45, ground := Ground.guard }], guard := some (45, true) }) rfl (fun K hK => ?_) AllReadyH.nil
    go_simp
    refine (known_any Z8 (HK.out.below (B7.out.trans (CZ8.out.below w.heap.size B7.out.size (fun k hk e => by omega))) h0)).mono ?_
    rintro e Z9 ⟨rfl, hb2⟩
    have CZ9 : Hid (Chg (fun _ => False) W7 Z9) := CZ8.out.then hb2
    clear hb2 CZ8
    clear hHeld
    refine hK.out _ _ CZ9.out (fun hHeld => ?_)
    clear hK K
    try simp only [Act.put, List.setIfInBounds_toArray, List.set_cons_zero, List.set_cons_succ]
    refine wpAnyH_take (i := 47) (oi := { dst := some 83, op := Op.pick (Operand.tmp 81) (Operand.tmp 82) (Operand.const (Value.bool false)), type := 4, pos := "law.go:64", after := #[{ on := 45, ground := Ground.data }, { on := 46, ground := Ground.data }], guard := none }) (v := ?_) rfl (by kernel_rfl) (by kernel_rfl) (by kernel_rfl) (fun _ _ _ h => h) (Or.inl ⟨by rfl, ?_⟩) (by assumption) ?_
    rotate_left
    · intro w hSw
      clear hSw
      go_simp
      all_goals with_reducible rfl
    simp only [Act.put, List.setIfInBounds_toArray, List.set_cons_zero, List.set_cons_succ]
    refine wpAnyH_take (i := 48) (oi := { dst := some 12, op := Op.assign (Operand.tmp 83), type := 4, pos := "law.go:64", after := #[{ on := 47, ground := Ground.data }, { on := 46, ground := Ground.chain }, { on := 0, ground := Ground.phase }, { on := 1, ground := Ground.phase }, { on := 2, ground := Ground.phase }, { on := 3, ground := Ground.phase }, { on := 4, ground := Ground.phase }, { on := 5, ground := Ground.phase }, { on := 6, ground := Ground.phase }, { on := 7, ground := Ground.phase }, { on := 8, ground := Ground.phase }, { on := 9, ground := Ground.phase }, { on := 10, ground := Ground.phase }, { on := 11, ground := Ground.phase }, { on := 12, ground := Ground.phase }, { on := 13, ground := Ground.phase }, { on := 14, ground := Ground.phase }, { on := 15, ground := Ground.phase }, { on := 16, ground := Ground.phase }, { on := 17, ground := Ground.phase }, { on := 18, ground := Ground.phase }, { on := 19, ground := Ground.phase }, { on := 20, ground := Ground.phase }, { on := 21, ground := Ground.phase }, { on := 22, ground := Ground.phase }, { on := 23, ground := Ground.phase }, { on := 24, ground := Ground.phase }, { on := 25, ground := Ground.phase }, { on := 26, ground := Ground.phase }, { on := 27, ground := Ground.phase }, { on := 28, ground := Ground.phase }, { on := 29, ground := Ground.phase }, { on := 30, ground := Ground.phase }, { on := 31, ground := Ground.phase }, { on := 32, ground := Ground.phase }, { on := 33, ground := Ground.phase }, { on := 34, ground := Ground.phase }, { on := 35, ground := Ground.phase }, { on := 36, ground := Ground.phase }, { on := 37, ground := Ground.phase }, { on := 38, ground := Ground.phase }, { on := 39, ground := Ground.phase }, { on := 40, ground := Ground.phase }, { on := 41, ground := Ground.phase }, { on := 42, ground := Ground.phase }, { on := 43, ground := Ground.phase }, { on := 44, ground := Ground.phase }, { on := 45, ground := Ground.phase }, { on := 46, ground := Ground.phase }, { on := 47, ground := Ground.phase }], guard := none }) (v := ?_) rfl (by kernel_rfl) (by kernel_rfl) (by kernel_rfl) (fun _ _ _ h => h) (Or.inl ⟨by rfl, ?_⟩) (by assumption) ?_
    rotate_left
    · intro w hSw
      clear hSw
      go_simp
      all_goals with_reducible rfl
    simp only [Act.put, List.setIfInBounds_toArray, List.set_cons_zero, List.set_cons_succ]
    refine wpAnyH_done (by kernel_rfl) ?_ _
    refine NoPanic.normal ?_
    have BF := hide (B7.out.trans (CZ9.out.below w.heap.size B7.out.size (fun k hk e => by omega)))
    clear hHeld
    generalize Z9 = Y at BF ⊢
    go_wp2_with fail
    go_ret
    exact ⟨rfl, BF.out⟩
end Go.Proofs.YtllcnppcncegpaaDoor
