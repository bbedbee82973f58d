/- A ring's Sign. -/
import Derived.Test.YtllcnppcncegpaaDoorKl
namespace Go.Proofs.YtllcnppcncegpaaDoor
open Go.RowKit

namespace S
/-- The key of a tree's epoch. -/
def keyAt (T : List (List (List UInt8))) (t : Int) (e : Nat) : List UInt8 := (T.getD t.toNat []).getD e []
/-- A head with another epoch. -/
def ep (h : Hd) (e : Int) : Hd := ⟨h.tree, e, h.size, h.clock, h.root⟩
def signE (T : List (List (List UInt8))) (h : Hd) : Int := if isT h.tree = true then (if eps T h.tree = 0 then 23 else 0) else 1
def signG (T : List (List (List UInt8))) (h : Hd) : Sg := if signE T h = 0 then sign (keyAt T h.tree (eps T h.tree - 1)) (ep h ((eps T h.tree : Int) - 1)) else g0
end S
set_option maxRecDepth 100000 in
theorem zero_g (w : World) : (Instr.build 34 #[]).run Tryd.prog w = .ok (.agg (encG S.g0).toArray) w := by
  refine run_build w 34 _ _ ?_
  obtain ⟨i, hi, hz, _, _⟩ := info_parts info34
  unfold Program.built
  rw [hi, Tryd.underlying34]
  simp only [hz]
  rfl
theorem results_rt {fn : Func} {p q : Tmp} {ty : TypeId} (h : fn.results = #[.cell p ty, .tmp q]) (tmps : Array Value) (w : World) (g : Nat) (cs : Array Value)
    (hp : tmps.getD p undef = .pointer (some ⟨g, 0, none⟩)) (hl : (loadVar ty ⟨g, 0, none⟩).run Tryd.prog w = .ok (.agg cs) w) :
    (results fn tmps).run Tryd.prog w = .ok (.tuple #[.agg cs, tmps.getD q undef]) w := by
  have hp' : tmps[p]?.getD undef = .pointer (some ⟨g, 0, none⟩) := by simpa using hp
  simp [results, h, hp', asAddr, hl]
theorem var_g {w : World} {g : Nat} {x : S.Sg} (h : w.heap[g]? = some (.cells (encG x).toArray 34 (0, 0))) (hr : x.h.root.length = 32) (ht : x.tag.length = 32) : (loadVar 34 ⟨g, 0, none⟩).run Tryd.prog w = .ok (.agg (encG x).toArray) w := run_loadVar_row w g 34 34 _ (0, 0) _ h Tryd.underlying34 rfl (size_g x hr ht)
theorem z_size : (encG S.g0).toArray.size = 68 := by rw [List.size_toArray, encG_length _ (S.zeros_length 32) (S.zeros_length 32)]
theorem ep_row {w : World} {g : Nat} {h : S.Hd} (e : Int) (hr : w.heap[g]? = some (.cells (encH h).toArray 32 (0, 0))) : (w.setCell ⟨g, 1, none⟩ (.int .i64 e)).heap[g]? = some (.cells (encH (S.ep h e)).toArray 32 (0, 0)) := by
  rw [heap_setCell_same _ _ _ _ _ _ hr]
  congr 2
theorem S.Hd.Ok.ep {h : S.Hd} (hok : h.Ok) (e : Int) (h1 : -9223372036854775808 ≤ e) (h2 : e ≤ 9223372036854775807) : (S.ep h e).Ok := ⟨hok.t1, hok.t2, h1, h2, hok.s2, hok.c2, hok.r⟩
set_option maxHeartbeats 8000000 in
set_option maxRecDepth 10000 in
theorem ringSign_any (o : Rn) (ks : List UInt8) (T : List (List (List UInt8))) (h : S.Hd) (w : World) (ho : RgIs w o ks T) (hok : h.Ok) (hK : KAt w) :
   Calls Tryd.prog 10 #[.pointer (some ⟨o.gr, 0, none⟩), .agg (encH h).toArray] w fun e w' => e = .returned (.tuple #[.agg (encG (S.signG T h)).toArray, .int .i64 (S.signE T h)]) ∧ Below w.heap.size w w' := by
  have HO := hide ho
  have HK := hide hK
  have h0 := hK.pos
  have HOK := hide hok
  have HR := hide hok.r
  obtain ⟨gr, sv, vs⟩ := o
  clear ho hK hok
  go_enter Tryd.func10, Tryd.ntmps10
  go_upto_region 1 with (refine wpList_alloc_known rfl 34 rfl _ _ (alloc34 _) ?_)
  generalize hW0 : w.alloc _ = W0
  generalize hW1 : W0.alloc _ = W1
  have B0 : Below w.heap.size w W0 := by rw [← hW0]; exact (Below.refl _ _).alloc (Nat.le_refl _) _
  have s0 : W0.heap.size = w.heap.size + 1 := by rw [← hW0]; simp
  have r0 : W0.heap[w.heap.size]? = some (.cells (encH h).toArray 32 (0, 0)) := by rw [← hW0]; exact heap_alloc_new _ _
  have B1 : Below W0.heap.size W0 W1 := by rw [← hW1]; exact (Below.refl _ _).alloc (Nat.le_refl _) _
  have s1 : W1.heap.size = w.heap.size + 2 := by rw [← hW1]; simp [s0]
  have r1 : W1.heap[w.heap.size + 1]? = some (.cells (encG S.g0).toArray 34 (0, 0)) := by rw [← hW1, ← s0]; exact heap_alloc_new _ _
  have BB : Hid (Below w.heap.size w W1) := (B0.trans (B1.mono (by omega)))
  have Q0 : Hid (W1.heap[w.heap.size]? = some (.cells (encH h).toArray 32 (0, 0))) := ((B1.block _ (by omega)).trans r0)
  have Q1 : Hid (W1.heap[w.heap.size + 1]? = some (.cells (encG S.g0).toArray 34 (0, 0))) := r1
  clear hW0 B0 s0 r0 hW1 B1 s1 r1
  obtain ⟨c0, c1, c2, c3⟩ := h_cells Q0.out
  obtain ⟨YF, hsf, rf, cf, sf⟩ := store_g (x := S.g0) Q1.out z_size (S.zeros_length 32) (S.zeros_length 32)
  have BF := hide (BB.out.trans (cf.below w.heap.size BB.out.size (fun k hk e => by omega)))
  have RF := hide rf
  clear rf cf sf
  by_cases hT : S.isT h.tree = true
  · have HT := hide hT
    go_wp2_with fail
    refine (isTree_any h.tree W1).mono ?_
    rintro r _ ⟨rfl, rfl⟩
    rw [HT.out]
    go_wp2_with fail
    refine (epoch_any ⟨gr, sv, vs⟩ ks T h.tree W1 (HO.out.below BB.out)).mono ?_
    rintro r _ ⟨rfl, rfl⟩
    by_cases hE : S.epB T h.tree = true
    · obtain ⟨n, hn1, hn⟩ := S.isT_nat hT
      have heps : 0 < S.eps T h.tree := by simp [S.epB, hT] at hE; exact hE
      have HE : Hid (S.signE T h = 0) := by show S.signE T h = 0; rw [S.signE, if_pos hT, if_neg (by omega)]
      have hl : (T.getD n []).length = S.eps T h.tree := by rw [hn1]; simp [S.eps]
      have hd := HO.out.rows n hn
      simp only at hd
      have hda := hd.dgAt (by have := HO.out.few n; omega) (HO.out.d32 n)
      obtain ⟨gk, ok, vc, hv, hgk, hrk, hkl⟩ := dg_at hda (S.eps T h.tree - 1) (by omega)
      have hkey : (T.getD n []).getD (S.eps T h.tree - 1) [] = S.keyAt T h.tree (S.eps T h.tree - 1) := by rw [S.keyAt, hn1]; rfl
      rw [hkey] at hrk hkl
      rw [hl] at hv
      obtain ⟨Ky, hKK⟩ : ∃ K, K = S.keyAt T h.tree (S.eps T h.tree - 1) := ⟨_, rfl⟩
      rw [← hKK] at hrk hkl
      have hm32 := HO.out.few n
      rw [hl] at hm32
      have hepn : S.epN T h.tree = ((S.eps T h.tree - 1 : Nat) : Int) := by rw [S.epN, if_pos hE]; omega
      have HG : Hid (S.signG T h = S.sign Ky (S.ep h ((S.eps T h.tree - 1 : Nat) : Int))) := by show S.signG T h = _; rw [S.signG, if_pos HE.out, hKK, show ((S.eps T h.tree : Int) - 1) = ((S.eps T h.tree - 1 : Nat) : Int) by omega]
      rw [hE, hepn]
      obtain ⟨m, hm⟩ : ∃ m, m = S.eps T h.tree := ⟨_, rfl⟩
      rw [← hm] at HG hrk hv hm32 ⊢
      obtain ⟨e, he⟩ : ∃ e, e = m - 1 := ⟨_, rfl⟩
      have q3 : (e : Int) < (m : Int) := by omega
      rw [← he] at HG hrk ⊢
      have HKL := hide hkl
      have VV := hide hv
      have hrow := HO.out.row
      have hvn := HO.out.vn
      simp only at hrow hvn
      have KR := hide (show W1.rangeAt gk (ok + e * 32) (S.v8l Ky) from fun j v hjv => (BB.out.cell (p := ⟨gk, ok + e * 32 + j, none⟩) hgk).trans (hrk j v hjv))
      have RR := hide ((BB.out.block gr (block_lt_of_row hrow)).trans hrow)
      have LGR := hide (block_lt_of_row hrow)
      have LGK := hide hgk
      have VN := hide hvn
      have q1 : (0 : Int) ≤ (n : Int) := by omega
      have q2 : (n : Int) < 16 := by omega
      have q4 : (0 : Int) ≤ (e : Int) := by omega
      have OKE := hide (HOK.out.ep (e : Int) (by omega) (by omega))
      clear hrow hvn hv hkl hrk hKK hkey hda hd hl heps hE hepn hm he hsf hgk RF BF
      have f1 := frozen_of_row _ _ 1 _ _ Q0.out
      go_upto_region 7 with fail
      generalize hX : W1.setCell _ _ = X
      have X0 : Hid (X.heap[w.heap.size]? = some (.cells (encH (S.ep h (e : Int))).toArray 32 (0, 0))) := by rw [← hX]; exact ep_row _ Q0.out
      have cX : Chg (fun k => k = w.heap.size) W1 X := by rw [← hX]; exact (Chg.refl _ _).setCell _ _ _ (fun _ => rfl)
      have X1 : Hid (X.heap[w.heap.size + 1]? = some (.cells (encG S.g0).toArray 34 (0, 0))) := cX.row Q1.out (by omega)
      have XR : Hid (X.heap[gr]? = some (.cells (sv :: vs).toArray 72 (0, 0))) := cX.row RR.out (by have := LGR.out; omega)
      have XK : Hid (X.rangeAt gk (ok + e * 32) (S.v8l Ky)) := fun j v hjv => (World.cell?_of_block (cX.block gk (Nat.lt_of_lt_of_le LGK.out BB.out.size) (by have := LGK.out; omega))).trans (KR.out j v hjv)
      have BX : Hid (Below w.heap.size w X) := BB.out.trans (cX.below w.heap.size BB.out.size (fun k hk e => by omega))
      have XGK := hide (Nat.lt_of_lt_of_le LGK.out BX.out.size)
      have XHR : Hid ((S.ep h (e : Int)).root.length = 32) := HR.out
      have htree : (S.ep h (e : Int)).tree = (n : Int) := hn1
      have HTR := hide htree
      clear hX cX Q0 Q1 RR KR BB c0 c1 c2 c3 f1 hT HT htree
      try rw [show h.tree = (n : Int) from hn1]
      clear hn1
      obtain ⟨H, hH⟩ : ∃ H, H = S.ep h (e : Int) := ⟨_, rfl⟩
      rw [← hH] at X0 XHR OKE HG HTR
      have LNE := hide (show gr ≠ w.heap.size + 1 by have := LGR.out; omega)
      have LNK := hide (show gk ≠ w.heap.size + 1 by have := LGK.out; omega)
      clear hH
      refine wp_region_noPanic ?_
      refine wp_region_held_drew (S := (fun W => Chg (fun k => k = w.heap.size + 1) X W)) follows ((Chg.refl _ _).drew) (fun hHeld => ?_)
      clear hHeld
      have hHeld : Chg (fun k => k = w.heap.size + 1) X X.drew := (Chg.refl _ _).drew
      have CZ0 := hide hHeld
      have X1' : Hid (X.drew.heap[(w.heap.size + 1)]? = some (.cells (encG S.g0).toArray 34 (0, 0))) := X1.out
      generalize X.drew = Z0 at CZ0 hHeld X1' ⊢
      refine wpAnyH_take (i := 0) (oi := { dst := some 25, op := Op.move (Operand.tmp 0), type := 22, pos := "ring.go:49", after := #[], guard := none }) (v := ?_) rfl (by kernel_rfl) (by kernel_rfl) (by kernel_rfl) (fun _ _ _ h => h) (Or.inl ⟨by rfl, ?_⟩) (by assumption) ?_
      rotate_left
      · intro w hSw
        clear hSw
        go_simp
        all_goals with_reducible rfl
      simp only [Act.put, List.setIfInBounds_toArray, List.set_cons_zero, List.set_cons_succ]
      refine wpAnyH_take (i := 1) (oi := { dst := some 26, op := Op.fieldAddr 32 (Operand.tmp 3) 0, type := 0, pos := "ring.go:49", after := #[], guard := none }) (v := ?_) rfl (by kernel_rfl) (by kernel_rfl) (by kernel_rfl) (fun _ _ _ h => h) (Or.inl ⟨by rfl, ?_⟩) (by assumption) ?_
      rotate_left
      · intro w hSw
        clear hSw
        go_simp
        all_goals with_reducible rfl
      simp only [Act.put, List.setIfInBounds_toArray, List.set_cons_zero, List.set_cons_succ]
      refine wpAnyH_take (i := 2) (oi := { dst := some 27, op := Op.load 3 (Operand.tmp 26), type := 3, pos := "ring.go:49", after := #[{ on := 1, ground := Ground.data }], guard := none }) (v := ?_) rfl (by kernel_rfl) (by kernel_rfl) (by kernel_rfl) (fun _ _ _ h => h) (Or.inl ⟨by rfl, ?_⟩) (by assumption) ?_
      rotate_left
      · intro w hSw
        obtain ⟨c0, c1, c2, c3⟩ := h_cells (hSw.row X0.out (by omega))
        rw [HTR.out] at c0
        clear hSw
        go_simp
        all_goals with_reducible rfl
      simp only [Act.put, List.setIfInBounds_toArray, List.set_cons_zero, List.set_cons_succ]
      refine wpAnyH_take (i := 3) (oi := { dst := some 28, op := Op.nilCheck (Operand.tmp 25), type := 0, pos := "ring.go:49", after := #[{ on := 0, ground := Ground.data }], guard := none }) (v := ?_) rfl (by kernel_rfl) (by kernel_rfl) (by kernel_rfl) (fun _ _ _ h => h) (Or.inl ⟨by rfl, ?_⟩) (by assumption) ?_
      rotate_left
      · intro w hSw
        clear hSw
        go_simp
        all_goals with_reducible rfl
      simp only [Act.put, List.setIfInBounds_toArray, List.set_cons_zero, List.set_cons_succ]
      refine wpAnyH_take (i := 4) (oi := { dst := some 29, op := Op.fieldAddr 72 (Operand.tmp 28) 1, type := 0, pos := "ring.go:49", after := #[{ on := 3, ground := Ground.data }], guard := none }) (v := ?_) rfl (by kernel_rfl) (by kernel_rfl) (by kernel_rfl) (fun _ _ _ h => h) (Or.inl ⟨by rfl, ?_⟩) (by assumption) ?_
      rotate_left
      · intro w hSw
        clear hSw
        go_simp
        all_goals with_reducible rfl
      simp only [Act.put, List.setIfInBounds_toArray, List.set_cons_zero, List.set_cons_succ]
      refine wpAnyH_take (i := 5) (oi := { dst := some 30, op := Op.indexAddr 70 (Operand.tmp 29) (Operand.tmp 27), type := 0, pos := "ring.go:49", after := #[{ on := 4, ground := Ground.data }, { on := 2, ground := Ground.data }], guard := none }) (v := ?_) rfl (by kernel_rfl) (by kernel_rfl) (by kernel_rfl) (fun _ _ _ h => h) (Or.inl ⟨by rfl, ?_⟩) (by assumption) ?_
      rotate_left
      · intro w hSw
        clear hSw
        go_simp
        all_goals with_reducible rfl
      simp only [Act.put, List.setIfInBounds_toArray, List.set_cons_zero, List.set_cons_succ]
      refine wpAnyH_take (i := 6) (oi := { dst := some 31, op := Op.load 69 (Operand.tmp 30), type := 69, pos := "ring.go:49", after := #[{ on := 5, ground := Ground.data }], guard := none }) (v := ?_) rfl (by kernel_rfl) (by kernel_rfl) (by kernel_rfl) (fun _ _ _ h => h) (Or.inl ⟨by rfl, ?_⟩) (by assumption) ?_
      rotate_left
      · intro w hSw
        have c0 := (row_cell (hSw.row XR.out LNE.out) VN.out n hn).trans (by rw [VV.out])
        clear hSw
        go_simp
        all_goals with_reducible rfl
      simp only [Act.put, List.setIfInBounds_toArray, List.set_cons_zero, List.set_cons_succ]
      refine wpAnyH_take (i := 7) (oi := { dst := some 32, op := Op.move (Operand.tmp 6), type := 3, pos := "ring.go:49", after := #[], guard := none }) (v := ?_) rfl (by kernel_rfl) (by kernel_rfl) (by kernel_rfl) (fun _ _ _ h => h) (Or.inl ⟨by rfl, ?_⟩) (by assumption) ?_
      rotate_left
      · intro w hSw
        clear hSw
        go_simp
        all_goals with_reducible rfl
      simp only [Act.put, List.setIfInBounds_toArray, List.set_cons_zero, List.set_cons_succ]
      refine wpAnyH_take (i := 8) (oi := { dst := some 33, op := Op.indexAddr 69 (Operand.tmp 31) (Operand.tmp 32), type := 0, pos := "ring.go:49", after := #[{ on := 6, ground := Ground.data }, { on := 7, ground := Ground.data }], guard := none }) (v := ?_) rfl (by kernel_rfl) (by kernel_rfl) (by kernel_rfl) (fun _ _ _ h => h) (Or.inl ⟨by rfl, ?_⟩) (by assumption) ?_
      rotate_left
      · intro w hSw
        clear hSw
        go_simp
        all_goals with_reducible rfl
      simp only [Act.put, List.setIfInBounds_toArray, List.set_cons_zero, List.set_cons_succ]
      refine wpAnyH_take (i := 9) (oi := { dst := some 34, op := Op.load 30 (Operand.tmp 33), type := 30, pos := "ring.go:49", after := #[{ on := 8, ground := Ground.data }], guard := none }) (v := .agg (S.v8l Ky).toArray) rfl (by kernel_rfl) (by kernel_rfl) (by kernel_rfl) (fun _ _ _ h => h) (yieldsIf_load_mid (by rfl) _ _ rfl gk (ok + e * 32) rfl (S.v8l Ky) _ (fun _ hSw => (fun j v hjv => (World.cell?_of_block (hSw.block gk XGK.out LNK.out)).trans (XK.out j v hjv))) Tryd.underlying30 rfl (by rw [size_dig _ HKL.out, S.v8_size, S.v8l_length])) (by assumption) ?_
      simp only [Act.put, List.setIfInBounds_toArray, List.set_cons_zero, List.set_cons_succ]
      refine wpAnyH_take (i := 10) (oi := { dst := some 35, op := Op.load 32 (Operand.tmp 3), type := 32, pos := "ring.go:49", after := #[], guard := none }) (v := .agg (encH H).toArray) rfl (by kernel_rfl) (by kernel_rfl) (by kernel_rfl) (fun _ _ _ h => h) (yieldsIf_load_mid (by rfl) _ _ rfl w.heap.size 0 rfl (encH H) _ (fun _ hSw => rangeAt_row (hSw.row X0.out (by omega))) Tryd.underlying32 rfl (by rw [size_h _ XHR.out, List.size_toArray])) (by assumption) ?_
      simp only [Act.put, List.setIfInBounds_toArray, List.set_cons_zero, List.set_cons_succ]
      refine wpAnyH_ready (rs := [11]) (by kernel_rfl) (by simp) ?_
      refine AllReadyH.cons (o := { dst := some 36, op := Op.call { callee := Callee.value (Operand.func 17), args := #[Operand.tmp 34, Operand.tmp 35], argTypes := #[30, 32] }, type := 34, pos := "ring.go:49", after := #[{ on := 9, ground := Ground.data }, { on := 10, ground := Ground.data }], guard := none }) rfl (fun K hK => ?_) AllReadyH.nil
      go_simp
      refine (sign_any Ky H Z0 HKL.out OKE.out (HK.out.below (BX.out.trans (CZ0.out.below w.heap.size BX.out.size (fun k hk e => by omega))) h0)).mono ?_
      rintro e Z1 ⟨rfl, hb2⟩
      obtain ⟨G, hG⟩ : ∃ G, G = S.sign Ky H := ⟨_, rfl⟩
      have GL1 := hide (show G.h.root.length = 32 by rw [hG, S.sign_root]; exact XHR.out)
      have GL2 := hide (show G.tag.length = 32 by rw [hG]; exact S.sign_len _ _)
      rw [← hG] at HG ⊢
      clear hG
      replace X1' : Hid (Z1.heap[(w.heap.size + 1)]? = some (.cells (encG S.g0).toArray 34 (0, 0))) := (hb2.block _ (block_lt_of_row X1'.out)).trans X1'.out
      have CZ1 : Hid (Chg (fun k => k = w.heap.size + 1) X Z1) := CZ0.out.then hb2
      clear hb2 CZ0
      clear hHeld
      refine hK.out _ _ CZ1.out (fun hHeld => ?_)
      clear hK K
      try simp only [Act.put, List.setIfInBounds_toArray, List.set_cons_zero, List.set_cons_succ]
      refine wpAnyH_ready (rs := [12]) (by kernel_rfl) (by simp) ?_
      obtain ⟨Z2, hst, r6, C6, s6⟩ := store_g (x := G) X1'.out z_size GL1.out GL2.out
      refine step_store_as (o := { dst := none, op := Op.store 34 (Operand.tmp 4) (Operand.tmp 36), type := 0, pos := "ring.go:49", after := #[{ on := 11, ground := Ground.data }, { on := 11, ground := Ground.chain }, { on := 0, ground := Ground.phase }, { on := 1, ground := Ground.phase }, { on := 2, ground := Ground.phase }, { on := 3, ground := Ground.phase }, { on := 4, ground := Ground.phase }, { on := 5, ground := Ground.phase }, { on := 6, ground := Ground.phase }, { on := 7, ground := Ground.phase }, { on := 8, ground := Ground.phase }, { on := 9, ground := Ground.phase }, { on := 10, ground := Ground.phase }, { on := 11, ground := Ground.phase }], guard := none }) rfl rfl 34 (.tmp 4) (.tmp 36) rfl _ _ rfl rfl Z2 hst AllReadyH.nil ⟨CZ1.out.trans C6 (fun k hk e => by first | exact e | exact Or.inl e | exact Or.inr e | omega), fun hHeld => ?_⟩
      replace X1' : Hid (Z2.heap[(w.heap.size + 1)]? = some (.cells (encG G).toArray 34 (0, 0))) := r6
      have CZ2 : Hid (Chg (fun k => k = w.heap.size + 1) X Z2) := CZ1.out.trans C6 (fun k hk e => by first | exact e | exact Or.inl e | exact Or.inr e | omega)
      clear hst r6 C6 s6 CZ1
      simp only [Act.put]
      refine wpAnyH_take (i := 13) (oi := { dst := some 5, op := Op.assign (Operand.const (Value.int IntKind.i64 0)), type := 24, pos := "ring.go:49", after := #[{ on := 12, ground := Ground.chain }, { on := 0, ground := Ground.phase }, { on := 1, ground := Ground.phase }, { on := 2, ground := Ground.phase }, { on := 3, ground := Ground.phase }, { on := 4, ground := Ground.phase }, { on := 5, ground := Ground.phase }, { on := 6, ground := Ground.phase }, { on := 7, ground := Ground.phase }, { on := 8, ground := Ground.phase }, { on := 9, ground := Ground.phase }, { on := 10, ground := Ground.phase }, { on := 11, ground := Ground.phase }, { on := 12, ground := Ground.phase }], guard := none }) (v := ?_) rfl (by kernel_rfl) (by kernel_rfl) (by kernel_rfl) (fun _ _ _ h => h) (Or.inl ⟨by rfl, ?_⟩) (by assumption) ?_
      rotate_left
      · intro w hSw
        clear hSw
        go_simp
        all_goals with_reducible rfl
      simp only [Act.put, List.setIfInBounds_toArray, List.set_cons_zero, List.set_cons_succ]
      refine wpAnyH_done (by kernel_rfl) ?_ _
      refine NoPanic.normal ?_
      have BF := hide (BX.out.trans (CZ2.out.below w.heap.size BX.out.size (fun k hk e => by omega)))
      clear hHeld
      generalize Z2 = Y at BF X1' ⊢
      go_wp2_with fail
      exact bodyPost_ret (results_rt Tryd.results10 _ _ (w.heap.size + 1) _ rfl (var_g X1'.out GL1.out GL2.out)) rfl ⟨by rw [HG.out, HE.out]; rfl, BF.out⟩
    · have hE2 : S.epB T h.tree = false := by simpa using hE
      have heps : S.eps T h.tree = 0 := by simp [S.epB, hT] at hE2; exact hE2
      have HE : Hid (S.signE T h = 23) := by show S.signE T h = 23; rw [S.signE, if_pos hT, if_pos heps]
      have HG : Hid (S.signG T h = S.g0) := by show S.signG T h = S.g0; rw [S.signG, HE.out]; rfl
      rw [hE2]
      have zg := zero_g W1
      clear hE2 hE heps
      go_wp2_with (first | with_reducible refine at_op { dst := some 22, op := Op.build 34 #[], type := 34, pos := "ring.go:46", after := #[], guard := none } ?_; refine wpList_build_as rfl 34 [] rfl [] rfl _ zg ?_ | with_reducible refine at_op { dst := none, op := Op.store 34 (Operand.tmp 4) (Operand.tmp 22), type := 0, pos := "ring.go:46", after := #[{ on := 0, ground := Ground.data }, { on := 0, ground := Ground.phase }], guard := none } ?_; refine wpList_store_as rfl 34 (.tmp 4) (.tmp 22) rfl (.pointer (some ⟨w.heap.size + 1, 0, none⟩)) (.agg (encG S.g0).toArray) rfl rfl YF hsf ?_)
      exact bodyPost_ret (results_rt Tryd.results10 _ _ (w.heap.size + 1) _ rfl (var_g RF.out (S.zeros_length 32) (S.zeros_length 32))) rfl ⟨by rw [HG.out, HE.out]; rfl, BF.out⟩
  · have hT2 : S.isT h.tree = false := by simpa using hT
    have HT := hide hT2
    have HE : Hid (S.signE T h = 1) := by show S.signE T h = 1; rw [S.signE, hT2]; rfl
    have HG : Hid (S.signG T h = S.g0) := by show S.signG T h = S.g0; rw [S.signG, HE.out]; rfl
    have zg := zero_g W1
    clear hT hT2
    go_wp2_with fail
    refine (isTree_any h.tree W1).mono ?_
    rintro r _ ⟨rfl, rfl⟩
    rw [HT.out]
    go_wp2_with (first | with_reducible refine at_op { dst := some 12, op := Op.build 34 #[], type := 34, pos := "ring.go:42", after := #[], guard := none } ?_; refine wpList_build_as rfl 34 [] rfl [] rfl _ zg ?_ | with_reducible refine at_op { dst := none, op := Op.store 34 (Operand.tmp 4) (Operand.tmp 12), type := 0, pos := "ring.go:42", after := #[{ on := 0, ground := Ground.data }, { on := 0, ground := Ground.phase }], guard := none } ?_; refine wpList_store_as rfl 34 (.tmp 4) (.tmp 12) rfl (.pointer (some ⟨w.heap.size + 1, 0, none⟩)) (.agg (encG S.g0).toArray) rfl rfl YF hsf ?_)
    exact bodyPost_ret (results_rt Tryd.results10 _ _ (w.heap.size + 1) _ rfl (var_g RF.out (S.zeros_length 32) (S.zeros_length 32))) rfl ⟨by rw [HG.out, HE.out]; rfl, BF.out⟩
end Go.Proofs.YtllcnppcncegpaaDoor
