/- The blocks of a range with their hashes; two rows of blocks, one behind the other. -/
import Derived.Test.YtkljajfgdelfgaaDoorFc
namespace Go.Proofs.YtkljajfgdelfgaaDoor
open Go.RowKit

theorem mkB_len32 : ∀ (ts : List Nat) (hs : List (List UInt8)) p, (∀ d ∈ hs, d.length = 32) → ∀ x ∈ C.mkB p ts hs, x.h.length = 32 := by
  intro ts
  induction ts with
  | nil => intro hs p _ x hx; cases hs <;> simp [C.mkB] at hx
  | cons t ts ih =>
    intro hs p h x hx
    cases hs with
    | nil => simp [C.mkB] at hx
    | cons g gs =>
      rw [C.mkB] at hx
      rcases List.mem_cons.1 hx with rfl | hx
      · exact h g (by simp)
      · exact ih gs _ (fun d hd => h d (by simp [hd])) x hx
theorem tiles_drop : ∀ (ts : List Nat) p q k, C.Tiles p q ts → ∃ r, C.Tiles r q (ts.drop k) ∧ C.Tiles p r (ts.take k) := by
  intro ts
  induction ts with
  | nil => intro p q k h; exact ⟨p, by simpa using h, by simp [C.Tiles]⟩
  | cons t ts ih =>
    intro p q k h
    cases k with
    | zero => exact ⟨p, h, rfl⟩
    | succ k =>
      obtain ⟨r, h1, h2⟩ := ih (p + t) q k h.2.2
      exact ⟨r, h1, h.1, h.2.1, h2⟩
set_option maxHeartbeats 8000000 in
set_option maxRecDepth 10000 in
theorem blocksOf_any (b e : Nat) (u : Value) (hs : List (List UInt8)) (w : World) (hbe : b ≤ e) (he : e ≤ 4294967296) (hu : DgAt w u hs) (hl : hs.length = (C.blocks b e).length) :
   Calls Tryd.prog 53 #[.agg #[.int .u64 (b : Int), .int .u64 (e : Int), u]] w fun r w' => (∃ v, r = .returned v ∧ BRow w.heap.size w' v (C.mkB b (C.blocks b e) hs)) ∧ Below w.heap.size w w' := by
  obtain ⟨ss, hss⟩ : ∃ ss, ss = C.blocks b e := ⟨_, rfl⟩
  have hT : C.Tiles b e ss := by rw [hss]; exact C.blocks_tiles _ b e rfl hbe he
  have h64 : ss.length ≤ 64 := by rw [hss]; exact C.blocks_len b e
  rw [← hss] at hl ⊢
  obtain ⟨uo, uc, rfl⟩ := hu.form
  have h32 : ∀ d ∈ hs, d.length = 32 := by obtain ⟨_, _, _, _, h, _⟩ := hu; exact h
  obtain ⟨N, hN⟩ : ∃ N, N = hs.length := ⟨_, rfl⟩
  have HU := hide hu
  have HT := hide hT
  have HS := hide hss
  have H32 := hide h32
  have HL := hide (And.intro hN hl)
  rw [← hN] at HU ⊢
  have hN64 : N ≤ 64 := by omega
  clear hu hT hss h32 hl h64 hN
  go_enter Tryd.func53, Tryd.ntmps53
  go_upto_region 2 with fail
  generalize hW0 : w.alloc _ = W0
  have B0 : Below w.heap.size w W0 := by rw [← hW0]; exact (Below.refl _ _).alloc (Nat.le_refl _) _
  have s0 : W0.heap.size = w.heap.size + 1 := by rw [← hW0]; simp
  have r0 : W0.heap[w.heap.size]? = some (.cells #[.int .u64 (b : Int), .int .u64 (e : Int), .slice uo N uc] 30 (0, 0)) := by rw [← hW0]; exact heap_alloc_new _ _
  have BB : Hid (Below w.heap.size w W0) := B0
  have Q0 : Hid (W0.heap[w.heap.size]? = some (.cells #[.int .u64 (b : Int), .int .u64 (e : Int), .slice uo N uc] 30 (0, 0))) := r0
  clear hW0 B0 s0 r0
  have HUW := hide (HU.out.below BB.out)
  obtain ⟨c0, c1, c2⟩ := cells3 Q0.out
  go_wp2_with fail
  refine (blocks_any b e W0 (by omega) (by omega)).mono ?_
  rintro r W1 ⟨⟨vb, rfl, hv⟩, hb2⟩
  rw [← HS.out] at hv
  obtain ⟨bo, bc, rfl⟩ := hv.form
  have HV := hide hv
  have B1 := hide (BB.out.trans (hb2.mono BB.out.size))
  have Q1 : Hid (W1.heap[w.heap.size]? = some (.cells #[.int .u64 (b : Int), .int .u64 (e : Int), .slice uo N uc] 30 (0, 0))) := (hb2.block _ (block_lt_of_row Q0.out)).trans Q0.out
  have HU1 := hide (HUW.out.below hb2)
  obtain ⟨M, hM⟩ : ∃ M, M = ss.length := ⟨_, rfl⟩
  rw [← hM] at HV ⊢
  have HM := hide hM
  have hMN : M = N := by have := HL.out; omega
  subst hMN
  clear hv hb2 hM c0 c1 c2 Q0 BB HUW HU
  go_wp2_with fail
  go_loopg [3, 4, 15] M (fun gk s3 s4 s15 wr => ∃ (k p : Nat) (ds : List (C.Bk (List UInt8))), k + gk = M ∧ s15 = .int .i64 (k : Int) ∧ s4 = .int .u64 (p : Int) ∧ Hid (C.Tiles p e (ss.drop k)) ∧ Hid (C.mkB b ss hs = ds ++ C.mkB p (ss.drop k) (hs.drop k)) ∧ ds.length = k ∧ Hid (∀ x ∈ ds, x.h.length = 32) ∧ Hid (BRow W1.heap.size wr s3 ds) ∧ Hid (Below W1.heap.size W1 wr))
  case atStart => exact ⟨0, b, [], by omega, rfl, rfl, HT, hide rfl, rfl, hide (fun x hx => by simp at hx), Rw.nil _ _ _ _ _, Below.refl _ _⟩
  case round =>
    obtain ⟨k, p, ds, hk, rfl, rfl, HTk, HB, hds, D32, HR, BR⟩ := hrel
    obtain ⟨so, sc, rfl⟩ := HR.out.form
    rw [hds] at HR ⊢
    cases gk with
    | zero =>
      have hkM : k = M := by omega
      have qk : ¬ (k : Int) < (M : Int) := by omega
      have hd : ss.drop k = [] := List.drop_eq_nil_of_le (by rw [← HM.out, hkM]; exact Nat.le_refl _)
      have hF := hide (show C.mkB b ss hs = ds by have := HB.out; rw [hd] at this; rw [this]; cases hs.drop k <;> simp [C.mkB])
      have RF := hide (show BRow w.heap.size wr (.slice so k sc) (C.mkB b ss hs) by rw [hF.out]; exact HR.out.mono B1.out.size)
      clear hd hkM hk
      go_wp2_with fail
      go_ret
      exact ⟨⟨_, rfl, RF.out⟩, B1.out.trans (BR.out.mono B1.out.size)⟩
    | succ gO =>
      have qk : (k : Int) < (M : Int) := by omega
      have qk0 : (0 : Int) ≤ (k : Int) := by omega
      have qk1 : IntKind.i64.wrap ((k : Int) + 1) = (k : Int) + 1 := by rw [IntKind.wrap_i64]; omega
      have hks : k < ss.length := by rw [← HM.out]; omega
      have hkh : k < hs.length := by have := HL.out.1; omega
      obtain ⟨t, ht⟩ : ∃ t, ss[k]? = some t := ⟨_, List.getElem?_eq_getElem hks⟩
      have hsd : ss.drop k = t :: ss.drop (k + 1) := by rw [List.drop_eq_getElem_cons hks]; congr 1; rw [List.getElem?_eq_getElem hks] at ht; exact Option.some.inj ht
      have hhd := drop_cons k hkh
      obtain ⟨D, hD⟩ : ∃ D, D = hs.getD k [] := ⟨_, rfl⟩
      rw [← hD] at hhd
      obtain ⟨gn, cn, en, hgn, hgB, hcn⟩ := (HV.out).cell k t ht
      simp only [Value.slice.injEq] at en
      obtain ⟨rfl, eN, rfl⟩ := en
      clear eN
      have hcn2 := (BR.out.cell (p := ⟨gn, k, none⟩) hgn).trans hcn
      obtain ⟨gu, ou, cu, eu, hgu, hru, hpl⟩ := dg_at HU1.out k (by have := HL.out.1; omega)
      simp only [Value.slice.injEq] at eu
      obtain ⟨rfl, eN, rfl⟩ := eu
      clear eN
      rw [← hD] at hru hpl
      have LD := hide hpl
      have hld := run_loadAt_mid (P := Tryd.prog) wr gu (ou + k * 32) 23 (S.v8l D) _ (fun j x hx => (BR.out.cell (p := ⟨gu, ou + k * 32 + j, none⟩) hgu).trans (hru j x hx)) Tryd.underlying23 rfl (by rw [S.v8l_length, LD.out]; exact size23)
      rw [← S.v8_eq] at hld
      obtain ⟨c0, c1, c2⟩ := cells3 (show wr.heap[w.heap.size]? = _ from (BR.out.block _ (block_lt_of_row Q1.out)).trans Q1.out)
      have hTk := HTk.out
      rw [hsd] at hTk
      have hpt : p + t ≤ e := C.tiles_le _ _ _ hTk.2.2
      have HTN := hide hTk.2.2
      have HBN : Hid (C.mkB b ss hs = (ds ++ [⟨p, t, D⟩]) ++ C.mkB (p + t) (ss.drop (k + 1)) (hs.drop (k + 1))) := by
        have := HB.out
        rw [hsd, hhd, C.mkB] at this
        rw [List.append_assoc]; exact this
      have qa : IntKind.u64.wrap ((p : Int) + (t : Int)) = ((p + t : Nat) : Int) := by rw [IntKind.wrap_u64]; omega
      have hbd := build93 p t D LD.out wr
      have hbs := bs90one wr ⟨p, t, D⟩ LD.out
      obtain ⟨X, hX⟩ : ∃ X, X = wr.alloc (.cells (encB ⟨p, t, D⟩).toArray 93) := ⟨_, rfl⟩
      rw [← hX] at hbs
      have bx : Below wr.heap.size wr X := by rw [hX]; exact (Below.refl _ _).alloc (Nat.le_refl _) _
      have rx : X.heap[wr.heap.size]? = some (.cells (encB ⟨p, t, D⟩).toArray 93 (0, 0)) := by rw [hX]; exact heap_alloc_new _ _
      have HRX := HR.out.below bx
      have KEY := hide (Rw.append kdB 90 HRX (Sce.of_row (c := 1) rx) (fun y hy => by simp only [List.mem_singleton] at hy; rw [hy]; exact encB_length _ LD.out) (by simp; omega) (Nat.le_trans BR.out.size bx.size))
      have BX := hide (BR.out.trans (bx.mono BR.out.size))
      have HW := hide (fun j (e : (Value.slice so k sc).ownBlock = some j) => (HRX.blk e).1)
      have D32N := hide (show ∀ x ∈ ds ++ [⟨p, t, D⟩], x.h.length = 32 from fun x hx => by
        rcases List.mem_append.1 hx with hx | hx
        · exact D32.out x hx
        · simp only [List.mem_singleton] at hx; rw [hx]; exact LD.out)
      obtain ⟨gx, hgx⟩ : ∃ g, g = wr.heap.size := ⟨_, rfl⟩
      rw [← hgx] at hbs KEY
      obtain ⟨VB, hVB⟩ : ∃ VB, VB = Value.agg (encB ⟨p, t, D⟩).toArray := ⟨_, rfl⟩
      rw [← hVB] at hbd hbs
      have HDS := hide hds
      clear bx rx HB HR hX hgx hVB HTk hTk hsd hhd ht hks hkh hD hcn hgn hgB hgu hru hpl HRX BR D32 hds
      go_wp2_with (first | (with_reducible refine at_op { dst := some 27, op := Op.load 23 (Operand.tmp 26), type := 23, pos := "block.go:45", after := #[{ on := 6, ground := Ground.data }], guard := none } ?_; refine wpList_load_as rfl 23 (.tmp 26) rfl (.pointer (some ⟨gu, ou + k * 32, none⟩)) rfl (.agg (S.v8 D)) hld ?_) | (with_reducible refine at_op { dst := some 28, op := Op.build 93 #[(0, Operand.tmp 21), (1, Operand.tmp 22), (2, Operand.tmp 27)], type := 93, pos := "block.go:45", after := #[{ on := 1, ground := Ground.data }, { on := 2, ground := Ground.data }, { on := 7, ground := Ground.data }], guard := none } ?_; refine wpList_build_as rfl 93 [(0, .tmp 21), (1, .tmp 22), (2, .tmp 27)] rfl [(0, .int .u64 (p : Int)), (1, .int .u64 (t : Int)), (2, .agg (S.v8 D))] rfl VB hbd ?_) | (with_reducible refine at_op { dst := some 29, op := Op.buildSlice 90 1 #[(0, Operand.tmp 28)], type := 90, pos := "block.go:45", after := #[{ on := 8, ground := Ground.data }], guard := none } ?_; refine wpList_buildSlice_as rfl 90 1 [(0, .tmp 28)] rfl [(0, VB)] rfl _ _ hbs ?_) | (at_builtin; (refine wpList_append_known rfl (.tmp 20) (.tmp 29) 90 90 rfl _ _ rfl rfl KEY.out ?_; rintro v' Y ⟨hR', hC'⟩; have RN := hide hR'; have BN := hide (BX.out.trans (hC'.below _ BX.out.size (fun k hk e => by have := HW.out _ e; omega))); clear hR' hC')))
      go_roundg gO
      case measure => omega
      case rel => exact ⟨k + 1, p + t, ds ++ [⟨p, t, D⟩], by omega, by first | rfl | simp, rfl, HTN, HBN, by rw [List.length_append, HDS.out]; rfl, D32N, RN, BN⟩
end Go.Proofs.YtkljajfgdelfgaaDoor
namespace Go.Proofs.YtkljajfgdelfgaaDoor
open Go.RowKit

theorem grow_run (w : World) (n : Nat) (h0 : 0 < n) (hn : n ≤ 1000) (ty : TypeId) : ∃ v' Y, (Builtin.append_ #[90, 3] ty #[.slice none 0 0, .int .i64 (n : Int)]).run Tryd.prog w = .ok v' Y ∧ ((∃ cap, v' = .slice (some ⟨w.heap.size, 0, none⟩) n cap ∧ n ≤ cap ∧ BRow w.heap.size Y (.slice (some ⟨w.heap.size, 0, none⟩) 0 cap) []) ∧ Below w.heap.size w Y) := by
  obtain ⟨i, hi, hz, hs, hby⟩ := info_parts info93
  have hr := Lib.run_append_nil_zeros (P := Tryd.prog) w 90 3 ty 93 i _ .i64 .i64 Tryd.underlying90 Tryd.underlying3 hi hz n h0 (by omega) (by omega) (by rw [hby]; omega)
  have hge := grownCap_ge w n 0 93
  have hcm := grownCap_le_maxLen w n 0 93 (by simp only [maxLen]; omega)
  have hzs : (Value.agg (encB S.b0).toArray).cells.size = 34 := by rw [Value.cells, List.size_toArray, encB_length _ (S.zeros_length 32)]
  refine ⟨_, _, hr, ⟨_, rfl, hge, by simp, Or.inr ⟨w.heap.size, _, _, rfl, Nat.le_refl _, heap_alloc_new w.drew _, by simp, hcm, ?_, by simp⟩⟩, ((Below.refl _ _).drew).alloc (Nat.le_refl _) _⟩
  simp only [Array.size_append, Builtin.zeroCells, Array.size_map, Array.size_range, hzs]
  omega
set_option maxHeartbeats 4000000 in
set_option maxRecDepth 10000 in
theorem grow_nil (n : Nat) (hn : n ≤ 1000) (w : World) :
   Calls Tryd.prog 66 #[.slice none 0 0, .int .i64 (n : Int)] w fun r w' => (∃ v, r = .returned v ∧ BRow w.heap.size w' v []) ∧ Below w.heap.size w w' := by
  have q1 : ¬ (n : Int) < 0 := by omega
  go_enter Tryd.func66, Tryd.ntmps66
  by_cases h0 : n = 0
  · subst h0
    go_wp2_with fail
    go_ret
    exact ⟨⟨_, rfl, Rw.nil _ _ _ _ _⟩, Below.refl _ _⟩
  · have q2 : (n : Int) > 0 := by omega
    have q2' : (0 : Int) < (n : Int) := by omega
    have KEY := hide (grow_run w n (by omega) hn 90)
    go_wp2_with (at_builtin; (refine wpList_append_known rfl (.tmp 20) (.tmp 21) 90 3 rfl _ _ rfl rfl KEY.out ?_; rintro v' Y ⟨⟨cap, rfl, hcap, hR'⟩, hB'⟩; have RN := hide hR'; have BN := hide hB'; clear hR' hB'; have q5 : (0 : Int) ≤ (cap : Int) := by omega))
    go_ret
    exact ⟨⟨_, rfl, RN.out⟩, BN.out⟩
set_option maxHeartbeats 8000000 in
set_option maxRecDepth 10000 in
theorem concat_two (g : Nat) (ao bo : Option Addr) (ca cb : Nat) (B1 B2 : Nat) (xs ys : List (C.Bk (List UInt8))) (w : World) (hg : w.heap[g]? = some (.cells #[.slice ao xs.length ca, .slice bo ys.length cb] 90 (0, 0)))
   (hx : BRow B1 w (.slice ao xs.length ca) xs) (hy : BRow B2 w (.slice bo ys.length cb) ys) (h1 : xs.length ≤ 64) (h2 : ys.length ≤ 64) (x32 : ∀ x ∈ xs, x.h.length = 32) (y32 : ∀ x ∈ ys, x.h.length = 32) :
   Calls Tryd.prog 52 #[.slice (some ⟨g, 0, none⟩) 2 2] w fun r w' => (∃ v, r = .returned v ∧ BRow w.heap.size w' v (xs ++ ys)) ∧ Below w.heap.size w w' := by
  have HX := hide hx
  have HY := hide hy
  have X32 := hide x32
  have Y32 := hide y32
  have HG := hide hg
  obtain ⟨c0, c1⟩ := cells2 hg
  have hgl := block_lt_of_row hg
  obtain ⟨na, hna⟩ : ∃ n, n = xs.length := ⟨_, rfl⟩
  obtain ⟨nb, hnb⟩ : ∃ n, n = ys.length := ⟨_, rfl⟩
  rw [← hna] at h1 c0 HX
  rw [← hnb] at h2 c1 HY
  have HNA := hide hna
  have HNB := hide hnb
  clear hx hy x32 y32 hg hna hnb HG
  have q1 : ¬ (na : Int) < 0 := by omega
  have q2 : ¬ ((na : Int) + (nb : Int)) < 0 := by omega
  have q3 : IntKind.i64.wrap ((na : Int) + (nb : Int)) = (na : Int) + (nb : Int) := by rw [IntKind.wrap_i64]; omega
  go_enter Tryd.func52, Tryd.ntmps52
  go_wp2_with fail
  go_loopg [3, 11] 2 (fun gk s3 s11 wr => ((gk = 2 ∧ s11 = .int .i64 0 ∧ s3 = .int .i64 0) ∨ (gk = 1 ∧ s11 = .int .i64 1 ∧ s3 = .int .i64 (na : Int)) ∨ (gk = 0 ∧ s11 = .int .i64 2 ∧ s3 = .int .i64 ((na : Int) + (nb : Int)))) ∧ w = wr)
  case atStart => exact ⟨Or.inl ⟨rfl, rfl, rfl⟩, rfl⟩
  case round =>
    obtain ⟨hrel, rfl⟩ := hrel
    rcases hrel with ⟨rfl, rfl, rfl⟩ | ⟨rfl, rfl, rfl⟩ | ⟨rfl, rfl, rfl⟩
    · go_wp2_with fail
      go_roundg 1
      case measure => omega
      case rel => exact ⟨Or.inr (Or.inl ⟨rfl, rfl, rfl⟩), rfl⟩
    · go_wp2_with fail
      go_roundg 0
      case measure => omega
      case rel => exact ⟨Or.inr (Or.inr ⟨rfl, rfl, rfl⟩), rfl⟩
    · clear q1 q2 q3
      obtain ⟨M, hM⟩ : ∃ M, M = na + nb := ⟨_, rfl⟩
      have hM2 : (na : Int) + (nb : Int) = (M : Int) := by omega
      have hMl : M ≤ 1000 := by omega
      rw [hM2]
      clear hM hM2
      go_wp2_with fail
      refine (grow_nil M hMl w).mono ?_
      rintro r W ⟨⟨vg, rfl, hvg⟩, hbw⟩
      obtain ⟨go, gc, rfl⟩ := hvg.form
      have HVG := hide hvg
      have BW := hide hbw
      have c0' := (hbw.cell (p := ⟨g, 0, none⟩) hgl).trans c0
      have c1' := (hbw.cell (p := ⟨g, 1, none⟩) hgl).trans c1
      clear hvg hbw
      go_wp2_with fail
      go_loopg [6, 27] 2 (fun gk s6 s27 wr => ((gk = 2 ∧ s27 = .int .i64 0 ∧ Hid (BRow w.heap.size wr s6 [])) ∨ (gk = 1 ∧ s27 = .int .i64 1 ∧ Hid (BRow w.heap.size wr s6 xs)) ∨ (gk = 0 ∧ s27 = .int .i64 2 ∧ Hid (BRow w.heap.size wr s6 (xs ++ ys)))) ∧ Hid (Below w.heap.size w wr))
      case atStart => exact ⟨Or.inl ⟨rfl, rfl, HVG⟩, BW⟩
      case round =>
        clear c0' c1' HVG BW
        obtain ⟨hrel, BR⟩ := hrel
        have c0' := (BR.out.cell (p := ⟨g, 0, none⟩) hgl).trans c0
        have c1' := (BR.out.cell (p := ⟨g, 1, none⟩) hgl).trans c1
        rcases hrel with ⟨rfl, rfl, HR⟩ | ⟨rfl, rfl, HR⟩ | ⟨rfl, rfl, HR⟩
        · obtain ⟨so, sc, rfl⟩ := HR.out.form
          have KEY := hide (Rw.append kdB 90 HR.out (HX.out.below BR.out).src (fun y hy => encB_length _ (X32.out y hy)) (by rw [← HNA.out]; simp; omega) BR.out.size)
          have HW := hide (fun j (e : (Value.slice so ([] : List (C.Bk (List UInt8))).length sc).ownBlock = some j) => (HR.out.blk e).1)
          rw [List.nil_append] at KEY
          clear HR
          go_wp2_with (at_builtin; (refine wpList_append_known rfl (.tmp 31) (.tmp 32) 90 90 rfl _ _ rfl rfl KEY.out ?_; rintro v' Y ⟨hR', hC'⟩; have RN := hide hR'; have BN := hide (BR.out.trans (hC'.below _ BR.out.size (fun k hk e => by have := HW.out _ e; omega))); clear hR' hC'))
          go_roundg 1
          case measure => omega
          case rel => exact ⟨Or.inr (Or.inl ⟨rfl, rfl, RN⟩), BN⟩
        · obtain ⟨so, sc, rfl⟩ := HR.out.form
          rw [← HNA.out] at HR ⊢
          have KEY := hide (Rw.append kdB 90 HR.out (HY.out.below BR.out).src (fun y hy => encB_length _ (Y32.out y hy)) (by rw [← HNA.out, ← HNB.out]; omega) BR.out.size)
          have HW := hide (fun j (e : (Value.slice so na sc).ownBlock = some j) => (HR.out.blk e).1)
          clear HR
          go_wp2_with (at_builtin; (refine wpList_append_known rfl (.tmp 31) (.tmp 32) 90 90 rfl _ _ rfl rfl KEY.out ?_; rintro v' Y ⟨hR', hC'⟩; have RN := hide hR'; have BN := hide (BR.out.trans (hC'.below _ BR.out.size (fun k hk e => by have := HW.out _ e; omega))); clear hR' hC'))
          go_roundg 0
          case measure => omega
          case rel => exact ⟨Or.inr (Or.inr ⟨rfl, rfl, RN⟩), BN⟩
        · go_wp2_with fail
          go_ret
          exact ⟨⟨_, rfl, HR.out⟩, BR.out⟩
end Go.Proofs.YtkljajfgdelfgaaDoor
