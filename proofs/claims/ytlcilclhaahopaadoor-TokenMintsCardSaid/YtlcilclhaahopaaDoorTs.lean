/- TokenMints. -/
import Derived.Test.YtlcilclhaahopaaDoorTr
import Derived.Deep.CutBlock
namespace Go.Proofs.YtlcilclhaahopaaDoor
open Go.RowKit

theorem S.has_more {l : List Nat} {i y : Nat} (h : l[i]? = some y) (x : Nat) : (l.take (i + 1)).contains x = ((l.take i).contains x || (y == x)) := by
  have e : l.take (i + 1) = l.take i ++ [y] := by
    rw [List.take_add_one, h]; rfl
  rw [e, List.contains_append]
  congr 1
  by_cases h2 : y = x
  · subst h2; simp
  · have h3 : ¬ x = y := fun e => h2 e.symm
    simp [h2, h3]
theorem S.narrow_id {t : S.Tk} {c : S.Cv} (h : (S.narrow t c).2 = 0) : (S.narrow t c).1.id = t.id := by
  obtain ⟨h1, h2⟩ := S.narrow_was h
  rw [S.narrow_yes t c h1 h2]
set_option maxHeartbeats 40000000 in
set_option maxRecDepth 10000 in
theorem tokenMints_walk (key : List UInt8) (id : Nat) (lo : Option Addr) (ln lc : Nat) (L : List S.Cv) (x : S.Tk) (xv : Value) (op tree : Int) (clock : Nat) (mv : Value) (M : List Nat) (w : World) (hkey : key.length = 32) (hid : id < 4294967296) (hL : RowAt 2 encC w (.slice lo ln lc) L) (hLl : L.length = ln) (hLo : ∀ c ∈ L, c.Ok) (hx : x.Ok) (hxv : CvAt w xv x.cs) (ho : -9223372036854775808 ≤ op ∧ op ≤ 9223372036854775807) (htr : -9223372036854775808 ≤ tree ∧ tree ≤ 9223372036854775807) (hM : RowAt 1 encN w mv M) (hMl : M.length ≤ 4611686018427387904) (hK : KAt w) :
   Calls Tryd.prog 4 #[.agg (S.v8 key), .int .u32 (id : Int), .slice lo ln lc, .agg (encT x.id xv x.tag).toArray, .int .i64 op, .int .i64 tree, .int .u64 (clock : Int), mv] w fun e w' => e = .returned (.bool true) ∧ Below w.heap.size w w' := by
  obtain ⟨xo, xn, xc, rfl, -, -⟩ := hxv.form
  obtain ⟨mo, mn, mc, rfl, hmn, -⟩ := hM.form
  have HKEY := hide hkey
  have HID : Hid (id < 4294967296) := hid
  have HLV := hide hL
  have HLL := hide hLl
  have HLO := hide hLo
  have HX := hide hx
  have HXV := hide hxv
  have HO := hide ho
  have HTR := hide htr
  have HMV := hide hM
  have HMN := hide hmn
  have HML : Hid (M.length ≤ 4611686018427387904) := hMl
  have HK := hide hK
  have h0 := hK.pos
  clear hkey hid hL hLl hLo hx hxv ho htr hM hMl hK hmn
  go_enter Tryd.func4, Tryd.ntmps4
  go_upto_region 1 with fail
  generalize hW0 : w.alloc _ = W0
  generalize hW1 : W0.alloc _ = W1
  have B0 : Below w.heap.size w W0 := by rw [← hW0]; exact (Below.refl _ _).alloc (Nat.le_refl _) _
  have s0 : W0.heap.size = w.heap.size + 1 := by rw [← hW0]; simp
  have r0 : W0.heap[w.heap.size]? = some (.cells (S.v8 key) 25 (0, 0)) := by rw [← hW0]; exact heap_alloc_new _ _
  have B1 : Below W0.heap.size W0 W1 := by rw [← hW1]; exact (Below.refl _ _).alloc (Nat.le_refl _) _
  have s1 : W1.heap.size = w.heap.size + 2 := by rw [← hW1]; simp [s0]
  have r1 : W1.heap[w.heap.size + 1]? = some (.cells (encT x.id (.slice xo xn xc) x.tag).toArray 27 (0, 0)) := by rw [← hW1, ← s0]; exact heap_alloc_new _ _
  have BB : Hid (Below w.heap.size w W1) := (B0.trans (B1.mono (by omega)))
  have Q0 : Hid (W1.heap[w.heap.size]? = some (.cells (S.v8 key) 25 (0, 0))) := ((B1.block _ (by omega)).trans r0)
  have Q1 : Hid (W1.heap[w.heap.size + 1]? = some (.cells (encT x.id (.slice xo xn xc) x.tag).toArray 27 (0, 0))) := r1
  clear hW0 B0 s0 r0 hW1 B1 s1 r1
  go_wp2_with fail
  refine (new_any W1).mono ?_
  rintro e w1 ⟨gT, rfl, hgT, hT, hb1⟩
  have B1 := hide (BB.out.trans (hb1.mono BB.out.size))
  have T1 := hide hT
  have Q0b := hide ((hb1.block _ (block_lt_of_row Q0.out)).trans Q0.out)
  have Q1b := hide ((hb1.block _ (block_lt_of_row Q1.out)).trans Q1.out)
  have GT := hide (show w.heap.size + 1 < gT by have := block_lt_of_row Q1.out; omega)
  clear hgT hT hb1 Q0 Q1 BB
  have ld1 := load_digv Q0b.out HKEY.out
  go_upto_region 2 with fail
  go_wp2_with (with_reducible refine at_op { dst := some 28, op := Op.load 25 (Operand.tmp 8), type := 25, pos := "law.go:62", after := #[], guard := none } ?_; refine wpList_load_as rfl 25 (.tmp 8) rfl (.pointer (some ⟨w.heap.size, 0, none⟩)) rfl (.agg (S.v8 key)) ld1 ?_)
  refine (mint_any key id w1 HKEY.out HID.out (HK.out.below B1.out h0)).mono ?_
  rintro e w2 ⟨rfl, hb2⟩
  obtain ⟨D, hD⟩ : ∃ D, D = (S.mint key id).tag := ⟨_, rfl⟩
  rw [← hD]
  have LD := hide (show D.length = 32 by rw [hD]; exact S.mint_tag _ _)
  have MT := hide (S.made_mint key id D hD)
  have OKT : Hid (S.Tk.Ok ⟨id, [], D⟩) := ⟨HID.out, LD.out, by simp, by simp⟩
  have EDD := hide hD
  obtain ⟨A3, w3, ha3, hs3, hr3, hb3, -⟩ := lay_t w2 id none 0 0 D LD.out
  obtain ⟨ga, hga⟩ : ∃ g, g = w2.heap.size := ⟨_, rfl⟩
  rw [← hga] at ha3 hs3 hr3
  have hb23 := hb2.trans (hb3.mono hb2.size)
  have B3 := hide (B1.out.trans (hb23.mono B1.out.size))
  have T3 := hide ((hb23.block _ (block_lt_of_row T1.out)).trans T1.out)
  have Q0c := hide ((hb23.block _ (block_lt_of_row Q0b.out)).trans Q0b.out)
  have Q1c := hide ((hb23.block _ (block_lt_of_row Q1b.out)).trans Q1b.out)
  have RA3 := hide hr3
  have GA := hide (show gT < ga by rw [hga]; exact Nat.lt_of_lt_of_le (block_lt_of_row T1.out) hb2.size)
  clear hD hb2 hb3 hb23 hr3 hga B1 T1 Q0b Q1b ld1
  go_upto_region 3 with (first | (with_reducible refine at_op { dst := some 18, op := Op.alloc 27, type := 0, pos := "law.go:62", after := #[], guard := none } ?_; refine wpList_alloc_known rfl 27 rfl _ _ ha3 ?_) | (with_reducible refine at_op { dst := none, op := Op.store 27 (Operand.tmp 18) (Operand.tmp 30), type := 0, pos := "law.go:62", after := #[{ on := 3, ground := Ground.data }, { on := 2, ground := Ground.data }, { on := 2, ground := Ground.chain }, { on := 0, ground := Ground.phase }, { on := 1, ground := Ground.phase }, { on := 2, ground := Ground.phase }, { on := 3, ground := Ground.phase }], guard := none } ?_; refine wpList_store_as rfl 27 (.tmp 18) (.tmp 30) rfl (.pointer (some ⟨ga, 0, none⟩)) (.agg (encT id (.slice none 0 0) D).toArray) rfl rfl w3 hs3 ?_))
  clear ha3 hs3 A3
  have ld1 := load_digv Q0c.out HKEY.out
  go_wp2_with (with_reducible refine at_op { dst := some 32, op := Op.load 25 (Operand.tmp 8), type := 25, pos := "law.go:63", after := #[], guard := none } ?_; refine wpList_load_as rfl 25 (.tmp 8) rfl (.pointer (some ⟨w.heap.size, 0, none⟩)) rfl (.agg (S.v8 key)) ld1 ?_)
  refine (rmint_any gT key id w3 T3.out HKEY.out HID.out).mono ?_
  rintro e w4 ⟨rfl, hb2⟩
  rw [← EDD.out]
  obtain ⟨A3, w5, ha3, hs3, hr3, hb3, -⟩ := lay_t w4 id none 0 0 D LD.out
  obtain ⟨gb, hgb⟩ : ∃ g, g = w4.heap.size := ⟨_, rfl⟩
  rw [← hgb] at ha3 hs3 hr3
  have hb23 := hb2.trans (hb3.mono hb2.size)
  have B5 := hide (B3.out.trans (hb23.mono B3.out.size))
  have T5 := hide ((hb23.block _ (block_lt_of_row T3.out)).trans T3.out)
  have Q05 := hide ((hb23.block _ (block_lt_of_row Q0c.out)).trans Q0c.out)
  have Q15 := hide ((hb23.block _ (block_lt_of_row Q1c.out)).trans Q1c.out)
  have RA5 := hide ((hb23.block _ (block_lt_of_row RA3.out)).trans RA3.out)
  have RB5 := hide hr3
  have GB := hide (show ga < gb by rw [hgb]; exact Nat.lt_of_lt_of_le (block_lt_of_row RA3.out) hb2.size)
  clear hb2 hb3 hb23 hr3 hgb B3 T3 Q0c Q1c RA3 ld1
  go_upto_region 4 with (first | (with_reducible refine at_op { dst := some 19, op := Op.alloc 27, type := 0, pos := "law.go:63", after := #[], guard := none } ?_; refine wpList_alloc_known rfl 27 rfl _ _ ha3 ?_) | (with_reducible refine at_op { dst := none, op := Op.store 27 (Operand.tmp 19) (Operand.tmp 34), type := 0, pos := "law.go:63", after := #[{ on := 4, ground := Ground.data }, { on := 3, ground := Ground.data }, { on := 3, ground := Ground.chain }, { on := 0, ground := Ground.phase }, { on := 1, ground := Ground.phase }, { on := 2, ground := Ground.phase }, { on := 3, ground := Ground.phase }, { on := 4, ground := Ground.phase }], guard := none } ?_; refine wpList_store_as rfl 27 (.tmp 19) (.tmp 34) rfl (.pointer (some ⟨gb, 0, none⟩)) (.agg (encT id (.slice none 0 0) D).toArray) rfl rfl w5 hs3 ?_))
  clear ha3 hs3 A3
  go_wp2_with fail
  go_loopw [20] (fun s20 wr => ∃ (i : Nat) (t : S.Tk) (tp : Option Addr) (tn tc : Nat) (bp : Option Addr) (bn bc : Nat), i ≤ 7 ∧ s20 = .int .i64 (i : Int) ∧ Hid (S.Made key t) ∧ Hid (t.id = id) ∧ Hid t.Ok ∧ Hid (wr.heap[ga]? = some (.cells (encT t.id (.slice tp tn tc) t.tag).toArray 27 (0, 0))) ∧ Hid (CRow 0 wr (.slice tp tn tc) t.cs) ∧ Hid (wr.heap[gb]? = some (.cells (encT t.id (.slice bp bn bc) t.tag).toArray 27 (0, 0))) ∧ Hid (CRow 0 wr (.slice bp bn bc) t.cs) ∧ Hid (wr.heap[gT]? = some (.cells (S.v32 (S.K ++ S.H0)) 103 (0, 0))) ∧ Hid (wr.heap[w.heap.size]? = some (.cells (S.v8 key) 25 (0, 0))) ∧ Hid (wr.heap[w.heap.size + 1]? = some (.cells (encT x.id (.slice xo xn xc) x.tag).toArray 27 (0, 0))) ∧ Hid (Below w.heap.size w wr)) (fun s20 _ => 7 - (intOf s20).toNat)
  case atStart => exact ⟨0, ⟨id, [], D⟩, none, 0, 0, none, 0, 0, by omega, rfl, MT, hide rfl, OKT, RA5, hide (Rw.nil _ _ _ _ _), RB5, hide (Rw.nil _ _ _ _ _), T5, Q05, Q15, B5⟩
  case round =>
    clear MT OKT RA5 RB5 T5 Q05 Q15 B5
    obtain ⟨i, t, tp, tn, tc, bp, bn, bc, hi7, rfl, HM, HIDT, HTK, RA, CA, RB, CB, HT, Q0, Q1, BW⟩ := hrel
    by_cases hgo : i < ln ∧ i < 7
    · obtain ⟨hl1, hl2⟩ := hgo
      have q0 : (0 : Int) ≤ (i : Int) := by omega
      have q1 : (i : Int) < (ln : Int) := by omega
      have q2 : (i : Int) < 7 := by omega
      have qw : IntKind.i64.wrap ((i : Int) + 1) = (i : Int) + 1 := by rw [IntKind.wrap_i64]; omega
      have hlt : i < L.length := by have := HLL.out; omega
      obtain ⟨c, hc⟩ : ∃ c, L[i]? = some c := ⟨_, List.getElem?_eq_getElem hlt⟩
      obtain ⟨g, off, e, hg, hra⟩ := (HLV.out.below BW.out).at_ i c hc
      subst e
      have HCO := hide (HLO.out c (List.mem_of_getElem? hc))
      have HRA := hide hra
      have HGL := hide hg
      have h3 := S.narrow_e t c
      have hok := S.narrow_ok t c HTK.out HCO.out
      obtain ⟨u, hu⟩ : ∃ u, u = (S.narrow t c).1 := ⟨_, rfl⟩
      obtain ⟨er, her⟩ : ∃ er, er = (S.narrow t c).2 := ⟨_, rfl⟩
      rw [← hu] at hok
      rw [← her] at h3
      have HU := hide hok
      have EU := hide hu
      have EER := hide her
      have H3 := hide h3
      clear hra hg hc hlt hok hu her h3
      go_upto_region 7 with fail
      go_cut [21, 22] from 45 to 53 (fun s9 s10 wc => ∃ (gc : Nat) (uo : Option Addr) (un uc : Nat), s9 = .pointer (some ⟨gc, 0, none⟩) ∧ s10 = .int .i64 er ∧ wr.heap.size ≤ gc ∧ Hid (wc.heap[gc]? = some (.cells (encT u.id (.slice uo un uc) u.tag).toArray 27 (0, 0))) ∧ Hid (CRow 0 wc (.slice uo un uc) u.cs) ∧ Hid (Chg (fun _ => False) wr wc))
      case first =>
        refine wp_region_noPanic ?_
        refine wp_region_held_drew (S := (fun W => Chg (fun _ => False) wr W)) follows ((Chg.refl _ _).drew) (fun hHeld => ?_)
        clear hHeld
        have hHeld : Chg (fun _ => False) wr wr.drew := (Chg.refl _ _).drew
        have CZ0 := hide hHeld
        generalize wr.drew = Z0 at CZ0 hHeld ⊢
        refine wpAnyH_take (i := 0) (oi := { dst := some 46, op := Op.load 27 (Operand.tmp 18), type := 27, pos := "law.go:65", after := #[], guard := none }) (v := .agg (encT t.id (.slice tp tn tc) t.tag).toArray) rfl (by kernel_rfl) (by kernel_rfl) (by kernel_rfl) (fun _ _ _ h => h) (yieldsIf_load_mid (by rfl) _ _ rfl ga 0 rfl (encT t.id (.slice tp tn tc) t.tag) _ (fun _ hSw => rangeAt_row (hSw.row RA.out (fun e => e))) Tryd.underlying27 rfl (by rw [size_t _ _ _ HTK.out.tl, List.size_toArray])) (by assumption) ?_
        simp only [Act.put, List.setIfInBounds_toArray, List.set_cons_zero, List.set_cons_succ]
        refine wpAnyH_take (i := 1) (oi := { dst := some 47, op := Op.move (Operand.tmp 2), type := 23, pos := "law.go:65", after := #[], guard := none }) (v := ?_) rfl (by kernel_rfl) (by kernel_rfl) (by kernel_rfl) (fun _ _ _ h => h) (Or.inl ⟨by rfl, ?_⟩) (by assumption) ?_
        rotate_left
        · intro w hSw
          clear hSw
          go_simp
          all_goals with_reducible rfl
        simp only [Act.put, List.setIfInBounds_toArray, List.set_cons_zero, List.set_cons_succ]
        refine wpAnyH_take (i := 2) (oi := { dst := some 48, op := Op.move (Operand.tmp 20), type := 3, pos := "law.go:65", after := #[], guard := none }) (v := ?_) rfl (by kernel_rfl) (by kernel_rfl) (by kernel_rfl) (fun _ _ _ h => h) (Or.inl ⟨by rfl, ?_⟩) (by assumption) ?_
        rotate_left
        · intro w hSw
          clear hSw
          go_simp
          all_goals with_reducible rfl
        simp only [Act.put, List.setIfInBounds_toArray, List.set_cons_zero, List.set_cons_succ]
        refine wpAnyH_take (i := 3) (oi := { dst := some 49, op := Op.indexAddr 23 (Operand.tmp 47) (Operand.tmp 48), type := 0, pos := "law.go:65", after := #[{ on := 1, ground := Ground.data }, { on := 2, ground := Ground.data }], guard := none }) (v := ?_) rfl (by kernel_rfl) (by kernel_rfl) (by kernel_rfl) (fun _ _ _ h => h) (Or.inl ⟨by rfl, ?_⟩) (by assumption) ?_
        rotate_left
        · intro w hSw
          clear hSw
          go_simp
          all_goals with_reducible rfl
        simp only [Act.put, List.setIfInBounds_toArray, List.set_cons_zero, List.set_cons_succ]
        refine wpAnyH_take (i := 4) (oi := { dst := some 50, op := Op.load 42 (Operand.tmp 49), type := 42, pos := "law.go:65", after := #[{ on := 3, ground := Ground.data }], guard := none }) (v := .agg (encC c).toArray) rfl (by kernel_rfl) (by kernel_rfl) (by kernel_rfl) (fun _ _ _ h => h) (yieldsIf_load_mid (by rfl) _ _ rfl g (off + i * 2) rfl (encC c) _ (fun _ hSw => (fun j v hv => (World.cell?_of_block (a := ⟨g, off + i * 2 + j, none⟩) (hSw.block g HGL.out (fun e => e))).trans (HRA.out j v hv))) Tryd.underlying42 rfl (by rw [size_c, List.size_toArray])) (by assumption) ?_
        simp only [Act.put, List.setIfInBounds_toArray, List.set_cons_zero, List.set_cons_succ]
        refine wpAnyH_ready (rs := [5, 9]) (by kernel_rfl) (by simp) ?_
        refine AllReadyH.cons (o := { dst := some 51, op := Op.call { callee := Callee.value (Operand.func 14), args := #[Operand.tmp 46, Operand.tmp 50], argTypes := #[27, 42] }, type := 39, pos := "law.go:65", after := #[{ on := 0, ground := Ground.data }, { on := 4, ground := Ground.data }], guard := none }) rfl (fun K hK => ?_) ?_
        · skip
          go_simp
          refine (narrow_any t (.slice tp tn tc) c Z0 HTK.out HCO.out ((CRow.at CA.out).below (CZ0.out.below _ (Nat.le_refl _) (fun _ _ e => e))) (HK.out.below (BW.out.trans (CZ0.out.below w.heap.size BW.out.size (fun k hk e => e.elim))) h0)).mono ?_
          rintro e Z1 ⟨⟨nv, rfl, hcr⟩, hb2⟩
          rw [← EU.out] at hcr ⊢
          rw [← EER.out]
          obtain ⟨uo, uc, rfl⟩ := hcr.form
          obtain ⟨un, hun⟩ : ∃ un, un = u.cs.length := ⟨_, rfl⟩
          rw [← hun] at hcr ⊢
          have CRu : Hid (CRow 0 Z1 (.slice uo un uc) u.cs) := hcr.mono (Nat.zero_le _)
          clear hcr hun
          have CZ1 : Hid (Chg (fun _ => False) wr Z1) := CZ0.out.then hb2
          clear hb2 CZ0
          clear hHeld
          refine hK.out _ _ CZ1.out (fun hHeld => ?_)
          clear hK K
          try simp only [Act.put, List.setIfInBounds_toArray, List.set_cons_zero, List.set_cons_succ]
          refine wpAnyH_take (i := 6) (oi := { dst := some 45, op := Op.move (Operand.tmp 51), type := 39, pos := "law.go:65", after := #[{ on := 5, ground := Ground.data }], guard := none }) (v := ?_) rfl (by kernel_rfl) (by kernel_rfl) (by kernel_rfl) (fun _ _ _ h => h) (Or.inl ⟨by rfl, ?_⟩) (by assumption) ?_
          rotate_left
          · intro w hSw
            clear hSw
            go_simp
            all_goals with_reducible rfl
          simp only [Act.put, List.setIfInBounds_toArray, List.set_cons_zero, List.set_cons_succ]
          refine wpAnyH_take (i := 7) (oi := { dst := some 52, op := Op.extract (Operand.tmp 45) 0, type := 27, pos := "law.go:65", after := #[{ on := 6, ground := Ground.data }], guard := none }) (v := ?_) rfl (by kernel_rfl) (by kernel_rfl) (by kernel_rfl) (fun _ _ _ h => h) (Or.inl ⟨by rfl, ?_⟩) (by assumption) ?_
          rotate_left
          · intro w hSw
            clear hSw
            go_simp
            all_goals with_reducible rfl
          simp only [Act.put, List.setIfInBounds_toArray, List.set_cons_zero, List.set_cons_succ]
          refine wpAnyH_take (i := 8) (oi := { dst := some 53, op := Op.extract (Operand.tmp 45) 1, type := 31, pos := "law.go:65", after := #[{ on := 6, ground := Ground.data }, { on := 10, ground := Ground.gcOnly Departure.lateStores }], guard := none }) (v := ?_) rfl (by kernel_rfl) (by kernel_rfl) (by kernel_rfl) (fun _ _ _ h => h) (Or.inl ⟨by rfl, ?_⟩) (by assumption) ?_
          rotate_left
          · intro w hSw
            clear hSw
            go_simp
            all_goals with_reducible rfl
          simp only [Act.put, List.setIfInBounds_toArray, List.set_cons_zero, List.set_cons_succ]
          refine wpAnyH_ready (rs := [9]) (by kernel_rfl) (by simp) ?_
          refine step_alloc_as (o := { dst := some 21, op := Op.alloc 27, type := 0, pos := "law.go:65", after := #[], guard := none }) rfl rfl 27 rfl _ _ (alloc27 Z1) AllReadyH.nil ⟨CZ1.out.alloc _, fun hHeld => ?_⟩
          clear hHeld
          simp only [Act.put, List.setIfInBounds_toArray, List.set_cons_zero, List.set_cons_succ]
          obtain ⟨gc, hgc⟩ : ∃ gg, gg = Z1.heap.size := ⟨_, rfl⟩
          rw [← hgc]
          generalize hZ : Z1.alloc _ = Z2
          have hb2 : Below Z1.heap.size Z1 Z2 := by rw [← hZ]; exact (Below.refl _ _).alloc (Nat.le_refl _) _
          have Rgc : Hid (Z2.heap[gc]? = some (.cells tk0 27 (0, 0))) := by rw [← hZ, hgc]; exact heap_alloc_new _ _
          have Ggc := hide (show wr.heap.size ≤ gc by rw [hgc]; exact CZ1.out.size)
          clear hZ hgc
          replace CRu : Hid (CRow 0 Z2 (.slice uo un uc) u.cs) := CRu.out.below hb2
          have CZ2 : Hid (Chg (fun _ => False) wr Z2) := CZ1.out.then hb2
          clear hb2 CZ1
          have hHeld := CZ2.out
          refine wpAnyH_ready (rs := [10]) (by kernel_rfl) (by simp) ?_
          obtain ⟨Z3, hst, r6, C6, s6⟩ := store_t (id := u.id) (ao := uo) (n := un) (m := uc) (tag := u.tag) Rgc.out tk0_size HU.out.tl
          refine step_store_as (o := { dst := none, op := Op.store 27 (Operand.tmp 21) (Operand.tmp 52), type := 0, pos := "law.go:65", after := #[{ on := 9, ground := Ground.data }, { on := 7, ground := Ground.data }, { on := 5, ground := Ground.chain }, { on := 0, ground := Ground.phase }, { on := 1, ground := Ground.phase }, { on := 2, ground := Ground.phase }, { on := 3, ground := Ground.phase }, { on := 4, ground := Ground.phase }, { on := 5, ground := Ground.phase }, { on := 6, ground := Ground.phase }, { on := 7, ground := Ground.phase }, { on := 8, ground := Ground.textOnly Departure.lateStores }, { on := 9, ground := Ground.phase }], guard := none }) rfl rfl 27 (.tmp 21) (.tmp 52) rfl _ _ rfl rfl Z3 hst AllReadyH.nil ⟨CZ2.out.trans C6 (fun k hk e => by have := Ggc.out; omega), fun hHeld => ?_⟩
          have CZ3 : Hid (Chg (fun _ => False) wr Z3) := CZ2.out.trans C6 (fun k hk e => by have := Ggc.out; omega)
          replace CRu : Hid (CRow 0 Z3 (.slice uo un uc) u.cs) := CRu.out.chg C6 (fun j e e2 => CRu.out.apart Rgc.out (by decide) (e2 ▸ e))
          replace Rgc : Hid (Z3.heap[gc]? = some (.cells (encT u.id (.slice uo un uc) u.tag).toArray 27 (0, 0))) := r6
          clear hst r6 C6 s6 CZ2
          simp only [Act.put]
          refine wpAnyH_take (i := 11) (oi := { dst := some 22, op := Op.assign (Operand.tmp 53), type := 31, pos := "law.go:65", after := #[{ on := 8, ground := Ground.data }, { on := 10, ground := Ground.chain }, { on := 0, ground := Ground.phase }, { on := 1, ground := Ground.phase }, { on := 2, ground := Ground.phase }, { on := 3, ground := Ground.phase }, { on := 4, ground := Ground.phase }, { on := 5, ground := Ground.phase }, { on := 6, ground := Ground.phase }, { on := 7, ground := Ground.phase }, { on := 8, ground := Ground.phase }, { on := 9, ground := Ground.phase }, { on := 10, ground := Ground.phase }], guard := none }) (v := ?_) rfl (by kernel_rfl) (by kernel_rfl) (by kernel_rfl) (fun _ _ _ h => h) (Or.inl ⟨by rfl, ?_⟩) (by assumption) ?_
          rotate_left
          · intro w hSw
            clear hSw
            go_simp
            all_goals with_reducible rfl
          simp only [Act.put, List.setIfInBounds_toArray, List.set_cons_zero, List.set_cons_succ]
          refine wpAnyH_done (by kernel_rfl) ?_ _
          refine NoPanic.normal ?_
          clear hHeld
          try go_wp2_with fail
          go_meet
          exact ⟨gc, uo, un, uc, rfl, rfl, Ggc.out, Rgc, CRu, CZ3⟩
        refine step_alloc_as (o := { dst := some 21, op := Op.alloc 27, type := 0, pos := "law.go:65", after := #[], guard := none }) rfl rfl 27 rfl _ _ (alloc27 Z0) AllReadyH.nil ⟨CZ0.out.alloc _, fun hHeld => ?_⟩
        clear hHeld
        simp only [Act.put, List.setIfInBounds_toArray, List.set_cons_zero, List.set_cons_succ]
        obtain ⟨gc, hgc⟩ : ∃ gg, gg = Z0.heap.size := ⟨_, rfl⟩
        rw [← hgc]
        generalize hZ : Z0.alloc _ = Z1
        have hb2 : Below Z0.heap.size Z0 Z1 := by rw [← hZ]; exact (Below.refl _ _).alloc (Nat.le_refl _) _
        have Rgc : Hid (Z1.heap[gc]? = some (.cells tk0 27 (0, 0))) := by rw [← hZ, hgc]; exact heap_alloc_new _ _
        have Ggc := hide (show wr.heap.size ≤ gc by rw [hgc]; exact CZ0.out.size)
        clear hZ hgc
        have CZ1 : Hid (Chg (fun _ => False) wr Z1) := CZ0.out.then hb2
        clear hb2 CZ0
        have hHeld := CZ1.out
        refine wpAnyH_ready (rs := [5]) (by kernel_rfl) (by simp) ?_
        refine AllReadyH.cons (o := { dst := some 51, op := Op.call { callee := Callee.value (Operand.func 14), args := #[Operand.tmp 46, Operand.tmp 50], argTypes := #[27, 42] }, type := 39, pos := "law.go:65", after := #[{ on := 0, ground := Ground.data }, { on := 4, ground := Ground.data }], guard := none }) rfl (fun K hK => ?_) AllReadyH.nil
        go_simp
        refine (narrow_any t (.slice tp tn tc) c Z1 HTK.out HCO.out ((CRow.at CA.out).below (CZ1.out.below _ (Nat.le_refl _) (fun _ _ e => e))) (HK.out.below (BW.out.trans (CZ1.out.below w.heap.size BW.out.size (fun k hk e => e.elim))) h0)).mono ?_
        rintro e Z2 ⟨⟨nv, rfl, hcr⟩, hb2⟩
        rw [← EU.out] at hcr ⊢
        rw [← EER.out]
        obtain ⟨uo, uc, rfl⟩ := hcr.form
        obtain ⟨un, hun⟩ : ∃ un, un = u.cs.length := ⟨_, rfl⟩
        rw [← hun] at hcr ⊢
        have CRu : Hid (CRow 0 Z2 (.slice uo un uc) u.cs) := hcr.mono (Nat.zero_le _)
        clear hcr hun
        replace Rgc : Hid (Z2.heap[gc]? = some (.cells tk0 27 (0, 0))) := (hb2.block _ (block_lt_of_row Rgc.out)).trans Rgc.out
        have CZ2 : Hid (Chg (fun _ => False) wr Z2) := CZ1.out.then hb2
        clear hb2 CZ1
        clear hHeld
        refine hK.out _ _ CZ2.out (fun hHeld => ?_)
        clear hK K
        try simp only [Act.put, List.setIfInBounds_toArray, List.set_cons_zero, List.set_cons_succ]
        refine wpAnyH_take (i := 6) (oi := { dst := some 45, op := Op.move (Operand.tmp 51), type := 39, pos := "law.go:65", after := #[{ on := 5, ground := Ground.data }], guard := none }) (v := ?_) rfl (by kernel_rfl) (by kernel_rfl) (by kernel_rfl) (fun _ _ _ h => h) (Or.inl ⟨by rfl, ?_⟩) (by assumption) ?_
        rotate_left
        · intro w hSw
          clear hSw
          go_simp
          all_goals with_reducible rfl
        simp only [Act.put, List.setIfInBounds_toArray, List.set_cons_zero, List.set_cons_succ]
        refine wpAnyH_take (i := 7) (oi := { dst := some 52, op := Op.extract (Operand.tmp 45) 0, type := 27, pos := "law.go:65", after := #[{ on := 6, ground := Ground.data }], guard := none }) (v := ?_) rfl (by kernel_rfl) (by kernel_rfl) (by kernel_rfl) (fun _ _ _ h => h) (Or.inl ⟨by rfl, ?_⟩) (by assumption) ?_
        rotate_left
        · intro w hSw
          clear hSw
          go_simp
          all_goals with_reducible rfl
        simp only [Act.put, List.setIfInBounds_toArray, List.set_cons_zero, List.set_cons_succ]
        refine wpAnyH_take (i := 8) (oi := { dst := some 53, op := Op.extract (Operand.tmp 45) 1, type := 31, pos := "law.go:65", after := #[{ on := 6, ground := Ground.data }, { on := 10, ground := Ground.gcOnly Departure.lateStores }], guard := none }) (v := ?_) rfl (by kernel_rfl) (by kernel_rfl) (by kernel_rfl) (fun _ _ _ h => h) (Or.inl ⟨by rfl, ?_⟩) (by assumption) ?_
        rotate_left
        · intro w hSw
          clear hSw
          go_simp
          all_goals with_reducible rfl
        simp only [Act.put, List.setIfInBounds_toArray, List.set_cons_zero, List.set_cons_succ]
        refine wpAnyH_ready (rs := [10]) (by kernel_rfl) (by simp) ?_
        obtain ⟨Z3, hst, r6, C6, s6⟩ := store_t (id := u.id) (ao := uo) (n := un) (m := uc) (tag := u.tag) Rgc.out tk0_size HU.out.tl
        refine step_store_as (o := { dst := none, op := Op.store 27 (Operand.tmp 21) (Operand.tmp 52), type := 0, pos := "law.go:65", after := #[{ on := 9, ground := Ground.data }, { on := 7, ground := Ground.data }, { on := 5, ground := Ground.chain }, { on := 0, ground := Ground.phase }, { on := 1, ground := Ground.phase }, { on := 2, ground := Ground.phase }, { on := 3, ground := Ground.phase }, { on := 4, ground := Ground.phase }, { on := 5, ground := Ground.phase }, { on := 6, ground := Ground.phase }, { on := 7, ground := Ground.phase }, { on := 8, ground := Ground.textOnly Departure.lateStores }, { on := 9, ground := Ground.phase }], guard := none }) rfl rfl 27 (.tmp 21) (.tmp 52) rfl _ _ rfl rfl Z3 hst AllReadyH.nil ⟨CZ2.out.trans C6 (fun k hk e => by have := Ggc.out; omega), fun hHeld => ?_⟩
        have CZ3 : Hid (Chg (fun _ => False) wr Z3) := CZ2.out.trans C6 (fun k hk e => by have := Ggc.out; omega)
        replace CRu : Hid (CRow 0 Z3 (.slice uo un uc) u.cs) := CRu.out.chg C6 (fun j e e2 => CRu.out.apart Rgc.out (by decide) (e2 ▸ e))
        replace Rgc : Hid (Z3.heap[gc]? = some (.cells (encT u.id (.slice uo un uc) u.tag).toArray 27 (0, 0))) := r6
        clear hst r6 C6 s6 CZ2
        simp only [Act.put]
        refine wpAnyH_take (i := 11) (oi := { dst := some 22, op := Op.assign (Operand.tmp 53), type := 31, pos := "law.go:65", after := #[{ on := 8, ground := Ground.data }, { on := 10, ground := Ground.chain }, { on := 0, ground := Ground.phase }, { on := 1, ground := Ground.phase }, { on := 2, ground := Ground.phase }, { on := 3, ground := Ground.phase }, { on := 4, ground := Ground.phase }, { on := 5, ground := Ground.phase }, { on := 6, ground := Ground.phase }, { on := 7, ground := Ground.phase }, { on := 8, ground := Ground.phase }, { on := 9, ground := Ground.phase }, { on := 10, ground := Ground.phase }], guard := none }) (v := ?_) rfl (by kernel_rfl) (by kernel_rfl) (by kernel_rfl) (fun _ _ _ h => h) (Or.inl ⟨by rfl, ?_⟩) (by assumption) ?_
        rotate_left
        · intro w hSw
          clear hSw
          go_simp
          all_goals with_reducible rfl
        simp only [Act.put, List.setIfInBounds_toArray, List.set_cons_zero, List.set_cons_succ]
        refine wpAnyH_done (by kernel_rfl) ?_ _
        refine NoPanic.normal ?_
        clear hHeld
        try go_wp2_with fail
        go_meet
        exact ⟨gc, uo, un, uc, rfl, rfl, Ggc.out, Rgc, CRu, CZ3⟩
      case rest =>
        obtain ⟨gc, uo, un, uc, rfl, rfl, hgc, RC, CU, CW⟩ := hcut
        have BW2 := hide (BW.out.trans (CW.out.below w.heap.size BW.out.size (fun k hk e => e.elim)))
        have RA2 := hide (CW.out.row RA.out (fun e => e))
        have RB2 := hide (CW.out.row RB.out (fun e => e))
        have CB2 := hide (CB.out.chg CW.out (fun _ _ e => e))
        have CA2 := hide (CA.out.chg CW.out (fun _ _ e => e))
        have HT2 := hide (CW.out.row HT.out (fun e => e))
        have Q02 := hide (CW.out.row Q0.out (fun e => e))
        have Q12 := hide (CW.out.row Q1.out (fun e => e))
        have HRA2 : Hid (wc.rangeAt g (off + i * 2) (encC c)) := fun j v hv => (World.cell?_of_block (a := ⟨g, off + i * 2 + j, none⟩) (CW.out.block g HGL.out (fun e => e))).trans (HRA.out j v hv)
        have HGL2 := hide (Nat.lt_of_lt_of_le HGL.out CW.out.size)
        have GC := hide (show gb < gc by have := block_lt_of_row RB.out; omega)
        clear hgc CW BW RA RB CA CB HT Q0 Q1 HRA HGL
        obtain ⟨wd, hwd⟩ : ∃ wd, wd = wc := ⟨_, rfl⟩
        rw [← hwd] at RC CU BW2 RA2 RB2 CB2 CA2 HT2 Q02 Q12 HRA2 HGL2 ⊢
        clear hwd wc
        have HT := HT2
        clear HT2
        go_upto_region 8 with fail
        go_cut [23, 24] from 54 to 63 (fun s9 s10 wc => ∃ (gd : Nat) (vo : Option Addr) (vn vc : Nat), s9 = .pointer (some ⟨gd, 0, none⟩) ∧ s10 = .int .i64 er ∧ wd.heap.size ≤ gd ∧ Hid (wc.heap[gd]? = some (.cells (encT u.id (.slice vo vn vc) u.tag).toArray 27 (0, 0))) ∧ Hid (CRow 0 wc (.slice vo vn vc) u.cs) ∧ Hid (Chg (fun _ => False) wd wc))
        case first =>
          refine wp_region_noPanic ?_
          refine wp_region_held_drew (S := (fun W => Chg (fun _ => False) wd W)) follows ((Chg.refl _ _).drew) (fun hHeld => ?_)
          clear hHeld
          have hHeld : Chg (fun _ => False) wd wd.drew := (Chg.refl _ _).drew
          have CZ0 := hide hHeld
          generalize wd.drew = Z0 at CZ0 hHeld ⊢
          refine wpAnyH_take (i := 0) (oi := { dst := some 55, op := Op.move (Operand.tmp 17), type := 50, pos := "law.go:66", after := #[], guard := none }) (v := ?_) rfl (by kernel_rfl) (by kernel_rfl) (by kernel_rfl) (fun _ _ _ h => h) (Or.inl ⟨by rfl, ?_⟩) (by assumption) ?_
          rotate_left
          · intro w hSw
            clear hSw
            go_simp
            all_goals with_reducible rfl
          simp only [Act.put, List.setIfInBounds_toArray, List.set_cons_zero, List.set_cons_succ]
          refine wpAnyH_take (i := 1) (oi := { dst := some 56, op := Op.load 27 (Operand.tmp 19), type := 27, pos := "law.go:66", after := #[], guard := none }) (v := .agg (encT t.id (.slice bp bn bc) t.tag).toArray) rfl (by kernel_rfl) (by kernel_rfl) (by kernel_rfl) (fun _ _ _ h => h) (yieldsIf_load_mid (by rfl) _ _ rfl gb 0 rfl (encT t.id (.slice bp bn bc) t.tag) _ (fun _ hSw => rangeAt_row (hSw.row RB2.out (fun e => e))) Tryd.underlying27 rfl (by rw [size_t _ _ _ HTK.out.tl, List.size_toArray])) (by assumption) ?_
          simp only [Act.put, List.setIfInBounds_toArray, List.set_cons_zero, List.set_cons_succ]
          refine wpAnyH_take (i := 2) (oi := { dst := some 57, op := Op.move (Operand.tmp 2), type := 23, pos := "law.go:66", after := #[], guard := none }) (v := ?_) rfl (by kernel_rfl) (by kernel_rfl) (by kernel_rfl) (fun _ _ _ h => h) (Or.inl ⟨by rfl, ?_⟩) (by assumption) ?_
          rotate_left
          · intro w hSw
            clear hSw
            go_simp
            all_goals with_reducible rfl
          simp only [Act.put, List.setIfInBounds_toArray, List.set_cons_zero, List.set_cons_succ]
          refine wpAnyH_take (i := 3) (oi := { dst := some 58, op := Op.move (Operand.tmp 20), type := 3, pos := "law.go:66", after := #[], guard := none }) (v := ?_) rfl (by kernel_rfl) (by kernel_rfl) (by kernel_rfl) (fun _ _ _ h => h) (Or.inl ⟨by rfl, ?_⟩) (by assumption) ?_
          rotate_left
          · intro w hSw
            clear hSw
            go_simp
            all_goals with_reducible rfl
          simp only [Act.put, List.setIfInBounds_toArray, List.set_cons_zero, List.set_cons_succ]
          refine wpAnyH_take (i := 4) (oi := { dst := some 59, op := Op.indexAddr 23 (Operand.tmp 57) (Operand.tmp 58), type := 0, pos := "law.go:66", after := #[{ on := 2, ground := Ground.data }, { on := 3, ground := Ground.data }], guard := none }) (v := ?_) rfl (by kernel_rfl) (by kernel_rfl) (by kernel_rfl) (fun _ _ _ h => h) (Or.inl ⟨by rfl, ?_⟩) (by assumption) ?_
          rotate_left
          · intro w hSw
            clear hSw
            go_simp
            all_goals with_reducible rfl
          simp only [Act.put, List.setIfInBounds_toArray, List.set_cons_zero, List.set_cons_succ]
          refine wpAnyH_take (i := 5) (oi := { dst := some 60, op := Op.load 42 (Operand.tmp 59), type := 42, pos := "law.go:66", after := #[{ on := 4, ground := Ground.data }], guard := none }) (v := .agg (encC c).toArray) rfl (by kernel_rfl) (by kernel_rfl) (by kernel_rfl) (fun _ _ _ h => h) (yieldsIf_load_mid (by rfl) _ _ rfl g (off + i * 2) rfl (encC c) _ (fun _ hSw => (fun j v hv => (World.cell?_of_block (a := ⟨g, off + i * 2 + j, none⟩) (hSw.block g HGL2.out (fun e => e))).trans (HRA2.out j v hv))) Tryd.underlying42 rfl (by rw [size_c, List.size_toArray])) (by assumption) ?_
          simp only [Act.put, List.setIfInBounds_toArray, List.set_cons_zero, List.set_cons_succ]
          refine wpAnyH_ready (rs := [6, 10]) (by kernel_rfl) (by simp) ?_
          refine AllReadyH.cons (o := { dst := some 61, op := Op.call { callee := Callee.value (Operand.func 22), args := #[Operand.tmp 55, Operand.tmp 56, Operand.tmp 60], argTypes := #[50, 27, 42] }, type := 53, pos := "law.go:66", after := #[{ on := 0, ground := Ground.data }, { on := 1, ground := Ground.data }, { on := 5, ground := Ground.data }], guard := none }) rfl (fun K hK => ?_) ?_
          · skip
            go_simp
            refine (rnarrow_any gT t (.slice bp bn bc) c Z0 (CZ0.out.row HT.out (fun e => e)) HTK.out HCO.out ((CRow.at CB2.out).below (CZ0.out.below _ (Nat.le_refl _) (fun _ _ e => e)))).mono ?_
            rintro e Z1 ⟨⟨nv, rfl, hcr⟩, hb2⟩
            rw [← EU.out] at hcr ⊢
            rw [← EER.out]
            obtain ⟨vo, vc, rfl⟩ := hcr.form
            obtain ⟨vn, hun⟩ : ∃ vn, vn = u.cs.length := ⟨_, rfl⟩
            rw [← hun] at hcr ⊢
            have CRu : Hid (CRow 0 Z1 (.slice vo vn vc) u.cs) := hcr.mono (Nat.zero_le _)
            clear hcr hun
            have CZ1 : Hid (Chg (fun _ => False) wd Z1) := CZ0.out.then hb2
            clear hb2 CZ0
            clear hHeld
            refine hK.out _ _ CZ1.out (fun hHeld => ?_)
            clear hK K
            try simp only [Act.put, List.setIfInBounds_toArray, List.set_cons_zero, List.set_cons_succ]
            refine wpAnyH_take (i := 7) (oi := { dst := some 54, op := Op.move (Operand.tmp 61), type := 53, pos := "law.go:66", after := #[{ on := 6, ground := Ground.data }], guard := none }) (v := ?_) rfl (by kernel_rfl) (by kernel_rfl) (by kernel_rfl) (fun _ _ _ h => h) (Or.inl ⟨by rfl, ?_⟩) (by assumption) ?_
            rotate_left
            · intro w hSw
              clear hSw
              go_simp
              all_goals with_reducible rfl
            simp only [Act.put, List.setIfInBounds_toArray, List.set_cons_zero, List.set_cons_succ]
            refine wpAnyH_take (i := 8) (oi := { dst := some 62, op := Op.extract (Operand.tmp 54) 0, type := 27, pos := "law.go:66", after := #[{ on := 7, ground := Ground.data }], guard := none }) (v := ?_) rfl (by kernel_rfl) (by kernel_rfl) (by kernel_rfl) (fun _ _ _ h => h) (Or.inl ⟨by rfl, ?_⟩) (by assumption) ?_
            rotate_left
            · intro w hSw
              clear hSw
              go_simp
              all_goals with_reducible rfl
            simp only [Act.put, List.setIfInBounds_toArray, List.set_cons_zero, List.set_cons_succ]
            refine wpAnyH_take (i := 9) (oi := { dst := some 63, op := Op.extract (Operand.tmp 54) 1, type := 3, pos := "law.go:66", after := #[{ on := 7, ground := Ground.data }, { on := 11, ground := Ground.gcOnly Departure.lateStores }], guard := none }) (v := ?_) rfl (by kernel_rfl) (by kernel_rfl) (by kernel_rfl) (fun _ _ _ h => h) (Or.inl ⟨by rfl, ?_⟩) (by assumption) ?_
            rotate_left
            · intro w hSw
              clear hSw
              go_simp
              all_goals with_reducible rfl
            simp only [Act.put, List.setIfInBounds_toArray, List.set_cons_zero, List.set_cons_succ]
            refine wpAnyH_ready (rs := [10]) (by kernel_rfl) (by simp) ?_
            refine step_alloc_as (o := { dst := some 23, op := Op.alloc 27, type := 0, pos := "law.go:66", after := #[], guard := none }) rfl rfl 27 rfl _ _ (alloc27 Z1) AllReadyH.nil ⟨CZ1.out.alloc _, fun hHeld => ?_⟩
            clear hHeld
            simp only [Act.put, List.setIfInBounds_toArray, List.set_cons_zero, List.set_cons_succ]
            obtain ⟨gd, hgd⟩ : ∃ gg, gg = Z1.heap.size := ⟨_, rfl⟩
            rw [← hgd]
            generalize hZ : Z1.alloc _ = Z2
            have hb2 : Below Z1.heap.size Z1 Z2 := by rw [← hZ]; exact (Below.refl _ _).alloc (Nat.le_refl _) _
            have Rgd : Hid (Z2.heap[gd]? = some (.cells tk0 27 (0, 0))) := by rw [← hZ, hgd]; exact heap_alloc_new _ _
            have Ggd := hide (show wd.heap.size ≤ gd by rw [hgd]; exact CZ1.out.size)
            clear hZ hgd
            replace CRu : Hid (CRow 0 Z2 (.slice vo vn vc) u.cs) := CRu.out.below hb2
            have CZ2 : Hid (Chg (fun _ => False) wd Z2) := CZ1.out.then hb2
            clear hb2 CZ1
            have hHeld := CZ2.out
            refine wpAnyH_ready (rs := [11]) (by kernel_rfl) (by simp) ?_
            obtain ⟨Z3, hst, r6, C6, s6⟩ := store_t (id := u.id) (ao := vo) (n := vn) (m := vc) (tag := u.tag) Rgd.out tk0_size HU.out.tl
            refine step_store_as (o := { dst := none, op := Op.store 27 (Operand.tmp 23) (Operand.tmp 62), type := 0, pos := "law.go:66", after := #[{ on := 10, ground := Ground.data }, { on := 8, ground := Ground.data }, { on := 6, ground := Ground.chain }, { on := 0, ground := Ground.phase }, { on := 1, ground := Ground.phase }, { on := 2, ground := Ground.phase }, { on := 3, ground := Ground.phase }, { on := 4, ground := Ground.phase }, { on := 5, ground := Ground.phase }, { on := 6, ground := Ground.phase }, { on := 7, ground := Ground.phase }, { on := 8, ground := Ground.phase }, { on := 9, ground := Ground.textOnly Departure.lateStores }, { on := 10, ground := Ground.phase }], guard := none }) rfl rfl 27 (.tmp 23) (.tmp 62) rfl _ _ rfl rfl Z3 hst AllReadyH.nil ⟨CZ2.out.trans C6 (fun k hk e => by have := Ggd.out; omega), fun hHeld => ?_⟩
            have CZ3 : Hid (Chg (fun _ => False) wd Z3) := CZ2.out.trans C6 (fun k hk e => by have := Ggd.out; omega)
            replace CRu : Hid (CRow 0 Z3 (.slice vo vn vc) u.cs) := CRu.out.chg C6 (fun j e e2 => CRu.out.apart Rgd.out (by decide) (e2 ▸ e))
            replace Rgd : Hid (Z3.heap[gd]? = some (.cells (encT u.id (.slice vo vn vc) u.tag).toArray 27 (0, 0))) := r6
            clear hst r6 C6 s6 CZ2
            simp only [Act.put]
            refine wpAnyH_take (i := 12) (oi := { dst := some 24, op := Op.assign (Operand.tmp 63), type := 3, pos := "law.go:66", after := #[{ on := 9, ground := Ground.data }, { on := 11, ground := Ground.chain }, { on := 0, ground := Ground.phase }, { on := 1, ground := Ground.phase }, { on := 2, ground := Ground.phase }, { on := 3, ground := Ground.phase }, { on := 4, ground := Ground.phase }, { on := 5, ground := Ground.phase }, { on := 6, ground := Ground.phase }, { on := 7, ground := Ground.phase }, { on := 8, ground := Ground.phase }, { on := 9, ground := Ground.phase }, { on := 10, ground := Ground.phase }, { on := 11, ground := Ground.phase }], guard := none }) (v := ?_) rfl (by kernel_rfl) (by kernel_rfl) (by kernel_rfl) (fun _ _ _ h => h) (Or.inl ⟨by rfl, ?_⟩) (by assumption) ?_
            rotate_left
            · intro w hSw
              clear hSw
              go_simp
              all_goals with_reducible rfl
            simp only [Act.put, List.setIfInBounds_toArray, List.set_cons_zero, List.set_cons_succ]
            refine wpAnyH_done (by kernel_rfl) ?_ _
            refine NoPanic.normal ?_
            clear hHeld
            try go_wp2_with fail
            go_meet
            exact ⟨gd, vo, vn, vc, rfl, rfl, Ggd.out, Rgd, CRu, CZ3⟩
          refine step_alloc_as (o := { dst := some 23, op := Op.alloc 27, type := 0, pos := "law.go:66", after := #[], guard := none }) rfl rfl 27 rfl _ _ (alloc27 Z0) AllReadyH.nil ⟨CZ0.out.alloc _, fun hHeld => ?_⟩
          clear hHeld
          simp only [Act.put, List.setIfInBounds_toArray, List.set_cons_zero, List.set_cons_succ]
          obtain ⟨gd, hgd⟩ : ∃ gg, gg = Z0.heap.size := ⟨_, rfl⟩
          rw [← hgd]
          generalize hZ : Z0.alloc _ = Z1
          have hb2 : Below Z0.heap.size Z0 Z1 := by rw [← hZ]; exact (Below.refl _ _).alloc (Nat.le_refl _) _
          have Rgd : Hid (Z1.heap[gd]? = some (.cells tk0 27 (0, 0))) := by rw [← hZ, hgd]; exact heap_alloc_new _ _
          have Ggd := hide (show wd.heap.size ≤ gd by rw [hgd]; exact CZ0.out.size)
          clear hZ hgd
          have CZ1 : Hid (Chg (fun _ => False) wd Z1) := CZ0.out.then hb2
          clear hb2 CZ0
          have hHeld := CZ1.out
          refine wpAnyH_ready (rs := [6]) (by kernel_rfl) (by simp) ?_
          refine AllReadyH.cons (o := { dst := some 61, op := Op.call { callee := Callee.value (Operand.func 22), args := #[Operand.tmp 55, Operand.tmp 56, Operand.tmp 60], argTypes := #[50, 27, 42] }, type := 53, pos := "law.go:66", after := #[{ on := 0, ground := Ground.data }, { on := 1, ground := Ground.data }, { on := 5, ground := Ground.data }], guard := none }) rfl (fun K hK => ?_) AllReadyH.nil
          go_simp
          refine (rnarrow_any gT t (.slice bp bn bc) c Z1 (CZ1.out.row HT.out (fun e => e)) HTK.out HCO.out ((CRow.at CB2.out).below (CZ1.out.below _ (Nat.le_refl _) (fun _ _ e => e)))).mono ?_
          rintro e Z2 ⟨⟨nv, rfl, hcr⟩, hb2⟩
          rw [← EU.out] at hcr ⊢
          rw [← EER.out]
          obtain ⟨vo, vc, rfl⟩ := hcr.form
          obtain ⟨vn, hun⟩ : ∃ vn, vn = u.cs.length := ⟨_, rfl⟩
          rw [← hun] at hcr ⊢
          have CRu : Hid (CRow 0 Z2 (.slice vo vn vc) u.cs) := hcr.mono (Nat.zero_le _)
          clear hcr hun
          replace Rgd : Hid (Z2.heap[gd]? = some (.cells tk0 27 (0, 0))) := (hb2.block _ (block_lt_of_row Rgd.out)).trans Rgd.out
          have CZ2 : Hid (Chg (fun _ => False) wd Z2) := CZ1.out.then hb2
          clear hb2 CZ1
          clear hHeld
          refine hK.out _ _ CZ2.out (fun hHeld => ?_)
          clear hK K
          try simp only [Act.put, List.setIfInBounds_toArray, List.set_cons_zero, List.set_cons_succ]
          refine wpAnyH_take (i := 7) (oi := { dst := some 54, op := Op.move (Operand.tmp 61), type := 53, pos := "law.go:66", after := #[{ on := 6, ground := Ground.data }], guard := none }) (v := ?_) rfl (by kernel_rfl) (by kernel_rfl) (by kernel_rfl) (fun _ _ _ h => h) (Or.inl ⟨by rfl, ?_⟩) (by assumption) ?_
          rotate_left
          · intro w hSw
            clear hSw
            go_simp
            all_goals with_reducible rfl
          simp only [Act.put, List.setIfInBounds_toArray, List.set_cons_zero, List.set_cons_succ]
          refine wpAnyH_take (i := 8) (oi := { dst := some 62, op := Op.extract (Operand.tmp 54) 0, type := 27, pos := "law.go:66", after := #[{ on := 7, ground := Ground.data }], guard := none }) (v := ?_) rfl (by kernel_rfl) (by kernel_rfl) (by kernel_rfl) (fun _ _ _ h => h) (Or.inl ⟨by rfl, ?_⟩) (by assumption) ?_
          rotate_left
          · intro w hSw
            clear hSw
            go_simp
            all_goals with_reducible rfl
          simp only [Act.put, List.setIfInBounds_toArray, List.set_cons_zero, List.set_cons_succ]
          refine wpAnyH_take (i := 9) (oi := { dst := some 63, op := Op.extract (Operand.tmp 54) 1, type := 3, pos := "law.go:66", after := #[{ on := 7, ground := Ground.data }, { on := 11, ground := Ground.gcOnly Departure.lateStores }], guard := none }) (v := ?_) rfl (by kernel_rfl) (by kernel_rfl) (by kernel_rfl) (fun _ _ _ h => h) (Or.inl ⟨by rfl, ?_⟩) (by assumption) ?_
          rotate_left
          · intro w hSw
            clear hSw
            go_simp
            all_goals with_reducible rfl
          simp only [Act.put, List.setIfInBounds_toArray, List.set_cons_zero, List.set_cons_succ]
          refine wpAnyH_ready (rs := [11]) (by kernel_rfl) (by simp) ?_
          obtain ⟨Z3, hst, r6, C6, s6⟩ := store_t (id := u.id) (ao := vo) (n := vn) (m := vc) (tag := u.tag) Rgd.out tk0_size HU.out.tl
          refine step_store_as (o := { dst := none, op := Op.store 27 (Operand.tmp 23) (Operand.tmp 62), type := 0, pos := "law.go:66", after := #[{ on := 10, ground := Ground.data }, { on := 8, ground := Ground.data }, { on := 6, ground := Ground.chain }, { on := 0, ground := Ground.phase }, { on := 1, ground := Ground.phase }, { on := 2, ground := Ground.phase }, { on := 3, ground := Ground.phase }, { on := 4, ground := Ground.phase }, { on := 5, ground := Ground.phase }, { on := 6, ground := Ground.phase }, { on := 7, ground := Ground.phase }, { on := 8, ground := Ground.phase }, { on := 9, ground := Ground.textOnly Departure.lateStores }, { on := 10, ground := Ground.phase }], guard := none }) rfl rfl 27 (.tmp 23) (.tmp 62) rfl _ _ rfl rfl Z3 hst AllReadyH.nil ⟨CZ2.out.trans C6 (fun k hk e => by have := Ggd.out; omega), fun hHeld => ?_⟩
          have CZ3 : Hid (Chg (fun _ => False) wd Z3) := CZ2.out.trans C6 (fun k hk e => by have := Ggd.out; omega)
          replace CRu : Hid (CRow 0 Z3 (.slice vo vn vc) u.cs) := CRu.out.chg C6 (fun j e e2 => CRu.out.apart Rgd.out (by decide) (e2 ▸ e))
          replace Rgd : Hid (Z3.heap[gd]? = some (.cells (encT u.id (.slice vo vn vc) u.tag).toArray 27 (0, 0))) := r6
          clear hst r6 C6 s6 CZ2
          simp only [Act.put]
          refine wpAnyH_take (i := 12) (oi := { dst := some 24, op := Op.assign (Operand.tmp 63), type := 3, pos := "law.go:66", after := #[{ on := 9, ground := Ground.data }, { on := 11, ground := Ground.chain }, { on := 0, ground := Ground.phase }, { on := 1, ground := Ground.phase }, { on := 2, ground := Ground.phase }, { on := 3, ground := Ground.phase }, { on := 4, ground := Ground.phase }, { on := 5, ground := Ground.phase }, { on := 6, ground := Ground.phase }, { on := 7, ground := Ground.phase }, { on := 8, ground := Ground.phase }, { on := 9, ground := Ground.phase }, { on := 10, ground := Ground.phase }, { on := 11, ground := Ground.phase }], guard := none }) (v := ?_) rfl (by kernel_rfl) (by kernel_rfl) (by kernel_rfl) (fun _ _ _ h => h) (Or.inl ⟨by rfl, ?_⟩) (by assumption) ?_
          rotate_left
          · intro w hSw
            clear hSw
            go_simp
            all_goals with_reducible rfl
          simp only [Act.put, List.setIfInBounds_toArray, List.set_cons_zero, List.set_cons_succ]
          refine wpAnyH_done (by kernel_rfl) ?_ _
          refine NoPanic.normal ?_
          clear hHeld
          try go_wp2_with fail
          go_meet
          exact ⟨gd, vo, vn, vc, rfl, rfl, Ggd.out, Rgd, CRu, CZ3⟩
        case rest =>
          obtain ⟨gd, vo, vn, vc, rfl, rfl, hgd, RD, CV, CW⟩ := hcut
          have BW3 := hide (BW2.out.trans (CW.out.below w.heap.size BW2.out.size (fun k hk e => e.elim)))
          have RA3 := hide (CW.out.row RA2.out (fun e => e))
          have RB3 := hide (CW.out.row RB2.out (fun e => e))
          have RC3 := hide (CW.out.row RC.out (fun e => e))
          have CU3 := hide (CU.out.chg CW.out (fun _ _ e => e))
          have CA3 := hide (CA2.out.chg CW.out (fun _ _ e => e))
          have CB3 := hide (CB2.out.chg CW.out (fun _ _ e => e))
          have HT3 := hide (CW.out.row HT.out (fun e => e))
          have Q03 := hide (CW.out.row Q02.out (fun e => e))
          have Q13 := hide (CW.out.row Q12.out (fun e => e))
          have GD := hide (show gc < gd by have := block_lt_of_row RC.out; omega)
          clear hgd CW BW2 RA2 RB2 RC CU CA2 CB2 HT Q02 Q12 HRA2 HGL2
          have RD3 := RD
          have CV3 := CV
          clear RD CV
          have bq : (er != er) = false := by simp
          have bq2 : (er == er) = true := by simp
          have ld1 := load_t RC3.out HU.out.tl
          have ld2 := load_t RD3.out HU.out.tl
          go_wp2_with (first | (with_reducible refine at_op { dst := some 68, op := Op.load 27 (Operand.tmp 21), type := 27, pos := "law.go:67", after := #[{ on := 3, ground := Ground.guard }], guard := some (3, false) } ?_; refine wpList_load_when rfl 27 (.tmp 21) rfl (.pointer (some ⟨gc, 0, none⟩)) rfl (.agg (encT u.id (.slice uo un uc) u.tag).toArray) ld1 ?_) | (with_reducible refine at_op { dst := some 69, op := Op.load 27 (Operand.tmp 23), type := 27, pos := "law.go:67", after := #[{ on := 3, ground := Ground.guard }], guard := some (3, false) } ?_; refine wpList_load_when rfl 27 (.tmp 23) rfl (.pointer (some ⟨gd, 0, none⟩)) rfl (.agg (encT u.id (.slice vo vn vc) u.tag).toArray) ld2 ?_))
          refine (sameTok_any u (.slice uo un uc) (.slice vo vn vc) wc HU.out (CRow.at CU3.out) (CRow.at CV3.out)).mono ?_
          rintro e w6 ⟨rfl, hb6⟩
          have BW4 := hide (BW3.out.trans (hb6.mono BW3.out.size))
          have RA4 := hide ((hb6.block _ (block_lt_of_row RA3.out)).trans RA3.out)
          have RB4 := hide ((hb6.block _ (block_lt_of_row RB3.out)).trans RB3.out)
          have RC4 := hide ((hb6.block _ (block_lt_of_row RC3.out)).trans RC3.out)
          have RD4 := hide ((hb6.block _ (block_lt_of_row RD3.out)).trans RD3.out)
          have HT4 := hide ((hb6.block _ (block_lt_of_row HT3.out)).trans HT3.out)
          have Q04 := hide ((hb6.block _ (block_lt_of_row Q03.out)).trans Q03.out)
          have Q14 := hide ((hb6.block _ (block_lt_of_row Q13.out)).trans Q13.out)
          have CU4 := hide (CU3.out.below hb6)
          have CV4 := hide (CV3.out.below hb6)
          have CA4 := hide (CA3.out.below hb6)
          have CB4 := hide (CB3.out.below hb6)
          clear hb6 ld1 ld2 bq bq2 BW3 RA3 RB3 RC3 RD3 HT3 Q03 Q13 CU3 CV3 CA3 CB3
          have h3 := H3.out
          have LG := hide (show gb ≠ ga ∧ ga ≠ gT ∧ gb ≠ gT ∧ ga ≠ w.heap.size ∧ ga ≠ w.heap.size + 1 ∧ gb ≠ w.heap.size ∧ gb ≠ w.heap.size + 1 ∧ gc ≠ ga ∧ gd ≠ ga ∧ gc ≠ gb ∧ gd ≠ gb ∧ w.heap.size ≤ ga ∧ w.heap.size ≤ gb by have := GT.out; have := GA.out; have := GB.out; have := GC.out; have := GD.out; omega)
          clear H3
          rcases h3 with rfl | rfl | rfl
          · have hmd := S.made_narrow HM.out EER.out.symm
            rw [← EU.out] at hmd
            have HM2 := hide hmd
            have HID2 := hide (show u.id = id by rw [EU.out, S.narrow_id EER.out.symm]; exact HIDT.out)
            obtain ⟨w7, hs7, hr7, k7, -⟩ := store_t (id := u.id) (ao := uo) (n := un) (m := uc) (tag := u.tag) RA4.out (by rw [List.size_toArray, encT_length _ _ _ HTK.out.tl]) HU.out.tl
            have ld1 := load_t RC4.out HU.out.tl
            have RA5 := hide hr7
            have RB5 := hide (k7.row RB4.out (by have := LG.out; omega))
            have RD5 := hide (k7.row RD4.out (by have := LG.out; omega))
            have HT5 := hide (k7.row HT4.out (by have := LG.out; omega))
            have Q05 := hide (k7.row Q04.out (by have := LG.out; omega))
            have Q15 := hide (k7.row Q14.out (by have := LG.out; omega))
            have CU5 := hide (CU4.out.chg k7 (fun j e e2 => CU4.out.apart RA4.out (by decide) (e2 ▸ e)))
            have CV5 := hide (CV4.out.chg k7 (fun j e e2 => CV4.out.apart RA4.out (by decide) (e2 ▸ e)))
            have BW5 := hide (BW4.out.trans (k7.below w.heap.size BW4.out.size (fun k hk e => by have := LG.out; omega)))
            obtain ⟨w8, hs8, hr8, k8, -⟩ := store_t (id := u.id) (ao := vo) (n := vn) (m := vc) (tag := u.tag) RB5.out (by rw [List.size_toArray, encT_length _ _ _ HTK.out.tl]) HU.out.tl
            have ld2 := load_t RD5.out HU.out.tl
            have RB6 := hide hr8
            have RA6 := hide (k8.row RA5.out (by have := LG.out; omega))
            have HT6 := hide (k8.row HT5.out (by have := LG.out; omega))
            have Q06 := hide (k8.row Q05.out (by have := LG.out; omega))
            have Q16 := hide (k8.row Q15.out (by have := LG.out; omega))
            have CU6 := hide (CU5.out.chg k8 (fun j e e2 => CU5.out.apart RB5.out (by decide) (e2 ▸ e)))
            have CV6 := hide (CV5.out.chg k8 (fun j e e2 => CV5.out.apart RB5.out (by decide) (e2 ▸ e)))
            have BW6 := hide (BW5.out.trans (k8.below w.heap.size BW5.out.size (fun k hk e => by have := LG.out; omega)))
            clear hr7 k7 hr8 k8 hmd RA4 RB4 RC4 RD4 HT4 Q04 Q14 CU4 CV4 CA4 CB4 BW4 RA5 RB5 RD5 HT5 Q05 Q15 CU5 CV5 BW5
            go_wp2_with (first | (with_reducible refine at_op { dst := some 75, op := Op.load 27 (Operand.tmp 21), type := 27, pos := "law.go:71", after := #[], guard := none } ?_; refine wpList_load_as rfl 27 (.tmp 21) rfl (.pointer (some ⟨gc, 0, none⟩)) rfl (.agg (encT u.id (.slice uo un uc) u.tag).toArray) ld1 ?_) | (with_reducible refine at_op { dst := none, op := Op.store 27 (Operand.tmp 18) (Operand.tmp 75), type := 0, pos := "law.go:71", after := #[{ on := 0, ground := Ground.data }, { on := 0, ground := Ground.phase }], guard := none } ?_; refine wpList_store_as rfl 27 (.tmp 18) (.tmp 75) rfl (.pointer (some ⟨ga, 0, none⟩)) (.agg (encT u.id (.slice uo un uc) u.tag).toArray) rfl rfl w7 hs7 ?_) | (with_reducible refine at_op { dst := some 76, op := Op.load 27 (Operand.tmp 23), type := 27, pos := "law.go:72", after := #[], guard := none } ?_; refine wpList_load_as rfl 27 (.tmp 23) rfl (.pointer (some ⟨gd, 0, none⟩)) rfl (.agg (encT u.id (.slice vo vn vc) u.tag).toArray) ld2 ?_) | (with_reducible refine at_op { dst := none, op := Op.store 27 (Operand.tmp 19) (Operand.tmp 76), type := 0, pos := "law.go:72", after := #[{ on := 0, ground := Ground.data }, { on := 0, ground := Ground.phase }], guard := none } ?_; refine wpList_store_as rfl 27 (.tmp 19) (.tmp 76) rfl (.pointer (some ⟨gb, 0, none⟩)) (.agg (encT u.id (.slice vo vn vc) u.tag).toArray) rfl rfl w8 hs8 ?_))
            go_roundw
            case rel => exact ⟨i + 1, u, uo, un, uc, vo, vn, vc, by omega, by first | rfl | simp, HM2, HID2, HU, RA6, CU6, RB6, CV6, HT6, Q06, Q16, BW6⟩
            case measure => simp [intOf]; omega
          · go_wp2_with fail
            go_roundw
            case rel => exact ⟨i + 1, t, tp, tn, tc, bp, bn, bc, by omega, by first | rfl | simp, HM, HIDT, HTK, RA4, CA4, RB4, CB4, HT4, Q04, Q14, BW4⟩
            case measure => simp [intOf]; omega
          · go_wp2_with fail
            go_roundw
            case rel => exact ⟨i + 1, t, tp, tn, tc, bp, bn, bc, by omega, by first | rfl | simp, HM, HIDT, HTK, RA4, CA4, RB4, CB4, HT4, Q04, Q14, BW4⟩
            case measure => simp [intOf]; omega
    · go_upto_region 5 with fail
      go_cut [42] from 35 to 41 (fun s42 wc => wr = wc ∧ s42 = .bool false)
      case first =>
        by_cases hA : i < ln
        · have q1 : (i : Int) < (ln : Int) := by omega
          have q2 : ¬ (i : Int) < 7 := by omega
          clear hgo hA
          go_wp2_with fail
          go_meet
          exact ⟨rfl, rfl⟩
        · have q1 : ¬ (i : Int) < (ln : Int) := by omega
          clear hgo hA
          go_wp2_with fail
          go_meet
          exact ⟨rfl, rfl⟩
      case rest =>
      obtain ⟨rfl, rfl⟩ := hcut
      clear hgo hi7
      have GEN := hide (show S.genuine key t = true from HM.out.genuine)
      have HMLN := hide (show mn ≤ 4611686018427387904 by rw [HMN.out]; exact HML.out)
      go_wp2_with fail
      go_loopg [25, 26] mn (fun gk s25 s26 wr2 => ∃ j : Nat, j + gk = mn ∧ s26 = .int .i64 (j : Int) ∧ s25 = .bool ((M.take j).contains id) ∧ wr = wr2)
      case atStart => exact ⟨0, by omega, rfl, by simp, rfl⟩
      case round =>
        obtain ⟨j, hj, rfl, rfl, rfl⟩ := hrel
        obtain ⟨b, hb⟩ : ∃ b, b = (M.take j).contains id := ⟨_, rfl⟩
        have HBB := hide hb
        rw [← hb]
        clear hb
        cases gk with
        | zero =>
          obtain rfl : j = mn := by omega
          have qq : ¬ (j : Int) < (j : Int) := by omega
          have HIS := hide (show b = M.contains id by rw [HBB.out, List.take_of_length_le (by rw [← HMN.out]; exact Nat.le_refl _)])
          obtain ⟨is, his⟩ : ∃ is, is = b := ⟨_, rfl⟩
          rw [← his] at HIS ⊢
          clear hj HBB his b
          have FOR := hide (show (S.genuine key t && !(M.contains t.id)) = !is by rw [GEN.out, HIDT.out, ← HIS.out]; rfl)
          obtain ⟨gx, hgx⟩ : ∃ gx, gx = S.genuine key x := ⟨_, rfl⟩
          have EGX := hide hgx
          obtain ⟨hT, hhT⟩ : ∃ hT, hT = S.holds t.cs op tree clock := ⟨_, rfl⟩
          have EHT := hide hhT
          obtain ⟨hX, hhX⟩ : ∃ hX, hX = S.holds x.cs op tree clock := ⟨_, rfl⟩
          have EHX := hide hhX
          clear hgx hhT hhX
          go_upto_region 19 with fail
          obtain ⟨w5, hw5⟩ : ∃ w5, w5 = wr := ⟨_, rfl⟩
          rw [← hw5] at RA CA RB CB HT Q0 Q1 BW ⊢
          clear hw5
          refine wp_region_noPanic ?_
          refine wp_region_held_drew (S := (fun W => Chg (fun _ => False) w5 W)) follows ((Chg.refl _ _).drew) (fun hHeld => ?_)
          clear hHeld
          have hHeld : Chg (fun _ => False) w5 w5.drew := (Chg.refl _ _).drew
          have CZ0 := hide hHeld
          generalize w5.drew = Z0 at CZ0 hHeld ⊢
          refine wpAnyH_take (i := 0) (oi := { dst := some 92, op := Op.load 27 (Operand.tmp 18), type := 27, pos := "law.go:79", after := #[], guard := none }) (v := .agg (encT t.id (.slice tp tn tc) t.tag).toArray) rfl (by kernel_rfl) (by kernel_rfl) (by kernel_rfl) (fun _ _ _ h => h) (yieldsIf_load_mid (by rfl) _ _ rfl ga 0 rfl (encT t.id (.slice tp tn tc) t.tag) _ (fun _ hSw => rangeAt_row (hSw.row RA.out (fun e => e))) Tryd.underlying27 rfl (by rw [size_t _ _ _ HTK.out.tl, List.size_toArray])) (by assumption) ?_
          simp only [Act.put, List.setIfInBounds_toArray, List.set_cons_zero, List.set_cons_succ]
          refine wpAnyH_take (i := 1) (oi := { dst := some 93, op := Op.load 27 (Operand.tmp 19), type := 27, pos := "law.go:79", after := #[], guard := none }) (v := .agg (encT t.id (.slice bp bn bc) t.tag).toArray) rfl (by kernel_rfl) (by kernel_rfl) (by kernel_rfl) (fun _ _ _ h => h) (yieldsIf_load_mid (by rfl) _ _ rfl gb 0 rfl (encT t.id (.slice bp bn bc) t.tag) _ (fun _ hSw => rangeAt_row (hSw.row RB.out (fun e => e))) Tryd.underlying27 rfl (by rw [size_t _ _ _ HTK.out.tl, List.size_toArray])) (by assumption) ?_
          simp only [Act.put, List.setIfInBounds_toArray, List.set_cons_zero, List.set_cons_succ]
          refine wpAnyH_ready (rs := [2]) (by kernel_rfl) (by simp) ?_
          refine AllReadyH.cons (o := { dst := some 94, op := Op.call { callee := Callee.value (Operand.func 13), args := #[Operand.tmp 92, Operand.tmp 93], argTypes := #[27, 27] }, type := 4, pos := "law.go:79", after := #[{ on := 0, ground := Ground.data }, { on := 1, ground := Ground.data }], guard := none }) rfl (fun K hK => ?_) AllReadyH.nil
          go_simp
          refine (sameTok_any t (.slice tp tn tc) (.slice bp bn bc) Z0 HTK.out ((CRow.at CA.out).below (CZ0.out.below _ (Nat.le_refl _) (fun _ _ e => e))) ((CRow.at CB.out).below (CZ0.out.below _ (Nat.le_refl _) (fun _ _ e => e)))).mono ?_
          rintro e Z1 ⟨rfl, hb2⟩
          have CZ1 : Hid (Chg (fun _ => False) w5 Z1) := CZ0.out.then hb2
          clear hb2 CZ0
          clear hHeld
          refine hK.out _ _ CZ1.out (fun hHeld => ?_)
          clear hK K
          try simp only [Act.put, List.setIfInBounds_toArray, List.set_cons_zero, List.set_cons_succ]
          refine wpAnyH_take (i := 3) (oi := { dst := some 95, op := Op.move (Operand.tmp 94), type := 4, pos := "law.go:79", after := #[{ on := 2, ground := Ground.data }, { on := 2, ground := Ground.chain }], guard := none }) (v := ?_) rfl (by kernel_rfl) (by kernel_rfl) (by kernel_rfl) (fun _ _ _ h => h) (Or.inl ⟨by rfl, ?_⟩) (by assumption) ?_
          rotate_left
          · intro w hSw
            clear hSw
            go_simp
            all_goals with_reducible rfl
          simp only [Act.put, List.setIfInBounds_toArray, List.set_cons_zero, List.set_cons_succ]
          refine wpAnyH_take (i := 4) (oi := { dst := some 96, op := Op.load 25 (Operand.tmp 8), type := 25, pos := "law.go:79", after := #[{ on := 3, ground := Ground.guard }], guard := some (3, true) }) (v := .agg (S.v8l key).toArray) rfl (by kernel_rfl) (by kernel_rfl) (by kernel_rfl) (fun _ _ _ h => h) (yieldsIf_load_mid (by rfl) _ _ rfl w.heap.size 0 rfl (S.v8l key) _ (fun _ hSw => rangeAt_row (hSw.row Q0.out (fun e => e))) Tryd.underlying25 rfl (by rw [size_dig _ HKEY.out, S.v8_size, S.v8l_length])) (by assumption) ?_
          simp only [Act.put, List.setIfInBounds_toArray, List.set_cons_zero, List.set_cons_succ]
          refine wpAnyH_take (i := 5) (oi := { dst := some 97, op := Op.load 27 (Operand.tmp 18), type := 27, pos := "law.go:79", after := #[{ on := 3, ground := Ground.guard }], guard := some (3, true) }) (v := .agg (encT t.id (.slice tp tn tc) t.tag).toArray) rfl (by kernel_rfl) (by kernel_rfl) (by kernel_rfl) (fun _ _ _ h => h) (yieldsIf_load_mid (by rfl) _ _ rfl ga 0 rfl (encT t.id (.slice tp tn tc) t.tag) _ (fun _ hSw => rangeAt_row (hSw.row RA.out (fun e => e))) Tryd.underlying27 rfl (by rw [size_t _ _ _ HTK.out.tl, List.size_toArray])) (by assumption) ?_
          simp only [Act.put, List.setIfInBounds_toArray, List.set_cons_zero, List.set_cons_succ]
          refine wpAnyH_ready (rs := [6]) (by kernel_rfl) (by simp) ?_
          refine AllReadyH.cons (o := { dst := some 98, op := Op.call { callee := Callee.value (Operand.func 16), args := #[Operand.tmp 96, Operand.tmp 97], argTypes := #[25, 27] }, type := 4, pos := "law.go:79", after := #[{ on := 4, ground := Ground.data }, { on := 5, ground := Ground.data }, { on := 3, ground := Ground.chain }, { on := 3, ground := Ground.guard }], guard := some (3, true) }) rfl (fun K hK => ?_) AllReadyH.nil
          go_simp
          refine (genuine_any key t (.slice tp tn tc) Z1 HKEY.out HTK.out ((CRow.at CA.out).below (CZ1.out.below _ (Nat.le_refl _) (fun _ _ e => e))) (HK.out.below (BW.out.trans (CZ1.out.below w.heap.size BW.out.size (fun k hk e => by omega))) h0)).mono ?_
          rintro e Z2 ⟨rfl, hb2⟩
          rw [GEN.out]
          have CZ2 : Hid (Chg (fun _ => False) w5 Z2) := CZ1.out.then hb2
          clear hb2 CZ1
          clear hHeld
          refine hK.out _ _ CZ2.out (fun hHeld => ?_)
          clear hK K
          try simp only [Act.put, List.setIfInBounds_toArray, List.set_cons_zero, List.set_cons_succ]
          refine wpAnyH_take (i := 7) (oi := { dst := some 99, op := Op.pick (Operand.tmp 95) (Operand.tmp 98) (Operand.const (Value.bool false)), type := 4, pos := "law.go:79", after := #[{ on := 3, ground := Ground.data }, { on := 6, ground := Ground.data }], guard := none }) (v := ?_) rfl (by kernel_rfl) (by kernel_rfl) (by kernel_rfl) (fun _ _ _ h => h) (Or.inl ⟨by rfl, ?_⟩) (by assumption) ?_
          rotate_left
          · intro w hSw
            clear hSw
            go_simp
            all_goals with_reducible rfl
          simp only [Act.put, List.setIfInBounds_toArray, List.set_cons_zero, List.set_cons_succ]
          refine wpAnyH_take (i := 8) (oi := { dst := some 100, op := Op.move (Operand.tmp 99), type := 4, pos := "law.go:79", after := #[{ on := 7, ground := Ground.data }, { on := 6, ground := Ground.chain }], guard := none }) (v := ?_) rfl (by kernel_rfl) (by kernel_rfl) (by kernel_rfl) (fun _ _ _ h => h) (Or.inl ⟨by rfl, ?_⟩) (by assumption) ?_
          rotate_left
          · intro w hSw
            clear hSw
            go_simp
            all_goals with_reducible rfl
          simp only [Act.put, List.setIfInBounds_toArray, List.set_cons_zero, List.set_cons_succ]
          refine wpAnyH_take (i := 9) (oi := { dst := some 101, op := Op.load 25 (Operand.tmp 8), type := 25, pos := "law.go:79", after := #[{ on := 8, ground := Ground.guard }], guard := some (8, true) }) (v := .agg (S.v8l key).toArray) rfl (by kernel_rfl) (by kernel_rfl) (by kernel_rfl) (fun _ _ _ h => h) (yieldsIf_load_mid (by rfl) _ _ rfl w.heap.size 0 rfl (S.v8l key) _ (fun _ hSw => rangeAt_row (hSw.row Q0.out (fun e => e))) Tryd.underlying25 rfl (by rw [size_dig _ HKEY.out, S.v8_size, S.v8l_length])) (by assumption) ?_
          simp only [Act.put, List.setIfInBounds_toArray, List.set_cons_zero, List.set_cons_succ]
          refine wpAnyH_take (i := 10) (oi := { dst := some 102, op := Op.load 27 (Operand.tmp 11), type := 27, pos := "law.go:79", after := #[{ on := 8, ground := Ground.guard }], guard := some (8, true) }) (v := .agg (encT x.id (.slice xo xn xc) x.tag).toArray) rfl (by kernel_rfl) (by kernel_rfl) (by kernel_rfl) (fun _ _ _ h => h) (yieldsIf_load_mid (by rfl) _ _ rfl (w.heap.size + 1) 0 rfl (encT x.id (.slice xo xn xc) x.tag) _ (fun _ hSw => rangeAt_row (hSw.row Q1.out (fun e => e))) Tryd.underlying27 rfl (by rw [size_t _ _ _ HX.out.tl, List.size_toArray])) (by assumption) ?_
          simp only [Act.put, List.setIfInBounds_toArray, List.set_cons_zero, List.set_cons_succ]
          refine wpAnyH_take (i := 12) (oi := { dst := some 104, op := Op.move (Operand.tmp 17), type := 50, pos := "law.go:79", after := #[{ on := 8, ground := Ground.guard }], guard := some (8, true) }) (v := ?_) rfl (by kernel_rfl) (by kernel_rfl) (by kernel_rfl) (fun _ _ _ h => h) (Or.inl ⟨by rfl, ?_⟩) (by assumption) ?_
          rotate_left
          · intro w hSw
            clear hSw
            go_simp
            all_goals with_reducible rfl
          simp only [Act.put, List.setIfInBounds_toArray, List.set_cons_zero, List.set_cons_succ]
          refine wpAnyH_take (i := 13) (oi := { dst := some 105, op := Op.load 25 (Operand.tmp 8), type := 25, pos := "law.go:79", after := #[{ on := 8, ground := Ground.guard }], guard := some (8, true) }) (v := .agg (S.v8l key).toArray) rfl (by kernel_rfl) (by kernel_rfl) (by kernel_rfl) (fun _ _ _ h => h) (yieldsIf_load_mid (by rfl) _ _ rfl w.heap.size 0 rfl (S.v8l key) _ (fun _ hSw => rangeAt_row (hSw.row Q0.out (fun e => e))) Tryd.underlying25 rfl (by rw [size_dig _ HKEY.out, S.v8_size, S.v8l_length])) (by assumption) ?_
          simp only [Act.put, List.setIfInBounds_toArray, List.set_cons_zero, List.set_cons_succ]
          refine wpAnyH_take (i := 14) (oi := { dst := some 106, op := Op.load 27 (Operand.tmp 11), type := 27, pos := "law.go:79", after := #[{ on := 8, ground := Ground.guard }], guard := some (8, true) }) (v := .agg (encT x.id (.slice xo xn xc) x.tag).toArray) rfl (by kernel_rfl) (by kernel_rfl) (by kernel_rfl) (fun _ _ _ h => h) (yieldsIf_load_mid (by rfl) _ _ rfl (w.heap.size + 1) 0 rfl (encT x.id (.slice xo xn xc) x.tag) _ (fun _ hSw => rangeAt_row (hSw.row Q1.out (fun e => e))) Tryd.underlying27 rfl (by rw [size_t _ _ _ HX.out.tl, List.size_toArray])) (by assumption) ?_
          simp only [Act.put, List.setIfInBounds_toArray, List.set_cons_zero, List.set_cons_succ]
          refine wpAnyH_ready (rs := [11]) (by kernel_rfl) (by simp) ?_
          refine AllReadyH.cons (o := { dst := some 103, op := Op.call { callee := Callee.value (Operand.func 16), args := #[Operand.tmp 101, Operand.tmp 102], argTypes := #[25, 27] }, type := 4, pos := "law.go:79", after := #[{ on := 9, ground := Ground.data }, { on := 10, ground := Ground.data }, { on := 8, ground := Ground.chain }, { on := 8, ground := Ground.guard }], guard := some (8, true) }) rfl (fun K hK => ?_) AllReadyH.nil
          go_simp
          refine (genuine_any key x (.slice xo xn xc) Z2 HKEY.out HX.out (HXV.out.below (BW.out.trans (CZ2.out.below w.heap.size BW.out.size (fun k hk e => by omega)))) (HK.out.below (BW.out.trans (CZ2.out.below w.heap.size BW.out.size (fun k hk e => by omega))) h0)).mono ?_
          rintro e Z3 ⟨rfl, hb2⟩
          rw [← EGX.out]
          have CZ3 : Hid (Chg (fun _ => False) w5 Z3) := CZ2.out.then hb2
          clear hb2 CZ2
          clear hHeld
          refine hK.out _ _ CZ3.out (fun hHeld => ?_)
          clear hK K
          try simp only [Act.put, List.setIfInBounds_toArray, List.set_cons_zero, List.set_cons_succ]
          refine wpAnyH_ready (rs := [15]) (by kernel_rfl) (by simp) ?_
          refine AllReadyH.cons (o := { dst := some 107, op := Op.call { callee := Callee.value (Operand.func 23), args := #[Operand.tmp 104, Operand.tmp 105, Operand.tmp 106], argTypes := #[50, 25, 27] }, type := 4, pos := "law.go:79", after := #[{ on := 12, ground := Ground.data }, { on := 13, ground := Ground.data }, { on := 14, ground := Ground.data }, { on := 11, ground := Ground.chain }, { on := 8, ground := Ground.guard }], guard := some (8, true) }) rfl (fun K hK => ?_) AllReadyH.nil
          go_simp
          refine (rgenuine_any gT key x (.slice xo xn xc) Z3 (CZ3.out.row HT.out (fun e => e)) HKEY.out HX.out (HXV.out.below (BW.out.trans (CZ3.out.below w.heap.size BW.out.size (fun k hk e => by omega))))).mono ?_
          rintro e Z4 ⟨rfl, hb2⟩
          rw [← EGX.out]
          have bgx : (gx == gx) = true := by cases gx <;> rfl
          have CZ4 : Hid (Chg (fun _ => False) w5 Z4) := CZ3.out.then hb2
          clear hb2 CZ3
          clear hHeld
          refine hK.out _ _ CZ4.out (fun hHeld => ?_)
          clear hK K
          try simp only [Act.put, List.setIfInBounds_toArray, List.set_cons_zero, List.set_cons_succ]
          refine wpAnyH_take (i := 16) (oi := { dst := some 108, op := Op.binOp BinOp.eql 4 (Operand.tmp 103) (Operand.tmp 107) 4, type := 4, pos := "law.go:79", after := #[{ on := 11, ground := Ground.data }, { on := 15, ground := Ground.data }, { on := 8, ground := Ground.guard }], guard := some (8, true) }) (v := ?_) rfl (by kernel_rfl) (by kernel_rfl) (by kernel_rfl) (fun _ _ _ h => h) (Or.inl ⟨by rfl, ?_⟩) (by assumption) ?_
          rotate_left
          · intro w hSw
            clear hSw
            go_simp
            all_goals with_reducible rfl
          simp only [Act.put, List.setIfInBounds_toArray, List.set_cons_zero, List.set_cons_succ]
          refine wpAnyH_take (i := 17) (oi := { dst := some 109, op := Op.pick (Operand.tmp 100) (Operand.tmp 108) (Operand.const (Value.bool false)), type := 4, pos := "law.go:79", after := #[{ on := 8, ground := Ground.data }, { on := 16, ground := Ground.data }], guard := none }) (v := ?_) rfl (by kernel_rfl) (by kernel_rfl) (by kernel_rfl) (fun _ _ _ h => h) (Or.inl ⟨by rfl, ?_⟩) (by assumption) ?_
          rotate_left
          · intro w hSw
            clear hSw
            go_simp
            all_goals with_reducible rfl
          simp only [Act.put, List.setIfInBounds_toArray, List.set_cons_zero, List.set_cons_succ]
          refine wpAnyH_take (i := 18) (oi := { dst := some 110, op := Op.move (Operand.tmp 109), type := 4, pos := "law.go:79", after := #[{ on := 17, ground := Ground.data }, { on := 15, ground := Ground.chain }], guard := none }) (v := ?_) rfl (by kernel_rfl) (by kernel_rfl) (by kernel_rfl) (fun _ _ _ h => h) (Or.inl ⟨by rfl, ?_⟩) (by assumption) ?_
          rotate_left
          · intro w hSw
            clear hSw
            go_simp
            all_goals with_reducible rfl
          simp only [Act.put, List.setIfInBounds_toArray, List.set_cons_zero, List.set_cons_succ]
          refine wpAnyH_take (i := 19) (oi := { dst := some 111, op := Op.load 27 (Operand.tmp 18), type := 27, pos := "law.go:79", after := #[{ on := 18, ground := Ground.guard }], guard := some (18, true) }) (v := .agg (encT t.id (.slice tp tn tc) t.tag).toArray) rfl (by kernel_rfl) (by kernel_rfl) (by kernel_rfl) (fun _ _ _ h => h) (yieldsIf_load_mid (by rfl) _ _ rfl ga 0 rfl (encT t.id (.slice tp tn tc) t.tag) _ (fun _ hSw => rangeAt_row (hSw.row RA.out (fun e => e))) Tryd.underlying27 rfl (by rw [size_t _ _ _ HTK.out.tl, List.size_toArray])) (by assumption) ?_
          simp only [Act.put, List.setIfInBounds_toArray, List.set_cons_zero, List.set_cons_succ]
          refine wpAnyH_take (i := 20) (oi := { dst := some 112, op := Op.move (Operand.tmp 4), type := 3, pos := "law.go:79", after := #[{ on := 18, ground := Ground.guard }], guard := some (18, true) }) (v := ?_) rfl (by kernel_rfl) (by kernel_rfl) (by kernel_rfl) (fun _ _ _ h => h) (Or.inl ⟨by rfl, ?_⟩) (by assumption) ?_
          rotate_left
          · intro w hSw
            clear hSw
            go_simp
            all_goals with_reducible rfl
          simp only [Act.put, List.setIfInBounds_toArray, List.set_cons_zero, List.set_cons_succ]
          refine wpAnyH_take (i := 21) (oi := { dst := some 113, op := Op.move (Operand.tmp 5), type := 3, pos := "law.go:79", after := #[{ on := 18, ground := Ground.guard }], guard := some (18, true) }) (v := ?_) rfl (by kernel_rfl) (by kernel_rfl) (by kernel_rfl) (fun _ _ _ h => h) (Or.inl ⟨by rfl, ?_⟩) (by assumption) ?_
          rotate_left
          · intro w hSw
            clear hSw
            go_simp
            all_goals with_reducible rfl
          simp only [Act.put, List.setIfInBounds_toArray, List.set_cons_zero, List.set_cons_succ]
          refine wpAnyH_take (i := 22) (oi := { dst := some 114, op := Op.move (Operand.tmp 6), type := 46, pos := "law.go:79", after := #[{ on := 18, ground := Ground.guard }], guard := some (18, true) }) (v := ?_) rfl (by kernel_rfl) (by kernel_rfl) (by kernel_rfl) (fun _ _ _ h => h) (Or.inl ⟨by rfl, ?_⟩) (by assumption) ?_
          rotate_left
          · intro w hSw
            clear hSw
            go_simp
            all_goals with_reducible rfl
          simp only [Act.put, List.setIfInBounds_toArray, List.set_cons_zero, List.set_cons_succ]
          refine wpAnyH_take (i := 24) (oi := { dst := some 116, op := Op.load 27 (Operand.tmp 19), type := 27, pos := "law.go:79", after := #[{ on := 18, ground := Ground.guard }], guard := some (18, true) }) (v := .agg (encT t.id (.slice bp bn bc) t.tag).toArray) rfl (by kernel_rfl) (by kernel_rfl) (by kernel_rfl) (fun _ _ _ h => h) (yieldsIf_load_mid (by rfl) _ _ rfl gb 0 rfl (encT t.id (.slice bp bn bc) t.tag) _ (fun _ hSw => rangeAt_row (hSw.row RB.out (fun e => e))) Tryd.underlying27 rfl (by rw [size_t _ _ _ HTK.out.tl, List.size_toArray])) (by assumption) ?_
          simp only [Act.put, List.setIfInBounds_toArray, List.set_cons_zero, List.set_cons_succ]
          refine wpAnyH_take (i := 25) (oi := { dst := some 117, op := Op.move (Operand.tmp 4), type := 3, pos := "law.go:79", after := #[{ on := 18, ground := Ground.guard }], guard := some (18, true) }) (v := ?_) rfl (by kernel_rfl) (by kernel_rfl) (by kernel_rfl) (fun _ _ _ h => h) (Or.inl ⟨by rfl, ?_⟩) (by assumption) ?_
          rotate_left
          · intro w hSw
            clear hSw
            go_simp
            all_goals with_reducible rfl
          simp only [Act.put, List.setIfInBounds_toArray, List.set_cons_zero, List.set_cons_succ]
          refine wpAnyH_take (i := 26) (oi := { dst := some 118, op := Op.move (Operand.tmp 5), type := 3, pos := "law.go:79", after := #[{ on := 18, ground := Ground.guard }], guard := some (18, true) }) (v := ?_) rfl (by kernel_rfl) (by kernel_rfl) (by kernel_rfl) (fun _ _ _ h => h) (Or.inl ⟨by rfl, ?_⟩) (by assumption) ?_
          rotate_left
          · intro w hSw
            clear hSw
            go_simp
            all_goals with_reducible rfl
          simp only [Act.put, List.setIfInBounds_toArray, List.set_cons_zero, List.set_cons_succ]
          refine wpAnyH_take (i := 27) (oi := { dst := some 119, op := Op.move (Operand.tmp 6), type := 46, pos := "law.go:79", after := #[{ on := 18, ground := Ground.guard }], guard := some (18, true) }) (v := ?_) rfl (by kernel_rfl) (by kernel_rfl) (by kernel_rfl) (fun _ _ _ h => h) (Or.inl ⟨by rfl, ?_⟩) (by assumption) ?_
          rotate_left
          · intro w hSw
            clear hSw
            go_simp
            all_goals with_reducible rfl
          simp only [Act.put, List.setIfInBounds_toArray, List.set_cons_zero, List.set_cons_succ]
          refine wpAnyH_ready (rs := [23]) (by kernel_rfl) (by simp) ?_
          refine AllReadyH.cons (o := { dst := some 115, op := Op.call { callee := Callee.value (Operand.func 17), args := #[Operand.tmp 111, Operand.tmp 112, Operand.tmp 113, Operand.tmp 114], argTypes := #[27, 3, 3, 46] }, type := 4, pos := "law.go:79", after := #[{ on := 19, ground := Ground.data }, { on := 20, ground := Ground.data }, { on := 21, ground := Ground.data }, { on := 22, ground := Ground.data }, { on := 18, ground := Ground.chain }, { on := 18, ground := Ground.guard }], guard := some (18, true) }) rfl (fun K hK => ?_) AllReadyH.nil
          go_simp
          refine (holds_any t (.slice tp tn tc) op tree clock Z4 HTK.out ((CRow.at CA.out).below (CZ4.out.below _ (Nat.le_refl _) (fun _ _ e => e)))).mono ?_
          rintro e Z5 ⟨rfl, hb2⟩
          rw [← EHT.out]
          have CZ5 : Hid (Chg (fun _ => False) w5 Z5) := CZ4.out.then hb2
          clear hb2 CZ4
          clear hHeld
          refine hK.out _ _ CZ5.out (fun hHeld => ?_)
          clear hK K
          try simp only [Act.put, List.setIfInBounds_toArray, List.set_cons_zero, List.set_cons_succ]
          refine wpAnyH_ready (rs := [28]) (by kernel_rfl) (by simp) ?_
          refine AllReadyH.cons (o := { dst := some 120, op := Op.call { callee := Callee.value (Operand.func 24), args := #[Operand.tmp 116, Operand.tmp 117, Operand.tmp 118, Operand.tmp 119], argTypes := #[27, 3, 3, 46] }, type := 4, pos := "law.go:79", after := #[{ on := 24, ground := Ground.data }, { on := 25, ground := Ground.data }, { on := 26, ground := Ground.data }, { on := 27, ground := Ground.data }, { on := 23, ground := Ground.chain }, { on := 18, ground := Ground.guard }], guard := some (18, true) }) rfl (fun K hK => ?_) AllReadyH.nil
          go_simp
          refine (rholds_any t (.slice bp bn bc) op tree clock Z5 HO.out HTR.out HTK.out ((CRow.at CB.out).below (CZ5.out.below _ (Nat.le_refl _) (fun _ _ e => e)))).mono ?_
          rintro e Z6 ⟨rfl, hb2⟩
          rw [← EHT.out]
          have bht : (hT == hT) = true := by cases hT <;> rfl
          have CZ6 : Hid (Chg (fun _ => False) w5 Z6) := CZ5.out.then hb2
          clear hb2 CZ5
          clear hHeld
          refine hK.out _ _ CZ6.out (fun hHeld => ?_)
          clear hK K
          try simp only [Act.put, List.setIfInBounds_toArray, List.set_cons_zero, List.set_cons_succ]
          refine wpAnyH_take (i := 29) (oi := { dst := some 121, op := Op.binOp BinOp.eql 4 (Operand.tmp 115) (Operand.tmp 120) 4, type := 4, pos := "law.go:79", after := #[{ on := 23, ground := Ground.data }, { on := 28, ground := Ground.data }, { on := 18, ground := Ground.guard }], guard := some (18, true) }) (v := ?_) rfl (by kernel_rfl) (by kernel_rfl) (by kernel_rfl) (fun _ _ _ h => h) (Or.inl ⟨by rfl, ?_⟩) (by assumption) ?_
          rotate_left
          · intro w hSw
            clear hSw
            go_simp
            all_goals with_reducible rfl
          simp only [Act.put, List.setIfInBounds_toArray, List.set_cons_zero, List.set_cons_succ]
          refine wpAnyH_take (i := 30) (oi := { dst := some 122, op := Op.pick (Operand.tmp 110) (Operand.tmp 121) (Operand.const (Value.bool false)), type := 4, pos := "law.go:79", after := #[{ on := 18, ground := Ground.data }, { on := 29, ground := Ground.data }], guard := none }) (v := ?_) rfl (by kernel_rfl) (by kernel_rfl) (by kernel_rfl) (fun _ _ _ h => h) (Or.inl ⟨by rfl, ?_⟩) (by assumption) ?_
          rotate_left
          · intro w hSw
            clear hSw
            go_simp
            all_goals with_reducible rfl
          simp only [Act.put, List.setIfInBounds_toArray, List.set_cons_zero, List.set_cons_succ]
          refine wpAnyH_take (i := 31) (oi := { dst := some 123, op := Op.move (Operand.tmp 122), type := 4, pos := "law.go:79", after := #[{ on := 30, ground := Ground.data }, { on := 28, ground := Ground.chain }], guard := none }) (v := ?_) rfl (by kernel_rfl) (by kernel_rfl) (by kernel_rfl) (fun _ _ _ h => h) (Or.inl ⟨by rfl, ?_⟩) (by assumption) ?_
          rotate_left
          · intro w hSw
            clear hSw
            go_simp
            all_goals with_reducible rfl
          simp only [Act.put, List.setIfInBounds_toArray, List.set_cons_zero, List.set_cons_succ]
          refine wpAnyH_take (i := 32) (oi := { dst := some 124, op := Op.load 27 (Operand.tmp 11), type := 27, pos := "law.go:79", after := #[{ on := 31, ground := Ground.guard }], guard := some (31, true) }) (v := .agg (encT x.id (.slice xo xn xc) x.tag).toArray) rfl (by kernel_rfl) (by kernel_rfl) (by kernel_rfl) (fun _ _ _ h => h) (yieldsIf_load_mid (by rfl) _ _ rfl (w.heap.size + 1) 0 rfl (encT x.id (.slice xo xn xc) x.tag) _ (fun _ hSw => rangeAt_row (hSw.row Q1.out (fun e => e))) Tryd.underlying27 rfl (by rw [size_t _ _ _ HX.out.tl, List.size_toArray])) (by assumption) ?_
          simp only [Act.put, List.setIfInBounds_toArray, List.set_cons_zero, List.set_cons_succ]
          refine wpAnyH_take (i := 33) (oi := { dst := some 125, op := Op.move (Operand.tmp 4), type := 3, pos := "law.go:79", after := #[{ on := 31, ground := Ground.guard }], guard := some (31, true) }) (v := ?_) rfl (by kernel_rfl) (by kernel_rfl) (by kernel_rfl) (fun _ _ _ h => h) (Or.inl ⟨by rfl, ?_⟩) (by assumption) ?_
          rotate_left
          · intro w hSw
            clear hSw
            go_simp
            all_goals with_reducible rfl
          simp only [Act.put, List.setIfInBounds_toArray, List.set_cons_zero, List.set_cons_succ]
          refine wpAnyH_take (i := 34) (oi := { dst := some 126, op := Op.move (Operand.tmp 5), type := 3, pos := "law.go:79", after := #[{ on := 31, ground := Ground.guard }], guard := some (31, true) }) (v := ?_) rfl (by kernel_rfl) (by kernel_rfl) (by kernel_rfl) (fun _ _ _ h => h) (Or.inl ⟨by rfl, ?_⟩) (by assumption) ?_
          rotate_left
          · intro w hSw
            clear hSw
            go_simp
            all_goals with_reducible rfl
          simp only [Act.put, List.setIfInBounds_toArray, List.set_cons_zero, List.set_cons_succ]
          refine wpAnyH_take (i := 35) (oi := { dst := some 127, op := Op.move (Operand.tmp 6), type := 46, pos := "law.go:79", after := #[{ on := 31, ground := Ground.guard }], guard := some (31, true) }) (v := ?_) rfl (by kernel_rfl) (by kernel_rfl) (by kernel_rfl) (fun _ _ _ h => h) (Or.inl ⟨by rfl, ?_⟩) (by assumption) ?_
          rotate_left
          · intro w hSw
            clear hSw
            go_simp
            all_goals with_reducible rfl
          simp only [Act.put, List.setIfInBounds_toArray, List.set_cons_zero, List.set_cons_succ]
          refine wpAnyH_take (i := 37) (oi := { dst := some 129, op := Op.load 27 (Operand.tmp 11), type := 27, pos := "law.go:79", after := #[{ on := 31, ground := Ground.guard }], guard := some (31, true) }) (v := .agg (encT x.id (.slice xo xn xc) x.tag).toArray) rfl (by kernel_rfl) (by kernel_rfl) (by kernel_rfl) (fun _ _ _ h => h) (yieldsIf_load_mid (by rfl) _ _ rfl (w.heap.size + 1) 0 rfl (encT x.id (.slice xo xn xc) x.tag) _ (fun _ hSw => rangeAt_row (hSw.row Q1.out (fun e => e))) Tryd.underlying27 rfl (by rw [size_t _ _ _ HX.out.tl, List.size_toArray])) (by assumption) ?_
          simp only [Act.put, List.setIfInBounds_toArray, List.set_cons_zero, List.set_cons_succ]
          refine wpAnyH_take (i := 38) (oi := { dst := some 130, op := Op.move (Operand.tmp 4), type := 3, pos := "law.go:79", after := #[{ on := 31, ground := Ground.guard }], guard := some (31, true) }) (v := ?_) rfl (by kernel_rfl) (by kernel_rfl) (by kernel_rfl) (fun _ _ _ h => h) (Or.inl ⟨by rfl, ?_⟩) (by assumption) ?_
          rotate_left
          · intro w hSw
            clear hSw
            go_simp
            all_goals with_reducible rfl
          simp only [Act.put, List.setIfInBounds_toArray, List.set_cons_zero, List.set_cons_succ]
          refine wpAnyH_take (i := 39) (oi := { dst := some 131, op := Op.move (Operand.tmp 5), type := 3, pos := "law.go:79", after := #[{ on := 31, ground := Ground.guard }], guard := some (31, true) }) (v := ?_) rfl (by kernel_rfl) (by kernel_rfl) (by kernel_rfl) (fun _ _ _ h => h) (Or.inl ⟨by rfl, ?_⟩) (by assumption) ?_
          rotate_left
          · intro w hSw
            clear hSw
            go_simp
            all_goals with_reducible rfl
          simp only [Act.put, List.setIfInBounds_toArray, List.set_cons_zero, List.set_cons_succ]
          refine wpAnyH_take (i := 40) (oi := { dst := some 132, op := Op.move (Operand.tmp 6), type := 46, pos := "law.go:79", after := #[{ on := 31, ground := Ground.guard }], guard := some (31, true) }) (v := ?_) rfl (by kernel_rfl) (by kernel_rfl) (by kernel_rfl) (fun _ _ _ h => h) (Or.inl ⟨by rfl, ?_⟩) (by assumption) ?_
          rotate_left
          · intro w hSw
            clear hSw
            go_simp
            all_goals with_reducible rfl
          simp only [Act.put, List.setIfInBounds_toArray, List.set_cons_zero, List.set_cons_succ]
          refine wpAnyH_ready (rs := [36]) (by kernel_rfl) (by simp) ?_
          refine AllReadyH.cons (o := { dst := some 128, op := Op.call { callee := Callee.value (Operand.func 17), args := #[Operand.tmp 124, Operand.tmp 125, Operand.tmp 126, Operand.tmp 127], argTypes := #[27, 3, 3, 46] }, type := 4, pos := "law.go:79", after := #[{ on := 32, ground := Ground.data }, { on := 33, ground := Ground.data }, { on := 34, ground := Ground.data }, { on := 35, ground := Ground.data }, { on := 31, ground := Ground.chain }, { on := 31, ground := Ground.guard }], guard := some (31, true) }) rfl (fun K hK => ?_) AllReadyH.nil
          go_simp
          refine (holds_any x (.slice xo xn xc) op tree clock Z6 HX.out (HXV.out.below (BW.out.trans (CZ6.out.below w.heap.size BW.out.size (fun k hk e => by omega))))).mono ?_
          rintro e Z7 ⟨rfl, hb2⟩
          rw [← EHX.out]
          have CZ7 : Hid (Chg (fun _ => False) w5 Z7) := CZ6.out.then hb2
          clear hb2 CZ6
          clear hHeld
          refine hK.out _ _ CZ7.out (fun hHeld => ?_)
          clear hK K
          try simp only [Act.put, List.setIfInBounds_toArray, List.set_cons_zero, List.set_cons_succ]
          refine wpAnyH_ready (rs := [41]) (by kernel_rfl) (by simp) ?_
          refine AllReadyH.cons (o := { dst := some 133, op := Op.call { callee := Callee.value (Operand.func 24), args := #[Operand.tmp 129, Operand.tmp 130, Operand.tmp 131, Operand.tmp 132], argTypes := #[27, 3, 3, 46] }, type := 4, pos := "law.go:79", after := #[{ on := 37, ground := Ground.data }, { on := 38, ground := Ground.data }, { on := 39, ground := Ground.data }, { on := 40, ground := Ground.data }, { on := 36, ground := Ground.chain }, { on := 31, ground := Ground.guard }], guard := some (31, true) }) rfl (fun K hK => ?_) AllReadyH.nil
          go_simp
          refine (rholds_any x (.slice xo xn xc) op tree clock Z7 HO.out HTR.out HX.out (HXV.out.below (BW.out.trans (CZ7.out.below w.heap.size BW.out.size (fun k hk e => by omega))))).mono ?_
          rintro e Z8 ⟨rfl, hb2⟩
          rw [← EHX.out]
          have bhx : (hX == hX) = true := by cases hX <;> rfl
          have CZ8 : Hid (Chg (fun _ => False) w5 Z8) := CZ7.out.then hb2
          clear hb2 CZ7
          clear hHeld
          refine hK.out _ _ CZ8.out (fun hHeld => ?_)
          clear hK K
          try simp only [Act.put, List.setIfInBounds_toArray, List.set_cons_zero, List.set_cons_succ]
          refine wpAnyH_take (i := 42) (oi := { dst := some 134, op := Op.binOp BinOp.eql 4 (Operand.tmp 128) (Operand.tmp 133) 4, type := 4, pos := "law.go:79", after := #[{ on := 36, ground := Ground.data }, { on := 41, ground := Ground.data }, { on := 31, ground := Ground.guard }], guard := some (31, true) }) (v := ?_) rfl (by kernel_rfl) (by kernel_rfl) (by kernel_rfl) (fun _ _ _ h => h) (Or.inl ⟨by rfl, ?_⟩) (by assumption) ?_
          rotate_left
          · intro w hSw
            clear hSw
            go_simp
            all_goals with_reducible rfl
          simp only [Act.put, List.setIfInBounds_toArray, List.set_cons_zero, List.set_cons_succ]
          refine wpAnyH_take (i := 43) (oi := { dst := some 135, op := Op.pick (Operand.tmp 123) (Operand.tmp 134) (Operand.const (Value.bool false)), type := 4, pos := "law.go:79", after := #[{ on := 31, ground := Ground.data }, { on := 42, ground := Ground.data }], guard := none }) (v := ?_) rfl (by kernel_rfl) (by kernel_rfl) (by kernel_rfl) (fun _ _ _ h => h) (Or.inl ⟨by rfl, ?_⟩) (by assumption) ?_
          rotate_left
          · intro w hSw
            clear hSw
            go_simp
            all_goals with_reducible rfl
          simp only [Act.put, List.setIfInBounds_toArray, List.set_cons_zero, List.set_cons_succ]
          refine wpAnyH_take (i := 44) (oi := { dst := some 136, op := Op.move (Operand.tmp 135), type := 4, pos := "law.go:79", after := #[{ on := 43, ground := Ground.data }, { on := 41, ground := Ground.chain }], guard := none }) (v := ?_) rfl (by kernel_rfl) (by kernel_rfl) (by kernel_rfl) (fun _ _ _ h => h) (Or.inl ⟨by rfl, ?_⟩) (by assumption) ?_
          rotate_left
          · intro w hSw
            clear hSw
            go_simp
            all_goals with_reducible rfl
          simp only [Act.put, List.setIfInBounds_toArray, List.set_cons_zero, List.set_cons_succ]
          refine wpAnyH_take (i := 45) (oi := { dst := some 137, op := Op.load 25 (Operand.tmp 8), type := 25, pos := "law.go:79", after := #[{ on := 44, ground := Ground.guard }], guard := some (44, true) }) (v := .agg (S.v8l key).toArray) rfl (by kernel_rfl) (by kernel_rfl) (by kernel_rfl) (fun _ _ _ h => h) (yieldsIf_load_mid (by rfl) _ _ rfl w.heap.size 0 rfl (S.v8l key) _ (fun _ hSw => rangeAt_row (hSw.row Q0.out (fun e => e))) Tryd.underlying25 rfl (by rw [size_dig _ HKEY.out, S.v8_size, S.v8l_length])) (by assumption) ?_
          simp only [Act.put, List.setIfInBounds_toArray, List.set_cons_zero, List.set_cons_succ]
          refine wpAnyH_take (i := 46) (oi := { dst := some 138, op := Op.move (Operand.tmp 7), type := 48, pos := "law.go:79", after := #[{ on := 44, ground := Ground.guard }], guard := some (44, true) }) (v := ?_) rfl (by kernel_rfl) (by kernel_rfl) (by kernel_rfl) (fun _ _ _ h => h) (Or.inl ⟨by rfl, ?_⟩) (by assumption) ?_
          rotate_left
          · intro w hSw
            clear hSw
            go_simp
            all_goals with_reducible rfl
          simp only [Act.put, List.setIfInBounds_toArray, List.set_cons_zero, List.set_cons_succ]
          refine wpAnyH_take (i := 47) (oi := { dst := some 139, op := Op.load 27 (Operand.tmp 18), type := 27, pos := "law.go:79", after := #[{ on := 44, ground := Ground.guard }], guard := some (44, true) }) (v := .agg (encT t.id (.slice tp tn tc) t.tag).toArray) rfl (by kernel_rfl) (by kernel_rfl) (by kernel_rfl) (fun _ _ _ h => h) (yieldsIf_load_mid (by rfl) _ _ rfl ga 0 rfl (encT t.id (.slice tp tn tc) t.tag) _ (fun _ hSw => rangeAt_row (hSw.row RA.out (fun e => e))) Tryd.underlying27 rfl (by rw [size_t _ _ _ HTK.out.tl, List.size_toArray])) (by assumption) ?_
          simp only [Act.put, List.setIfInBounds_toArray, List.set_cons_zero, List.set_cons_succ]
          refine wpAnyH_take (i := 49) (oi := { dst := some 141, op := Op.move (Operand.tmp 25), type := 4, pos := "law.go:79", after := #[{ on := 44, ground := Ground.guard }], guard := some (44, true) }) (v := ?_) rfl (by kernel_rfl) (by kernel_rfl) (by kernel_rfl) (fun _ _ _ h => h) (Or.inl ⟨by rfl, ?_⟩) (by assumption) ?_
          rotate_left
          · intro w hSw
            clear hSw
            go_simp
            all_goals with_reducible rfl
          simp only [Act.put, List.setIfInBounds_toArray, List.set_cons_zero, List.set_cons_succ]
          refine wpAnyH_take (i := 50) (oi := { dst := some 142, op := Op.unOp UnOp.not 4 (Operand.tmp 141), type := 4, pos := "law.go:79", after := #[{ on := 49, ground := Ground.data }, { on := 44, ground := Ground.guard }], guard := some (44, true) }) (v := ?_) rfl (by kernel_rfl) (by kernel_rfl) (by kernel_rfl) (fun _ _ _ h => h) (Or.inl ⟨by rfl, ?_⟩) (by assumption) ?_
          rotate_left
          · intro w hSw
            clear hSw
            go_simp
            all_goals with_reducible rfl
          simp only [Act.put, List.setIfInBounds_toArray, List.set_cons_zero, List.set_cons_succ]
          refine wpAnyH_ready (rs := [48]) (by kernel_rfl) (by simp) ?_
          refine AllReadyH.cons (o := { dst := some 140, op := Op.call { callee := Callee.value (Operand.func 18), args := #[Operand.tmp 137, Operand.tmp 138, Operand.tmp 139], argTypes := #[25, 48, 27] }, type := 4, pos := "law.go:79", after := #[{ on := 45, ground := Ground.data }, { on := 46, ground := Ground.data }, { on := 47, ground := Ground.data }, { on := 44, ground := Ground.chain }, { on := 44, ground := Ground.guard }], guard := some (44, true) }) rfl (fun K hK => ?_) AllReadyH.nil
          go_simp
          refine (forged_any key M (.slice mo j mc) t (.slice tp tn tc) Z8 HKEY.out HML.out (HMV.out.below (BW.out.trans (CZ8.out.below w.heap.size BW.out.size (fun k hk e => by omega)))) HTK.out ((CRow.at CA.out).below (CZ8.out.below _ (Nat.le_refl _) (fun _ _ e => e))) (HK.out.below (BW.out.trans (CZ8.out.below w.heap.size BW.out.size (fun k hk e => by omega))) h0)).mono ?_
          rintro e Z9 ⟨rfl, hb2⟩
          rw [FOR.out]
          have bis : ((!is) == (!is)) = true := by cases is <;> rfl
          have CZ9 : Hid (Chg (fun _ => False) w5 Z9) := CZ8.out.then hb2
          clear hb2 CZ8
          clear hHeld
          refine hK.out _ _ CZ9.out (fun hHeld => ?_)
          clear hK K
          try simp only [Act.put, List.setIfInBounds_toArray, List.set_cons_zero, List.set_cons_succ]
          refine wpAnyH_take (i := 51) (oi := { dst := some 143, op := Op.binOp BinOp.eql 4 (Operand.tmp 140) (Operand.tmp 142) 4, type := 4, pos := "law.go:79", after := #[{ on := 48, ground := Ground.data }, { on := 50, ground := Ground.data }, { on := 44, ground := Ground.guard }], guard := some (44, true) }) (v := ?_) rfl (by kernel_rfl) (by kernel_rfl) (by kernel_rfl) (fun _ _ _ h => h) (Or.inl ⟨by rfl, ?_⟩) (by assumption) ?_
          rotate_left
          · intro w hSw
            clear hSw
            go_simp
            all_goals with_reducible rfl
          simp only [Act.put, List.setIfInBounds_toArray, List.set_cons_zero, List.set_cons_succ]
          refine wpAnyH_take (i := 52) (oi := { dst := some 144, op := Op.pick (Operand.tmp 136) (Operand.tmp 143) (Operand.const (Value.bool false)), type := 4, pos := "law.go:79", after := #[{ on := 44, ground := Ground.data }, { on := 51, ground := Ground.data }], guard := none }) (v := ?_) rfl (by kernel_rfl) (by kernel_rfl) (by kernel_rfl) (fun _ _ _ h => h) (Or.inl ⟨by rfl, ?_⟩) (by assumption) ?_
          rotate_left
          · intro w hSw
            clear hSw
            go_simp
            all_goals with_reducible rfl
          simp only [Act.put, List.setIfInBounds_toArray, List.set_cons_zero, List.set_cons_succ]
          refine wpAnyH_take (i := 53) (oi := { dst := some 145, op := Op.move (Operand.tmp 144), type := 4, pos := "law.go:79", after := #[{ on := 52, ground := Ground.data }, { on := 48, ground := Ground.chain }], guard := none }) (v := ?_) rfl (by kernel_rfl) (by kernel_rfl) (by kernel_rfl) (fun _ _ _ h => h) (Or.inl ⟨by rfl, ?_⟩) (by assumption) ?_
          rotate_left
          · intro w hSw
            clear hSw
            go_simp
            all_goals with_reducible rfl
          simp only [Act.put, List.setIfInBounds_toArray, List.set_cons_zero, List.set_cons_succ]
          refine wpAnyH_ready (rs := [54]) (by kernel_rfl) (by simp) ?_
          refine AllReadyH.cons (o := { dst := some 146, op := Op.call { callee := Callee.value (Operand.func 19), args := #[], argTypes := #[] }, type := 4, pos := "law.go:79", after := #[{ on := 53, ground := Ground.chain }, { on := 53, ground := Ground.guard }], guard := some (53, true) }) rfl (fun K hK => ?_) AllReadyH.nil
          go_simp
          refine (known_any Z9 (HK.out.below (BW.out.trans (CZ9.out.below w.heap.size BW.out.size (fun k hk e => by omega))) h0)).mono ?_
          rintro e Z10 ⟨rfl, hb2⟩
          have CZ10 : Hid (Chg (fun _ => False) w5 Z10) := CZ9.out.then hb2
          clear hb2 CZ9
          clear hHeld
          refine hK.out _ _ CZ10.out (fun hHeld => ?_)
          clear hK K
          try simp only [Act.put, List.setIfInBounds_toArray, List.set_cons_zero, List.set_cons_succ]
          refine wpAnyH_take (i := 55) (oi := { dst := some 147, op := Op.pick (Operand.tmp 145) (Operand.tmp 146) (Operand.const (Value.bool false)), type := 4, pos := "law.go:79", after := #[{ on := 53, ground := Ground.data }, { on := 54, ground := Ground.data }], guard := none }) (v := ?_) rfl (by kernel_rfl) (by kernel_rfl) (by kernel_rfl) (fun _ _ _ h => h) (Or.inl ⟨by rfl, ?_⟩) (by assumption) ?_
          rotate_left
          · intro w hSw
            clear hSw
            go_simp
            all_goals with_reducible rfl
          simp only [Act.put, List.setIfInBounds_toArray, List.set_cons_zero, List.set_cons_succ]
          refine wpAnyH_take (i := 56) (oi := { dst := some 16, op := Op.assign (Operand.tmp 147), type := 4, pos := "law.go:79", after := #[{ on := 55, ground := Ground.data }, { on := 54, ground := Ground.chain }, { on := 0, ground := Ground.phase }, { on := 1, ground := Ground.phase }, { on := 2, ground := Ground.phase }, { on := 3, ground := Ground.phase }, { on := 4, ground := Ground.phase }, { on := 5, ground := Ground.phase }, { on := 6, ground := Ground.phase }, { on := 7, ground := Ground.phase }, { on := 8, ground := Ground.phase }, { on := 9, ground := Ground.phase }, { on := 10, ground := Ground.phase }, { on := 11, ground := Ground.phase }, { on := 12, ground := Ground.phase }, { on := 13, ground := Ground.phase }, { on := 14, ground := Ground.phase }, { on := 15, ground := Ground.phase }, { on := 16, ground := Ground.phase }, { on := 17, ground := Ground.phase }, { on := 18, ground := Ground.phase }, { on := 19, ground := Ground.phase }, { on := 20, ground := Ground.phase }, { on := 21, ground := Ground.phase }, { on := 22, ground := Ground.phase }, { on := 23, ground := Ground.phase }, { on := 24, ground := Ground.phase }, { on := 25, ground := Ground.phase }, { on := 26, ground := Ground.phase }, { on := 27, ground := Ground.phase }, { on := 28, ground := Ground.phase }, { on := 29, ground := Ground.phase }, { on := 30, ground := Ground.phase }, { on := 31, ground := Ground.phase }, { on := 32, ground := Ground.phase }, { on := 33, ground := Ground.phase }, { on := 34, ground := Ground.phase }, { on := 35, ground := Ground.phase }, { on := 36, ground := Ground.phase }, { on := 37, ground := Ground.phase }, { on := 38, ground := Ground.phase }, { on := 39, ground := Ground.phase }, { on := 40, ground := Ground.phase }, { on := 41, ground := Ground.phase }, { on := 42, ground := Ground.phase }, { on := 43, ground := Ground.phase }, { on := 44, ground := Ground.phase }, { on := 45, ground := Ground.phase }, { on := 46, ground := Ground.phase }, { on := 47, ground := Ground.phase }, { on := 48, ground := Ground.phase }, { on := 49, ground := Ground.phase }, { on := 50, ground := Ground.phase }, { on := 51, ground := Ground.phase }, { on := 52, ground := Ground.phase }, { on := 53, ground := Ground.phase }, { on := 54, ground := Ground.phase }, { on := 55, ground := Ground.phase }], guard := none }) (v := ?_) rfl (by kernel_rfl) (by kernel_rfl) (by kernel_rfl) (fun _ _ _ h => h) (Or.inl ⟨by rfl, ?_⟩) (by assumption) ?_
          rotate_left
          · intro w hSw
            clear hSw
            go_simp
            all_goals with_reducible rfl
          simp only [Act.put, List.setIfInBounds_toArray, List.set_cons_zero, List.set_cons_succ]
          refine wpAnyH_done (by kernel_rfl) ?_ _
          refine NoPanic.normal ?_
          clear hHeld
          have BF := hide (BW.out.trans (CZ10.out.below w.heap.size BW.out.size (fun k hk e => by omega)))
          generalize Z10 = Y at BF ⊢
          go_wp2_with fail
          go_ret
          exact ⟨rfl, BF.out⟩
        | succ gO =>
          have qq : (j : Int) < (mn : Int) := by omega
          have q0 : (0 : Int) ≤ (j : Int) := by omega
          have qw : IntKind.i64.wrap ((j : Int) + 1) = (j : Int) + 1 := by rw [IntKind.wrap_i64]; have := HMLN.out; omega
          have hlt : j < M.length := by rw [← HMN.out]; omega
          obtain ⟨y, hy⟩ : ∃ y, M[j]? = some y := ⟨_, List.getElem?_eq_getElem hlt⟩
          obtain ⟨g, off, e, hg, hra⟩ := (HMV.out.below BW.out).at_ j y hy
          subst e
          have c0 : wr.cell? ⟨g, off + j, none⟩ = some (.int .u32 (y : Int)) := by
            have h5 := hra 0 (.int .u32 (y : Int)) rfl
            rw [Nat.mul_one, Nat.add_zero] at h5
            exact h5
          have HTKE := hide (show (M.take (j + 1)).contains id = (b || (y == id)) by rw [S.has_more hy id, HBB.out])
          obtain ⟨z, hz⟩ : ∃ z, z = (y == id) := ⟨_, rfl⟩
          have qz : ((y : Int) == (id : Int)) = z := by rw [hz, Bool.eq_iff_iff, beq_iff_eq, beq_iff_eq]; exact Int.ofNat_inj
          rw [← hz] at HTKE
          clear hra hg hy hz hlt HBB
          cases b with
          | true =>
            go_wp2_with fail
            go_roundg gO
            case measure => omega
            case rel => exact ⟨j + 1, by omega, by first | rfl | simp, by rw [HTKE.out]; rfl, rfl⟩
          | false =>
            go_wp2_with fail
            go_roundg gO
            case measure => omega
            case rel => exact ⟨j + 1, by omega, by first | rfl | simp, by rw [HTKE.out]; first | rfl | simp, rfl⟩
end Go.Proofs.YtlcilclhaahopaaDoor
