/- TokenNarrows. -/
import Derived.Test.YtlcilclhaahopaaDoorTv
import Derived.Test.YtlcilclhaahopaaDoorTr
import Derived.Test.YtlcilclhaahopaaDoorArgw
import Derived.Test.YtlcilclhaahopaaDoorTq
import Derived.Test.YtlcilclhaahopaaDoorWithin
import Derived.Deep.CutBlock
namespace Go.Proofs.YtlcilclhaahopaaDoor
open Go.RowKit

set_option maxHeartbeats 40000000 in
set_option maxRecDepth 10000 in
theorem tokenNarrows_walk (id : Nat) (lo : Option Addr) (ln lc : Nat) (L : List S.Cv) (op tree : Int) (clock : Nat) (jj : Int) (w : World) (hid : id < 4294967296) (hL : RowAt 2 encC w (.slice lo ln lc) L) (hLl : L.length = ln) (hLo : ∀ c ∈ L, c.Ok) (hjj : -9223372036854775808 ≤ jj ∧ jj ≤ 9223372036854775807) (hK : KAt w) :
   Calls Tryd.prog 6 #[.int .u32 (id : Int), .slice lo ln lc, .int .i64 op, .int .i64 tree, .int .u64 (clock : Int), .int .i64 jj] w fun e w' => e = .returned (.bool true) ∧ Below w.heap.size w w' := by
  have HID : Hid (id < 4294967296) := hid
  have HLV := hide hL
  have HLL := hide hLl
  have HLO := hide hLo
  have HJJ := hide hjj
  have HK := hide hK
  have h0 := hK.pos
  obtain ⟨key, hkey⟩ : ∃ k, k = S.root 3 := ⟨_, rfl⟩
  obtain ⟨key4, hkey4⟩ : ∃ k, k = S.root 4 := ⟨_, rfl⟩
  have HKEY := hide (show key.length = 32 by rw [hkey]; exact S.root_length 3)
  have HKEY4 := hide (show key4.length = 32 by rw [hkey4]; exact S.root_length 4)
  have root3 : Hid (∀ W : World, Calls Tryd.prog 10 #[.int .u8 3] W fun e w' => e = .returned (.agg (S.v8 key)) ∧ Below W.heap.size W w') := fun W => by rw [hkey]; exact root_is 3 3 W rfl
  have root4 : Hid (∀ W : World, Calls Tryd.prog 10 #[.int .u8 4] W fun e w' => e = .returned (.agg (S.v8 key4)) ∧ Below W.heap.size W w') := fun W => by rw [hkey4]; exact root_is 4 4 W rfl
  clear hid hL hLl hLo hK hjj hkey hkey4
  go_enter Tryd.func6, Tryd.ntmps6
  go_upto_region 1 with fail
  go_wp2_with fail
  refine (new_any w).mono ?_
  rintro e w1 ⟨gT, rfl, hgT, hT, hb1⟩
  have B1 := hide hb1
  have T1 := hide hT
  have GT := hide hgT
  clear hgT hT hb1
  go_upto_region 2 with fail
  go_wp2_with fail
  refine (root3.out w1).mono ?_
  rintro e wq ⟨rfl, hbq⟩
  have Bq := hide (B1.out.trans (hbq.mono B1.out.size))
  have Tq := hide ((hbq.block _ (block_lt_of_row T1.out)).trans T1.out)
  clear hbq B1 T1
  go_wp2_with fail
  refine (mint_any key id wq HKEY.out HID.out (HK.out.below Bq.out h0)).mono ?_
  rintro e w2 ⟨rfl, hb2⟩
  obtain ⟨D, hD⟩ : ∃ D, D = (S.mint key id).tag := ⟨_, rfl⟩
  rw [← hD]
  have LD := hide (show D.length = 32 by rw [hD]; exact S.mint_tag _ _)
  have MT := hide (S.made_mint key id D hD)
  have OKT : Hid (S.Tk.Ok ⟨id, [], D⟩) := ⟨HID.out, LD.out, by simp, by simp⟩
  obtain ⟨A3, w3, ha3, hs3, hr3, hb3, -⟩ := lay_t w2 id none 0 0 D LD.out
  obtain ⟨ga, hga⟩ : ∃ g, g = w2.heap.size := ⟨_, rfl⟩
  rw [← hga] at ha3 hs3 hr3
  have hb23 := hb2.trans (hb3.mono hb2.size)
  have B3 := hide (Bq.out.trans (hb23.mono Bq.out.size))
  have T3 := hide ((hb23.block _ (block_lt_of_row Tq.out)).trans Tq.out)
  have RA3 := hide hr3
  have GA := hide (show gT < ga by rw [hga]; exact Nat.lt_of_lt_of_le (block_lt_of_row Tq.out) hb2.size)
  clear hD hb2 hb3 hb23 hr3 hga Bq Tq
  go_upto_region 3 with (first | (with_reducible refine at_op { dst := some 14, op := Op.alloc 27, type := 0, pos := "law.go:114", after := #[], guard := none } ?_; refine wpList_alloc_known rfl 27 rfl _ _ ha3 ?_) | (with_reducible refine at_op { dst := none, op := Op.store 27 (Operand.tmp 14) (Operand.tmp 25), type := 0, pos := "law.go:114", after := #[{ on := 3, ground := Ground.data }, { on := 2, ground := Ground.data }, { on := 2, ground := Ground.chain }, { on := 0, ground := Ground.phase }, { on := 1, ground := Ground.phase }, { on := 2, ground := Ground.phase }, { on := 3, ground := Ground.phase }], guard := none } ?_; refine wpList_store_as rfl 27 (.tmp 14) (.tmp 25) rfl (.pointer (some ⟨ga, 0, none⟩)) (.agg (encT id (.slice none 0 0) D).toArray) rfl rfl w3 hs3 ?_))
  clear ha3 hs3 A3
  go_wp2_with fail
  go_loopw [15] (fun s15 wr => ∃ (i : Nat) (t : S.Tk) (tp : Option Addr) (tn tc : Nat), i ≤ 4 ∧ s15 = .int .i64 (i : Int) ∧ Hid (S.Made key t) ∧ Hid t.Ok ∧ Hid (t.cs.length ≤ 4) ∧ Hid (wr.heap[ga]? = some (.cells (encT t.id (.slice tp tn tc) t.tag).toArray 27 (0, 0))) ∧ Hid (CRow 0 wr (.slice tp tn tc) t.cs) ∧ Hid (wr.heap[gT]? = some (.cells (S.v32 (S.K ++ S.H0)) 103 (0, 0))) ∧ Hid (Below w.heap.size w wr)) (fun s15 _ => 4 - (intOf s15).toNat)
  case atStart => exact ⟨0, ⟨id, [], D⟩, none, 0, 0, by omega, rfl, MT, OKT, by simp [Hid], RA3, hide (Rw.nil _ _ _ _ _), T3, B3⟩
  case round =>
    clear MT OKT RA3 T3 B3
    obtain ⟨i, t, tp, tn, tc, hi4, rfl, HM, HTK, HT4, RA, CA, HT, BW⟩ := hrel
    by_cases hgo : i < ln ∧ i < 4
    · obtain ⟨hl1, hl2⟩ := hgo
      have q0 : (0 : Int) ≤ (i : Int) := by omega
      have q1 : (i : Int) < (ln : Int) := by omega
      have q2 : (i : Int) < 4 := by omega
      have qw : IntKind.i64.wrap ((i : Int) + 1) = (i : Int) + 1 := by rw [IntKind.wrap_i64]; omega
      have hlt : i < L.length := by have := HLL.out; omega
      obtain ⟨c, hc⟩ : ∃ c, L[i]? = some c := ⟨_, List.getElem?_eq_getElem hlt⟩
      obtain ⟨g, off, e, hg, hra⟩ := (HLV.out.below BW.out).at_ i c hc
      subst e
      have HCO := hide (HLO.out c (List.mem_of_getElem? hc))
      have HRA := hide hra
      have HGL := hide hg
      have h3 := S.narrow_e t c
      have hok := S.narrow_ok t c HTK.out HCO.out
      obtain ⟨u, hu⟩ : ∃ u, u = (S.narrow t c).1 := ⟨_, rfl⟩
      obtain ⟨er, her⟩ : ∃ er, er = (S.narrow t c).2 := ⟨_, rfl⟩
      rw [← hu] at hok
      rw [← her] at h3
      have HU := hide hok
      have EU := hide hu
      have EER := hide her
      have H3 := hide h3
      clear hra hg hc hlt hok hu her h3
      go_upto_region 6 with fail
      go_cut [16, 17] from 36 to 44 (fun s9 s10 wc => ∃ (gc : Nat) (uo : Option Addr) (un uc : Nat), s9 = .pointer (some ⟨gc, 0, none⟩) ∧ s10 = .int .i64 er ∧ wr.heap.size ≤ gc ∧ Hid (wc.heap[gc]? = some (.cells (encT u.id (.slice uo un uc) u.tag).toArray 27 (0, 0))) ∧ Hid (CRow 0 wc (.slice uo un uc) u.cs) ∧ Hid (Chg (fun _ => False) wr wc))
      case first =>
        refine wp_region_noPanic ?_
        refine wp_region_held_drew (S := (fun W => Chg (fun _ => False) wr W)) follows ((Chg.refl _ _).drew) (fun hHeld => ?_)
        clear hHeld
        have hHeld : Chg (fun _ => False) wr wr.drew := (Chg.refl _ _).drew
        have CZ0 := hide hHeld
        generalize wr.drew = Z0 at CZ0 hHeld ⊢
        refine wpAnyH_take (i := 0) (oi := { dst := some 37, op := Op.load 27 (Operand.tmp 14), type := 27, pos := "law.go:116", after := #[], guard := none }) (v := .agg (encT t.id (.slice tp tn tc) t.tag).toArray) rfl (by kernel_rfl) (by kernel_rfl) (by kernel_rfl) (fun _ _ _ h => h) (yieldsIf_load_mid (by rfl) _ _ rfl ga 0 rfl (encT t.id (.slice tp tn tc) t.tag) _ (fun _ hSw => rangeAt_row (hSw.row RA.out (fun e => e))) Tryd.underlying27 rfl (by rw [size_t _ _ _ HTK.out.tl, List.size_toArray])) (by assumption) ?_
        simp only [Act.put, List.setIfInBounds_toArray, List.set_cons_zero, List.set_cons_succ]
        refine wpAnyH_take (i := 1) (oi := { dst := some 38, op := Op.move (Operand.tmp 1), type := 23, pos := "law.go:116", after := #[], guard := none }) (v := ?_) rfl (by kernel_rfl) (by kernel_rfl) (by kernel_rfl) (fun _ _ _ h => h) (Or.inl ⟨by rfl, ?_⟩) (by assumption) ?_
        rotate_left
        · intro w hSw
          clear hSw
          go_simp
          all_goals with_reducible rfl
        simp only [Act.put, List.setIfInBounds_toArray, List.set_cons_zero, List.set_cons_succ]
        refine wpAnyH_take (i := 2) (oi := { dst := some 39, op := Op.move (Operand.tmp 15), type := 3, pos := "law.go:116", after := #[], guard := none }) (v := ?_) rfl (by kernel_rfl) (by kernel_rfl) (by kernel_rfl) (fun _ _ _ h => h) (Or.inl ⟨by rfl, ?_⟩) (by assumption) ?_
        rotate_left
        · intro w hSw
          clear hSw
          go_simp
          all_goals with_reducible rfl
        simp only [Act.put, List.setIfInBounds_toArray, List.set_cons_zero, List.set_cons_succ]
        refine wpAnyH_take (i := 3) (oi := { dst := some 40, op := Op.indexAddr 23 (Operand.tmp 38) (Operand.tmp 39), type := 0, pos := "law.go:116", after := #[{ on := 1, ground := Ground.data }, { on := 2, ground := Ground.data }], guard := none }) (v := ?_) rfl (by kernel_rfl) (by kernel_rfl) (by kernel_rfl) (fun _ _ _ h => h) (Or.inl ⟨by rfl, ?_⟩) (by assumption) ?_
        rotate_left
        · intro w hSw
          clear hSw
          go_simp
          all_goals with_reducible rfl
        simp only [Act.put, List.setIfInBounds_toArray, List.set_cons_zero, List.set_cons_succ]
        refine wpAnyH_take (i := 4) (oi := { dst := some 41, op := Op.load 42 (Operand.tmp 40), type := 42, pos := "law.go:116", after := #[{ on := 3, ground := Ground.data }], guard := none }) (v := .agg (encC c).toArray) rfl (by kernel_rfl) (by kernel_rfl) (by kernel_rfl) (fun _ _ _ h => h) (yieldsIf_load_mid (by rfl) _ _ rfl g (off + i * 2) rfl (encC c) _ (fun _ hSw => (fun j v hv => (World.cell?_of_block (a := ⟨g, off + i * 2 + j, none⟩) (hSw.block g HGL.out (fun e => e))).trans (HRA.out j v hv))) Tryd.underlying42 rfl (by rw [size_c, List.size_toArray])) (by assumption) ?_
        simp only [Act.put, List.setIfInBounds_toArray, List.set_cons_zero, List.set_cons_succ]
        refine wpAnyH_ready (rs := [5, 9]) (by kernel_rfl) (by simp) ?_
        refine AllReadyH.cons (o := { dst := some 42, op := Op.call { callee := Callee.value (Operand.func 14), args := #[Operand.tmp 37, Operand.tmp 41], argTypes := #[27, 42] }, type := 39, pos := "law.go:116", after := #[{ on := 0, ground := Ground.data }, { on := 4, ground := Ground.data }], guard := none }) rfl (fun K hK => ?_) ?_
        · skip
          go_simp
          refine (narrow_any t (.slice tp tn tc) c Z0 HTK.out HCO.out ((CRow.at CA.out).below (CZ0.out.below _ (Nat.le_refl _) (fun _ _ e => e))) (HK.out.below (BW.out.trans (CZ0.out.below w.heap.size BW.out.size (fun k hk e => e.elim))) h0)).mono ?_
          rintro e Z1 ⟨⟨nv, rfl, hcr⟩, hb2⟩
          rw [← EU.out] at hcr ⊢
          rw [← EER.out]
          obtain ⟨uo, uc, rfl⟩ := hcr.form
          obtain ⟨un, hun⟩ : ∃ un, un = u.cs.length := ⟨_, rfl⟩
          rw [← hun] at hcr ⊢
          have CRu : Hid (CRow 0 Z1 (.slice uo un uc) u.cs) := hcr.mono (Nat.zero_le _)
          clear hcr hun
          have CZ1 : Hid (Chg (fun _ => False) wr Z1) := CZ0.out.then hb2
          clear hb2 CZ0
          clear hHeld
          refine hK.out _ _ CZ1.out (fun hHeld => ?_)
          clear hK K
          try simp only [Act.put, List.setIfInBounds_toArray, List.set_cons_zero, List.set_cons_succ]
          refine wpAnyH_take (i := 6) (oi := { dst := some 36, op := Op.move (Operand.tmp 42), type := 39, pos := "law.go:116", after := #[{ on := 5, ground := Ground.data }], guard := none }) (v := ?_) rfl (by kernel_rfl) (by kernel_rfl) (by kernel_rfl) (fun _ _ _ h => h) (Or.inl ⟨by rfl, ?_⟩) (by assumption) ?_
          rotate_left
          · intro w hSw
            clear hSw
            go_simp
            all_goals with_reducible rfl
          simp only [Act.put, List.setIfInBounds_toArray, List.set_cons_zero, List.set_cons_succ]
          refine wpAnyH_take (i := 7) (oi := { dst := some 43, op := Op.extract (Operand.tmp 36) 0, type := 27, pos := "law.go:116", after := #[{ on := 6, ground := Ground.data }], guard := none }) (v := ?_) rfl (by kernel_rfl) (by kernel_rfl) (by kernel_rfl) (fun _ _ _ h => h) (Or.inl ⟨by rfl, ?_⟩) (by assumption) ?_
          rotate_left
          · intro w hSw
            clear hSw
            go_simp
            all_goals with_reducible rfl
          simp only [Act.put, List.setIfInBounds_toArray, List.set_cons_zero, List.set_cons_succ]
          refine wpAnyH_take (i := 8) (oi := { dst := some 44, op := Op.extract (Operand.tmp 36) 1, type := 31, pos := "law.go:116", after := #[{ on := 6, ground := Ground.data }, { on := 10, ground := Ground.gcOnly Departure.lateStores }], guard := none }) (v := ?_) rfl (by kernel_rfl) (by kernel_rfl) (by kernel_rfl) (fun _ _ _ h => h) (Or.inl ⟨by rfl, ?_⟩) (by assumption) ?_
          rotate_left
          · intro w hSw
            clear hSw
            go_simp
            all_goals with_reducible rfl
          simp only [Act.put, List.setIfInBounds_toArray, List.set_cons_zero, List.set_cons_succ]
          refine wpAnyH_ready (rs := [9]) (by kernel_rfl) (by simp) ?_
          refine step_alloc_as (o := { dst := some 16, op := Op.alloc 27, type := 0, pos := "law.go:116", after := #[], guard := none }) rfl rfl 27 rfl _ _ (alloc27 Z1) AllReadyH.nil ⟨CZ1.out.alloc _, fun hHeld => ?_⟩
          clear hHeld
          simp only [Act.put, List.setIfInBounds_toArray, List.set_cons_zero, List.set_cons_succ]
          obtain ⟨gc, hgc⟩ : ∃ gg, gg = Z1.heap.size := ⟨_, rfl⟩
          rw [← hgc]
          generalize hZ : Z1.alloc _ = Z2
          have hb2 : Below Z1.heap.size Z1 Z2 := by rw [← hZ]; exact (Below.refl _ _).alloc (Nat.le_refl _) _
          have Rgc : Hid (Z2.heap[gc]? = some (.cells tk0 27 (0, 0))) := by rw [← hZ, hgc]; exact heap_alloc_new _ _
          have Ggc := hide (show wr.heap.size ≤ gc by rw [hgc]; exact CZ1.out.size)
          clear hZ hgc
          replace CRu : Hid (CRow 0 Z2 (.slice uo un uc) u.cs) := CRu.out.below hb2
          have CZ2 : Hid (Chg (fun _ => False) wr Z2) := CZ1.out.then hb2
          clear hb2 CZ1
          have hHeld := CZ2.out
          refine wpAnyH_ready (rs := [10]) (by kernel_rfl) (by simp) ?_
          obtain ⟨Z3, hst, r6, C6, s6⟩ := store_t (id := u.id) (ao := uo) (n := un) (m := uc) (tag := u.tag) Rgc.out tk0_size HU.out.tl
          refine step_store_as (o := { dst := none, op := Op.store 27 (Operand.tmp 16) (Operand.tmp 43), type := 0, pos := "law.go:116", after := #[{ on := 9, ground := Ground.data }, { on := 7, ground := Ground.data }, { on := 5, ground := Ground.chain }, { on := 0, ground := Ground.phase }, { on := 1, ground := Ground.phase }, { on := 2, ground := Ground.phase }, { on := 3, ground := Ground.phase }, { on := 4, ground := Ground.phase }, { on := 5, ground := Ground.phase }, { on := 6, ground := Ground.phase }, { on := 7, ground := Ground.phase }, { on := 8, ground := Ground.textOnly Departure.lateStores }, { on := 9, ground := Ground.phase }], guard := none }) rfl rfl 27 (.tmp 16) (.tmp 43) rfl _ _ rfl rfl Z3 hst AllReadyH.nil ⟨CZ2.out.trans C6 (fun k hk e => by have := Ggc.out; omega), fun hHeld => ?_⟩
          have CZ3 : Hid (Chg (fun _ => False) wr Z3) := CZ2.out.trans C6 (fun k hk e => by have := Ggc.out; omega)
          replace CRu : Hid (CRow 0 Z3 (.slice uo un uc) u.cs) := CRu.out.chg C6 (fun j e e2 => CRu.out.apart Rgc.out (by decide) (e2 ▸ e))
          replace Rgc : Hid (Z3.heap[gc]? = some (.cells (encT u.id (.slice uo un uc) u.tag).toArray 27 (0, 0))) := r6
          clear hst r6 C6 s6 CZ2
          simp only [Act.put]
          refine wpAnyH_take (i := 11) (oi := { dst := some 17, op := Op.assign (Operand.tmp 44), type := 31, pos := "law.go:116", after := #[{ on := 8, ground := Ground.data }, { on := 10, ground := Ground.chain }, { on := 0, ground := Ground.phase }, { on := 1, ground := Ground.phase }, { on := 2, ground := Ground.phase }, { on := 3, ground := Ground.phase }, { on := 4, ground := Ground.phase }, { on := 5, ground := Ground.phase }, { on := 6, ground := Ground.phase }, { on := 7, ground := Ground.phase }, { on := 8, ground := Ground.phase }, { on := 9, ground := Ground.phase }, { on := 10, ground := Ground.phase }], guard := none }) (v := ?_) rfl (by kernel_rfl) (by kernel_rfl) (by kernel_rfl) (fun _ _ _ h => h) (Or.inl ⟨by rfl, ?_⟩) (by assumption) ?_
          rotate_left
          · intro w hSw
            clear hSw
            go_simp
            all_goals with_reducible rfl
          simp only [Act.put, List.setIfInBounds_toArray, List.set_cons_zero, List.set_cons_succ]
          refine wpAnyH_done (by kernel_rfl) ?_ _
          refine NoPanic.normal ?_
          clear hHeld
          try go_wp2_with fail
          go_meet
          exact ⟨gc, uo, un, uc, rfl, rfl, Ggc.out, Rgc, CRu, CZ3⟩
        refine step_alloc_as (o := { dst := some 16, op := Op.alloc 27, type := 0, pos := "law.go:116", after := #[], guard := none }) rfl rfl 27 rfl _ _ (alloc27 Z0) AllReadyH.nil ⟨CZ0.out.alloc _, fun hHeld => ?_⟩
        clear hHeld
        simp only [Act.put, List.setIfInBounds_toArray, List.set_cons_zero, List.set_cons_succ]
        obtain ⟨gc, hgc⟩ : ∃ gg, gg = Z0.heap.size := ⟨_, rfl⟩
        rw [← hgc]
        generalize hZ : Z0.alloc _ = Z1
        have hb2 : Below Z0.heap.size Z0 Z1 := by rw [← hZ]; exact (Below.refl _ _).alloc (Nat.le_refl _) _
        have Rgc : Hid (Z1.heap[gc]? = some (.cells tk0 27 (0, 0))) := by rw [← hZ, hgc]; exact heap_alloc_new _ _
        have Ggc := hide (show wr.heap.size ≤ gc by rw [hgc]; exact CZ0.out.size)
        clear hZ hgc
        have CZ1 : Hid (Chg (fun _ => False) wr Z1) := CZ0.out.then hb2
        clear hb2 CZ0
        have hHeld := CZ1.out
        refine wpAnyH_ready (rs := [5]) (by kernel_rfl) (by simp) ?_
        refine AllReadyH.cons (o := { dst := some 42, op := Op.call { callee := Callee.value (Operand.func 14), args := #[Operand.tmp 37, Operand.tmp 41], argTypes := #[27, 42] }, type := 39, pos := "law.go:116", after := #[{ on := 0, ground := Ground.data }, { on := 4, ground := Ground.data }], guard := none }) rfl (fun K hK => ?_) AllReadyH.nil
        go_simp
        refine (narrow_any t (.slice tp tn tc) c Z1 HTK.out HCO.out ((CRow.at CA.out).below (CZ1.out.below _ (Nat.le_refl _) (fun _ _ e => e))) (HK.out.below (BW.out.trans (CZ1.out.below w.heap.size BW.out.size (fun k hk e => e.elim))) h0)).mono ?_
        rintro e Z2 ⟨⟨nv, rfl, hcr⟩, hb2⟩
        rw [← EU.out] at hcr ⊢
        rw [← EER.out]
        obtain ⟨uo, uc, rfl⟩ := hcr.form
        obtain ⟨un, hun⟩ : ∃ un, un = u.cs.length := ⟨_, rfl⟩
        rw [← hun] at hcr ⊢
        have CRu : Hid (CRow 0 Z2 (.slice uo un uc) u.cs) := hcr.mono (Nat.zero_le _)
        clear hcr hun
        replace Rgc : Hid (Z2.heap[gc]? = some (.cells tk0 27 (0, 0))) := (hb2.block _ (block_lt_of_row Rgc.out)).trans Rgc.out
        have CZ2 : Hid (Chg (fun _ => False) wr Z2) := CZ1.out.then hb2
        clear hb2 CZ1
        clear hHeld
        refine hK.out _ _ CZ2.out (fun hHeld => ?_)
        clear hK K
        try simp only [Act.put, List.setIfInBounds_toArray, List.set_cons_zero, List.set_cons_succ]
        refine wpAnyH_take (i := 6) (oi := { dst := some 36, op := Op.move (Operand.tmp 42), type := 39, pos := "law.go:116", after := #[{ on := 5, ground := Ground.data }], guard := none }) (v := ?_) rfl (by kernel_rfl) (by kernel_rfl) (by kernel_rfl) (fun _ _ _ h => h) (Or.inl ⟨by rfl, ?_⟩) (by assumption) ?_
        rotate_left
        · intro w hSw
          clear hSw
          go_simp
          all_goals with_reducible rfl
        simp only [Act.put, List.setIfInBounds_toArray, List.set_cons_zero, List.set_cons_succ]
        refine wpAnyH_take (i := 7) (oi := { dst := some 43, op := Op.extract (Operand.tmp 36) 0, type := 27, pos := "law.go:116", after := #[{ on := 6, ground := Ground.data }], guard := none }) (v := ?_) rfl (by kernel_rfl) (by kernel_rfl) (by kernel_rfl) (fun _ _ _ h => h) (Or.inl ⟨by rfl, ?_⟩) (by assumption) ?_
        rotate_left
        · intro w hSw
          clear hSw
          go_simp
          all_goals with_reducible rfl
        simp only [Act.put, List.setIfInBounds_toArray, List.set_cons_zero, List.set_cons_succ]
        refine wpAnyH_take (i := 8) (oi := { dst := some 44, op := Op.extract (Operand.tmp 36) 1, type := 31, pos := "law.go:116", after := #[{ on := 6, ground := Ground.data }, { on := 10, ground := Ground.gcOnly Departure.lateStores }], guard := none }) (v := ?_) rfl (by kernel_rfl) (by kernel_rfl) (by kernel_rfl) (fun _ _ _ h => h) (Or.inl ⟨by rfl, ?_⟩) (by assumption) ?_
        rotate_left
        · intro w hSw
          clear hSw
          go_simp
          all_goals with_reducible rfl
        simp only [Act.put, List.setIfInBounds_toArray, List.set_cons_zero, List.set_cons_succ]
        refine wpAnyH_ready (rs := [10]) (by kernel_rfl) (by simp) ?_
        obtain ⟨Z3, hst, r6, C6, s6⟩ := store_t (id := u.id) (ao := uo) (n := un) (m := uc) (tag := u.tag) Rgc.out tk0_size HU.out.tl
        refine step_store_as (o := { dst := none, op := Op.store 27 (Operand.tmp 16) (Operand.tmp 43), type := 0, pos := "law.go:116", after := #[{ on := 9, ground := Ground.data }, { on := 7, ground := Ground.data }, { on := 5, ground := Ground.chain }, { on := 0, ground := Ground.phase }, { on := 1, ground := Ground.phase }, { on := 2, ground := Ground.phase }, { on := 3, ground := Ground.phase }, { on := 4, ground := Ground.phase }, { on := 5, ground := Ground.phase }, { on := 6, ground := Ground.phase }, { on := 7, ground := Ground.phase }, { on := 8, ground := Ground.textOnly Departure.lateStores }, { on := 9, ground := Ground.phase }], guard := none }) rfl rfl 27 (.tmp 16) (.tmp 43) rfl _ _ rfl rfl Z3 hst AllReadyH.nil ⟨CZ2.out.trans C6 (fun k hk e => by have := Ggc.out; omega), fun hHeld => ?_⟩
        have CZ3 : Hid (Chg (fun _ => False) wr Z3) := CZ2.out.trans C6 (fun k hk e => by have := Ggc.out; omega)
        replace CRu : Hid (CRow 0 Z3 (.slice uo un uc) u.cs) := CRu.out.chg C6 (fun j e e2 => CRu.out.apart Rgc.out (by decide) (e2 ▸ e))
        replace Rgc : Hid (Z3.heap[gc]? = some (.cells (encT u.id (.slice uo un uc) u.tag).toArray 27 (0, 0))) := r6
        clear hst r6 C6 s6 CZ2
        simp only [Act.put]
        refine wpAnyH_take (i := 11) (oi := { dst := some 17, op := Op.assign (Operand.tmp 44), type := 31, pos := "law.go:116", after := #[{ on := 8, ground := Ground.data }, { on := 10, ground := Ground.chain }, { on := 0, ground := Ground.phase }, { on := 1, ground := Ground.phase }, { on := 2, ground := Ground.phase }, { on := 3, ground := Ground.phase }, { on := 4, ground := Ground.phase }, { on := 5, ground := Ground.phase }, { on := 6, ground := Ground.phase }, { on := 7, ground := Ground.phase }, { on := 8, ground := Ground.phase }, { on := 9, ground := Ground.phase }, { on := 10, ground := Ground.phase }], guard := none }) (v := ?_) rfl (by kernel_rfl) (by kernel_rfl) (by kernel_rfl) (fun _ _ _ h => h) (Or.inl ⟨by rfl, ?_⟩) (by assumption) ?_
        rotate_left
        · intro w hSw
          clear hSw
          go_simp
          all_goals with_reducible rfl
        simp only [Act.put, List.setIfInBounds_toArray, List.set_cons_zero, List.set_cons_succ]
        refine wpAnyH_done (by kernel_rfl) ?_ _
        refine NoPanic.normal ?_
        clear hHeld
        try go_wp2_with fail
        go_meet
        exact ⟨gc, uo, un, uc, rfl, rfl, Ggc.out, Rgc, CRu, CZ3⟩
      case rest =>
        obtain ⟨gc, uo, un, uc, rfl, rfl, hgc, RC, CU, CW⟩ := hcut
        have BW2 := hide (BW.out.trans (CW.out.below w.heap.size BW.out.size (fun k hk e => e.elim)))
        have RA2 := hide (CW.out.row RA.out (fun e => e))
        have CA2 := hide (CA.out.chg CW.out (fun _ _ e => e))
        have HT2 := hide (CW.out.row HT.out (fun e => e))
        have GC := hide (show ga < gc by have := block_lt_of_row RA.out; omega)
        clear hgc CW BW RA CA HT HRA HGL
        have HUN := hide (show un = u.cs.length by obtain ⟨_, _, e⟩ := CU.out.form; simp only [Value.slice.injEq] at e; exact e.2.1)
        by_cases he : er = 0
        · subst he
          have GEN := hide (show S.genuine key u = true by rw [EU.out]; exact (S.made_narrow HM.out EER.out.symm).genuine)
          obtain ⟨hU, hhU⟩ : ∃ b, b = S.holds u.cs op tree clock := ⟨_, rfl⟩
          have EHU := hide hhU
          have HHT := hide (show hU = true → S.holds t.cs op tree clock = true from fun e => S.holds_narrow EER.out.symm op tree clock (by rw [← EU.out, ← hhU]; exact e))
          clear hhU H3
          go_upto_region 9 with fail
          go_cut [72] from 54 to 71 (fun s72 wd => s72 = .bool false ∧ Hid (Chg (fun _ => False) wc wd))
          case first =>
            cases hU with
            | true =>
              replace HHT := hide (HHT.out rfl)
              refine wp_region_noPanic ?_
              refine wp_region_held_drew (S := (fun W => Chg (fun _ => False) wc W)) follows ((Chg.refl _ _).drew) (fun hHeld => ?_)
              clear hHeld
              have hHeld : Chg (fun _ => False) wc wc.drew := (Chg.refl _ _).drew
              have CZ0 := hide hHeld
              generalize wc.drew = Z0 at CZ0 hHeld ⊢
              refine wpAnyH_take (i := 1) (oi := { dst := some 55, op := Op.load 27 (Operand.tmp 16), type := 27, pos := "law.go:120", after := #[], guard := none }) (v := .agg (encT u.id (.slice uo un uc) u.tag).toArray) rfl (by kernel_rfl) (by kernel_rfl) (by kernel_rfl) (fun _ _ _ h => h) (yieldsIf_load_mid (by rfl) _ _ rfl gc 0 rfl (encT u.id (.slice uo un uc) u.tag) _ (fun _ hSw => rangeAt_row (hSw.row RC.out (fun e => e))) Tryd.underlying27 rfl (by rw [size_t _ _ _ HU.out.tl, List.size_toArray])) (by assumption) ?_
              simp only [Act.put, List.setIfInBounds_toArray, List.set_cons_zero, List.set_cons_succ]
              refine wpAnyH_ready (rs := [0]) (by kernel_rfl) (by simp) ?_
              refine AllReadyH.cons (o := { dst := some 54, op := Op.call { callee := Callee.value (Operand.func 10), args := #[Operand.const (Value.int IntKind.u8 3)], argTypes := #[5] }, type := 25, pos := "law.go:120", after := #[], guard := none }) rfl (fun K hK => ?_) AllReadyH.nil
              go_simp
              refine (root3.out Z0).mono ?_
              rintro e Z1 ⟨rfl, hb2⟩
              have CZ1 : Hid (Chg (fun _ => False) wc Z1) := CZ0.out.then hb2
              clear hb2 CZ0
              clear hHeld
              refine hK.out _ _ CZ1.out (fun hHeld => ?_)
              clear hK K
              try simp only [Act.put, List.setIfInBounds_toArray, List.set_cons_zero, List.set_cons_succ]
              refine wpAnyH_ready (rs := [2]) (by kernel_rfl) (by simp) ?_
              refine AllReadyH.cons (o := { dst := some 56, op := Op.call { callee := Callee.value (Operand.func 16), args := #[Operand.tmp 54, Operand.tmp 55], argTypes := #[25, 27] }, type := 4, pos := "law.go:120", after := #[{ on := 0, ground := Ground.data }, { on := 1, ground := Ground.data }, { on := 0, ground := Ground.chain }], guard := none }) rfl (fun K hK => ?_) AllReadyH.nil
              go_simp
              refine (genuine_any key u (.slice uo un uc) Z1 HKEY.out HU.out ((CRow.at CU.out).below (CZ1.out.below _ (Nat.le_refl _) (fun _ _ e => e))) (HK.out.below (BW2.out.trans (CZ1.out.below w.heap.size BW2.out.size (fun k hk e => by omega))) h0)).mono ?_
              rintro e Z2 ⟨rfl, hb2⟩
              rw [GEN.out]
              have CZ2 : Hid (Chg (fun _ => False) wc Z2) := CZ1.out.then hb2
              clear hb2 CZ1
              clear hHeld
              refine hK.out _ _ CZ2.out (fun hHeld => ?_)
              clear hK K
              try simp only [Act.put, List.setIfInBounds_toArray, List.set_cons_zero, List.set_cons_succ]
              refine wpAnyH_take (i := 3) (oi := { dst := some 57, op := Op.unOp UnOp.not 4 (Operand.tmp 56), type := 4, pos := "law.go:120", after := #[{ on := 2, ground := Ground.data }], guard := none }) (v := ?_) rfl (by kernel_rfl) (by kernel_rfl) (by kernel_rfl) (fun _ _ _ h => h) (Or.inl ⟨by rfl, ?_⟩) (by assumption) ?_
              rotate_left
              · intro w hSw
                clear hSw
                go_simp
                all_goals with_reducible rfl
              simp only [Act.put, List.setIfInBounds_toArray, List.set_cons_zero, List.set_cons_succ]
              refine wpAnyH_take (i := 4) (oi := { dst := some 58, op := Op.move (Operand.tmp 57), type := 4, pos := "law.go:120", after := #[{ on := 3, ground := Ground.data }, { on := 2, ground := Ground.chain }], guard := none }) (v := ?_) rfl (by kernel_rfl) (by kernel_rfl) (by kernel_rfl) (fun _ _ _ h => h) (Or.inl ⟨by rfl, ?_⟩) (by assumption) ?_
              rotate_left
              · intro w hSw
                clear hSw
                go_simp
                all_goals with_reducible rfl
              simp only [Act.put, List.setIfInBounds_toArray, List.set_cons_zero, List.set_cons_succ]
              refine wpAnyH_take (i := 5) (oi := { dst := some 59, op := Op.load 27 (Operand.tmp 16), type := 27, pos := "law.go:120", after := #[{ on := 4, ground := Ground.guard }], guard := some (4, false) }) (v := .agg (encT u.id (.slice uo un uc) u.tag).toArray) rfl (by kernel_rfl) (by kernel_rfl) (by kernel_rfl) (fun _ _ _ h => h) (yieldsIf_load_mid (by rfl) _ _ rfl gc 0 rfl (encT u.id (.slice uo un uc) u.tag) _ (fun _ hSw => rangeAt_row (hSw.row RC.out (fun e => e))) Tryd.underlying27 rfl (by rw [size_t _ _ _ HU.out.tl, List.size_toArray])) (by assumption) ?_
              simp only [Act.put, List.setIfInBounds_toArray, List.set_cons_zero, List.set_cons_succ]
              refine wpAnyH_take (i := 6) (oi := { dst := some 60, op := Op.move (Operand.tmp 2), type := 3, pos := "law.go:120", after := #[{ on := 4, ground := Ground.guard }], guard := some (4, false) }) (v := ?_) rfl (by kernel_rfl) (by kernel_rfl) (by kernel_rfl) (fun _ _ _ h => h) (Or.inl ⟨by rfl, ?_⟩) (by assumption) ?_
              rotate_left
              · intro w hSw
                clear hSw
                go_simp
                all_goals with_reducible rfl
              simp only [Act.put, List.setIfInBounds_toArray, List.set_cons_zero, List.set_cons_succ]
              refine wpAnyH_take (i := 7) (oi := { dst := some 61, op := Op.move (Operand.tmp 3), type := 3, pos := "law.go:120", after := #[{ on := 4, ground := Ground.guard }], guard := some (4, false) }) (v := ?_) rfl (by kernel_rfl) (by kernel_rfl) (by kernel_rfl) (fun _ _ _ h => h) (Or.inl ⟨by rfl, ?_⟩) (by assumption) ?_
              rotate_left
              · intro w hSw
                clear hSw
                go_simp
                all_goals with_reducible rfl
              simp only [Act.put, List.setIfInBounds_toArray, List.set_cons_zero, List.set_cons_succ]
              refine wpAnyH_take (i := 8) (oi := { dst := some 62, op := Op.move (Operand.tmp 4), type := 46, pos := "law.go:120", after := #[{ on := 4, ground := Ground.guard }], guard := some (4, false) }) (v := ?_) rfl (by kernel_rfl) (by kernel_rfl) (by kernel_rfl) (fun _ _ _ h => h) (Or.inl ⟨by rfl, ?_⟩) (by assumption) ?_
              rotate_left
              · intro w hSw
                clear hSw
                go_simp
                all_goals with_reducible rfl
              simp only [Act.put, List.setIfInBounds_toArray, List.set_cons_zero, List.set_cons_succ]
              refine wpAnyH_ready (rs := [9]) (by kernel_rfl) (by simp) ?_
              refine AllReadyH.cons (o := { dst := some 63, op := Op.call { callee := Callee.value (Operand.func 17), args := #[Operand.tmp 59, Operand.tmp 60, Operand.tmp 61, Operand.tmp 62], argTypes := #[27, 3, 3, 46] }, type := 4, pos := "law.go:120", after := #[{ on := 5, ground := Ground.data }, { on := 6, ground := Ground.data }, { on := 7, ground := Ground.data }, { on := 8, ground := Ground.data }, { on := 4, ground := Ground.chain }, { on := 4, ground := Ground.guard }], guard := some (4, false) }) rfl (fun K hK => ?_) AllReadyH.nil
              go_simp
              refine (holds_any u (.slice uo un uc) op tree clock Z2 HU.out ((CRow.at CU.out).below (CZ2.out.below _ (Nat.le_refl _) (fun _ _ e => e)))).mono ?_
              rintro e Z3 ⟨rfl, hb2⟩
              rw [← EHU.out]
              have CZ3 : Hid (Chg (fun _ => False) wc Z3) := CZ2.out.then hb2
              clear hb2 CZ2
              clear hHeld
              refine hK.out _ _ CZ3.out (fun hHeld => ?_)
              clear hK K
              try simp only [Act.put, List.setIfInBounds_toArray, List.set_cons_zero, List.set_cons_succ]
              refine wpAnyH_take (i := 10) (oi := { dst := some 64, op := Op.move (Operand.tmp 63), type := 4, pos := "law.go:120", after := #[{ on := 9, ground := Ground.data }, { on := 9, ground := Ground.chain }, { on := 4, ground := Ground.guard }], guard := some (4, false) }) (v := ?_) rfl (by kernel_rfl) (by kernel_rfl) (by kernel_rfl) (fun _ _ _ h => h) (Or.inl ⟨by rfl, ?_⟩) (by assumption) ?_
              rotate_left
              · intro w hSw
                clear hSw
                go_simp
                all_goals with_reducible rfl
              simp only [Act.put, List.setIfInBounds_toArray, List.set_cons_zero, List.set_cons_succ]
              refine wpAnyH_take (i := 11) (oi := { dst := some 65, op := Op.load 27 (Operand.tmp 14), type := 27, pos := "law.go:120", after := #[{ on := 10, ground := Ground.guard }], guard := some (10, true) }) (v := .agg (encT t.id (.slice tp tn tc) t.tag).toArray) rfl (by kernel_rfl) (by kernel_rfl) (by kernel_rfl) (fun _ _ _ h => h) (yieldsIf_load_mid (by rfl) _ _ rfl ga 0 rfl (encT t.id (.slice tp tn tc) t.tag) _ (fun _ hSw => rangeAt_row (hSw.row RA2.out (fun e => e))) Tryd.underlying27 rfl (by rw [size_t _ _ _ HTK.out.tl, List.size_toArray])) (by assumption) ?_
              simp only [Act.put, List.setIfInBounds_toArray, List.set_cons_zero, List.set_cons_succ]
              refine wpAnyH_take (i := 12) (oi := { dst := some 66, op := Op.move (Operand.tmp 2), type := 3, pos := "law.go:120", after := #[{ on := 10, ground := Ground.guard }], guard := some (10, true) }) (v := ?_) rfl (by kernel_rfl) (by kernel_rfl) (by kernel_rfl) (fun _ _ _ h => h) (Or.inl ⟨by rfl, ?_⟩) (by assumption) ?_
              rotate_left
              · intro w hSw
                clear hSw
                go_simp
                all_goals with_reducible rfl
              simp only [Act.put, List.setIfInBounds_toArray, List.set_cons_zero, List.set_cons_succ]
              refine wpAnyH_take (i := 13) (oi := { dst := some 67, op := Op.move (Operand.tmp 3), type := 3, pos := "law.go:120", after := #[{ on := 10, ground := Ground.guard }], guard := some (10, true) }) (v := ?_) rfl (by kernel_rfl) (by kernel_rfl) (by kernel_rfl) (fun _ _ _ h => h) (Or.inl ⟨by rfl, ?_⟩) (by assumption) ?_
              rotate_left
              · intro w hSw
                clear hSw
                go_simp
                all_goals with_reducible rfl
              simp only [Act.put, List.setIfInBounds_toArray, List.set_cons_zero, List.set_cons_succ]
              refine wpAnyH_take (i := 14) (oi := { dst := some 68, op := Op.move (Operand.tmp 4), type := 46, pos := "law.go:120", after := #[{ on := 10, ground := Ground.guard }], guard := some (10, true) }) (v := ?_) rfl (by kernel_rfl) (by kernel_rfl) (by kernel_rfl) (fun _ _ _ h => h) (Or.inl ⟨by rfl, ?_⟩) (by assumption) ?_
              rotate_left
              · intro w hSw
                clear hSw
                go_simp
                all_goals with_reducible rfl
              simp only [Act.put, List.setIfInBounds_toArray, List.set_cons_zero, List.set_cons_succ]
              refine wpAnyH_ready (rs := [15]) (by kernel_rfl) (by simp) ?_
              refine AllReadyH.cons (o := { dst := some 69, op := Op.call { callee := Callee.value (Operand.func 17), args := #[Operand.tmp 65, Operand.tmp 66, Operand.tmp 67, Operand.tmp 68], argTypes := #[27, 3, 3, 46] }, type := 4, pos := "law.go:120", after := #[{ on := 11, ground := Ground.data }, { on := 12, ground := Ground.data }, { on := 13, ground := Ground.data }, { on := 14, ground := Ground.data }, { on := 10, ground := Ground.chain }, { on := 10, ground := Ground.guard }], guard := some (10, true) }) rfl (fun K hK => ?_) AllReadyH.nil
              go_simp
              refine (holds_any t (.slice tp tn tc) op tree clock Z3 HTK.out ((CRow.at CA2.out).below (CZ3.out.below _ (Nat.le_refl _) (fun _ _ e => e)))).mono ?_
              rintro e Z4 ⟨rfl, hb2⟩
              rw [HHT.out]
              have CZ4 : Hid (Chg (fun _ => False) wc Z4) := CZ3.out.then hb2
              clear hb2 CZ3
              clear hHeld
              refine hK.out _ _ CZ4.out (fun hHeld => ?_)
              clear hK K
              try simp only [Act.put, List.setIfInBounds_toArray, List.set_cons_zero, List.set_cons_succ]
              refine wpAnyH_take (i := 16) (oi := { dst := some 70, op := Op.unOp UnOp.not 4 (Operand.tmp 69), type := 4, pos := "law.go:120", after := #[{ on := 15, ground := Ground.data }, { on := 10, ground := Ground.guard }], guard := some (10, true) }) (v := ?_) rfl (by kernel_rfl) (by kernel_rfl) (by kernel_rfl) (fun _ _ _ h => h) (Or.inl ⟨by rfl, ?_⟩) (by assumption) ?_
              rotate_left
              · intro w hSw
                clear hSw
                go_simp
                all_goals with_reducible rfl
              simp only [Act.put, List.setIfInBounds_toArray, List.set_cons_zero, List.set_cons_succ]
              refine wpAnyH_take (i := 17) (oi := { dst := some 71, op := Op.pick (Operand.tmp 64) (Operand.tmp 70) (Operand.const (Value.bool false)), type := 4, pos := "law.go:120", after := #[{ on := 10, ground := Ground.data }, { on := 16, ground := Ground.data }, { on := 4, ground := Ground.guard }], guard := some (4, false) }) (v := ?_) rfl (by kernel_rfl) (by kernel_rfl) (by kernel_rfl) (fun _ _ _ h => h) (Or.inl ⟨by rfl, ?_⟩) (by assumption) ?_
              rotate_left
              · intro w hSw
                clear hSw
                go_simp
                all_goals with_reducible rfl
              simp only [Act.put, List.setIfInBounds_toArray, List.set_cons_zero, List.set_cons_succ]
              refine wpAnyH_take (i := 18) (oi := { dst := some 72, op := Op.pick (Operand.tmp 58) (Operand.const (Value.bool true)) (Operand.tmp 71), type := 4, pos := "law.go:120", after := #[{ on := 4, ground := Ground.data }, { on := 17, ground := Ground.data }], guard := none }) (v := ?_) rfl (by kernel_rfl) (by kernel_rfl) (by kernel_rfl) (fun _ _ _ h => h) (Or.inl ⟨by rfl, ?_⟩) (by assumption) ?_
              rotate_left
              · intro w hSw
                clear hSw
                go_simp
                all_goals with_reducible rfl
              simp only [Act.put, List.setIfInBounds_toArray, List.set_cons_zero, List.set_cons_succ]
              refine wpAnyH_done (by kernel_rfl) ?_ _
              refine NoPanic.normal ?_
              clear hHeld
              try go_wp2_with fail
              go_meet
              exact ⟨rfl, CZ4⟩
            | false =>
              clear HHT
              refine wp_region_noPanic ?_
              refine wp_region_held_drew (S := (fun W => Chg (fun _ => False) wc W)) follows ((Chg.refl _ _).drew) (fun hHeld => ?_)
              clear hHeld
              have hHeld : Chg (fun _ => False) wc wc.drew := (Chg.refl _ _).drew
              have CZ0 := hide hHeld
              generalize wc.drew = Z0 at CZ0 hHeld ⊢
              refine wpAnyH_take (i := 1) (oi := { dst := some 55, op := Op.load 27 (Operand.tmp 16), type := 27, pos := "law.go:120", after := #[], guard := none }) (v := .agg (encT u.id (.slice uo un uc) u.tag).toArray) rfl (by kernel_rfl) (by kernel_rfl) (by kernel_rfl) (fun _ _ _ h => h) (yieldsIf_load_mid (by rfl) _ _ rfl gc 0 rfl (encT u.id (.slice uo un uc) u.tag) _ (fun _ hSw => rangeAt_row (hSw.row RC.out (fun e => e))) Tryd.underlying27 rfl (by rw [size_t _ _ _ HU.out.tl, List.size_toArray])) (by assumption) ?_
              simp only [Act.put, List.setIfInBounds_toArray, List.set_cons_zero, List.set_cons_succ]
              refine wpAnyH_ready (rs := [0]) (by kernel_rfl) (by simp) ?_
              refine AllReadyH.cons (o := { dst := some 54, op := Op.call { callee := Callee.value (Operand.func 10), args := #[Operand.const (Value.int IntKind.u8 3)], argTypes := #[5] }, type := 25, pos := "law.go:120", after := #[], guard := none }) rfl (fun K hK => ?_) AllReadyH.nil
              go_simp
              refine (root3.out Z0).mono ?_
              rintro e Z1 ⟨rfl, hb2⟩
              have CZ1 : Hid (Chg (fun _ => False) wc Z1) := CZ0.out.then hb2
              clear hb2 CZ0
              clear hHeld
              refine hK.out _ _ CZ1.out (fun hHeld => ?_)
              clear hK K
              try simp only [Act.put, List.setIfInBounds_toArray, List.set_cons_zero, List.set_cons_succ]
              refine wpAnyH_ready (rs := [2]) (by kernel_rfl) (by simp) ?_
              refine AllReadyH.cons (o := { dst := some 56, op := Op.call { callee := Callee.value (Operand.func 16), args := #[Operand.tmp 54, Operand.tmp 55], argTypes := #[25, 27] }, type := 4, pos := "law.go:120", after := #[{ on := 0, ground := Ground.data }, { on := 1, ground := Ground.data }, { on := 0, ground := Ground.chain }], guard := none }) rfl (fun K hK => ?_) AllReadyH.nil
              go_simp
              refine (genuine_any key u (.slice uo un uc) Z1 HKEY.out HU.out ((CRow.at CU.out).below (CZ1.out.below _ (Nat.le_refl _) (fun _ _ e => e))) (HK.out.below (BW2.out.trans (CZ1.out.below w.heap.size BW2.out.size (fun k hk e => by omega))) h0)).mono ?_
              rintro e Z2 ⟨rfl, hb2⟩
              rw [GEN.out]
              have CZ2 : Hid (Chg (fun _ => False) wc Z2) := CZ1.out.then hb2
              clear hb2 CZ1
              clear hHeld
              refine hK.out _ _ CZ2.out (fun hHeld => ?_)
              clear hK K
              try simp only [Act.put, List.setIfInBounds_toArray, List.set_cons_zero, List.set_cons_succ]
              refine wpAnyH_take (i := 3) (oi := { dst := some 57, op := Op.unOp UnOp.not 4 (Operand.tmp 56), type := 4, pos := "law.go:120", after := #[{ on := 2, ground := Ground.data }], guard := none }) (v := ?_) rfl (by kernel_rfl) (by kernel_rfl) (by kernel_rfl) (fun _ _ _ h => h) (Or.inl ⟨by rfl, ?_⟩) (by assumption) ?_
              rotate_left
              · intro w hSw
                clear hSw
                go_simp
                all_goals with_reducible rfl
              simp only [Act.put, List.setIfInBounds_toArray, List.set_cons_zero, List.set_cons_succ]
              refine wpAnyH_take (i := 4) (oi := { dst := some 58, op := Op.move (Operand.tmp 57), type := 4, pos := "law.go:120", after := #[{ on := 3, ground := Ground.data }, { on := 2, ground := Ground.chain }], guard := none }) (v := ?_) rfl (by kernel_rfl) (by kernel_rfl) (by kernel_rfl) (fun _ _ _ h => h) (Or.inl ⟨by rfl, ?_⟩) (by assumption) ?_
              rotate_left
              · intro w hSw
                clear hSw
                go_simp
                all_goals with_reducible rfl
              simp only [Act.put, List.setIfInBounds_toArray, List.set_cons_zero, List.set_cons_succ]
              refine wpAnyH_take (i := 5) (oi := { dst := some 59, op := Op.load 27 (Operand.tmp 16), type := 27, pos := "law.go:120", after := #[{ on := 4, ground := Ground.guard }], guard := some (4, false) }) (v := .agg (encT u.id (.slice uo un uc) u.tag).toArray) rfl (by kernel_rfl) (by kernel_rfl) (by kernel_rfl) (fun _ _ _ h => h) (yieldsIf_load_mid (by rfl) _ _ rfl gc 0 rfl (encT u.id (.slice uo un uc) u.tag) _ (fun _ hSw => rangeAt_row (hSw.row RC.out (fun e => e))) Tryd.underlying27 rfl (by rw [size_t _ _ _ HU.out.tl, List.size_toArray])) (by assumption) ?_
              simp only [Act.put, List.setIfInBounds_toArray, List.set_cons_zero, List.set_cons_succ]
              refine wpAnyH_take (i := 6) (oi := { dst := some 60, op := Op.move (Operand.tmp 2), type := 3, pos := "law.go:120", after := #[{ on := 4, ground := Ground.guard }], guard := some (4, false) }) (v := ?_) rfl (by kernel_rfl) (by kernel_rfl) (by kernel_rfl) (fun _ _ _ h => h) (Or.inl ⟨by rfl, ?_⟩) (by assumption) ?_
              rotate_left
              · intro w hSw
                clear hSw
                go_simp
                all_goals with_reducible rfl
              simp only [Act.put, List.setIfInBounds_toArray, List.set_cons_zero, List.set_cons_succ]
              refine wpAnyH_take (i := 7) (oi := { dst := some 61, op := Op.move (Operand.tmp 3), type := 3, pos := "law.go:120", after := #[{ on := 4, ground := Ground.guard }], guard := some (4, false) }) (v := ?_) rfl (by kernel_rfl) (by kernel_rfl) (by kernel_rfl) (fun _ _ _ h => h) (Or.inl ⟨by rfl, ?_⟩) (by assumption) ?_
              rotate_left
              · intro w hSw
                clear hSw
                go_simp
                all_goals with_reducible rfl
              simp only [Act.put, List.setIfInBounds_toArray, List.set_cons_zero, List.set_cons_succ]
              refine wpAnyH_take (i := 8) (oi := { dst := some 62, op := Op.move (Operand.tmp 4), type := 46, pos := "law.go:120", after := #[{ on := 4, ground := Ground.guard }], guard := some (4, false) }) (v := ?_) rfl (by kernel_rfl) (by kernel_rfl) (by kernel_rfl) (fun _ _ _ h => h) (Or.inl ⟨by rfl, ?_⟩) (by assumption) ?_
              rotate_left
              · intro w hSw
                clear hSw
                go_simp
                all_goals with_reducible rfl
              simp only [Act.put, List.setIfInBounds_toArray, List.set_cons_zero, List.set_cons_succ]
              refine wpAnyH_ready (rs := [9]) (by kernel_rfl) (by simp) ?_
              refine AllReadyH.cons (o := { dst := some 63, op := Op.call { callee := Callee.value (Operand.func 17), args := #[Operand.tmp 59, Operand.tmp 60, Operand.tmp 61, Operand.tmp 62], argTypes := #[27, 3, 3, 46] }, type := 4, pos := "law.go:120", after := #[{ on := 5, ground := Ground.data }, { on := 6, ground := Ground.data }, { on := 7, ground := Ground.data }, { on := 8, ground := Ground.data }, { on := 4, ground := Ground.chain }, { on := 4, ground := Ground.guard }], guard := some (4, false) }) rfl (fun K hK => ?_) AllReadyH.nil
              go_simp
              refine (holds_any u (.slice uo un uc) op tree clock Z2 HU.out ((CRow.at CU.out).below (CZ2.out.below _ (Nat.le_refl _) (fun _ _ e => e)))).mono ?_
              rintro e Z3 ⟨rfl, hb2⟩
              rw [← EHU.out]
              have CZ3 : Hid (Chg (fun _ => False) wc Z3) := CZ2.out.then hb2
              clear hb2 CZ2
              clear hHeld
              refine hK.out _ _ CZ3.out (fun hHeld => ?_)
              clear hK K
              try simp only [Act.put, List.setIfInBounds_toArray, List.set_cons_zero, List.set_cons_succ]
              refine wpAnyH_take (i := 10) (oi := { dst := some 64, op := Op.move (Operand.tmp 63), type := 4, pos := "law.go:120", after := #[{ on := 9, ground := Ground.data }, { on := 9, ground := Ground.chain }, { on := 4, ground := Ground.guard }], guard := some (4, false) }) (v := ?_) rfl (by kernel_rfl) (by kernel_rfl) (by kernel_rfl) (fun _ _ _ h => h) (Or.inl ⟨by rfl, ?_⟩) (by assumption) ?_
              rotate_left
              · intro w hSw
                clear hSw
                go_simp
                all_goals with_reducible rfl
              simp only [Act.put, List.setIfInBounds_toArray, List.set_cons_zero, List.set_cons_succ]
              refine wpAnyH_take (i := 11) (oi := { dst := some 65, op := Op.load 27 (Operand.tmp 14), type := 27, pos := "law.go:120", after := #[{ on := 10, ground := Ground.guard }], guard := some (10, true) }) (v := undef) rfl (by kernel_rfl) (by kernel_rfl) (by kernel_rfl) (fun _ _ _ h => h) (Or.inr ⟨by rfl, rfl⟩) (by assumption) ?_
              simp only [Act.put, List.setIfInBounds_toArray, List.set_cons_zero, List.set_cons_succ]
              refine wpAnyH_take (i := 12) (oi := { dst := some 66, op := Op.move (Operand.tmp 2), type := 3, pos := "law.go:120", after := #[{ on := 10, ground := Ground.guard }], guard := some (10, true) }) (v := undef) rfl (by kernel_rfl) (by kernel_rfl) (by kernel_rfl) (fun _ _ _ h => h) (Or.inr ⟨by rfl, rfl⟩) (by assumption) ?_
              simp only [Act.put, List.setIfInBounds_toArray, List.set_cons_zero, List.set_cons_succ]
              refine wpAnyH_take (i := 13) (oi := { dst := some 67, op := Op.move (Operand.tmp 3), type := 3, pos := "law.go:120", after := #[{ on := 10, ground := Ground.guard }], guard := some (10, true) }) (v := undef) rfl (by kernel_rfl) (by kernel_rfl) (by kernel_rfl) (fun _ _ _ h => h) (Or.inr ⟨by rfl, rfl⟩) (by assumption) ?_
              simp only [Act.put, List.setIfInBounds_toArray, List.set_cons_zero, List.set_cons_succ]
              refine wpAnyH_take (i := 14) (oi := { dst := some 68, op := Op.move (Operand.tmp 4), type := 46, pos := "law.go:120", after := #[{ on := 10, ground := Ground.guard }], guard := some (10, true) }) (v := undef) rfl (by kernel_rfl) (by kernel_rfl) (by kernel_rfl) (fun _ _ _ h => h) (Or.inr ⟨by rfl, rfl⟩) (by assumption) ?_
              simp only [Act.put, List.setIfInBounds_toArray, List.set_cons_zero, List.set_cons_succ]
              refine wpAnyH_take (i := 15) (oi := { dst := some 69, op := Op.call { callee := Callee.value (Operand.func 17), args := #[Operand.tmp 65, Operand.tmp 66, Operand.tmp 67, Operand.tmp 68], argTypes := #[27, 3, 3, 46] }, type := 4, pos := "law.go:120", after := #[{ on := 11, ground := Ground.data }, { on := 12, ground := Ground.data }, { on := 13, ground := Ground.data }, { on := 14, ground := Ground.data }, { on := 10, ground := Ground.chain }, { on := 10, ground := Ground.guard }], guard := some (10, true) }) (v := undef) rfl (by kernel_rfl) (by kernel_rfl) (by kernel_rfl) (fun _ _ _ h => h) (Or.inr ⟨by rfl, rfl⟩) (by assumption) ?_
              simp only [Act.put, List.setIfInBounds_toArray, List.set_cons_zero, List.set_cons_succ]
              refine wpAnyH_take (i := 16) (oi := { dst := some 70, op := Op.unOp UnOp.not 4 (Operand.tmp 69), type := 4, pos := "law.go:120", after := #[{ on := 15, ground := Ground.data }, { on := 10, ground := Ground.guard }], guard := some (10, true) }) (v := undef) rfl (by kernel_rfl) (by kernel_rfl) (by kernel_rfl) (fun _ _ _ h => h) (Or.inr ⟨by rfl, rfl⟩) (by assumption) ?_
              simp only [Act.put, List.setIfInBounds_toArray, List.set_cons_zero, List.set_cons_succ]
              refine wpAnyH_take (i := 17) (oi := { dst := some 71, op := Op.pick (Operand.tmp 64) (Operand.tmp 70) (Operand.const (Value.bool false)), type := 4, pos := "law.go:120", after := #[{ on := 10, ground := Ground.data }, { on := 16, ground := Ground.data }, { on := 4, ground := Ground.guard }], guard := some (4, false) }) (v := ?_) rfl (by kernel_rfl) (by kernel_rfl) (by kernel_rfl) (fun _ _ _ h => h) (Or.inl ⟨by rfl, ?_⟩) (by assumption) ?_
              rotate_left
              · intro w hSw
                clear hSw
                go_simp
                all_goals with_reducible rfl
              simp only [Act.put, List.setIfInBounds_toArray, List.set_cons_zero, List.set_cons_succ]
              refine wpAnyH_take (i := 18) (oi := { dst := some 72, op := Op.pick (Operand.tmp 58) (Operand.const (Value.bool true)) (Operand.tmp 71), type := 4, pos := "law.go:120", after := #[{ on := 4, ground := Ground.data }, { on := 17, ground := Ground.data }], guard := none }) (v := ?_) rfl (by kernel_rfl) (by kernel_rfl) (by kernel_rfl) (fun _ _ _ h => h) (Or.inl ⟨by rfl, ?_⟩) (by assumption) ?_
              rotate_left
              · intro w hSw
                clear hSw
                go_simp
                all_goals with_reducible rfl
              simp only [Act.put, List.setIfInBounds_toArray, List.set_cons_zero, List.set_cons_succ]
              refine wpAnyH_done (by kernel_rfl) ?_ _
              refine NoPanic.normal ?_
              clear hHeld
              try go_wp2_with fail
              go_meet
              exact ⟨rfl, CZ3⟩
          case rest =>
            obtain ⟨rfl, CW⟩ := hcut
            clear HHT EHU GEN hU
            have RA3 := hide (CW.out.row RA2.out (fun e => e))
            have RC3 := hide (CW.out.row RC.out (fun e => e))
            have CU3 := hide (CU.out.chg CW.out (fun _ _ e => e))
            have HT3 := hide (CW.out.row HT2.out (fun e => e))
            have BW3 := hide (BW2.out.trans (CW.out.below w.heap.size BW2.out.size (fun k hk e => e.elim)))
            clear RA2 RC CU HT2 BW2 CW CA2
            have hmd := S.made_narrow HM.out EER.out.symm
            rw [← EU.out] at hmd
            have HM2 := hide hmd
            have HU4 := hide (show u.cs.length ≤ 4 by rw [EU.out]; exact S.narrow_len EER.out.symm)
            obtain ⟨w7, hs7, hr7, k7, -⟩ := store_t (id := u.id) (ao := uo) (n := un) (m := uc) (tag := u.tag) RA3.out (by rw [List.size_toArray, encT_length _ _ _ HTK.out.tl]) HU.out.tl
            have ld1 := load_t RC3.out HU.out.tl
            have RA5 := hide hr7
            have HT5 := hide (k7.row HT3.out (by have := GA.out; omega))
            have CU5 := hide (CU3.out.chg k7 (fun j e e2 => CU3.out.apart RA3.out (by decide) (e2 ▸ e)))
            have BW5 := hide (BW3.out.trans (k7.below w.heap.size BW3.out.size (fun k hk e => by have := GA.out; have := GT.out; omega)))
            clear hr7 k7 hmd RA3 RC3 CU3 HT3 BW3
            go_wp2_with (first | (with_reducible refine at_op { dst := some 73, op := Op.load 27 (Operand.tmp 16), type := 27, pos := "law.go:123", after := #[], guard := none } ?_; refine wpList_load_as rfl 27 (.tmp 16) rfl (.pointer (some ⟨gc, 0, none⟩)) rfl (.agg (encT u.id (.slice uo un uc) u.tag).toArray) ld1 ?_) | (with_reducible refine at_op { dst := none, op := Op.store 27 (Operand.tmp 14) (Operand.tmp 73), type := 0, pos := "law.go:123", after := #[{ on := 0, ground := Ground.data }, { on := 0, ground := Ground.phase }], guard := none } ?_; refine wpList_store_as rfl 27 (.tmp 14) (.tmp 73) rfl (.pointer (some ⟨ga, 0, none⟩)) (.agg (encT u.id (.slice uo un uc) u.tag).toArray) rfl rfl w7 hs7 ?_))
            go_roundw
            case rel => exact ⟨i + 1, u, uo, un, uc, by omega, by first | rfl | simp, HM2, HU, HU4, RA5, CU5, HT5, BW5⟩
            case measure => simp [intOf]; omega
        · have hu0 : un = 0 := by rw [HUN.out, EU.out, S.narrow_no (by rw [← EER.out]; exact he)]; rfl
          subst hu0
          obtain ⟨c0, c1⟩ := t_cells RC.out
          have h3 : er = 1 ∨ er = 4 := by rcases H3.out with h | h | h; exact absurd h he; exact Or.inl h; exact Or.inr h
          clear H3 he
          rcases h3 with rfl | rfl
          all_goals
            go_wp2_with fail
            refine (known_any wc (HK.out.below BW2.out h0)).mono ?_
            rintro e w6 ⟨rfl, hb6⟩
            have BF := hide (BW2.out.trans (hb6.mono BW2.out.size))
            go_wp2_with fail
            go_ret
            exact ⟨rfl, BF.out⟩
    · go_upto_region 4 with fail
      go_cut [33] from 26 to 32 (fun s33 wc => wr = wc ∧ s33 = .bool false)
      case first =>
        by_cases hA : i < ln
        · have q1 : (i : Int) < (ln : Int) := by omega
          have q2 : ¬ (i : Int) < 4 := by omega
          clear hgo hA
          go_wp2_with fail
          go_meet
          exact ⟨rfl, rfl⟩
        · have q1 : ¬ (i : Int) < (ln : Int) := by omega
          clear hgo hA
          go_wp2_with fail
          go_meet
          exact ⟨rfl, rfl⟩
      case rest =>
      obtain ⟨rfl, rfl⟩ := hcut
      clear hgo hi4
      have HTN := hide (show tn = t.cs.length by obtain ⟨_, _, e⟩ := CA.out.form; simp only [Value.slice.injEq] at e; exact e.2.1)
      obtain ⟨c0, c1⟩ := t_cells RA.out
      by_cases hz : tn = 0
      · have qz : ((tn : Int) == 0) = true := by rw [hz]; rfl
        subst hz
        have GEN := hide (HM.out.genuine)
        obtain ⟨g4, hg4⟩ : ∃ b, b = S.genuine key4 t := ⟨_, rfl⟩
        have EG4 := hide hg4
        clear hg4
        go_upto_region 14 with fail
        clear c0 c1 qz
        obtain ⟨w5, hw5⟩ : ∃ w5, w5 = wr := ⟨_, rfl⟩
        rw [← hw5] at RA CA HT BW ⊢
        clear hw5
        refine wp_region_noPanic ?_
        refine wp_region_held_drew (S := (fun W => Chg (fun _ => False) w5 W)) follows ((Chg.refl _ _).drew) (fun hHeld => ?_)
        clear hHeld
        have hHeld : Chg (fun _ => False) w5 w5.drew := (Chg.refl _ _).drew
        have CZ0 := hide hHeld
        generalize w5.drew = Z0 at CZ0 hHeld ⊢
        refine wpAnyH_take (i := 1) (oi := { dst := some 80, op := Op.load 27 (Operand.tmp 14), type := 27, pos := "law.go:127", after := #[], guard := none }) (v := .agg (encT t.id (.slice tp 0 tc) t.tag).toArray) rfl (by kernel_rfl) (by kernel_rfl) (by kernel_rfl) (fun _ _ _ h => h) (yieldsIf_load_mid (by rfl) _ _ rfl ga 0 rfl (encT t.id (.slice tp 0 tc) t.tag) _ (fun _ hSw => rangeAt_row (hSw.row RA.out (fun e => e))) Tryd.underlying27 rfl (by rw [size_t _ _ _ HTK.out.tl, List.size_toArray])) (by assumption) ?_
        simp only [Act.put, List.setIfInBounds_toArray, List.set_cons_zero, List.set_cons_succ]
        refine wpAnyH_ready (rs := [0]) (by kernel_rfl) (by simp) ?_
        refine AllReadyH.cons (o := { dst := some 79, op := Op.call { callee := Callee.value (Operand.func 10), args := #[Operand.const (Value.int IntKind.u8 3)], argTypes := #[5] }, type := 25, pos := "law.go:127", after := #[], guard := none }) rfl (fun K hK => ?_) AllReadyH.nil
        go_simp
        refine (root3.out Z0).mono ?_
        rintro e Z1 ⟨rfl, hb2⟩
        have CZ1 : Hid (Chg (fun _ => False) w5 Z1) := CZ0.out.then hb2
        clear hb2 CZ0
        clear hHeld
        refine hK.out _ _ CZ1.out (fun hHeld => ?_)
        clear hK K
        try simp only [Act.put, List.setIfInBounds_toArray, List.set_cons_zero, List.set_cons_succ]
        refine wpAnyH_ready (rs := [2]) (by kernel_rfl) (by simp) ?_
        refine AllReadyH.cons (o := { dst := some 81, op := Op.call { callee := Callee.value (Operand.func 16), args := #[Operand.tmp 79, Operand.tmp 80], argTypes := #[25, 27] }, type := 4, pos := "law.go:127", after := #[{ on := 0, ground := Ground.data }, { on := 1, ground := Ground.data }, { on := 0, ground := Ground.chain }], guard := none }) rfl (fun K hK => ?_) AllReadyH.nil
        go_simp
        refine (genuine_any key t (.slice tp 0 tc) Z1 HKEY.out HTK.out ((CRow.at CA.out).below (CZ1.out.below _ (Nat.le_refl _) (fun _ _ e => e))) (HK.out.below (BW.out.trans (CZ1.out.below w.heap.size BW.out.size (fun k hk e => by omega))) h0)).mono ?_
        rintro e Z2 ⟨rfl, hb2⟩
        rw [GEN.out]
        have CZ2 : Hid (Chg (fun _ => False) w5 Z2) := CZ1.out.then hb2
        clear hb2 CZ1
        clear hHeld
        refine hK.out _ _ CZ2.out (fun hHeld => ?_)
        clear hK K
        try simp only [Act.put, List.setIfInBounds_toArray, List.set_cons_zero, List.set_cons_succ]
        refine wpAnyH_take (i := 3) (oi := { dst := some 82, op := Op.move (Operand.tmp 81), type := 4, pos := "law.go:127", after := #[{ on := 2, ground := Ground.data }, { on := 2, ground := Ground.chain }], guard := none }) (v := ?_) rfl (by kernel_rfl) (by kernel_rfl) (by kernel_rfl) (fun _ _ _ h => h) (Or.inl ⟨by rfl, ?_⟩) (by assumption) ?_
        rotate_left
        · intro w hSw
          clear hSw
          go_simp
          all_goals with_reducible rfl
        simp only [Act.put, List.setIfInBounds_toArray, List.set_cons_zero, List.set_cons_succ]
        refine wpAnyH_take (i := 5) (oi := { dst := some 84, op := Op.load 27 (Operand.tmp 14), type := 27, pos := "law.go:127", after := #[{ on := 3, ground := Ground.guard }], guard := some (3, true) }) (v := .agg (encT t.id (.slice tp 0 tc) t.tag).toArray) rfl (by kernel_rfl) (by kernel_rfl) (by kernel_rfl) (fun _ _ _ h => h) (yieldsIf_load_mid (by rfl) _ _ rfl ga 0 rfl (encT t.id (.slice tp 0 tc) t.tag) _ (fun _ hSw => rangeAt_row (hSw.row RA.out (fun e => e))) Tryd.underlying27 rfl (by rw [size_t _ _ _ HTK.out.tl, List.size_toArray])) (by assumption) ?_
        simp only [Act.put, List.setIfInBounds_toArray, List.set_cons_zero, List.set_cons_succ]
        refine wpAnyH_take (i := 7) (oi := { dst := some 86, op := Op.move (Operand.tmp 13), type := 50, pos := "law.go:127", after := #[{ on := 3, ground := Ground.guard }], guard := some (3, true) }) (v := ?_) rfl (by kernel_rfl) (by kernel_rfl) (by kernel_rfl) (fun _ _ _ h => h) (Or.inl ⟨by rfl, ?_⟩) (by assumption) ?_
        rotate_left
        · intro w hSw
          clear hSw
          go_simp
          all_goals with_reducible rfl
        simp only [Act.put, List.setIfInBounds_toArray, List.set_cons_zero, List.set_cons_succ]
        refine wpAnyH_take (i := 9) (oi := { dst := some 88, op := Op.load 27 (Operand.tmp 14), type := 27, pos := "law.go:127", after := #[{ on := 3, ground := Ground.guard }], guard := some (3, true) }) (v := .agg (encT t.id (.slice tp 0 tc) t.tag).toArray) rfl (by kernel_rfl) (by kernel_rfl) (by kernel_rfl) (fun _ _ _ h => h) (yieldsIf_load_mid (by rfl) _ _ rfl ga 0 rfl (encT t.id (.slice tp 0 tc) t.tag) _ (fun _ hSw => rangeAt_row (hSw.row RA.out (fun e => e))) Tryd.underlying27 rfl (by rw [size_t _ _ _ HTK.out.tl, List.size_toArray])) (by assumption) ?_
        simp only [Act.put, List.setIfInBounds_toArray, List.set_cons_zero, List.set_cons_succ]
        refine wpAnyH_ready (rs := [4]) (by kernel_rfl) (by simp) ?_
        refine AllReadyH.cons (o := { dst := some 83, op := Op.call { callee := Callee.value (Operand.func 10), args := #[Operand.const (Value.int IntKind.u8 4)], argTypes := #[5] }, type := 25, pos := "law.go:127", after := #[{ on := 3, ground := Ground.chain }, { on := 3, ground := Ground.guard }], guard := some (3, true) }) rfl (fun K hK => ?_) AllReadyH.nil
        go_simp
        refine (root4.out Z2).mono ?_
        rintro e Z3 ⟨rfl, hb2⟩
        have CZ3 : Hid (Chg (fun _ => False) w5 Z3) := CZ2.out.then hb2
        clear hb2 CZ2
        clear hHeld
        refine hK.out _ _ CZ3.out (fun hHeld => ?_)
        clear hK K
        try simp only [Act.put, List.setIfInBounds_toArray, List.set_cons_zero, List.set_cons_succ]
        refine wpAnyH_ready (rs := [6]) (by kernel_rfl) (by simp) ?_
        refine AllReadyH.cons (o := { dst := some 85, op := Op.call { callee := Callee.value (Operand.func 16), args := #[Operand.tmp 83, Operand.tmp 84], argTypes := #[25, 27] }, type := 4, pos := "law.go:127", after := #[{ on := 4, ground := Ground.data }, { on := 5, ground := Ground.data }, { on := 4, ground := Ground.chain }, { on := 3, ground := Ground.guard }], guard := some (3, true) }) rfl (fun K hK => ?_) AllReadyH.nil
        go_simp
        refine (genuine_any key4 t (.slice tp 0 tc) Z3 HKEY4.out HTK.out ((CRow.at CA.out).below (CZ3.out.below _ (Nat.le_refl _) (fun _ _ e => e))) (HK.out.below (BW.out.trans (CZ3.out.below w.heap.size BW.out.size (fun k hk e => by omega))) h0)).mono ?_
        rintro e Z4 ⟨rfl, hb2⟩
        rw [← EG4.out]
        have CZ4 : Hid (Chg (fun _ => False) w5 Z4) := CZ3.out.then hb2
        clear hb2 CZ3
        clear hHeld
        refine hK.out _ _ CZ4.out (fun hHeld => ?_)
        clear hK K
        try simp only [Act.put, List.setIfInBounds_toArray, List.set_cons_zero, List.set_cons_succ]
        refine wpAnyH_ready (rs := [8]) (by kernel_rfl) (by simp) ?_
        refine AllReadyH.cons (o := { dst := some 87, op := Op.call { callee := Callee.value (Operand.func 10), args := #[Operand.const (Value.int IntKind.u8 4)], argTypes := #[5] }, type := 25, pos := "law.go:127", after := #[{ on := 6, ground := Ground.chain }, { on := 3, ground := Ground.guard }], guard := some (3, true) }) rfl (fun K hK => ?_) AllReadyH.nil
        go_simp
        refine (root4.out Z4).mono ?_
        rintro e Z5 ⟨rfl, hb2⟩
        have CZ5 : Hid (Chg (fun _ => False) w5 Z5) := CZ4.out.then hb2
        clear hb2 CZ4
        clear hHeld
        refine hK.out _ _ CZ5.out (fun hHeld => ?_)
        clear hK K
        try simp only [Act.put, List.setIfInBounds_toArray, List.set_cons_zero, List.set_cons_succ]
        refine wpAnyH_ready (rs := [10]) (by kernel_rfl) (by simp) ?_
        refine AllReadyH.cons (o := { dst := some 89, op := Op.call { callee := Callee.value (Operand.func 23), args := #[Operand.tmp 86, Operand.tmp 87, Operand.tmp 88], argTypes := #[50, 25, 27] }, type := 4, pos := "law.go:127", after := #[{ on := 7, ground := Ground.data }, { on := 8, ground := Ground.data }, { on := 9, ground := Ground.data }, { on := 8, ground := Ground.chain }, { on := 3, ground := Ground.guard }], guard := some (3, true) }) rfl (fun K hK => ?_) AllReadyH.nil
        go_simp
        refine (rgenuine_any gT key4 t (.slice tp 0 tc) Z5 (CZ5.out.row HT.out (fun e => e)) HKEY4.out HTK.out ((CRow.at CA.out).below (CZ5.out.below _ (Nat.le_refl _) (fun _ _ e => e)))).mono ?_
        rintro e Z6 ⟨rfl, hb2⟩
        rw [← EG4.out]
        have bg4 : (g4 == g4) = true := by cases g4 <;> rfl
        have CZ6 : Hid (Chg (fun _ => False) w5 Z6) := CZ5.out.then hb2
        clear hb2 CZ5
        clear hHeld
        refine hK.out _ _ CZ6.out (fun hHeld => ?_)
        clear hK K
        try simp only [Act.put, List.setIfInBounds_toArray, List.set_cons_zero, List.set_cons_succ]
        refine wpAnyH_take (i := 11) (oi := { dst := some 90, op := Op.binOp BinOp.eql 4 (Operand.tmp 85) (Operand.tmp 89) 4, type := 4, pos := "law.go:127", after := #[{ on := 6, ground := Ground.data }, { on := 10, ground := Ground.data }, { on := 3, ground := Ground.guard }], guard := some (3, true) }) (v := ?_) rfl (by kernel_rfl) (by kernel_rfl) (by kernel_rfl) (fun _ _ _ h => h) (Or.inl ⟨by rfl, ?_⟩) (by assumption) ?_
        rotate_left
        · intro w hSw
          clear hSw
          go_simp
          all_goals with_reducible rfl
        simp only [Act.put, List.setIfInBounds_toArray, List.set_cons_zero, List.set_cons_succ]
        refine wpAnyH_take (i := 12) (oi := { dst := some 91, op := Op.pick (Operand.tmp 82) (Operand.tmp 90) (Operand.const (Value.bool false)), type := 4, pos := "law.go:127", after := #[{ on := 3, ground := Ground.data }, { on := 11, ground := Ground.data }], guard := none }) (v := ?_) rfl (by kernel_rfl) (by kernel_rfl) (by kernel_rfl) (fun _ _ _ h => h) (Or.inl ⟨by rfl, ?_⟩) (by assumption) ?_
        rotate_left
        · intro w hSw
          clear hSw
          go_simp
          all_goals with_reducible rfl
        simp only [Act.put, List.setIfInBounds_toArray, List.set_cons_zero, List.set_cons_succ]
        refine wpAnyH_take (i := 13) (oi := { dst := some 92, op := Op.move (Operand.tmp 91), type := 4, pos := "law.go:127", after := #[{ on := 12, ground := Ground.data }, { on := 10, ground := Ground.chain }], guard := none }) (v := ?_) rfl (by kernel_rfl) (by kernel_rfl) (by kernel_rfl) (fun _ _ _ h => h) (Or.inl ⟨by rfl, ?_⟩) (by assumption) ?_
        rotate_left
        · intro w hSw
          clear hSw
          go_simp
          all_goals with_reducible rfl
        simp only [Act.put, List.setIfInBounds_toArray, List.set_cons_zero, List.set_cons_succ]
        refine wpAnyH_ready (rs := [14]) (by kernel_rfl) (by simp) ?_
        refine AllReadyH.cons (o := { dst := some 93, op := Op.call { callee := Callee.value (Operand.func 19), args := #[], argTypes := #[] }, type := 4, pos := "law.go:127", after := #[{ on := 13, ground := Ground.chain }, { on := 13, ground := Ground.guard }], guard := some (13, true) }) rfl (fun K hK => ?_) AllReadyH.nil
        go_simp
        refine (known_any Z6 (HK.out.below (BW.out.trans (CZ6.out.below w.heap.size BW.out.size (fun k hk e => by omega))) h0)).mono ?_
        rintro e Z7 ⟨rfl, hb2⟩
        have CZ7 : Hid (Chg (fun _ => False) w5 Z7) := CZ6.out.then hb2
        clear hb2 CZ6
        clear hHeld
        refine hK.out _ _ CZ7.out (fun hHeld => ?_)
        clear hK K
        try simp only [Act.put, List.setIfInBounds_toArray, List.set_cons_zero, List.set_cons_succ]
        refine wpAnyH_take (i := 15) (oi := { dst := some 94, op := Op.pick (Operand.tmp 92) (Operand.tmp 93) (Operand.const (Value.bool false)), type := 4, pos := "law.go:127", after := #[{ on := 13, ground := Ground.data }, { on := 14, ground := Ground.data }], guard := none }) (v := ?_) rfl (by kernel_rfl) (by kernel_rfl) (by kernel_rfl) (fun _ _ _ h => h) (Or.inl ⟨by rfl, ?_⟩) (by assumption) ?_
        rotate_left
        · intro w hSw
          clear hSw
          go_simp
          all_goals with_reducible rfl
        simp only [Act.put, List.setIfInBounds_toArray, List.set_cons_zero, List.set_cons_succ]
        refine wpAnyH_take (i := 16) (oi := { dst := some 12, op := Op.assign (Operand.tmp 94), type := 4, pos := "law.go:127", after := #[{ on := 15, ground := Ground.data }, { on := 14, ground := Ground.chain }, { on := 0, ground := Ground.phase }, { on := 1, ground := Ground.phase }, { on := 2, ground := Ground.phase }, { on := 3, ground := Ground.phase }, { on := 4, ground := Ground.phase }, { on := 5, ground := Ground.phase }, { on := 6, ground := Ground.phase }, { on := 7, ground := Ground.phase }, { on := 8, ground := Ground.phase }, { on := 9, ground := Ground.phase }, { on := 10, ground := Ground.phase }, { on := 11, ground := Ground.phase }, { on := 12, ground := Ground.phase }, { on := 13, ground := Ground.phase }, { on := 14, ground := Ground.phase }, { on := 15, ground := Ground.phase }], guard := none }) (v := ?_) rfl (by kernel_rfl) (by kernel_rfl) (by kernel_rfl) (fun _ _ _ h => h) (Or.inl ⟨by rfl, ?_⟩) (by assumption) ?_
        rotate_left
        · intro w hSw
          clear hSw
          go_simp
          all_goals with_reducible rfl
        simp only [Act.put, List.setIfInBounds_toArray, List.set_cons_zero, List.set_cons_succ]
        refine wpAnyH_done (by kernel_rfl) ?_ _
        refine NoPanic.normal ?_
        clear hHeld
        have BF := hide (BW.out.trans (CZ7.out.below w.heap.size BW.out.size (fun k hk e => by omega)))
        generalize Z7 = Y at BF ⊢
        go_wp2_with fail
        go_ret
        exact ⟨rfl, BF.out⟩
      · have qz : ¬ (tn : Int) = 0 := by omega
        obtain ⟨m, hm⟩ : ∃ m, tn = m + 1 := ⟨tn - 1, by omega⟩
        have qm : IntKind.i64.wrap ((tn : Int) - 1) = (m : Int) := by rw [IntKind.wrap_i64]; have := HTN.out; have := HT4.out; omega
        have HPOS : Hid (0 < tn) := by have : 0 < tn := by omega
                                       exact this
        have HMT := hide hm
        clear hm
        go_upto_region 15 with fail
        clear c0 c1 qz hz
        go_wp2_with fail
        refine (within_any jj (m : Int) wr HJJ.out.1 HJJ.out.2 (by omega) (by have := HTN.out; have := HT4.out; have := HMT.out; omega)).mono ?_
        rintro e wx ⟨rfl, rfl⟩
        have hkm := S.within_le jj (m : Int) (by omega)
        obtain ⟨k, hk⟩ : ∃ k, k = S.within jj (m : Int) := ⟨_, rfl⟩
        rw [← hk] at hkm ⊢
        have HKM := hide (show k ≤ m by omega)
        clear hk hkm
        obtain ⟨gt, rfl, -, hgt, hIT⟩ := CA.out.isIn HPOS.out
        have IT := hide hIT
        have LG := hide (show gT < ga ∧ w.heap.size ≤ gT ∧ w.heap.size ≤ ga from ⟨GA.out, GT.out, by have := GA.out; have := GT.out; omega⟩)
        have L0 := hide (show ga < wr.heap.size ∧ gt < wr.heap.size ∧ gT < wr.heap.size from ⟨block_lt_of_row RA.out, hgt, block_lt_of_row HT.out⟩)
        clear hIT hgt CA
        have ld1 := load_t RA.out HTK.out.tl
        go_upto_region 16 with fail
        go_wp2_with (with_reducible refine at_op { dst := some 99, op := Op.load 27 (Operand.tmp 14), type := 27, pos := "law.go:130", after := #[], guard := none } ?_; refine wpList_load_as rfl 27 (.tmp 14) rfl (.pointer (some ⟨ga, 0, none⟩)) rfl (.agg (encT t.id (.slice (some ⟨gt, 0, none⟩) tn tc) t.tag).toArray) ld1 ?_)
        refine (copyToken_any t (.slice (some ⟨gt, 0, none⟩) tn tc) wr HTK.out HT4.out IT.out.at_).mono ?_
        rintro e wa ⟨⟨vv, rfl, hcx⟩, hba⟩
        obtain ⟨xo, cX, rfl⟩ := hcx.form
        rw [← HTN.out] at hcx ⊢
        obtain ⟨gX, rfl, hgx, hgxl, hIx⟩ := hcx.isIn HPOS.out
        obtain ⟨A4, w4, ha4, hs4, hr4, hb4, -⟩ := lay_t wa t.id (some ⟨gX, 0, none⟩) tn cX t.tag HTK.out.tl
        obtain ⟨bX, hbx⟩ : ∃ g, g = wa.heap.size := ⟨_, rfl⟩
        rw [← hbx] at ha4 hs4 hr4
        have hb := hba.trans (hb4.mono hba.size)
        have LX := hide (show wr.heap.size ≤ gX ∧ gX < bX from ⟨hgx, by rw [hbx]; exact hgxl⟩)
        have RA_1 := hide ((hb.block _ (block_lt_of_row RA.out)).trans RA.out)
        have IT_1 := hide (IT.out.below hb)
        have HT_1 := hide ((hb.block _ (block_lt_of_row HT.out)).trans HT.out)
        have BW_1 := hide (BW.out.trans (hb.mono BW.out.size))
        have IX := hide (hIx.below hb4)
        have RX := hide hr4
        clear hb hb4 hba hr4 hIx hcx hgx hgxl hbx ld1 RA IT HT BW
        go_upto_region 17 with (first | (with_reducible refine at_op { dst := some 19, op := Op.alloc 27, type := 0, pos := "law.go:130", after := #[], guard := none } ?_; refine wpList_alloc_known rfl 27 rfl _ _ ha4 ?_) | (with_reducible refine at_op { dst := none, op := Op.store 27 (Operand.tmp 19) (Operand.tmp 100), type := 0, pos := "law.go:130", after := #[{ on := 2, ground := Ground.data }, { on := 1, ground := Ground.data }, { on := 1, ground := Ground.chain }, { on := 0, ground := Ground.phase }, { on := 1, ground := Ground.phase }, { on := 2, ground := Ground.phase }], guard := none } ?_; refine wpList_store_as rfl 27 (.tmp 19) (.tmp 100) rfl (.pointer (some ⟨bX, 0, none⟩)) (.agg (encT t.id (.slice (some ⟨gX, 0, none⟩) tn cX) t.tag).toArray) rfl rfl w4 hs4 ?_))
        clear ha4 hs4 A4
        obtain ⟨ck, hck⟩ : ∃ c, t.cs[k]? = some c := ⟨_, List.getElem?_eq_getElem (by have := HTN.out; have := HMT.out; have := HKM.out; omega)⟩
        have HCK := hide hck
        obtain ⟨c0, c1⟩ := t_cells RX.out
        obtain ⟨-, d1, f1⟩ := IX.out.cells k ck hck
        have q0 : (0 : Int) ≤ (k : Int) := by omega
        have q1 : (k : Int) < (tn : Int) := by have := HMT.out; have := HKM.out; omega
        obtain ⟨N, hN⟩ : ∃ N, N = (ck.n + 1) % 4294967296 := ⟨_, rfl⟩
        have qn : IntKind.u32.wrap ((ck.n : Int) + 1) = (N : Int) := by rw [IntKind.wrap_u32, hN]; omega
        have HNB := hide (show N < 4294967296 by rw [hN]; exact Nat.mod_lt _ (by omega))
        have IX2 := hide (IX.out.set1 k ck hck N)
        have C5 : Hid (Chg (fun j => j = gX) w4 (w4.setCell ⟨gX, k * 2 + 1, none⟩ (.int .u32 (N : Int)))) := hide ((Chg.refl (fun j => j = gX) w4).setCell gX _ _ (fun _ => rfl))
        clear hck hN
        go_upto_region 18 with fail
        generalize w4.setCell ⟨gX, k * 2 + 1, none⟩ (.int .u32 (N : Int)) = w5 at IX2 C5 ⊢
        clear c0 c1 d1 f1 q0 q1 qn
        replace LG := hide (show gT < ga ∧ w.heap.size ≤ gT ∧ w.heap.size ≤ ga ∧ ga < gX ∧ gt < gX ∧ gX < bX by have := LG.out; have := L0.out; have := LX.out; omega)
        clear L0 LX
        have RA_2 := hide (C5.out.row RA_1.out (by have := LG.out; omega))
        have IT_2 := hide (IT_1.out.chg C5.out (by have := LG.out; omega))
        have HT_2 := hide (C5.out.row HT_1.out (by have := LG.out; omega))
        have BW_2 := hide (BW_1.out.trans (C5.out.below w.heap.size BW_1.out.size (fun k hk e => by have := LG.out; omega)))
        have RX_2 := hide (C5.out.row RX.out (by have := LG.out; omega))
        clear C5 IX RA_1 IT_1 HT_1 BW_1 RX
        have IX := IX2
        clear IX2
        have L1 := hide (block_lt_of_row RX_2.out)
        have ld1 := load_t RA_2.out HTK.out.tl
        go_upto_region 18 with fail
        go_wp2_with (with_reducible refine at_op { dst := some 110, op := Op.load 27 (Operand.tmp 14), type := 27, pos := "law.go:132", after := #[], guard := none } ?_; refine wpList_load_as rfl 27 (.tmp 14) rfl (.pointer (some ⟨ga, 0, none⟩)) rfl (.agg (encT t.id (.slice (some ⟨gt, 0, none⟩) tn tc) t.tag).toArray) ld1 ?_)
        refine (copyToken_any t (.slice (some ⟨gt, 0, none⟩) tn tc) w5 HTK.out HT4.out IT_2.out.at_).mono ?_
        rintro e wa ⟨⟨vv, rfl, hcx⟩, hba⟩
        obtain ⟨xo, cY, rfl⟩ := hcx.form
        rw [← HTN.out] at hcx ⊢
        obtain ⟨gY, rfl, hgx, hgxl, hIx⟩ := hcx.isIn HPOS.out
        obtain ⟨A4, w6, ha4, hs4, hr4, hb4, -⟩ := lay_t wa t.id (some ⟨gY, 0, none⟩) tn cY t.tag HTK.out.tl
        obtain ⟨bY, hbx⟩ : ∃ g, g = wa.heap.size := ⟨_, rfl⟩
        rw [← hbx] at ha4 hs4 hr4
        have hb := hba.trans (hb4.mono hba.size)
        have LY := hide (show w5.heap.size ≤ gY ∧ gY < bY from ⟨hgx, by rw [hbx]; exact hgxl⟩)
        have RA_3 := hide ((hb.block _ (block_lt_of_row RA_2.out)).trans RA_2.out)
        have IT_3 := hide (IT_2.out.below hb)
        have HT_3 := hide ((hb.block _ (block_lt_of_row HT_2.out)).trans HT_2.out)
        have BW_3 := hide (BW_2.out.trans (hb.mono BW_2.out.size))
        have IX_3 := hide (IX.out.below hb)
        have RX_3 := hide ((hb.block _ (block_lt_of_row RX_2.out)).trans RX_2.out)
        have IY := hide (hIx.below hb4)
        have RY := hide hr4
        clear hb hb4 hba hr4 hIx hcx hgx hgxl hbx ld1 RA_2 IT_2 HT_2 BW_2 IX RX_2
        go_upto_region 19 with (first | (with_reducible refine at_op { dst := some 20, op := Op.alloc 27, type := 0, pos := "law.go:132", after := #[], guard := none } ?_; refine wpList_alloc_known rfl 27 rfl _ _ ha4 ?_) | (with_reducible refine at_op { dst := none, op := Op.store 27 (Operand.tmp 20) (Operand.tmp 111), type := 0, pos := "law.go:132", after := #[{ on := 2, ground := Ground.data }, { on := 1, ground := Ground.data }, { on := 1, ground := Ground.chain }, { on := 0, ground := Ground.phase }, { on := 1, ground := Ground.phase }, { on := 2, ground := Ground.phase }], guard := none } ?_; refine wpList_store_as rfl 27 (.tmp 20) (.tmp 111) rfl (.pointer (some ⟨bY, 0, none⟩)) (.agg (encT t.id (.slice (some ⟨gY, 0, none⟩) tn cY) t.tag).toArray) rfl rfl w6 hs4 ?_))
        clear ha4 hs4 A4
        obtain ⟨c0, c1⟩ := t_cells RY.out
        have f1 := frozen_of_row _ _ 1 _ _ RY.out
        have q0 : (0 : Int) ≤ (m : Int) := by omega
        have q1 : (m : Int) ≤ (tn : Int) := by have := HMT.out; omega
        have hcap : tn ≤ cY := by obtain ⟨_, _, _, h, _⟩ := IY.out; exact h
        have q2 : (m : Int) ≤ (cY : Int) := by omega
        clear hcap
        have RY2 := hide (set_cv (.slice (some ⟨gY, 0, none⟩) m cY) RY.out)
        have C5 : Hid (Chg (fun j => j = bY) w6 (w6.setCell ⟨bY, 1, none⟩ (.slice (some ⟨gY, 0, none⟩) m cY))) := hide ((Chg.refl (fun j => j = bY) w6).setCell bY _ _ (fun _ => rfl))
        go_upto_region 20 with fail
        generalize w6.setCell ⟨bY, 1, none⟩ (.slice (some ⟨gY, 0, none⟩) m cY) = w7 at RY2 C5 ⊢
        clear c0 c1 f1 q0 q1 q2
        replace LG := hide (show gT < ga ∧ w.heap.size ≤ gT ∧ w.heap.size ≤ ga ∧ ga < gX ∧ gt < gX ∧ gX < bX ∧ bX < gY ∧ gY < bY by have := LG.out; have := L1.out; have := LY.out; omega)
        clear L1 LY
        have RA_4 := hide (C5.out.row RA_3.out (by have := LG.out; omega))
        have IT_4 := hide (IT_3.out.chg C5.out (by have := LG.out; omega))
        have HT_4 := hide (C5.out.row HT_3.out (by have := LG.out; omega))
        have BW_4 := hide (BW_3.out.trans (C5.out.below w.heap.size BW_3.out.size (fun k hk e => by have := LG.out; omega)))
        have IX_4 := hide (IX_3.out.chg C5.out (by have := LG.out; omega))
        have RX_4 := hide (C5.out.row RX_3.out (by have := LG.out; omega))
        have IY_4 := hide (IY.out.chg C5.out (by have := LG.out; omega))
        clear C5 RY RA_3 IT_3 HT_3 BW_3 IX_3 RX_3 IY
        have RY := RY2
        clear RY2
        have L1 := hide (block_lt_of_row RY.out)
        have ld1 := load_t RA_4.out HTK.out.tl
        go_upto_region 20 with fail
        go_wp2_with (with_reducible refine at_op { dst := some 118, op := Op.load 27 (Operand.tmp 14), type := 27, pos := "law.go:134", after := #[], guard := none } ?_; refine wpList_load_as rfl 27 (.tmp 14) rfl (.pointer (some ⟨ga, 0, none⟩)) rfl (.agg (encT t.id (.slice (some ⟨gt, 0, none⟩) tn tc) t.tag).toArray) ld1 ?_)
        refine (copyToken_any t (.slice (some ⟨gt, 0, none⟩) tn tc) w7 HTK.out HT4.out IT_4.out.at_).mono ?_
        rintro e wa ⟨⟨vv, rfl, hcx⟩, hba⟩
        obtain ⟨xo, cZ, rfl⟩ := hcx.form
        rw [← HTN.out] at hcx ⊢
        obtain ⟨gZ, rfl, hgx, hgxl, hIx⟩ := hcx.isIn HPOS.out
        obtain ⟨A4, w8, ha4, hs4, hr4, hb4, -⟩ := lay_t wa t.id (some ⟨gZ, 0, none⟩) tn cZ t.tag HTK.out.tl
        obtain ⟨bZ, hbx⟩ : ∃ g, g = wa.heap.size := ⟨_, rfl⟩
        rw [← hbx] at ha4 hs4 hr4
        have hb := hba.trans (hb4.mono hba.size)
        have LZ := hide (show w7.heap.size ≤ gZ ∧ gZ < bZ from ⟨hgx, by rw [hbx]; exact hgxl⟩)
        have RA_5 := hide ((hb.block _ (block_lt_of_row RA_4.out)).trans RA_4.out)
        have IT_5 := hide (IT_4.out.below hb)
        have HT_5 := hide ((hb.block _ (block_lt_of_row HT_4.out)).trans HT_4.out)
        have BW_5 := hide (BW_4.out.trans (hb.mono BW_4.out.size))
        have IX_5 := hide (IX_4.out.below hb)
        have RX_5 := hide ((hb.block _ (block_lt_of_row RX_4.out)).trans RX_4.out)
        have IY_5 := hide (IY_4.out.below hb)
        have RY_5 := hide ((hb.block _ (block_lt_of_row RY.out)).trans RY.out)
        have IZ := hide (hIx.below hb4)
        have RZ := hide hr4
        clear hb hb4 hba hr4 hIx hcx hgx hgxl hbx ld1 RA_4 IT_4 HT_4 BW_4 IX_4 RX_4 IY_4 RY
        go_upto_region 21 with (first | (with_reducible refine at_op { dst := some 21, op := Op.alloc 27, type := 0, pos := "law.go:134", after := #[], guard := none } ?_; refine wpList_alloc_known rfl 27 rfl _ _ ha4 ?_) | (with_reducible refine at_op { dst := none, op := Op.store 27 (Operand.tmp 21) (Operand.tmp 119), type := 0, pos := "law.go:134", after := #[{ on := 2, ground := Ground.data }, { on := 1, ground := Ground.data }, { on := 1, ground := Ground.chain }, { on := 0, ground := Ground.phase }, { on := 1, ground := Ground.phase }, { on := 2, ground := Ground.phase }], guard := none } ?_; refine wpList_store_as rfl 27 (.tmp 21) (.tmp 119) rfl (.pointer (some ⟨bZ, 0, none⟩)) (.agg (encT t.id (.slice (some ⟨gZ, 0, none⟩) tn cZ) t.tag).toArray) rfl rfl w8 hs4 ?_))
        clear ha4 hs4 A4
        replace LG := hide (show gT < ga ∧ w.heap.size ≤ gT ∧ w.heap.size ≤ ga ∧ ga < gX ∧ gt < gX ∧ gX < bX ∧ bX < gY ∧ gY < bY ∧ bY < gZ ∧ gZ < bZ by have := LG.out; have := L1.out; have := LZ.out; omega)
        clear L1 LZ
        obtain ⟨cf, hcf⟩ : ∃ c, t.cs[0]? = some c := ⟨_, List.getElem?_eq_getElem (by have := HTN.out; have := HMT.out; omega)⟩
        obtain ⟨cl, hcl⟩ : ∃ c, t.cs[m]? = some c := ⟨_, List.getElem?_eq_getElem (by have := HTN.out; have := HMT.out; omega)⟩
        have HCF := hide hcf
        have HCL := hide hcl
        have q0 : (0 : Int) ≤ (m : Int) := by omega
        have q1 : (m : Int) < (tn : Int) := by have := HMT.out; omega
        have q2 : 0 < tn := HPOS.out
        clear hcf hcl
        simp only [Act.put, List.setIfInBounds_toArray, List.set_cons_zero, List.set_cons_succ]
        go_cut [137] from 120 to 136 (fun _s wc => Hid (CvIn wc gZ tn cZ ((t.cs.set 0 cl).set m cf)) ∧ Hid (Chg (fun j => j = gZ) w8 wc))
        case first =>
          refine wp_region_noPanic ?_
          refine wp_region_held_drew (S := (fun W => Chg (fun j => j = gZ) w8 W)) follows ((Chg.refl _ _).drew) (fun hHeld => ?_)
          clear hHeld
          have hHeld : Chg (fun j => j = gZ) w8 w8.drew := (Chg.refl _ _).drew
          have CZ0 := hide hHeld
          have IZ' : Hid (CvIn w8.drew gZ tn cZ t.cs) := IZ.out.below ((Below.refl _ _).drew)
          generalize w8.drew = Z0 at CZ0 hHeld IZ' ⊢
          refine wpAnyH_take (i := 0) (oi := { dst := some 120, op := Op.fieldAddr 27 (Operand.tmp 21) 1, type := 0, pos := "law.go:135", after := #[], guard := none }) (v := ?_) rfl (by kernel_rfl) (by kernel_rfl) (by kernel_rfl) (fun _ _ _ h => h) (Or.inl ⟨by rfl, ?_⟩) (by assumption) ?_
          rotate_left
          · intro w hSw
            clear hSw
            go_simp
            all_goals with_reducible rfl
          simp only [Act.put, List.setIfInBounds_toArray, List.set_cons_zero, List.set_cons_succ]
          refine wpAnyH_take (i := 1) (oi := { dst := some 121, op := Op.load 23 (Operand.tmp 120), type := 23, pos := "law.go:135", after := #[{ on := 0, ground := Ground.data }], guard := none }) (v := ?_) rfl (by kernel_rfl) (by kernel_rfl) (by kernel_rfl) (fun _ _ _ h => h) (Or.inl ⟨by rfl, ?_⟩) (by assumption) ?_
          rotate_left
          · intro w hSw
            have c1 := (t_cells (hSw.row RZ.out (by have := LG.out; omega))).2
            clear hSw
            go_simp
            all_goals with_reducible rfl
          simp only [Act.put, List.setIfInBounds_toArray, List.set_cons_zero, List.set_cons_succ]
          refine wpAnyH_take (i := 2) (oi := { dst := some 122, op := Op.fieldAddr 27 (Operand.tmp 21) 1, type := 0, pos := "law.go:135", after := #[{ on := 17, ground := Ground.gcOnly Departure.lateStores }], guard := none }) (v := ?_) rfl (by kernel_rfl) (by kernel_rfl) (by kernel_rfl) (fun _ _ _ h => h) (Or.inl ⟨by rfl, ?_⟩) (by assumption) ?_
          rotate_left
          · intro w hSw
            clear hSw
            go_simp
            all_goals with_reducible rfl
          simp only [Act.put, List.setIfInBounds_toArray, List.set_cons_zero, List.set_cons_succ]
          refine wpAnyH_take (i := 3) (oi := { dst := some 123, op := Op.load 23 (Operand.tmp 122), type := 23, pos := "law.go:135", after := #[{ on := 2, ground := Ground.data }, { on := 17, ground := Ground.gcOnly Departure.lateStores }], guard := none }) (v := ?_) rfl (by kernel_rfl) (by kernel_rfl) (by kernel_rfl) (fun _ _ _ h => h) (Or.inl ⟨by rfl, ?_⟩) (by assumption) ?_
          rotate_left
          · intro w hSw
            have c1 := (t_cells (hSw.row RZ.out (by have := LG.out; omega))).2
            clear hSw
            go_simp
            all_goals with_reducible rfl
          simp only [Act.put, List.setIfInBounds_toArray, List.set_cons_zero, List.set_cons_succ]
          refine wpAnyH_take (i := 4) (oi := { dst := some 124, op := Op.move (Operand.tmp 18), type := 3, pos := "law.go:135", after := #[{ on := 17, ground := Ground.gcOnly Departure.lateStores }], guard := none }) (v := ?_) rfl (by kernel_rfl) (by kernel_rfl) (by kernel_rfl) (fun _ _ _ h => h) (Or.inl ⟨by rfl, ?_⟩) (by assumption) ?_
          rotate_left
          · intro w hSw
            clear hSw
            go_simp
            all_goals with_reducible rfl
          simp only [Act.put, List.setIfInBounds_toArray, List.set_cons_zero, List.set_cons_succ]
          refine wpAnyH_take (i := 5) (oi := { dst := some 125, op := Op.binOp BinOp.sub 3 (Operand.tmp 124) (Operand.const (Value.int IntKind.i64 1)) 3, type := 3, pos := "law.go:135", after := #[{ on := 4, ground := Ground.data }, { on := 17, ground := Ground.gcOnly Departure.lateStores }], guard := none }) (v := ?_) rfl (by kernel_rfl) (by kernel_rfl) (by kernel_rfl) (fun _ _ _ h => h) (Or.inl ⟨by rfl, ?_⟩) (by assumption) ?_
          rotate_left
          · intro w hSw
            clear hSw
            go_simp
            all_goals with_reducible rfl
          simp only [Act.put, List.setIfInBounds_toArray, List.set_cons_zero, List.set_cons_succ]
          refine wpAnyH_take (i := 6) (oi := { dst := some 126, op := Op.fieldAddr 27 (Operand.tmp 21) 1, type := 0, pos := "law.go:135", after := #[], guard := none }) (v := ?_) rfl (by kernel_rfl) (by kernel_rfl) (by kernel_rfl) (fun _ _ _ h => h) (Or.inl ⟨by rfl, ?_⟩) (by assumption) ?_
          rotate_left
          · intro w hSw
            clear hSw
            go_simp
            all_goals with_reducible rfl
          simp only [Act.put, List.setIfInBounds_toArray, List.set_cons_zero, List.set_cons_succ]
          refine wpAnyH_take (i := 7) (oi := { dst := some 127, op := Op.load 23 (Operand.tmp 126), type := 23, pos := "law.go:135", after := #[{ on := 6, ground := Ground.data }], guard := none }) (v := ?_) rfl (by kernel_rfl) (by kernel_rfl) (by kernel_rfl) (fun _ _ _ h => h) (Or.inl ⟨by rfl, ?_⟩) (by assumption) ?_
          rotate_left
          · intro w hSw
            have c1 := (t_cells (hSw.row RZ.out (by have := LG.out; omega))).2
            clear hSw
            go_simp
            all_goals with_reducible rfl
          simp only [Act.put, List.setIfInBounds_toArray, List.set_cons_zero, List.set_cons_succ]
          refine wpAnyH_take (i := 8) (oi := { dst := some 128, op := Op.move (Operand.tmp 18), type := 3, pos := "law.go:135", after := #[], guard := none }) (v := ?_) rfl (by kernel_rfl) (by kernel_rfl) (by kernel_rfl) (fun _ _ _ h => h) (Or.inl ⟨by rfl, ?_⟩) (by assumption) ?_
          rotate_left
          · intro w hSw
            clear hSw
            go_simp
            all_goals with_reducible rfl
          simp only [Act.put, List.setIfInBounds_toArray, List.set_cons_zero, List.set_cons_succ]
          refine wpAnyH_take (i := 9) (oi := { dst := some 129, op := Op.binOp BinOp.sub 3 (Operand.tmp 128) (Operand.const (Value.int IntKind.i64 1)) 3, type := 3, pos := "law.go:135", after := #[{ on := 8, ground := Ground.data }], guard := none }) (v := ?_) rfl (by kernel_rfl) (by kernel_rfl) (by kernel_rfl) (fun _ _ _ h => h) (Or.inl ⟨by rfl, ?_⟩) (by assumption) ?_
          rotate_left
          · intro w hSw
            clear hSw
            go_simp
            all_goals with_reducible rfl
          simp only [Act.put, List.setIfInBounds_toArray, List.set_cons_zero, List.set_cons_succ]
          refine wpAnyH_take (i := 10) (oi := { dst := some 130, op := Op.indexAddr 23 (Operand.tmp 127) (Operand.tmp 129), type := 0, pos := "law.go:135", after := #[{ on := 7, ground := Ground.data }, { on := 9, ground := Ground.data }], guard := none }) (v := ?_) rfl (by kernel_rfl) (by kernel_rfl) (by kernel_rfl) (fun _ _ _ h => h) (Or.inl ⟨by rfl, ?_⟩) (by assumption) ?_
          rotate_left
          · intro w hSw
            clear hSw
            go_simp
            all_goals with_reducible rfl
          simp only [Act.put, List.setIfInBounds_toArray, List.set_cons_zero, List.set_cons_succ]
          refine wpAnyH_take (i := 12) (oi := { dst := some 132, op := Op.fieldAddr 27 (Operand.tmp 21) 1, type := 0, pos := "law.go:135", after := #[], guard := none }) (v := ?_) rfl (by kernel_rfl) (by kernel_rfl) (by kernel_rfl) (fun _ _ _ h => h) (Or.inl ⟨by rfl, ?_⟩) (by assumption) ?_
          rotate_left
          · intro w hSw
            clear hSw
            go_simp
            all_goals with_reducible rfl
          simp only [Act.put, List.setIfInBounds_toArray, List.set_cons_zero, List.set_cons_succ]
          refine wpAnyH_take (i := 13) (oi := { dst := some 133, op := Op.load 23 (Operand.tmp 132), type := 23, pos := "law.go:135", after := #[{ on := 12, ground := Ground.data }], guard := none }) (v := ?_) rfl (by kernel_rfl) (by kernel_rfl) (by kernel_rfl) (fun _ _ _ h => h) (Or.inl ⟨by rfl, ?_⟩) (by assumption) ?_
          rotate_left
          · intro w hSw
            have c1 := (t_cells (hSw.row RZ.out (by have := LG.out; omega))).2
            clear hSw
            go_simp
            all_goals with_reducible rfl
          simp only [Act.put, List.setIfInBounds_toArray, List.set_cons_zero, List.set_cons_succ]
          refine wpAnyH_take (i := 14) (oi := { dst := some 134, op := Op.indexAddr 23 (Operand.tmp 133) (Operand.const (Value.int IntKind.i64 0)), type := 0, pos := "law.go:135", after := #[{ on := 13, ground := Ground.data }], guard := none }) (v := ?_) rfl (by kernel_rfl) (by kernel_rfl) (by kernel_rfl) (fun _ _ _ h => h) (Or.inl ⟨by rfl, ?_⟩) (by assumption) ?_
          rotate_left
          · intro w hSw
            clear hSw
            go_simp
            all_goals with_reducible rfl
          simp only [Act.put, List.setIfInBounds_toArray, List.set_cons_zero, List.set_cons_succ]
          refine wpAnyH_ready (rs := [11, 15]) (by kernel_rfl) (by simp) ?_
          refine step_load (o := { dst := some 131, op := Op.load 42 (Operand.tmp 130), type := 42, pos := "law.go:135", after := #[{ on := 10, ground := Ground.data }], guard := none }) rfl rfl 42 (.tmp 130) rfl (.agg (encC cl).toArray) (load_cm ((IZ'.out.cells m cl HCL.out).1)) ?_ ⟨CZ0.out, fun hHeld => ?_⟩
          rotate_left
          · skip
            simp only [Act.put, List.setIfInBounds_toArray, List.set_cons_zero, List.set_cons_succ]
            refine wpAnyH_ready (rs := [15]) (by kernel_rfl) (by simp) ?_
            refine step_load (o := { dst := some 135, op := Op.load 42 (Operand.tmp 134), type := 42, pos := "law.go:135", after := #[{ on := 14, ground := Ground.data }], guard := none }) rfl rfl 42 (.tmp 134) rfl (.agg (encC cf).toArray) (load_cm ((IZ'.out.cells 0 cf HCF.out).1)) AllReadyH.nil ⟨CZ0.out, fun hHeld => ?_⟩
            simp only [Act.put, List.setIfInBounds_toArray, List.set_cons_zero, List.set_cons_succ]
            refine wpAnyH_take (i := 16) (oi := { dst := some 136, op := Op.indexAddr 23 (Operand.tmp 121) (Operand.const (Value.int IntKind.i64 0)), type := 0, pos := "law.go:135", after := #[{ on := 1, ground := Ground.data }, { on := 0, ground := Ground.phase }, { on := 1, ground := Ground.phase }, { on := 2, ground := Ground.textOnly Departure.lateStores }, { on := 3, ground := Ground.textOnly Departure.lateStores }, { on := 4, ground := Ground.textOnly Departure.lateStores }, { on := 5, ground := Ground.textOnly Departure.lateStores }, { on := 6, ground := Ground.phase }, { on := 7, ground := Ground.phase }, { on := 8, ground := Ground.phase }, { on := 9, ground := Ground.phase }, { on := 10, ground := Ground.phase }, { on := 11, ground := Ground.phase }, { on := 12, ground := Ground.textOnly Departure.lateStores }, { on := 13, ground := Ground.textOnly Departure.lateStores }, { on := 14, ground := Ground.textOnly Departure.lateStoresUnsure }, { on := 15, ground := Ground.phase }], guard := none }) (v := ?_) rfl (by kernel_rfl) (by kernel_rfl) (by kernel_rfl) (fun _ _ _ h => h) (Or.inl ⟨by rfl, ?_⟩) (by assumption) ?_
            rotate_left
            · intro w hSw
              clear hSw
              go_simp
              all_goals with_reducible rfl
            simp only [Act.put, List.setIfInBounds_toArray, List.set_cons_zero, List.set_cons_succ]
            refine wpAnyH_ready (rs := [17]) (by kernel_rfl) (by simp) ?_
            obtain ⟨Z1, hst, hin, C6, s6⟩ := IZ'.out.store 0 HPOS.out cl
            refine step_store_as (o := { dst := none, op := Op.store 42 (Operand.tmp 136) (Operand.tmp 131), type := 0, pos := "law.go:135", after := #[{ on := 16, ground := Ground.data }, { on := 11, ground := Ground.data }, { on := 0, ground := Ground.phase }, { on := 1, ground := Ground.phase }, { on := 2, ground := Ground.textOnly Departure.lateStores }, { on := 3, ground := Ground.textOnly Departure.lateStores }, { on := 4, ground := Ground.textOnly Departure.lateStores }, { on := 5, ground := Ground.textOnly Departure.lateStores }, { on := 6, ground := Ground.phase }, { on := 7, ground := Ground.phase }, { on := 8, ground := Ground.phase }, { on := 9, ground := Ground.phase }, { on := 10, ground := Ground.phase }, { on := 11, ground := Ground.phase }, { on := 12, ground := Ground.textOnly Departure.lateStores }, { on := 13, ground := Ground.textOnly Departure.lateStores }, { on := 14, ground := Ground.textOnly Departure.lateStoresUnsure }, { on := 15, ground := Ground.phase }], guard := none }) rfl rfl 42 (.tmp 136) (.tmp 131) rfl _ _ rfl rfl Z1 hst AllReadyH.nil ⟨CZ0.out.trans C6 (fun k hk e => e), fun hHeld => ?_⟩
            have CZ1 : Hid (Chg (fun j => j = gZ) w8 Z1) := CZ0.out.trans C6 (fun k hk e => e)
            replace IZ' : Hid (CvIn Z1 gZ tn cZ (t.cs.set 0 cl)) := hin
            clear hst hin C6 s6 CZ0
            simp only [Act.put]
            refine wpAnyH_take (i := 18) (oi := { dst := some 137, op := Op.indexAddr 23 (Operand.tmp 123) (Operand.tmp 125), type := 0, pos := "law.go:135", after := #[{ on := 3, ground := Ground.data }, { on := 5, ground := Ground.data }, { on := 0, ground := Ground.phase }, { on := 1, ground := Ground.phase }, { on := 2, ground := Ground.phase }, { on := 3, ground := Ground.phase }, { on := 4, ground := Ground.phase }, { on := 5, ground := Ground.phase }, { on := 6, ground := Ground.phase }, { on := 7, ground := Ground.phase }, { on := 8, ground := Ground.phase }, { on := 9, ground := Ground.phase }, { on := 10, ground := Ground.phase }, { on := 11, ground := Ground.phase }, { on := 12, ground := Ground.phase }, { on := 13, ground := Ground.phase }, { on := 14, ground := Ground.phase }, { on := 15, ground := Ground.phase }, { on := 16, ground := Ground.phase }, { on := 17, ground := Ground.phase }], guard := none }) (v := ?_) rfl (by kernel_rfl) (by kernel_rfl) (by kernel_rfl) (fun _ _ _ h => h) (Or.inl ⟨by rfl, ?_⟩) (by assumption) ?_
            rotate_left
            · intro w hSw
              clear hSw
              go_simp
              all_goals with_reducible rfl
            simp only [Act.put, List.setIfInBounds_toArray, List.set_cons_zero, List.set_cons_succ]
            refine wpAnyH_ready (rs := [19]) (by kernel_rfl) (by simp) ?_
            obtain ⟨Z2, hst, hin, C6, s6⟩ := IZ'.out.store m (by have := HMT.out; omega) cf
            refine step_store_as (o := { dst := none, op := Op.store 42 (Operand.tmp 137) (Operand.tmp 135), type := 0, pos := "law.go:135", after := #[{ on := 18, ground := Ground.data }, { on := 15, ground := Ground.data }, { on := 17, ground := Ground.chain }, { on := 0, ground := Ground.phase }, { on := 1, ground := Ground.phase }, { on := 2, ground := Ground.phase }, { on := 3, ground := Ground.phase }, { on := 4, ground := Ground.phase }, { on := 5, ground := Ground.phase }, { on := 6, ground := Ground.phase }, { on := 7, ground := Ground.phase }, { on := 8, ground := Ground.phase }, { on := 9, ground := Ground.phase }, { on := 10, ground := Ground.phase }, { on := 11, ground := Ground.phase }, { on := 12, ground := Ground.phase }, { on := 13, ground := Ground.phase }, { on := 14, ground := Ground.phase }, { on := 15, ground := Ground.phase }, { on := 16, ground := Ground.phase }, { on := 17, ground := Ground.phase }], guard := none }) rfl rfl 42 (.tmp 137) (.tmp 135) rfl _ _ rfl rfl Z2 hst AllReadyH.nil ⟨CZ1.out.trans C6 (fun k hk e => e), fun hHeld => ?_⟩
            have CZ2 : Hid (Chg (fun j => j = gZ) w8 Z2) := CZ1.out.trans C6 (fun k hk e => e)
            replace IZ' : Hid (CvIn Z2 gZ tn cZ ((t.cs.set 0 cl).set m cf)) := hin
            clear hst hin C6 s6 CZ1
            simp only [Act.put]
            refine wpAnyH_done (by kernel_rfl) ?_ _
            refine NoPanic.normal ?_
            clear hHeld
            try go_wp2_with fail
            go_meet
            exact ⟨IZ', CZ2⟩
          refine step_load (o := { dst := some 135, op := Op.load 42 (Operand.tmp 134), type := 42, pos := "law.go:135", after := #[{ on := 14, ground := Ground.data }], guard := none }) rfl rfl 42 (.tmp 134) rfl (.agg (encC cf).toArray) (load_cm ((IZ'.out.cells 0 cf HCF.out).1)) AllReadyH.nil ⟨CZ0.out, fun hHeld => ?_⟩
          simp only [Act.put, List.setIfInBounds_toArray, List.set_cons_zero, List.set_cons_succ]
          refine wpAnyH_ready (rs := [11]) (by kernel_rfl) (by simp) ?_
          refine step_load (o := { dst := some 131, op := Op.load 42 (Operand.tmp 130), type := 42, pos := "law.go:135", after := #[{ on := 10, ground := Ground.data }], guard := none }) rfl rfl 42 (.tmp 130) rfl (.agg (encC cl).toArray) (load_cm ((IZ'.out.cells m cl HCL.out).1)) AllReadyH.nil ⟨CZ0.out, fun hHeld => ?_⟩
          simp only [Act.put, List.setIfInBounds_toArray, List.set_cons_zero, List.set_cons_succ]
          refine wpAnyH_take (i := 16) (oi := { dst := some 136, op := Op.indexAddr 23 (Operand.tmp 121) (Operand.const (Value.int IntKind.i64 0)), type := 0, pos := "law.go:135", after := #[{ on := 1, ground := Ground.data }, { on := 0, ground := Ground.phase }, { on := 1, ground := Ground.phase }, { on := 2, ground := Ground.textOnly Departure.lateStores }, { on := 3, ground := Ground.textOnly Departure.lateStores }, { on := 4, ground := Ground.textOnly Departure.lateStores }, { on := 5, ground := Ground.textOnly Departure.lateStores }, { on := 6, ground := Ground.phase }, { on := 7, ground := Ground.phase }, { on := 8, ground := Ground.phase }, { on := 9, ground := Ground.phase }, { on := 10, ground := Ground.phase }, { on := 11, ground := Ground.phase }, { on := 12, ground := Ground.textOnly Departure.lateStores }, { on := 13, ground := Ground.textOnly Departure.lateStores }, { on := 14, ground := Ground.textOnly Departure.lateStoresUnsure }, { on := 15, ground := Ground.phase }], guard := none }) (v := ?_) rfl (by kernel_rfl) (by kernel_rfl) (by kernel_rfl) (fun _ _ _ h => h) (Or.inl ⟨by rfl, ?_⟩) (by assumption) ?_
          rotate_left
          · intro w hSw
            clear hSw
            go_simp
            all_goals with_reducible rfl
          simp only [Act.put, List.setIfInBounds_toArray, List.set_cons_zero, List.set_cons_succ]
          refine wpAnyH_ready (rs := [17]) (by kernel_rfl) (by simp) ?_
          obtain ⟨Z1, hst, hin, C6, s6⟩ := IZ'.out.store 0 HPOS.out cl
          refine step_store_as (o := { dst := none, op := Op.store 42 (Operand.tmp 136) (Operand.tmp 131), type := 0, pos := "law.go:135", after := #[{ on := 16, ground := Ground.data }, { on := 11, ground := Ground.data }, { on := 0, ground := Ground.phase }, { on := 1, ground := Ground.phase }, { on := 2, ground := Ground.textOnly Departure.lateStores }, { on := 3, ground := Ground.textOnly Departure.lateStores }, { on := 4, ground := Ground.textOnly Departure.lateStores }, { on := 5, ground := Ground.textOnly Departure.lateStores }, { on := 6, ground := Ground.phase }, { on := 7, ground := Ground.phase }, { on := 8, ground := Ground.phase }, { on := 9, ground := Ground.phase }, { on := 10, ground := Ground.phase }, { on := 11, ground := Ground.phase }, { on := 12, ground := Ground.textOnly Departure.lateStores }, { on := 13, ground := Ground.textOnly Departure.lateStores }, { on := 14, ground := Ground.textOnly Departure.lateStoresUnsure }, { on := 15, ground := Ground.phase }], guard := none }) rfl rfl 42 (.tmp 136) (.tmp 131) rfl _ _ rfl rfl Z1 hst AllReadyH.nil ⟨CZ0.out.trans C6 (fun k hk e => e), fun hHeld => ?_⟩
          have CZ1 : Hid (Chg (fun j => j = gZ) w8 Z1) := CZ0.out.trans C6 (fun k hk e => e)
          replace IZ' : Hid (CvIn Z1 gZ tn cZ (t.cs.set 0 cl)) := hin
          clear hst hin C6 s6 CZ0
          simp only [Act.put]
          refine wpAnyH_take (i := 18) (oi := { dst := some 137, op := Op.indexAddr 23 (Operand.tmp 123) (Operand.tmp 125), type := 0, pos := "law.go:135", after := #[{ on := 3, ground := Ground.data }, { on := 5, ground := Ground.data }, { on := 0, ground := Ground.phase }, { on := 1, ground := Ground.phase }, { on := 2, ground := Ground.phase }, { on := 3, ground := Ground.phase }, { on := 4, ground := Ground.phase }, { on := 5, ground := Ground.phase }, { on := 6, ground := Ground.phase }, { on := 7, ground := Ground.phase }, { on := 8, ground := Ground.phase }, { on := 9, ground := Ground.phase }, { on := 10, ground := Ground.phase }, { on := 11, ground := Ground.phase }, { on := 12, ground := Ground.phase }, { on := 13, ground := Ground.phase }, { on := 14, ground := Ground.phase }, { on := 15, ground := Ground.phase }, { on := 16, ground := Ground.phase }, { on := 17, ground := Ground.phase }], guard := none }) (v := ?_) rfl (by kernel_rfl) (by kernel_rfl) (by kernel_rfl) (fun _ _ _ h => h) (Or.inl ⟨by rfl, ?_⟩) (by assumption) ?_
          rotate_left
          · intro w hSw
            clear hSw
            go_simp
            all_goals with_reducible rfl
          simp only [Act.put, List.setIfInBounds_toArray, List.set_cons_zero, List.set_cons_succ]
          refine wpAnyH_ready (rs := [19]) (by kernel_rfl) (by simp) ?_
          obtain ⟨Z2, hst, hin, C6, s6⟩ := IZ'.out.store m (by have := HMT.out; omega) cf
          refine step_store_as (o := { dst := none, op := Op.store 42 (Operand.tmp 137) (Operand.tmp 135), type := 0, pos := "law.go:135", after := #[{ on := 18, ground := Ground.data }, { on := 15, ground := Ground.data }, { on := 17, ground := Ground.chain }, { on := 0, ground := Ground.phase }, { on := 1, ground := Ground.phase }, { on := 2, ground := Ground.phase }, { on := 3, ground := Ground.phase }, { on := 4, ground := Ground.phase }, { on := 5, ground := Ground.phase }, { on := 6, ground := Ground.phase }, { on := 7, ground := Ground.phase }, { on := 8, ground := Ground.phase }, { on := 9, ground := Ground.phase }, { on := 10, ground := Ground.phase }, { on := 11, ground := Ground.phase }, { on := 12, ground := Ground.phase }, { on := 13, ground := Ground.phase }, { on := 14, ground := Ground.phase }, { on := 15, ground := Ground.phase }, { on := 16, ground := Ground.phase }, { on := 17, ground := Ground.phase }], guard := none }) rfl rfl 42 (.tmp 137) (.tmp 135) rfl _ _ rfl rfl Z2 hst AllReadyH.nil ⟨CZ1.out.trans C6 (fun k hk e => e), fun hHeld => ?_⟩
          have CZ2 : Hid (Chg (fun j => j = gZ) w8 Z2) := CZ1.out.trans C6 (fun k hk e => e)
          replace IZ' : Hid (CvIn Z2 gZ tn cZ ((t.cs.set 0 cl).set m cf)) := hin
          clear hst hin C6 s6 CZ1
          simp only [Act.put]
          refine wpAnyH_done (by kernel_rfl) ?_ _
          refine NoPanic.normal ?_
          clear hHeld
          try go_wp2_with fail
          go_meet
          exact ⟨IZ', CZ2⟩
        case rest =>
        obtain ⟨hIz, hCz⟩ := hcut
        clear q0 q1 q2
        have RA_6 := hide (hCz.out.row RA_5.out (by have := LG.out; omega))
        have IT_6 := hide (IT_5.out.chg hCz.out (by have := LG.out; omega))
        have HT_6 := hide (hCz.out.row HT_5.out (by have := LG.out; omega))
        have BW_6 := hide (BW_5.out.trans (hCz.out.below w.heap.size BW_5.out.size (fun k hk e => by have := LG.out; omega)))
        have IX_6 := hide (IX_5.out.chg hCz.out (by have := LG.out; omega))
        have RX_6 := hide (hCz.out.row RX_5.out (by have := LG.out; omega))
        have IY_6 := hide (IY_5.out.chg hCz.out (by have := LG.out; omega))
        have RY_6 := hide (hCz.out.row RY_5.out (by have := LG.out; omega))
        have RZ_6 := hide (hCz.out.row RZ.out (by have := LG.out; omega))
        clear hCz IZ RA_5 IT_5 HT_5 BW_5 IX_5 RX_5 IY_5 RY_5 RZ
        have LNX : Hid (k < t.cs.length ∧ m < t.cs.length ∧ m ≤ tn) := by have h1 := HTN.out; have h2 := HMT.out; have h3 := HKM.out; exact (⟨by omega, by omega, by omega⟩ : k < t.cs.length ∧ m < t.cs.length ∧ m ≤ tn)
        obtain ⟨X, hX⟩ : ∃ l, l = t.cs.set k ⟨ck.k, N⟩ := ⟨_, rfl⟩
        obtain ⟨Y, hY⟩ : ∃ l, l = t.cs.take m := ⟨_, rfl⟩
        obtain ⟨Z, hZ⟩ : ∃ l, l = (t.cs.set 0 cl).set m cf := ⟨_, rfl⟩
        have CKO := HTK.out.cs ck (List.mem_of_getElem? HCK.out)
        have OKX := hide (HTK.out.of X (by rw [hX, List.length_set]; exact Nat.le_refl _) (by rw [hX]; exact S.ok_set HTK.out.cs k _ ⟨CKO.k1, CKO.k2, HNB.out⟩))
        have OKY := hide (HTK.out.of Y (by rw [hY, List.length_take]; exact Nat.min_le_right _ _) (by rw [hY]; exact fun c hc => HTK.out.cs c (List.mem_of_mem_take hc)))
        have OKZ := hide (HTK.out.of Z (by rw [hZ, List.length_set, List.length_set]; exact Nat.le_refl _) (by rw [hZ]; exact S.ok_set (S.ok_set HTK.out.cs 0 _ (HTK.out.cs cl (List.mem_of_getElem? HCL.out))) m _ (HTK.out.cs cf (List.mem_of_getElem? HCF.out))))
        have CX := hide (show CvAt wc (.slice (some ⟨gX, 0, none⟩) tn cX) X by rw [hX]; exact IX_6.out.at_)
        have CY := hide (show CvAt wc (.slice (some ⟨gY, 0, none⟩) m cY) Y by rw [hY]; exact IY_6.out.at_.upto m LNX.out.2.2)
        have CZZ := hide (show CvAt wc (.slice (some ⟨gZ, 0, none⟩) tn cZ) Z by rw [hZ]; exact hIz.out.at_)
        have RX2 := RX_6
        have RY2 := RY_6
        have RZ2 := RZ_6
        have HT2 := HT_6
        have BW2 := BW_6
        clear CKO hX hY hZ hIz RX_6 RY_6 RZ_6 HT_6 BW_6 RA_6 IT_6 IX_6 IY_6
        obtain ⟨gX1, hgX1⟩ : ∃ b, b = S.genuine key ⟨t.id, X, t.tag⟩ := ⟨_, rfl⟩
        obtain ⟨gY1, hgY1⟩ : ∃ b, b = S.genuine key ⟨t.id, Y, t.tag⟩ := ⟨_, rfl⟩
        obtain ⟨gZ1, hgZ1⟩ : ∃ b, b = S.genuine key ⟨t.id, Z, t.tag⟩ := ⟨_, rfl⟩
        have EGX := hide hgX1
        have EGY := hide hgY1
        have EGZ := hide hgZ1
        clear hgX1 hgY1 hgZ1
        go_upto_region 22 with fail
        obtain ⟨we, hwe⟩ : ∃ we, we = wc := ⟨_, rfl⟩
        rw [← hwe] at CX CY CZZ RX2 RY2 RZ2 HT2 BW2 ⊢
        clear hwe
        refine wp_region_noPanic ?_
        refine wp_region_held_drew (S := (fun W => Chg (fun _ => False) we W)) follows ((Chg.refl _ _).drew) (fun hHeld => ?_)
        clear hHeld
        have hHeld : Chg (fun _ => False) we we.drew := (Chg.refl _ _).drew
        have CZ0 := hide hHeld
        generalize we.drew = Z0 at CZ0 hHeld ⊢
        refine wpAnyH_take (i := 1) (oi := { dst := some 139, op := Op.load 27 (Operand.tmp 19), type := 27, pos := "law.go:136", after := #[], guard := none }) (v := .agg (encT t.id (.slice (some ⟨gX, 0, none⟩) tn cX) t.tag).toArray) rfl (by kernel_rfl) (by kernel_rfl) (by kernel_rfl) (fun _ _ _ h => h) (yieldsIf_load_mid (by rfl) _ _ rfl bX 0 rfl (encT t.id (.slice (some ⟨gX, 0, none⟩) tn cX) t.tag) _ (fun _ hSw => rangeAt_row (hSw.row RX2.out (fun e => e))) Tryd.underlying27 rfl (by rw [size_t _ _ _ HTK.out.tl, List.size_toArray])) (by assumption) ?_
        simp only [Act.put, List.setIfInBounds_toArray, List.set_cons_zero, List.set_cons_succ]
        refine wpAnyH_take (i := 3) (oi := { dst := some 141, op := Op.move (Operand.tmp 13), type := 50, pos := "law.go:136", after := #[], guard := none }) (v := ?_) rfl (by kernel_rfl) (by kernel_rfl) (by kernel_rfl) (fun _ _ _ h => h) (Or.inl ⟨by rfl, ?_⟩) (by assumption) ?_
        rotate_left
        · intro w hSw
          clear hSw
          go_simp
          all_goals with_reducible rfl
        simp only [Act.put, List.setIfInBounds_toArray, List.set_cons_zero, List.set_cons_succ]
        refine wpAnyH_take (i := 5) (oi := { dst := some 143, op := Op.load 27 (Operand.tmp 19), type := 27, pos := "law.go:136", after := #[], guard := none }) (v := .agg (encT t.id (.slice (some ⟨gX, 0, none⟩) tn cX) t.tag).toArray) rfl (by kernel_rfl) (by kernel_rfl) (by kernel_rfl) (fun _ _ _ h => h) (yieldsIf_load_mid (by rfl) _ _ rfl bX 0 rfl (encT t.id (.slice (some ⟨gX, 0, none⟩) tn cX) t.tag) _ (fun _ hSw => rangeAt_row (hSw.row RX2.out (fun e => e))) Tryd.underlying27 rfl (by rw [size_t _ _ _ HTK.out.tl, List.size_toArray])) (by assumption) ?_
        simp only [Act.put, List.setIfInBounds_toArray, List.set_cons_zero, List.set_cons_succ]
        refine wpAnyH_ready (rs := [0]) (by kernel_rfl) (by simp) ?_
        refine AllReadyH.cons (o := { dst := some 138, op := Op.call { callee := Callee.value (Operand.func 10), args := #[Operand.const (Value.int IntKind.u8 3)], argTypes := #[5] }, type := 25, pos := "law.go:136", after := #[], guard := none }) rfl (fun K hK => ?_) AllReadyH.nil
        go_simp
        refine (root3.out Z0).mono ?_
        rintro e Z1 ⟨rfl, hb2⟩
        have CZ1 : Hid (Chg (fun _ => False) we Z1) := CZ0.out.then hb2
        clear hb2 CZ0
        clear hHeld
        refine hK.out _ _ CZ1.out (fun hHeld => ?_)
        clear hK K
        try simp only [Act.put, List.setIfInBounds_toArray, List.set_cons_zero, List.set_cons_succ]
        refine wpAnyH_ready (rs := [2]) (by kernel_rfl) (by simp) ?_
        refine AllReadyH.cons (o := { dst := some 140, op := Op.call { callee := Callee.value (Operand.func 16), args := #[Operand.tmp 138, Operand.tmp 139], argTypes := #[25, 27] }, type := 4, pos := "law.go:136", after := #[{ on := 0, ground := Ground.data }, { on := 1, ground := Ground.data }, { on := 0, ground := Ground.chain }], guard := none }) rfl (fun K hK => ?_) AllReadyH.nil
        go_simp
        refine (genuine_any key ⟨t.id, X, t.tag⟩ (.slice (some ⟨gX, 0, none⟩) tn cX) Z1 HKEY.out OKX.out (CX.out.below (CZ1.out.below _ (Nat.le_refl _) (fun _ _ e => e))) (HK.out.below (BW2.out.trans (CZ1.out.below w.heap.size BW2.out.size (fun k hk e => by omega))) h0)).mono ?_
        rintro e Z2 ⟨rfl, hb2⟩
        rw [← EGX.out]
        have CZ2 : Hid (Chg (fun _ => False) we Z2) := CZ1.out.then hb2
        clear hb2 CZ1
        clear hHeld
        refine hK.out _ _ CZ2.out (fun hHeld => ?_)
        clear hK K
        try simp only [Act.put, List.setIfInBounds_toArray, List.set_cons_zero, List.set_cons_succ]
        refine wpAnyH_ready (rs := [4]) (by kernel_rfl) (by simp) ?_
        refine AllReadyH.cons (o := { dst := some 142, op := Op.call { callee := Callee.value (Operand.func 10), args := #[Operand.const (Value.int IntKind.u8 3)], argTypes := #[5] }, type := 25, pos := "law.go:136", after := #[{ on := 2, ground := Ground.chain }], guard := none }) rfl (fun K hK => ?_) AllReadyH.nil
        go_simp
        refine (root3.out Z2).mono ?_
        rintro e Z3 ⟨rfl, hb2⟩
        have CZ3 : Hid (Chg (fun _ => False) we Z3) := CZ2.out.then hb2
        clear hb2 CZ2
        clear hHeld
        refine hK.out _ _ CZ3.out (fun hHeld => ?_)
        clear hK K
        try simp only [Act.put, List.setIfInBounds_toArray, List.set_cons_zero, List.set_cons_succ]
        refine wpAnyH_ready (rs := [6]) (by kernel_rfl) (by simp) ?_
        refine AllReadyH.cons (o := { dst := some 144, op := Op.call { callee := Callee.value (Operand.func 23), args := #[Operand.tmp 141, Operand.tmp 142, Operand.tmp 143], argTypes := #[50, 25, 27] }, type := 4, pos := "law.go:136", after := #[{ on := 3, ground := Ground.data }, { on := 4, ground := Ground.data }, { on := 5, ground := Ground.data }, { on := 4, ground := Ground.chain }], guard := none }) rfl (fun K hK => ?_) AllReadyH.nil
        go_simp
        refine (rgenuine_any gT key ⟨t.id, X, t.tag⟩ (.slice (some ⟨gX, 0, none⟩) tn cX) Z3 (CZ3.out.row HT2.out (fun e => e)) HKEY.out OKX.out (CX.out.below (CZ3.out.below _ (Nat.le_refl _) (fun _ _ e => e)))).mono ?_
        rintro e Z4 ⟨rfl, hb2⟩
        rw [← EGX.out]
        have bbX : (gX1 == gX1) = true := by cases gX1 <;> rfl
        have CZ4 : Hid (Chg (fun _ => False) we Z4) := CZ3.out.then hb2
        clear hb2 CZ3
        clear hHeld
        refine hK.out _ _ CZ4.out (fun hHeld => ?_)
        clear hK K
        try simp only [Act.put, List.setIfInBounds_toArray, List.set_cons_zero, List.set_cons_succ]
        refine wpAnyH_take (i := 7) (oi := { dst := some 145, op := Op.binOp BinOp.eql 4 (Operand.tmp 140) (Operand.tmp 144) 4, type := 4, pos := "law.go:136", after := #[{ on := 2, ground := Ground.data }, { on := 6, ground := Ground.data }], guard := none }) (v := ?_) rfl (by kernel_rfl) (by kernel_rfl) (by kernel_rfl) (fun _ _ _ h => h) (Or.inl ⟨by rfl, ?_⟩) (by assumption) ?_
        rotate_left
        · intro w hSw
          clear hSw
          go_simp
          all_goals with_reducible rfl
        simp only [Act.put, List.setIfInBounds_toArray, List.set_cons_zero, List.set_cons_succ]
        refine wpAnyH_take (i := 8) (oi := { dst := some 146, op := Op.move (Operand.tmp 145), type := 4, pos := "law.go:136", after := #[{ on := 7, ground := Ground.data }, { on := 6, ground := Ground.chain }], guard := none }) (v := ?_) rfl (by kernel_rfl) (by kernel_rfl) (by kernel_rfl) (fun _ _ _ h => h) (Or.inl ⟨by rfl, ?_⟩) (by assumption) ?_
        rotate_left
        · intro w hSw
          clear hSw
          go_simp
          all_goals with_reducible rfl
        simp only [Act.put, List.setIfInBounds_toArray, List.set_cons_zero, List.set_cons_succ]
        refine wpAnyH_take (i := 10) (oi := { dst := some 148, op := Op.load 27 (Operand.tmp 20), type := 27, pos := "law.go:136", after := #[{ on := 8, ground := Ground.guard }], guard := some (8, true) }) (v := .agg (encT t.id (.slice (some ⟨gY, 0, none⟩) m cY) t.tag).toArray) rfl (by kernel_rfl) (by kernel_rfl) (by kernel_rfl) (fun _ _ _ h => h) (yieldsIf_load_mid (by rfl) _ _ rfl bY 0 rfl (encT t.id (.slice (some ⟨gY, 0, none⟩) m cY) t.tag) _ (fun _ hSw => rangeAt_row (hSw.row RY2.out (fun e => e))) Tryd.underlying27 rfl (by rw [size_t _ _ _ HTK.out.tl, List.size_toArray])) (by assumption) ?_
        simp only [Act.put, List.setIfInBounds_toArray, List.set_cons_zero, List.set_cons_succ]
        refine wpAnyH_take (i := 12) (oi := { dst := some 150, op := Op.move (Operand.tmp 13), type := 50, pos := "law.go:136", after := #[{ on := 8, ground := Ground.guard }], guard := some (8, true) }) (v := ?_) rfl (by kernel_rfl) (by kernel_rfl) (by kernel_rfl) (fun _ _ _ h => h) (Or.inl ⟨by rfl, ?_⟩) (by assumption) ?_
        rotate_left
        · intro w hSw
          clear hSw
          go_simp
          all_goals with_reducible rfl
        simp only [Act.put, List.setIfInBounds_toArray, List.set_cons_zero, List.set_cons_succ]
        refine wpAnyH_take (i := 14) (oi := { dst := some 152, op := Op.load 27 (Operand.tmp 20), type := 27, pos := "law.go:136", after := #[{ on := 8, ground := Ground.guard }], guard := some (8, true) }) (v := .agg (encT t.id (.slice (some ⟨gY, 0, none⟩) m cY) t.tag).toArray) rfl (by kernel_rfl) (by kernel_rfl) (by kernel_rfl) (fun _ _ _ h => h) (yieldsIf_load_mid (by rfl) _ _ rfl bY 0 rfl (encT t.id (.slice (some ⟨gY, 0, none⟩) m cY) t.tag) _ (fun _ hSw => rangeAt_row (hSw.row RY2.out (fun e => e))) Tryd.underlying27 rfl (by rw [size_t _ _ _ HTK.out.tl, List.size_toArray])) (by assumption) ?_
        simp only [Act.put, List.setIfInBounds_toArray, List.set_cons_zero, List.set_cons_succ]
        refine wpAnyH_ready (rs := [9]) (by kernel_rfl) (by simp) ?_
        refine AllReadyH.cons (o := { dst := some 147, op := Op.call { callee := Callee.value (Operand.func 10), args := #[Operand.const (Value.int IntKind.u8 3)], argTypes := #[5] }, type := 25, pos := "law.go:136", after := #[{ on := 8, ground := Ground.chain }, { on := 8, ground := Ground.guard }], guard := some (8, true) }) rfl (fun K hK => ?_) AllReadyH.nil
        go_simp
        refine (root3.out Z4).mono ?_
        rintro e Z5 ⟨rfl, hb2⟩
        have CZ5 : Hid (Chg (fun _ => False) we Z5) := CZ4.out.then hb2
        clear hb2 CZ4
        clear hHeld
        refine hK.out _ _ CZ5.out (fun hHeld => ?_)
        clear hK K
        try simp only [Act.put, List.setIfInBounds_toArray, List.set_cons_zero, List.set_cons_succ]
        refine wpAnyH_ready (rs := [11]) (by kernel_rfl) (by simp) ?_
        refine AllReadyH.cons (o := { dst := some 149, op := Op.call { callee := Callee.value (Operand.func 16), args := #[Operand.tmp 147, Operand.tmp 148], argTypes := #[25, 27] }, type := 4, pos := "law.go:136", after := #[{ on := 9, ground := Ground.data }, { on := 10, ground := Ground.data }, { on := 9, ground := Ground.chain }, { on := 8, ground := Ground.guard }], guard := some (8, true) }) rfl (fun K hK => ?_) AllReadyH.nil
        go_simp
        refine (genuine_any key ⟨t.id, Y, t.tag⟩ (.slice (some ⟨gY, 0, none⟩) m cY) Z5 HKEY.out OKY.out (CY.out.below (CZ5.out.below _ (Nat.le_refl _) (fun _ _ e => e))) (HK.out.below (BW2.out.trans (CZ5.out.below w.heap.size BW2.out.size (fun k hk e => by omega))) h0)).mono ?_
        rintro e Z6 ⟨rfl, hb2⟩
        rw [← EGY.out]
        have CZ6 : Hid (Chg (fun _ => False) we Z6) := CZ5.out.then hb2
        clear hb2 CZ5
        clear hHeld
        refine hK.out _ _ CZ6.out (fun hHeld => ?_)
        clear hK K
        try simp only [Act.put, List.setIfInBounds_toArray, List.set_cons_zero, List.set_cons_succ]
        refine wpAnyH_ready (rs := [13]) (by kernel_rfl) (by simp) ?_
        refine AllReadyH.cons (o := { dst := some 151, op := Op.call { callee := Callee.value (Operand.func 10), args := #[Operand.const (Value.int IntKind.u8 3)], argTypes := #[5] }, type := 25, pos := "law.go:136", after := #[{ on := 11, ground := Ground.chain }, { on := 8, ground := Ground.guard }], guard := some (8, true) }) rfl (fun K hK => ?_) AllReadyH.nil
        go_simp
        refine (root3.out Z6).mono ?_
        rintro e Z7 ⟨rfl, hb2⟩
        have CZ7 : Hid (Chg (fun _ => False) we Z7) := CZ6.out.then hb2
        clear hb2 CZ6
        clear hHeld
        refine hK.out _ _ CZ7.out (fun hHeld => ?_)
        clear hK K
        try simp only [Act.put, List.setIfInBounds_toArray, List.set_cons_zero, List.set_cons_succ]
        refine wpAnyH_ready (rs := [15]) (by kernel_rfl) (by simp) ?_
        refine AllReadyH.cons (o := { dst := some 153, op := Op.call { callee := Callee.value (Operand.func 23), args := #[Operand.tmp 150, Operand.tmp 151, Operand.tmp 152], argTypes := #[50, 25, 27] }, type := 4, pos := "law.go:136", after := #[{ on := 12, ground := Ground.data }, { on := 13, ground := Ground.data }, { on := 14, ground := Ground.data }, { on := 13, ground := Ground.chain }, { on := 8, ground := Ground.guard }], guard := some (8, true) }) rfl (fun K hK => ?_) AllReadyH.nil
        go_simp
        refine (rgenuine_any gT key ⟨t.id, Y, t.tag⟩ (.slice (some ⟨gY, 0, none⟩) m cY) Z7 (CZ7.out.row HT2.out (fun e => e)) HKEY.out OKY.out (CY.out.below (CZ7.out.below _ (Nat.le_refl _) (fun _ _ e => e)))).mono ?_
        rintro e Z8 ⟨rfl, hb2⟩
        rw [← EGY.out]
        have bbY : (gY1 == gY1) = true := by cases gY1 <;> rfl
        have CZ8 : Hid (Chg (fun _ => False) we Z8) := CZ7.out.then hb2
        clear hb2 CZ7
        clear hHeld
        refine hK.out _ _ CZ8.out (fun hHeld => ?_)
        clear hK K
        try simp only [Act.put, List.setIfInBounds_toArray, List.set_cons_zero, List.set_cons_succ]
        refine wpAnyH_take (i := 16) (oi := { dst := some 154, op := Op.binOp BinOp.eql 4 (Operand.tmp 149) (Operand.tmp 153) 4, type := 4, pos := "law.go:136", after := #[{ on := 11, ground := Ground.data }, { on := 15, ground := Ground.data }, { on := 8, ground := Ground.guard }], guard := some (8, true) }) (v := ?_) rfl (by kernel_rfl) (by kernel_rfl) (by kernel_rfl) (fun _ _ _ h => h) (Or.inl ⟨by rfl, ?_⟩) (by assumption) ?_
        rotate_left
        · intro w hSw
          clear hSw
          go_simp
          all_goals with_reducible rfl
        simp only [Act.put, List.setIfInBounds_toArray, List.set_cons_zero, List.set_cons_succ]
        refine wpAnyH_take (i := 17) (oi := { dst := some 155, op := Op.pick (Operand.tmp 146) (Operand.tmp 154) (Operand.const (Value.bool false)), type := 4, pos := "law.go:136", after := #[{ on := 8, ground := Ground.data }, { on := 16, ground := Ground.data }], guard := none }) (v := ?_) rfl (by kernel_rfl) (by kernel_rfl) (by kernel_rfl) (fun _ _ _ h => h) (Or.inl ⟨by rfl, ?_⟩) (by assumption) ?_
        rotate_left
        · intro w hSw
          clear hSw
          go_simp
          all_goals with_reducible rfl
        simp only [Act.put, List.setIfInBounds_toArray, List.set_cons_zero, List.set_cons_succ]
        refine wpAnyH_take (i := 18) (oi := { dst := some 156, op := Op.move (Operand.tmp 155), type := 4, pos := "law.go:136", after := #[{ on := 17, ground := Ground.data }, { on := 15, ground := Ground.chain }], guard := none }) (v := ?_) rfl (by kernel_rfl) (by kernel_rfl) (by kernel_rfl) (fun _ _ _ h => h) (Or.inl ⟨by rfl, ?_⟩) (by assumption) ?_
        rotate_left
        · intro w hSw
          clear hSw
          go_simp
          all_goals with_reducible rfl
        simp only [Act.put, List.setIfInBounds_toArray, List.set_cons_zero, List.set_cons_succ]
        refine wpAnyH_take (i := 20) (oi := { dst := some 158, op := Op.load 27 (Operand.tmp 21), type := 27, pos := "law.go:136", after := #[{ on := 18, ground := Ground.guard }], guard := some (18, true) }) (v := .agg (encT t.id (.slice (some ⟨gZ, 0, none⟩) tn cZ) t.tag).toArray) rfl (by kernel_rfl) (by kernel_rfl) (by kernel_rfl) (fun _ _ _ h => h) (yieldsIf_load_mid (by rfl) _ _ rfl bZ 0 rfl (encT t.id (.slice (some ⟨gZ, 0, none⟩) tn cZ) t.tag) _ (fun _ hSw => rangeAt_row (hSw.row RZ2.out (fun e => e))) Tryd.underlying27 rfl (by rw [size_t _ _ _ HTK.out.tl, List.size_toArray])) (by assumption) ?_
        simp only [Act.put, List.setIfInBounds_toArray, List.set_cons_zero, List.set_cons_succ]
        refine wpAnyH_take (i := 22) (oi := { dst := some 160, op := Op.move (Operand.tmp 13), type := 50, pos := "law.go:136", after := #[{ on := 18, ground := Ground.guard }], guard := some (18, true) }) (v := ?_) rfl (by kernel_rfl) (by kernel_rfl) (by kernel_rfl) (fun _ _ _ h => h) (Or.inl ⟨by rfl, ?_⟩) (by assumption) ?_
        rotate_left
        · intro w hSw
          clear hSw
          go_simp
          all_goals with_reducible rfl
        simp only [Act.put, List.setIfInBounds_toArray, List.set_cons_zero, List.set_cons_succ]
        refine wpAnyH_take (i := 24) (oi := { dst := some 162, op := Op.load 27 (Operand.tmp 21), type := 27, pos := "law.go:136", after := #[{ on := 18, ground := Ground.guard }], guard := some (18, true) }) (v := .agg (encT t.id (.slice (some ⟨gZ, 0, none⟩) tn cZ) t.tag).toArray) rfl (by kernel_rfl) (by kernel_rfl) (by kernel_rfl) (fun _ _ _ h => h) (yieldsIf_load_mid (by rfl) _ _ rfl bZ 0 rfl (encT t.id (.slice (some ⟨gZ, 0, none⟩) tn cZ) t.tag) _ (fun _ hSw => rangeAt_row (hSw.row RZ2.out (fun e => e))) Tryd.underlying27 rfl (by rw [size_t _ _ _ HTK.out.tl, List.size_toArray])) (by assumption) ?_
        simp only [Act.put, List.setIfInBounds_toArray, List.set_cons_zero, List.set_cons_succ]
        refine wpAnyH_ready (rs := [19]) (by kernel_rfl) (by simp) ?_
        refine AllReadyH.cons (o := { dst := some 157, op := Op.call { callee := Callee.value (Operand.func 10), args := #[Operand.const (Value.int IntKind.u8 3)], argTypes := #[5] }, type := 25, pos := "law.go:136", after := #[{ on := 18, ground := Ground.chain }, { on := 18, ground := Ground.guard }], guard := some (18, true) }) rfl (fun K hK => ?_) AllReadyH.nil
        go_simp
        refine (root3.out Z8).mono ?_
        rintro e Z9 ⟨rfl, hb2⟩
        have CZ9 : Hid (Chg (fun _ => False) we Z9) := CZ8.out.then hb2
        clear hb2 CZ8
        clear hHeld
        refine hK.out _ _ CZ9.out (fun hHeld => ?_)
        clear hK K
        try simp only [Act.put, List.setIfInBounds_toArray, List.set_cons_zero, List.set_cons_succ]
        refine wpAnyH_ready (rs := [21]) (by kernel_rfl) (by simp) ?_
        refine AllReadyH.cons (o := { dst := some 159, op := Op.call { callee := Callee.value (Operand.func 16), args := #[Operand.tmp 157, Operand.tmp 158], argTypes := #[25, 27] }, type := 4, pos := "law.go:136", after := #[{ on := 19, ground := Ground.data }, { on := 20, ground := Ground.data }, { on := 19, ground := Ground.chain }, { on := 18, ground := Ground.guard }], guard := some (18, true) }) rfl (fun K hK => ?_) AllReadyH.nil
        go_simp
        refine (genuine_any key ⟨t.id, Z, t.tag⟩ (.slice (some ⟨gZ, 0, none⟩) tn cZ) Z9 HKEY.out OKZ.out (CZZ.out.below (CZ9.out.below _ (Nat.le_refl _) (fun _ _ e => e))) (HK.out.below (BW2.out.trans (CZ9.out.below w.heap.size BW2.out.size (fun k hk e => by omega))) h0)).mono ?_
        rintro e Z10 ⟨rfl, hb2⟩
        rw [← EGZ.out]
        have CZ10 : Hid (Chg (fun _ => False) we Z10) := CZ9.out.then hb2
        clear hb2 CZ9
        clear hHeld
        refine hK.out _ _ CZ10.out (fun hHeld => ?_)
        clear hK K
        try simp only [Act.put, List.setIfInBounds_toArray, List.set_cons_zero, List.set_cons_succ]
        refine wpAnyH_ready (rs := [23]) (by kernel_rfl) (by simp) ?_
        refine AllReadyH.cons (o := { dst := some 161, op := Op.call { callee := Callee.value (Operand.func 10), args := #[Operand.const (Value.int IntKind.u8 3)], argTypes := #[5] }, type := 25, pos := "law.go:136", after := #[{ on := 21, ground := Ground.chain }, { on := 18, ground := Ground.guard }], guard := some (18, true) }) rfl (fun K hK => ?_) AllReadyH.nil
        go_simp
        refine (root3.out Z10).mono ?_
        rintro e Z11 ⟨rfl, hb2⟩
        have CZ11 : Hid (Chg (fun _ => False) we Z11) := CZ10.out.then hb2
        clear hb2 CZ10
        clear hHeld
        refine hK.out _ _ CZ11.out (fun hHeld => ?_)
        clear hK K
        try simp only [Act.put, List.setIfInBounds_toArray, List.set_cons_zero, List.set_cons_succ]
        refine wpAnyH_ready (rs := [25]) (by kernel_rfl) (by simp) ?_
        refine AllReadyH.cons (o := { dst := some 163, op := Op.call { callee := Callee.value (Operand.func 23), args := #[Operand.tmp 160, Operand.tmp 161, Operand.tmp 162], argTypes := #[50, 25, 27] }, type := 4, pos := "law.go:136", after := #[{ on := 22, ground := Ground.data }, { on := 23, ground := Ground.data }, { on := 24, ground := Ground.data }, { on := 23, ground := Ground.chain }, { on := 18, ground := Ground.guard }], guard := some (18, true) }) rfl (fun K hK => ?_) AllReadyH.nil
        go_simp
        refine (rgenuine_any gT key ⟨t.id, Z, t.tag⟩ (.slice (some ⟨gZ, 0, none⟩) tn cZ) Z11 (CZ11.out.row HT2.out (fun e => e)) HKEY.out OKZ.out (CZZ.out.below (CZ11.out.below _ (Nat.le_refl _) (fun _ _ e => e)))).mono ?_
        rintro e Z12 ⟨rfl, hb2⟩
        rw [← EGZ.out]
        have bbZ : (gZ1 == gZ1) = true := by cases gZ1 <;> rfl
        have CZ12 : Hid (Chg (fun _ => False) we Z12) := CZ11.out.then hb2
        clear hb2 CZ11
        clear hHeld
        refine hK.out _ _ CZ12.out (fun hHeld => ?_)
        clear hK K
        try simp only [Act.put, List.setIfInBounds_toArray, List.set_cons_zero, List.set_cons_succ]
        refine wpAnyH_take (i := 26) (oi := { dst := some 164, op := Op.binOp BinOp.eql 4 (Operand.tmp 159) (Operand.tmp 163) 4, type := 4, pos := "law.go:136", after := #[{ on := 21, ground := Ground.data }, { on := 25, ground := Ground.data }, { on := 18, ground := Ground.guard }], guard := some (18, true) }) (v := ?_) rfl (by kernel_rfl) (by kernel_rfl) (by kernel_rfl) (fun _ _ _ h => h) (Or.inl ⟨by rfl, ?_⟩) (by assumption) ?_
        rotate_left
        · intro w hSw
          clear hSw
          go_simp
          all_goals with_reducible rfl
        simp only [Act.put, List.setIfInBounds_toArray, List.set_cons_zero, List.set_cons_succ]
        refine wpAnyH_take (i := 27) (oi := { dst := some 165, op := Op.pick (Operand.tmp 156) (Operand.tmp 164) (Operand.const (Value.bool false)), type := 4, pos := "law.go:136", after := #[{ on := 18, ground := Ground.data }, { on := 26, ground := Ground.data }], guard := none }) (v := ?_) rfl (by kernel_rfl) (by kernel_rfl) (by kernel_rfl) (fun _ _ _ h => h) (Or.inl ⟨by rfl, ?_⟩) (by assumption) ?_
        rotate_left
        · intro w hSw
          clear hSw
          go_simp
          all_goals with_reducible rfl
        simp only [Act.put, List.setIfInBounds_toArray, List.set_cons_zero, List.set_cons_succ]
        refine wpAnyH_take (i := 28) (oi := { dst := some 166, op := Op.move (Operand.tmp 165), type := 4, pos := "law.go:136", after := #[{ on := 27, ground := Ground.data }, { on := 25, ground := Ground.chain }], guard := none }) (v := ?_) rfl (by kernel_rfl) (by kernel_rfl) (by kernel_rfl) (fun _ _ _ h => h) (Or.inl ⟨by rfl, ?_⟩) (by assumption) ?_
        rotate_left
        · intro w hSw
          clear hSw
          go_simp
          all_goals with_reducible rfl
        simp only [Act.put, List.setIfInBounds_toArray, List.set_cons_zero, List.set_cons_succ]
        refine wpAnyH_ready (rs := [29]) (by kernel_rfl) (by simp) ?_
        refine AllReadyH.cons (o := { dst := some 167, op := Op.call { callee := Callee.value (Operand.func 19), args := #[], argTypes := #[] }, type := 4, pos := "law.go:136", after := #[{ on := 28, ground := Ground.chain }, { on := 28, ground := Ground.guard }], guard := some (28, true) }) rfl (fun K hK => ?_) AllReadyH.nil
        go_simp
        refine (known_any Z12 (HK.out.below (BW2.out.trans (CZ12.out.below w.heap.size BW2.out.size (fun k hk e => by omega))) h0)).mono ?_
        rintro e Z13 ⟨rfl, hb2⟩
        have CZ13 : Hid (Chg (fun _ => False) we Z13) := CZ12.out.then hb2
        clear hb2 CZ12
        clear hHeld
        refine hK.out _ _ CZ13.out (fun hHeld => ?_)
        clear hK K
        try simp only [Act.put, List.setIfInBounds_toArray, List.set_cons_zero, List.set_cons_succ]
        refine wpAnyH_take (i := 30) (oi := { dst := some 168, op := Op.pick (Operand.tmp 166) (Operand.tmp 167) (Operand.const (Value.bool false)), type := 4, pos := "law.go:136", after := #[{ on := 28, ground := Ground.data }, { on := 29, ground := Ground.data }], guard := none }) (v := ?_) rfl (by kernel_rfl) (by kernel_rfl) (by kernel_rfl) (fun _ _ _ h => h) (Or.inl ⟨by rfl, ?_⟩) (by assumption) ?_
        rotate_left
        · intro w hSw
          clear hSw
          go_simp
          all_goals with_reducible rfl
        simp only [Act.put, List.setIfInBounds_toArray, List.set_cons_zero, List.set_cons_succ]
        refine wpAnyH_take (i := 31) (oi := { dst := some 12, op := Op.assign (Operand.tmp 168), type := 4, pos := "law.go:136", after := #[{ on := 30, ground := Ground.data }, { on := 29, ground := Ground.chain }, { on := 0, ground := Ground.phase }, { on := 1, ground := Ground.phase }, { on := 2, ground := Ground.phase }, { on := 3, ground := Ground.phase }, { on := 4, ground := Ground.phase }, { on := 5, ground := Ground.phase }, { on := 6, ground := Ground.phase }, { on := 7, ground := Ground.phase }, { on := 8, ground := Ground.phase }, { on := 9, ground := Ground.phase }, { on := 10, ground := Ground.phase }, { on := 11, ground := Ground.phase }, { on := 12, ground := Ground.phase }, { on := 13, ground := Ground.phase }, { on := 14, ground := Ground.phase }, { on := 15, ground := Ground.phase }, { on := 16, ground := Ground.phase }, { on := 17, ground := Ground.phase }, { on := 18, ground := Ground.phase }, { on := 19, ground := Ground.phase }, { on := 20, ground := Ground.phase }, { on := 21, ground := Ground.phase }, { on := 22, ground := Ground.phase }, { on := 23, ground := Ground.phase }, { on := 24, ground := Ground.phase }, { on := 25, ground := Ground.phase }, { on := 26, ground := Ground.phase }, { on := 27, ground := Ground.phase }, { on := 28, ground := Ground.phase }, { on := 29, ground := Ground.phase }, { on := 30, ground := Ground.phase }], guard := none }) (v := ?_) rfl (by kernel_rfl) (by kernel_rfl) (by kernel_rfl) (fun _ _ _ h => h) (Or.inl ⟨by rfl, ?_⟩) (by assumption) ?_
        rotate_left
        · intro w hSw
          clear hSw
          go_simp
          all_goals with_reducible rfl
        simp only [Act.put, List.setIfInBounds_toArray, List.set_cons_zero, List.set_cons_succ]
        refine wpAnyH_done (by kernel_rfl) ?_ _
        refine NoPanic.normal ?_
        clear hHeld
        have BF := hide (BW2.out.trans (CZ13.out.below w.heap.size BW2.out.size (fun k hk e => by omega)))
        generalize Z13 = Y at BF ⊢
        go_wp2_with fail
        go_ret
        exact ⟨rfl, BF.out⟩
end Go.Proofs.YtlcilclhaahopaaDoor
