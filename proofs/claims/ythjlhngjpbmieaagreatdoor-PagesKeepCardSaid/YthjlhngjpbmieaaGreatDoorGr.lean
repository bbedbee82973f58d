/- textOf: the text that a head tells of. -/
/- areaOf: the area of some sectors, if the disk has them. -/
/- A Log in memory; Open. -/
import Derived.Test.YthjlhngjpbmieaaGreatDoorGq
namespace Go.Proofs.YthjlhngjpbmieaaGreatDoor
open Go.RowKit

/-- An area and a head that are boxed, one behind the other. -/
theorem box_ah (w : World) (p : Value) (f c : Nat) (h : S.Hd) : ∃ w0, w0 = (w.alloc (.cells #[p, .int .i64 (f : Int), .int .i64 (c : Int)] 101)).alloc (.cells (S.hc h).toArray 106) ∧ Hid (ArAt w0 w.heap.size p f c) ∧ Hid (HdAt w0 (w.heap.size + 1) h) ∧ Hid (Below w.heap.size w w0) ∧ Hid (w0.heap.size = w.heap.size + 2) := by
  refine ⟨_, rfl, ?_, ?_, ((Below.refl _ _).alloc (Nat.le_refl _) _).alloc (by simp) _, by show ((w.alloc _).alloc _).heap.size = _; simp⟩
  · show ((w.alloc _).alloc _).heap[w.heap.size]? = _
    rw [heap_alloc_old _ _ (by simp)]
    exact heap_alloc_new _ _
  · show ((w.alloc _).alloc _).heap[w.heap.size + 1]? = _
    rw [show w.heap.size + 1 = (w.alloc (.cells #[p, .int .i64 (f : Int), .int .i64 (c : Int)] 101)).heap.size from by simp]
    exact heap_alloc_new _ _
theorem URow.take {w : World} {ao : Option Addr} {n c : Nat} {bs : List UInt8} (h : URow w (.slice ao n c) bs) (k : Nat) (hk : k ≤ n) : URow w (.slice ao k c) (bs.take k) := by
  refine ⟨by rw [S.v8l_length, Nat.mul_one], ?_⟩
  have hsh : n = bs.length := by
    rcases h.2 with ⟨h1, h2⟩ | ⟨g, cap, cur, h1, _⟩
    · simp only [Value.slice.injEq] at h1; omega
    · simp only [Value.slice.injEq] at h1; omega
  have hlt : (bs.take k).length = k := by rw [List.length_take]; omega
  rcases h.2 with ⟨h1, h2⟩ | ⟨g, cap, cur, h1, h3, h4, h5, h6, h7, h8⟩
  · simp only [Value.slice.injEq] at h1
    left
    have : k = 0 := by omega
    subst this
    exact ⟨by rw [h1.1, h1.2.2], by simp⟩
  · simp only [Value.slice.injEq] at h1
    refine Or.inr ⟨g, cap, cur, by rw [h1.1, h1.2.2, hlt], h3, h4, by rw [hlt]; omega, h6, h7, ?_⟩
    rw [hlt]
    have e : S.v8l (bs.take k) = (S.v8l bs).take k := by simp [S.v8l, List.map_take]
    rw [e, ← h8, List.take_take]
    congr 1
    omega
theorem ownBlock_len (ao : Option Addr) (n m c : Nat) : (Value.slice ao n c).ownBlock = (Value.slice ao m c).ownBlock := by cases ao <;> rfl
/-- What textOf holds on to. -/
structure TxIs (w : World) (o : Ow) (d : S.Dk) (ga gh : Nat) (f c : Nat) (h : S.Hd) : Prop where
  dk : Dsk w o d
  ar : ArAt w ga o.ptr f c
  hd : HdAt w gh h
theorem TxIs.below {w W : World} {o : Ow} {d : S.Dk} {ga gh f c : Nat} {h : S.Hd} (x : TxIs w o d ga gh f c h) (hb : Below w.heap.size w W) : TxIs W o d ga gh f c h :=
  ⟨x.dk.below hb, x.ar.below hb (block_lt_of_row x.ar), x.hd.below hb (block_lt_of_row x.hd)⟩
set_option maxHeartbeats 4000000 in
set_option maxRecDepth 10000 in
theorem textOf_any (o : Ow) (d : S.Dk) (f c : Nat) (h : S.Hd) (rs : List (List UInt8)) (w : World) (hd : Dsk w o d) (hn : f + c ≤ d.safe.length) (h4 : 4 ≤ c) (hu : h.used = (S.enc rs).length) (hsl : h.sl = S.sealOf rs) (hr : (S.enc rs).length ≤ S.room c)
    (hown : ∀ k, 2 ≤ k → k < c → S.Owned f c k (d.seen.getD (f + k) [])) (htx : S.TextAt d.seen f (S.enc rs)) :
   Calls Tryz.prog 67 #[arv o.ptr f c, hdv h] w fun e w' => ∃ tv, e = .returned (.tuple #[tv, .bool true]) ∧ URow w' tv (S.enc rs) ∧ (∀ k, tv.ownBlock = some k → w.heap.size ≤ k) ∧ Below w.heap.size w w' := by
  have hns := hd.dk.n
  have HN : Hid (f + c ≤ d.safe.length) := hn
  have hcc : c ≤ 8192 := by omega
  have hff : f ≤ 8192 := by omega
  have HOWN := hide hown
  have HTX := hide htx
  have HSL := hide hsl
  obtain ⟨w0, hw0, HA, HH, HB, HZ⟩ := box_ah w o.ptr f c h
  have HX0 : Hid (TxIs w0 o d w.heap.size (w.heap.size + 1) f c h) := ⟨hd.below HB.out, HA.out, HH.out⟩
  obtain ⟨ga, hga⟩ : ∃ ga, ga = w.heap.size := ⟨_, rfl⟩
  obtain ⟨gh, hgh⟩ : ∃ gh, gh = w.heap.size + 1 := ⟨_, rfl⟩
  rw [← hgh, ← hga] at HX0
  obtain ⟨C, hC⟩ : ∃ C, C = (S.hc h).toArray := ⟨_, rfl⟩
  rw [← hC] at hw0
  unfold arv hdv
  rw [← hC]
  obtain ⟨U, hU⟩ : ∃ U, U = (S.enc rs).length := ⟨_, rfl⟩
  have HU : Hid (h.used = U ∧ U = (S.enc rs).length) := ⟨hu.trans hU.symm, hU⟩
  have hrm : U ≤ (c - 2) * 120 := by rw [hU]; exact hr
  have hroom : S.room c = (c - 2) * 120 := rfl
  clear hC hd hown htx hsl hu hr hn HA HH hU
  go_enter Tryz.func67, Tryz.ntmps67
  go_wp2_with fail
  rw [← hw0, ← hgh, ← hga]
  have HGA : Hid (ga = w.heap.size ∧ gh = w.heap.size + 1) := ⟨hga, hgh⟩
  clear hw0 hga hgh
  refine wp_region_noPanic ?_
  refine wp_region_held_drew (S := (fun W => TxIs W o d ga gh f c h)) follows (HX0.out.below (Below.refl _ _).drew) (fun hHeld => ?_)
  have B0 : Hid (Below w.heap.size w w0.drew) := HB.out.drew
  clear HX0 HB
  generalize w0.drew = Z1 at B0 hHeld ⊢
  refine tk 0 ?_ rfl (Or.inl ⟨by rfl, ?_⟩) ?_
  rotate_left
  · intro w hSw
    clear hSw
    go_simp
    all_goals with_reducible rfl
  simp only [Act.put, List.setIfInBounds_toArray, List.set_cons_zero, List.set_cons_succ]
  refine tk 1 ?_ rfl (Or.inl ⟨by rfl, ?_⟩) ?_
  rotate_left
  · intro w hSw
    have c1 := (TxIs.hd hSw).used
    rw [HU.out.1] at c1
    clear hSw
    go_simp
    all_goals with_reducible rfl
  simp only [Act.put, List.setIfInBounds_toArray, List.set_cons_zero, List.set_cons_succ]
  refine wpAnyH_take (i := 2) (oi := ⟨_, _, _, _, _, _⟩) (v := .agg #[o.ptr, .int .i64 (f : Int), .int .i64 (c : Int)]) rfl (by kernel_rfl) (by kernel_rfl) (by kernel_rfl) (fun _ _ _ h => h) (yieldsIf_load_mid (by kernel_rfl) 101 (.tmp 2) rfl ga 0 rfl [o.ptr, .int .i64 (f : Int), .int .i64 (c : Int)] _ (fun W hW => rangeAt_row hW.ar) Tryz.underlying101 rfl (by kernel_rfl)) (by assumption) ?_
  simp only [Act.put, List.setIfInBounds_toArray, List.set_cons_zero, List.set_cons_succ]
  refine wpAnyH_ready (rs := [3]) (by kernel_rfl) (by simp) ?_
  refine AllReadyH.cons (o := { dst := some 12, op := Op.call { callee := Callee.value (Operand.func 74), args := #[Operand.tmp 11], argTypes := #[101] }, type := 3, pos := "area.go:136", after := #[⟨2, .data⟩], guard := none }) rfl (fun K hK => ?_) AllReadyH.nil
  go_simp
  refine (room_any o.ptr f c Z1 (by omega) (by omega)).mono ?_
  rintro e Z2 ⟨rfl, b2⟩
  have a2 := TxIs.below hHeld b2
  clear hHeld
  refine hK.out _ _ a2 (fun hHeld => ?_)
  clear hK K 
  try simp only [Act.put, List.setIfInBounds_toArray, List.set_cons_zero, List.set_cons_succ]
  have B2 : Hid (Below w.heap.size w Z2) := B0.out.trans (b2.mono B0.out.size)
  clear a2 b2 B0
  have q0 : ((S.room c : Nat) : Int) = ((c : Int) - 2) * 120 := by rw [hroom]; omega
  have q1 : ¬ (((c : Int) - 2) * 120 < (U : Int)) := by omega
  rw [q0]
  clear q0
  refine tk 4 ?_ rfl (Or.inl ⟨by rfl, ?_⟩) ?_
  rotate_left
  · intro w hSw
    clear hSw
    go_simp
    all_goals with_reducible rfl
  simp only [Act.put, List.setIfInBounds_toArray, List.set_cons_zero, List.set_cons_succ]
  refine wpAnyH_done (by kernel_rfl) ?_ _
  refine NoPanic.normal ?_
  have HX2 := hide hHeld
  clear hHeld
  go_wp2_with fail
  go_loopw [6, 7] (fun tx i wr => ∃ (ao : Option Addr) (n cp k j : Nat) (acc : List UInt8), tx = .slice ao n cp ∧ i = .int .i64 (k : Int) ∧ 2 ≤ k ∧ k ≤ c ∧ n = acc.length ∧ n = j * 120 ∧ j ≤ k - 2 ∧ (j = k - 2 ∨ U ≤ j * 120) ∧ Hid (∀ i, i < acc.length → i < U → acc.getD i 0 = (S.enc rs).getD i 0) ∧ URow wr (.slice ao n cp) acc ∧ (∀ b, (Value.slice ao n cp).ownBlock = some b → Z2.heap.size ≤ b) ∧ Below Z2.heap.size Z2 wr) (fun _ i _ => c - (intOf i).toNat)
  case atStart => exact ⟨none, 0, 0, 2, 0, [], rfl, rfl, by omega, by omega, rfl, by omega, by omega, by omega, fun i hi => absurd hi (Nat.not_lt_zero _), urow_nil _, (fun b hb => by cases hb), Below.refl _ _⟩
  case round =>
    obtain ⟨ao, n, cp, k, j, acc, rfl, rfl, hk2, hkc, hna, hnj, hjk, hju, hacc, hur, hob, hb⟩ := hrel
    have XW := hide (HX2.out.below hb)
    have UR := hide hur
    have OB := hide hob
    have BB := hide hb
    obtain ⟨a0, a1, a2⟩ := XW.out.ar.cells
    have hus := XW.out.hd.used
    rw [HU.out.1] at hus
    by_cases hlt : k < c
    · have q1 : (k : Int) < (c : Int) := by omega
      have q4 : IntKind.i64.wrap ((k : Int) + 1) = (k : Int) + 1 := by rw [IntKind.wrap_i64]; omega
      have HNA := hide hna
      have HNJ := hide hnj
      have HJU := hide hju
      have hnb : n ≤ 1000000 := by omega
      clear hur hob hb hna hus hnj hju
      go_wp2_with fail
      refine (read_ar o d f c k wr XW.out.dk.dk (by have := HN.out; omega)).mono ?_
      rintro e w1 ⟨gb, rfl, g1, r1, b1⟩
      have OWN := HOWN.out k hk2 hlt
      obtain ⟨s, hs⟩ : ∃ s, s = d.seen.getD (f + k) [] := ⟨_, rfl⟩
      rw [← hs] at r1 OWN
      have HS : Hid (s = d.seen.getD (f + k) []) := hs
      have HSL1 : Hid (s.length = 128) := OWN.1
      have X1 := hide (XW.out.below b1)
      have UR1 : Hid (URow w1 (.slice ao n cp) acc) := UR.out.kept fun b hbk => b1.block b (UR.out.lt hbk)
      have B1 : Hid (Below Z2.heap.size Z2 w1) := BB.out.trans (b1.mono BB.out.size)
      have R1 := hide r1
      have HOW := hide OWN
      clear a0 a1 a2 hs
      obtain ⟨a0, a1, a2⟩ := X1.out.ar.cells
      clear g1 r1 b1 OWN
      go_wp2_with fail
      refine (owns_any o.ptr f c k gb s w1 (by omega) (by omega) (by omega) R1.out HOW.out).mono ?_
      rintro e w2 ⟨rfl, b2⟩
      have X2 := hide (X1.out.below b2)
      have ur2 : URow w2 (.slice ao n cp) acc := UR1.out.kept fun b hbk => b2.block b (UR1.out.lt hbk)
      have UR2 := hide ur2
      have B2' : Hid (Below Z2.heap.size Z2 w2) := B1.out.trans (b2.mono B1.out.size)
      have r2 : w2.heap[gb]? = some (.cells (S.v8 s) 5 (0, 0)) := (b2.block gb (block_lt_of_row R1.out)).trans R1.out
      have hus := X2.out.hd.used
      rw [HU.out.1] at hus
      have hsb := slice_row r2 HSL1.out.symm (by rw [HSL1.out]; omega)
      have hp8 := part_from hsb (by rw [HSL1.out]) 8 (by omega)
      have e8 : (if 128 = 8 then (some (⟨gb, 0, none⟩ : Addr)) else Option.map (fun x => x.add 8) (some (⟨gb, 0, none⟩ : Addr))) = some ⟨gb, 8, none⟩ := by
        rw [if_neg (by omega), Option.map_some, Addr.add_lit]
      rw [e8] at hp8
      have HP8 : Hid (SliceAt w2 (.slice (some ⟨gb, 8, none⟩) 120 120) (s.drop 8)) := hp8
      clear a0 a1 a2 b2 r2 hsb hp8 e8
      have hdl : (s.drop 8).length = 120 := by rw [List.length_drop, HSL1.out]
      by_cases hl : n < U
      · have HJ2 : Hid (j = k - 2) := by show j = k - 2; have := HNJ.out; have := HJU.out; omega
        have q5 : (n : Int) < (U : Int) := by omega
        have HLN : Hid (acc.length + (s.drop 8).length ≤ 140737488355328) := by show acc.length + _ ≤ _; rw [hdl, ← HNA.out]; omega
        have HACC : Hid (∀ i, i < (acc ++ s.drop 8).length → i < U → (acc ++ s.drop 8).getD i 0 = (S.enc rs).getD i 0) := fun i hi hiU => by
          rw [S.app_at]
          by_cases hia : i < acc.length
          · rw [if_pos hia]
            exact hacc.out i hia hiU
          · rw [if_neg hia]
            have hi' : i < acc.length + 120 := by rw [List.length_append, hdl] at hi; exact hi
            have hna := HNA.out
            have hnj := HNJ.out
            have hj2 := HJ2.out
            have h1 := HTX.out i (by rw [← HU.out.2]; exact hiU)
            rw [← h1, show 2 + i / 120 = k from by omega, ← HS.out]
            rw [List.getD_eq_getElem?_getD, List.getElem?_drop, ← List.getD_eq_getElem?_getD]
            congr 1
            omega
        have HNL : Hid ((acc ++ s.drop 8).length = n + 120) := by show (acc ++ s.drop 8).length = n + 120; rw [List.length_append, hdl, ← HNA.out]
        obtain ⟨ACC, hACC⟩ : ∃ A, A = acc ++ s.drop 8 := ⟨_, rfl⟩
        rw [← hACC] at HACC HNL
        have HAE := hide hACC
        clear hdl hACC
        go_wp2_with (at_builtin; (refine wpList_append_known rfl (.tmp 33) (.tmp 35) 31 31 rfl _ _ rfl rfl (run_append_row w2 _ _ acc (s.drop 8) 31 UR2.out HP8.out HLN.out) ?_; rw [← HAE.out]; rintro v3 w3 ⟨hu3, hg3, ho3⟩; have HU3 := hide hu3; have HG3 := hide hg3; have HO3 := hide ho3; clear hu3 hg3 ho3; obtain ⟨a3, c3, hv3⟩ := HU3.out.shape; subst hv3))
        have B3 : Hid (Below Z2.heap.size Z2 w3) := (B2'.out).grown HG3.out B2'.out.size (fun b hbk => OB.out b hbk)
        have OB3 : Hid (∀ b, (Value.slice a3 ACC.length c3).ownBlock = some b → Z2.heap.size ≤ b) := fun b hbk => by
          rcases HO3.out b hbk with h' | h'
          · exact OB.out b h'
          · exact Nat.le_trans B2'.out.size h'
        go_roundw
        case rel => exact ⟨a3, _, c3, k + 1, j + 1, ACC, rfl, by go_num, by omega, by omega, rfl, by rw [HNL.out, HNJ.out]; omega, by have := HJ2.out; omega, Or.inl (by have := HJ2.out; omega), HACC, HU3.out, OB3.out, B3.out⟩
        case measure => simp [intOf]; omega
      · have q5 : ¬ (n : Int) < (U : Int) := by omega
        clear hdl
        have HR2 : Hid (U ≤ j * 120) := by show U ≤ j * 120; rw [← HNJ.out]; omega
        go_wp2_with fail
        go_roundw
        case rel => exact ⟨ao, n, cp, k + 1, j, acc, rfl, by go_num, by omega, by omega, HNA.out, HNJ.out, by omega, Or.inr HR2.out, hacc, UR2.out, OB.out, B2'.out⟩
        case measure => simp [intOf]; omega
    · have q1 : ¬ (k : Int) < (c : Int) := by omega
      have hUn : U ≤ n := by omega
      have q2 : (0 : Int) ≤ (U : Int) := by omega
      have q3 : (U : Int) ≤ (n : Int) := by omega
      have hcap := (hur.sliceAt (by omega)).le_cap
      have q4 : (U : Int) ≤ (cp : Int) := by omega
      have hx : acc.take U = S.enc rs := by
        apply List.ext_getElem?
        intro i
        by_cases hi : i < U
        · have h1 := hacc.out i (by omega) hi
          rw [List.getElem?_take, if_pos hi]
          rw [List.getD_eq_getElem?_getD, List.getD_eq_getElem?_getD, List.getElem?_eq_getElem (by omega), List.getElem?_eq_getElem (by rw [← HU.out.2]; exact hi)] at h1
          rw [List.getElem?_eq_getElem (by omega), List.getElem?_eq_getElem (by rw [← HU.out.2]; exact hi)]
          simpa using h1
        · rw [List.getElem?_eq_none (by rw [List.length_take]; omega), List.getElem?_eq_none (by rw [← HU.out.2]; omega)]
      have hut := hur.take U hUn
      rw [hx] at hut
      have UT := hide hut
      have ST := hide (hut.sliceAt (by rw [← HU.out.2]; omega))
      have hsd := XW.out.hd.seal (by rw [HSL.out]; exact S.seal_length _)
      rw [HSL.out] at hsd
      obtain ⟨DV, hDV⟩ : ∃ D, D = S.v8 (S.sealOf rs) := ⟨_, rfl⟩
      rw [← hDV] at hsd
      have HDV : Hid (DV = S.v8 (S.sealOf rs)) := hDV
      clear hur hob hb hna hx hut hDV a0 a1 hnj hju
      go_wp2_with (with_reducible refine at_op ⟨some 44, .load 104 (.tmp 43), 104, "area.go:150", #[⟨2, .data⟩], none⟩ ?_; refine wpList_load_as rfl 104 (.tmp 43) rfl (.pointer (some ⟨gh, 2, none⟩)) rfl (.agg DV) hsd ?_)
      rw [HDV.out]
      refine (sealing_any _ rs _ wr ST.out (by rw [← HU.out.2]; omega) (S.seal_length _) XW.out.dk.k).mono ?_
      rintro e w3 ⟨rfl, b3⟩
      rw [beq_self_eq_true]
      have U3 : Hid (URow w3 (.slice ao U cp) (S.enc rs)) := UT.out.kept fun b hbk => b3.block b (UT.out.lt hbk)
      have B3 : Hid (Below w.heap.size w w3) := B2.out.trans ((BB.out.trans (b3.mono BB.out.size)).mono B2.out.size)
      clear b3
      go_wp2_with fail
      go_ret2
      exact ⟨.slice ao U cp, rfl, U3.out, fun b hbk => Nat.le_trans B2.out.size (OB.out b ((ownBlock_len ao n U cp).trans hbk)), B3.out⟩
end Go.Proofs.YthjlhngjpbmieaaGreatDoor
namespace Go.Proofs.YthjlhngjpbmieaaGreatDoor
open Go.RowKit

set_option maxHeartbeats 1600000 in
theorem areaOf_yes (o : Ow) (d : S.Dk) (f c : Nat) (w : World) (hd : DkIs w o d) (h4 : 4 ≤ c) (hn : f + c ≤ d.safe.length) :
   Calls Tryz.prog 62 #[o.ptr, .int .i64 (f : Int), .int .i64 (c : Int)] w fun e w' => e = .returned (.tuple #[arv o.ptr f c, .int .i64 0]) ∧ Below w.heap.size w w' := by
  have hns := hd.n
  obtain ⟨N, hN⟩ : ∃ N, N = d.safe.length := ⟨_, rfl⟩
  have q1 : ¬ (f : Int) < 0 := by omega
  have q2 : ¬ (c : Int) < 4 := by omega
  have q3 : ¬ ((N : Int) - (c : Int)) < (f : Int) := by omega
  have q4 : (N : Int) ≤ 8192 := by omega
  have q5 : (c : Int) ≤ 8192 := by omega
  obtain ⟨w0, hw0⟩ : ∃ w0, w0 = w.alloc (.cells #[.pointer none, .int .i64 0, .int .i64 0] 101) := ⟨_, rfl⟩
  have HB : Hid (Below w.heap.size w w0) := by rw [hw0]; exact (Below.refl _ _).alloc (Nat.le_refl _) _
  have HD := hide (hd.below HB.out)
  have HN := hide hN
  have HR : Hid (w0.heap[w.heap.size]? = some (.cells #[.pointer none, .int .i64 0, .int .i64 0] 101 (0, 0))) := by rw [hw0]; exact heap_alloc_new _ _
  clear hd hn hN
  unfold Ow.ptr
  go_enter Tryz.func62, Tryz.ntmps62
  go_wp2_with fail
  rw [← hw0]
  have hp : Value.pointer (some ⟨o.g, 0, none⟩) = o.ptr := rfl
  refine (sectors_any o d w0 HD.out).mono ?_
  rintro e w1 ⟨rfl, rfl⟩
  rw [← HN.out, hw0]
  clear hw0 HD HR hp HN
  go_wp2_with fail
  exact bodyPost_ret (v := .tuple #[arv o.ptr f c, .int .i64 0]) (by simp [results, Tryz.results62, go_sem, arv, Ow.ptr]) rfl ⟨rfl, (Below.refl _ _).alloc (Nat.le_refl _) _⟩
end Go.Proofs.YthjlhngjpbmieaaGreatDoor
namespace Go.Proofs.YthjlhngjpbmieaaGreatDoor
open Go.RowKit

namespace S
/-- The cells of a Log. -/
def lc (p : Value) (f c : Nat) (h : Hd) (tv : Value) (op : Bool) : List Value := [p, .int .i64 (f : Int), .int .i64 (c : Int)] ++ (hc h ++ [tv, .bool op])
theorem lc_length (p : Value) (f c : Nat) {h : Hd} (tv : Value) (op : Bool) (hl : h.sl.length = 32) : (lc p f c h tv op).length = 39 := by simp [lc, hc_length hl]
end S
def LgAt (w : World) (g : Nat) (p : Value) (f c : Nat) (h : S.Hd) (tv : Value) (op : Bool) : Prop := w.heap[g]? = some (.cells (S.lc p f c h tv op).toArray 108 (0, 0))
theorem info75l : (Tryz.prog.info? 108).map (fun i => (i.size, i.bytes)) = some (39, 104) := by kernel_rfl
theorem zero75l : (Tryz.prog.info? 108).bind (·.zero) = some (.agg (S.lc (.pointer none) 0 0 S.Hd.none (.slice none 0 0) false).toArray) := by kernel_rfl
set_option maxRecDepth 100000 in
theorem built75l (parts : List (Nat × Value)) : Tryz.prog.built 108 parts = Instr.fill ((#[(0, 3), (3, 34), (37, 1), (38, 1)] : Array (Nat × Nat))[·]?) (S.lc (.pointer none) 0 0 S.Hd.none (.slice none 0 0) false).toArray parts := by
  obtain ⟨i, hi, hz, _, _⟩ := info_pair info75l zero75l
  unfold Program.built
  rw [hi, Tryz.underlying108]
  simp only [hz]
  rfl
theorem fill_step {tab : Nat → Option (Nat × Nat)} {cs : Array Value} {i : Nat} {v : Value} {rest : List (Nat × Value)} (off n : Nat) (ht : tab i = some (off, n)) (hs : v.cells.size = n) (hle : off + n ≤ cs.size) :
    Instr.fill tab cs ((i, v) :: rest) = Instr.fill tab (v.cells.zipIdx.foldl (fun cs (x : Value × Nat) => cs.setIfInBounds (off + x.2) x.1) cs) rest := by
  conv => lhs; unfold Instr.fill
  simp only [ht]
  rw [if_neg (by simp [hs]; omega)]
set_option maxRecDepth 100000 in
theorem build75l (p : Value) (f c : Nat) (h : S.Hd) (tv : Value) (op : Bool) (hl : h.sl.length = 32) (h1 : tv.cells = #[tv]) (w : World) :
    (Instr.build 108 #[(0, arv p f c), (1, hdv h), (2, tv), (3, .bool op)]).run Tryz.prog w = .ok (.agg (S.lc p f c h tv op).toArray) w :=
  run_build w 108 _ _ (by
    have hz : (S.lc (.pointer none) 0 0 S.Hd.none (.slice none 0 0) false).length = 39 := S.lc_length _ _ _ _ _ (S.zeros_length _)
    have hh : (S.hc h).length = 34 := S.hc_length hl
    have hn : (S.hc S.Hd.none).length = 34 := S.hc_length (S.zeros_length _)
    have cA : (arv p f c).cells = #[p, .int .i64 (f : Int), .int .i64 (c : Int)] := rfl
    have cH : (hdv h).cells = (S.hc h).toArray := rfl
    have cB : (Value.bool op).cells = #[.bool op] := rfl
    have e0 := lay_mid [] [.pointer none, .int .i64 0, .int .i64 0] (S.hc S.Hd.none ++ [.slice none 0 0, .bool false]) #[p, .int .i64 (f : Int), .int .i64 (c : Int)] 0 rfl rfl
    have e1 := lay_mid [p, .int .i64 (f : Int), .int .i64 (c : Int)] (S.hc S.Hd.none) [.slice none 0 0, .bool false] (S.hc h).toArray 3 rfl (by rw [hn, List.size_toArray, hh])
    have e2 := lay_mid ([p, .int .i64 (f : Int), .int .i64 (c : Int)] ++ S.hc h) [.slice none 0 0] [.bool false] #[tv] 37 (by simp [hh]) rfl
    have e3 := lay_mid ([p, .int .i64 (f : Int), .int .i64 (c : Int)] ++ (S.hc h ++ [tv])) [.bool false] [] #[.bool op] 38 (by simp [hh]) rfl
    simp only [List.append_assoc, List.nil_append, List.cons_append, List.append_nil] at e0 e1 e2 e3
    rw [built75l]
    have z0 : (S.lc (.pointer none) 0 0 S.Hd.none (.slice none 0 0) false) = (Value.pointer none :: .int .i64 0 :: .int .i64 0 :: (S.hc S.Hd.none ++ [.slice none 0 0, .bool false])) := rfl
    rw [z0]
    rw [fill_step 0 3 rfl (by rw [cA]; rfl) (by simp), cA, e0]
    rw [fill_step 3 34 rfl (by rw [cH, List.size_toArray, hh]) (by simp [hn]), cH, e1]
    rw [fill_step 37 1 rfl (by rw [h1]; rfl) (by simp [hh]), h1, e2]
    rw [fill_step 38 1 rfl (by rw [cB]; rfl) (by simp [hh]), cB, e3]
    rfl)
theorem LgAt.below {w W : World} {g : Nat} {p : Value} {f c : Nat} {h : S.Hd} {tv : Value} {op : Bool} {B : Nat} (a : LgAt w g p f c h tv op) (hb : Below B w W) (hB : g < B) : LgAt W g p f c h tv op := (hb.block g hB).trans a
theorem LgAt.chg {q : Nat → Prop} {w W : World} {g : Nat} {p : Value} {f c : Nat} {h : S.Hd} {tv : Value} {op : Bool} (a : LgAt w g p f c h tv op) (hc : Chg q w W) (hq : ¬ q g) : LgAt W g p f c h tv op := hc.row a hq
/-- A log of the call's own: its block, its text; it stands beside the disk. -/
structure LgIs (w : World) (g : Nat) (p : Value) (f c t : Nat) (rs : List (List UInt8)) (tv : Value) : Prop where
  row : LgAt w g p f c (S.hdOf t rs) tv true
  text : URow w tv (S.enc rs)
  sep : tv.ownBlock ≠ some g
theorem LgIs.chg {q : Nat → Prop} {w W : World} {g : Nat} {p : Value} {f c t : Nat} {rs : List (List UInt8)} {tv : Value} (x : LgIs w g p f c t rs tv) (hc : Chg q w W) (hg : ¬ q g) (ht : ∀ k, tv.ownBlock = some k → ¬ q k) : LgIs W g p f c t rs tv :=
  ⟨x.row.chg hc hg, x.text.chg hc ht, x.sep⟩
theorem LgIs.below {w W : World} {g : Nat} {p : Value} {f c t : Nat} {rs : List (List UInt8)} {tv : Value} (x : LgIs w g p f c t rs tv) (hb : Below w.heap.size w W) : LgIs W g p f c t rs tv :=
  x.chg (q := fun _ => False) (Chg.ofBelow' hb) (fun e => e) (fun _ _ e => e)
theorem urow_cells {w : World} {tv : Value} {bs : List UInt8} (h : URow w tv bs) : tv.cells = #[tv] := by
  obtain ⟨ao, c, rfl⟩ := h.shape
  rfl
set_option maxHeartbeats 4000000 in
set_option maxRecDepth 10000 in
theorem open_yes (o : Ow) (d : S.Dk) (f c p t : Nat) (rs : List (List UInt8)) (w : World) (hd : Dsk w o d) (hg : S.Good d.seen f c p t rs) :
   Calls Tryz.prog 44 #[o.ptr, .int .i64 (f : Int), .int .i64 (c : Int)] w fun e w' => ∃ g tv, e = .returned (.tuple #[.pointer (some ⟨g, 0, none⟩), .int .i64 0]) ∧ LgIs w' g o.ptr f c t rs tv ∧ w.heap.size ≤ g ∧ (∀ k, tv.ownBlock = some k → w.heap.size ≤ k) ∧ Below w.heap.size w w' := by
  have hfc := hg.few
  rw [S.Dk.seen_length] at hfc
  have hns := hd.dk.n
  have HG := hide hg
  have HF : Hid (f + c ≤ d.safe.length) := hfc
  have h4 := hg.four
  have HD := hide hd
  have HP : Hid (0 < w.heap.size) := hd.k.pos
  have HLT : Hid (∀ k, o.has k → k < w.heap.size) := hd.dk.lt
  clear hg hd
  have hptr : o.ptr = .pointer (some ⟨o.g, 0, none⟩) := rfl
  rw [hptr]
  go_enter Tryz.func44, Tryz.ntmps44
  go_wp2_with fail
  rw [← hptr]
  refine (areaOf_yes o d f c w HD.out.dk h4 HF.out).mono ?_
  rintro e w1 ⟨rfl, b1⟩
  have D1 := HD.out.below b1
  obtain ⟨w2, hw2⟩ : ∃ w2, w2 = w1.alloc (.cells #[o.ptr, .int .i64 (f : Int), .int .i64 (c : Int)] 101) := ⟨_, rfl⟩
  have b2 : Below w1.heap.size w1 w2 := by rw [hw2]; exact (Below.refl _ _).alloc (Nat.le_refl _) _
  have A2 : ArAt w2 w1.heap.size o.ptr f c := by show w2.heap[w1.heap.size]? = _; rw [hw2]; exact heap_alloc_new _ _
  have HD2 := hide (D1.below b2)
  have HA2 := hide A2
  have HB2 : Hid (Below w.heap.size w w2) := b1.trans (b2.mono b1.size)
  obtain ⟨ga, hga⟩ : ∃ ga, ga = w1.heap.size := ⟨_, rfl⟩
  rw [← hga] at HA2
  unfold arv
  have HS1 : Hid (w.heap.size ≤ ga) := by show _ ≤ ga; rw [hga]; exact b1.size
  clear b1 D1 b2 A2 HD
  have hPP : ∃ PP, PP = o.ptr := ⟨_, rfl⟩
  go_wp2_with fail
  rw [← hptr, ← hw2, ← hga]
  clear hw2 hga hPP hptr
  refine (current_any o d f c w2 HD2.out (by have := HF.out; omega) (by omega) _ _ rfl rfl).mono ?_
  rintro e w3 ⟨rfl, b3⟩
  rw [HG.out.cur]
  have hok := HG.out.hd
  have HOK := hide hok
  have HD3 := hide (HD2.out.below b3)
  have A3 := HA2.out.below b3 (block_lt_of_row HA2.out)
  have B3 := HB2.out.trans (b3.mono HB2.out.size)
  have hal := alloc73 w3
  have hd4 : HdAt (w3.alloc (.cells (S.hc S.Hd.none).toArray 106)) w3.heap.size S.Hd.none := heap_alloc_new _ _
  obtain ⟨w5, hst, hd5, c5⟩ := store73 (h := S.hdOf t rs) hd4 (S.zeros_length _) hok.sl
  have b34 : Below w3.heap.size w3 (w3.alloc (.cells (S.hc S.Hd.none).toArray 106)) := (Below.refl _ _).alloc (Nat.le_refl _) _
  have b5 : Below w3.heap.size w3 w5 := b34.trans (c5.base b34.size (Nat.le_refl _))
  have HX5 : Hid (TxIs w5 o d ga w3.heap.size f c (S.hdOf t rs)) := ⟨HD3.out.below b5, A3.below b5 (block_lt_of_row A3), hd5⟩
  have HB5 : Hid (Below w.heap.size w w5) := B3.trans (b5.mono B3.size)
  obtain ⟨gh, hgh⟩ : ∃ gh, gh = w3.heap.size := ⟨_, rfl⟩
  rw [← hgh] at HX5 hal hst
  have ld := HX5.out.hd.load hok.sl
  obtain ⟨HV, hHV⟩ : ∃ X, X = hdv (S.hdOf t rs) := ⟨_, rfl⟩
  rw [← hHV] at ld hst
  have HHV : Hid (HV = hdv (S.hdOf t rs)) := hHV
  obtain ⟨HC0, hHC0⟩ : ∃ X, X = (S.hc S.Hd.none).toArray := ⟨_, rfl⟩
  rw [← hHC0] at hal hst
  obtain ⟨a0, a1, a2⟩ := HX5.out.ar.cells
  have ecv : curv (some (S.hdOf t rs, p)) = .tuple #[HV, .int .i64 (p : Int), .bool true] := by rw [hHV]; rfl
  rw [ecv]
  clear hok b3 A3 B3 hd4 hd5 c5 b34 b5 hgh hHV hHC0 HD3 HD2 HA2 ecv
  go_wp2_with (first | (with_reducible refine at_op ⟨some 10, .alloc 106, 0, "wal.go:38", #[], none⟩ ?_; refine wpList_alloc_known rfl 106 rfl (.pointer (some ⟨gh, 0, none⟩)) (w3.alloc (.cells HC0 106)) hal ?_) | (with_reducible refine at_op ⟨none, .store 106 (.tmp 10) (.tmp 27), 0, "wal.go:38", #[⟨6, .data⟩, ⟨3, .data⟩, ⟨1, .chain⟩, ⟨0, .phase⟩, ⟨1, .phase⟩, ⟨2, .phase⟩, ⟨3, .phase⟩, ⟨4, .textOnly .lateStores⟩, ⟨5, .textOnly .lateStores⟩, ⟨6, .phase⟩], none⟩ ?_; refine wpList_store_as rfl 106 (.tmp 10) (.tmp 27) rfl (.pointer (some ⟨gh, 0, none⟩)) HV rfl rfl w5 hst ?_) | (with_reducible refine at_op ⟨some 34, .load 106 (.tmp 10), 106, "wal.go:42", #[], none⟩ ?_; refine wpList_load_as rfl 106 (.tmp 10) rfl (.pointer (some ⟨gh, 0, none⟩)) rfl HV ld ?_))
  rw [HHV.out]
  refine (textOf_any o d f c (S.hdOf t rs) rs w5 HX5.out.dk HF.out h4 rfl rfl HG.out.room HG.out.own HG.out.text).mono ?_
  rintro e w6 ⟨tv, rfl, u6, o6, b6⟩
  rw [← HHV.out]
  have HX6 := hide (HX5.out.below b6)
  have HB6 := hide (HB5.out.trans (b6.mono HB5.out.size))
  have HU6 := hide u6
  have HO6 : Hid (∀ k, tv.ownBlock = some k → w.heap.size ≤ k) := fun k hk => Nat.le_trans HB5.out.size (o6 k hk)
  have ld6 := HX6.out.hd.load HOK.out.sl
  rw [← HHV.out] at ld6
  clear a0 a1 a2
  obtain ⟨a0, a1, a2⟩ := HX6.out.ar.cells
  have hbd := build75l o.ptr f c (S.hdOf t rs) tv true HOK.out.sl (urow_cells u6) w6
  rw [← HHV.out] at hbd
  unfold arv at hbd
  obtain ⟨LC, hLC⟩ : ∃ X, X = (S.lc o.ptr f c (S.hdOf t rs) tv true).toArray := ⟨_, rfl⟩
  rw [← hLC] at hbd
  have HLC : Hid (LC = (S.lc o.ptr f c (S.hdOf t rs) tv true).toArray) := hLC
  have h6t : ∀ k, tv.ownBlock = some k → k < w6.heap.size := fun k hk => u6.lt hk
  have H6T := hide h6t
  obtain ⟨tao, tcp, htv⟩ := u6.shape
  subst htv
  clear hal hst ld u6 o6 b6 hLC h6t
  go_wp2_with (first | (with_reducible refine at_op ⟨some 41, .load 106 (.tmp 10), 106, "wal.go:46", #[], none⟩ ?_; refine wpList_load_as rfl 106 (.tmp 10) rfl (.pointer (some ⟨gh, 0, none⟩)) rfl HV ld6 ?_) | (with_reducible refine at_op ⟨some 43, .build 108 #[(0, .tmp 40), (1, .tmp 41), (2, .tmp 42), (3, .const (Value.bool true))], 108, "wal.go:46", #[⟨0, .data⟩, ⟨1, .data⟩, ⟨2, .data⟩], none⟩ ?_; refine wpList_build_as rfl 108 [(0, Operand.tmp 40), (1, Operand.tmp 41), (2, Operand.tmp 42), (3, Operand.const (Value.bool true))] rfl [(0, .agg #[o.ptr, .int .i64 (f : Int), .int .i64 (c : Int)]), (1, HV), (2, .slice tao (S.enc rs).length tcp), (3, .bool true)] rfl (.agg LC) hbd ?_))
  go_ret2
  refine ⟨w6.heap.size, .slice tao (S.enc rs).length tcp, rfl, ⟨?_, ?_, fun e => ?_⟩, HB6.out.size, HO6.out, HB6.out.alloc HB6.out.size _⟩
  · show (w6.alloc (.cells LC 108)).heap[w6.heap.size]? = _
    rw [HLC.out]
    exact heap_alloc_new _ _
  · exact HU6.out.kept fun k hk => heap_alloc_old _ _ (H6T.out k hk)
  · have := H6T.out _ e
    omega
end Go.Proofs.YthjlhngjpbmieaaGreatDoor
