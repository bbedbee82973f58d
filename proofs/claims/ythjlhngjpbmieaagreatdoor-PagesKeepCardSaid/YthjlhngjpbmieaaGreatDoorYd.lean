/- PagesKeep: pages that are put together are there together or not at all, whatever crashes come. -/
import Derived.Test.YthjlhngjpbmieaaGreatDoorYe
namespace Go.Proofs.YthjlhngjpbmieaaGreatDoor
open Go.RowKit

theorem store45 {w : World} {g : Nat} {v x : Value} {a b y z : Int} (h : w.heap[g]? = some (.cells #[v, .int .i64 a, .int .i64 b] 45 (0, 0))) (hx : x.oneCell' = true) : ∃ w', (Instr.storeAt 45 (.pointer (some ⟨g, 0, none⟩)) (.agg #[x, .int .i64 y, .int .i64 z])).run Tryz.prog w = .ok () w' ∧ w'.heap[g]? = some (.cells #[x, .int .i64 y, .int .i64 z] 45 (0, 0)) ∧ Chg (fun k => k = g) w w' := by
  have hr := run_storeVar_row (P := Tryz.prog) w g 45 45 _ #[x, .int .i64 y, .int .i64 z] h (by kernel_rfl) rfl (by simp [hx]; exact ⟨rfl, rfl⟩)
  refine ⟨w.setRow g #[x, .int .i64 y, .int .i64 z], ?_, setRow_heap w g _ _ _ _ h, Chg.setRow (p := fun k => k = g) g _ rfl⟩
  simp only [Instr.storeAt, Instr.sureAddr, Sem.run_bind, Sem.run_pure, Result.andThen_ok, hr]
set_option maxHeartbeats 64000000 in
set_option maxRecDepth 10000 in
theorem pagesKeep_walk (ao : Option Addr) (L cp : Nat) (qs : List S.Ask) (w : World) (hq : AsksAt w ao L qs) (hK : KAt w) :
   Calls Tryz.prog 4 #[.slice ao L cp] w fun e w' => e = .returned (.bool true) ∧ Below w.heap.size w w' := by
  have HQ := hide hq
  have HK := hide hK
  have HP : Hid (0 < w.heap.size) := hK.pos
  have hmm := @run_makeMap Tryz.prog
  clear hq hK
  go_enter Tryz.func4, Tryz.ntmps4
  go_wp2_with fail
  refine (pbegun_go w HK.out).mono ?_
  rintro e w1 ⟨o, gs, rfl, hp1, hst1, hng, hgs⟩
  obtain ⟨d0, hd0⟩ : ∃ d0, d0 = S.madeDk 8192 := ⟨_, rfl⟩
  obtain ⟨pg0, hpg0⟩ : ∃ pg0 : Nat → List UInt8, pg0 = fun _ => S.zeros 1024 := ⟨_, rfl⟩
  have hl0 : d0.left = none := by rw [hd0]; rfl
  have hz0 : ∀ m, pg0 m = S.zeros 1024 := fun m => by rw [hpg0]
  rw [← hd0, ← hpg0] at hp1
  obtain ⟨og, hog⟩ : ∃ og, og = o.g := ⟨_, rfl⟩
  have hptr : o.ptr = .pointer (some ⟨og, 0, none⟩) := by rw [hog]; rfl
  obtain ⟨w2, hw2⟩ : ∃ w2, w2 = w1.alloc (.map #[] 0) := ⟨_, rfl⟩
  obtain ⟨gm, hgm⟩ : ∃ gm, gm = w1.heap.size := ⟨_, rfl⟩
  have b2 : Below w1.heap.size w1 w2 := by rw [hw2]; exact (Below.refl _ _).alloc (Nat.le_refl _) _
  have s2 : w2.heap.size = gm + 1 := by rw [hw2, hgm]; exact Array.size_push ..
  obtain ⟨w3, hw3⟩ : ∃ w3, w3 = w2.alloc (.cells #[.slice none 0 0, .int .i64 0, .int .i64 0] 45) := ⟨_, rfl⟩
  have b3 : Below w2.heap.size w2 w3 := by rw [hw3]; exact (Below.refl _ _).alloc (Nat.le_refl _) _
  have r3 : w3.heap[w2.heap.size]? = some (.cells #[.slice none 0 0, .int .i64 0, .int .i64 0] 45 (0, 0)) := by rw [hw3]; exact heap_alloc_new _ _
  rw [s2] at r3
  have hws := hp1.below.size
  have K0 : Hid (Ks w w3 og (gm + 1) gs gm 0 o d0 0 0 [] pg0 (fun _ => 0) (.slice none 0 0) ⟨[], 0, 0⟩ false (-1)) := by
    have b13 := b2.trans (b3.mono b2.size)
    have hm := MpIs.made w1
    rw [← hw2, ← hgm] at hm
    refine ⟨⟨hp1.dk.below b13, hp1.pend, hp1.pgs (fun n _ => by rw [hz0]; exact S.zeros_length _), hp1.ob, hp1.below.trans (b13.mono hws), hp1.pos⟩, hog.symm, (b13.block gs (block_lt_of_row hst1)).trans hst1, hng, hm.below b3, fun e => by have := hp1.dk.dk.lt gm e; omega, fun m _ => by rw [hz0]; rfl, r3, fun e => by have := hp1.dk.dk.lt _ e; omega, bools_nil w, fun _ => hl0, by omega, hgs, by omega, by omega⟩
  rw [hptr]
  have HW2 := hide hw2
  have HW3 := hide hw3
  have HGM := hide hgm
  clear hp1 hst1 hng hgs hd0 hpg0 hl0 hz0 hog hptr hw2 hgm b2 s2 hw3 b3 r3 hws
  go_wp2_with fail
  rw [← HGM.out, ← HW2.out, ← HW3.out]
  obtain ⟨gC, hgC⟩ : ∃ gC, gC = gm + 1 := ⟨_, rfl⟩
  rw [← hgC] at K0 ⊢
  clear hgC HW2 HW3 HGM hmm
  go_loopw [4, 6, 7, 9, 10] (fun s m a g i wr => KR w og gC L s m a g i wr) (fun _ _ _ _ i _ => 12 - (intOf i).toNat)
  case atStart => exact KR.mk 0 gs gm 0 o d0 0 0 [] pg0 (fun _ => 0) (.slice none 0 0) ⟨[], 0, 0⟩ false (-1) (by omega) (Nat.zero_le _) rfl rfl rfl rfl rfl (by omega) (by omega) K0.out
  case round =>
  obtain ⟨k, gs, b, n, o, d, p, t, ns, pg, f, kv, c, ar, ag, hk12, hkL, rfl, rfl, rfl, rfl, rfl, hn6, ht3, hks⟩ := hrel
  have KS := hide hks
  clear hks K0
  by_cases hgo : k < L ∧ k < 12
  · obtain ⟨hlt, h12⟩ := hgo
    have qa : (k : Int) < (L : Int) := by omega
    have qb : (k : Int) < 12 := by omega
    have q0 : (0 : Int) ≤ (k : Int) := by omega
    obtain ⟨bq, oq, hao, hbq, hask⟩ := HQ.out.2 (by omega)
    subst hao
    have hak := hask k hlt
    obtain ⟨q, hqe⟩ : ∃ q, q = qs.getD k S.ask0 := ⟨_, rfl⟩
    rw [← hqe] at hak
    obtain ⟨an, cn, ak, ck, hrg, hin, hkb⟩ := hak.ex
    have INS := hide hin
    have KBQ := hide hkb
    have AF := hide hak.after
    have AGQ := hide hak.again
    have AG1 := hide KS.out.ag1
    have cell : ∀ j v, [Value.int .i64 q.kind, .int .i64 q.after, .int .i64 q.again, .slice an q.ns.length cn, .int .u8 (q.fill.toNat : Int), .slice ak q.keep.length ck, .int .i64 q.torn, .int .i64 q.bytes][j]? = some v → wr.cell? ⟨bq, oq + k * 8 + j, none⟩ = some v := fun j v hv => (KS.out.pw.below.cell (p := ⟨bq, oq + k * 8 + j, none⟩) hbq).trans (hrg j v hv)
    have c0 := cell 0 _ rfl
    have c1 := cell 1 _ rfl
    have c2 := cell 2 _ rfl
    have c3 := cell 3 _ rfl
    have c4 := cell 4 _ rfl
    have c5 := cell 5 _ rfl
    have c6 := cell 6 _ rfl
    have c7 := cell 7 _ rfl
    rw [Nat.add_zero] at c0
    obtain ⟨w2, hw2⟩ : ∃ w2, w2 = wr.alloc (.cells #[.int .i64 q.kind, .int .i64 q.after, .int .i64 q.again, .slice an q.ns.length cn, .int .u8 (q.fill.toNat : Int), .slice ak q.keep.length ck, .int .i64 q.torn, .int .i64 q.bytes] 48) := ⟨_, rfl⟩
    obtain ⟨g11, hg11⟩ : ∃ g11, g11 = wr.heap.size := ⟨_, rfl⟩
    have b2 : Below wr.heap.size wr w2 := by rw [hw2]; exact (Below.refl _ _).alloc (Nat.le_refl _) _
    have R2 : Hid (w2.heap[g11]? = some (.cells #[.int .i64 q.kind, .int .i64 q.after, .int .i64 q.again, .slice an q.ns.length cn, .int .u8 (q.fill.toNat : Int), .slice ak q.keep.length ck, .int .i64 q.torn, .int .i64 q.bytes] 48 (0, 0))) := by rw [hg11, hw2]; exact heap_alloc_new _ _
    have K2 := hide (KS.out.then b2)
    have NG11 : Hid (¬ o.has g11) := fun e => by have := KS.out.pw.dk.dk.lt g11 e; omega
    clear b2 hrg hin hkb hak hask hqe cell KS
    go_wp2_with fail
    rw [← hw2, ← hg11]
    clear c0 c1 c2 c3 c4 c5 c6 c7 hw2 hg11
    refine (copied_any b n f w2 K2.out.mp (by omega)).mono ?_
    rintro e w3 ⟨b', rfl, hb', hm3, b3⟩
    have K3 := hide (K2.out.then b3)
    have M3 := hide hm3
    have R3 : Hid (w3.heap[g11]? = some (.cells #[.int .i64 q.kind, .int .i64 q.after, .int .i64 q.again, .slice an q.ns.length cn, .int .u8 (q.fill.toNat : Int), .slice ak q.keep.length ck, .int .i64 q.torn, .int .i64 q.bytes] 48 (0, 0))) := (b3.block g11 (block_lt_of_row R2.out)).trans R2.out
    have NB3 : Hid (¬ o.has b') := fun e => by have := K2.out.pw.dk.dk.lt b' e; omega
    have BB3 : Hid (w.heap.size ≤ b') := Nat.le_trans K2.out.pw.below.size hb'
    have HB3 : Hid (∀ x, (x < w.heap.size ∨ o.has x ∨ x = gs ∨ x = b ∨ x = gC ∨ x = g11) → x < b') := fun x hx => by
      refine Nat.lt_of_lt_of_le ?_ hb'
      rcases hx with e | e | e | e | e | e
      · exact Nat.lt_of_lt_of_le e K2.out.pw.below.size
      · exact K2.out.pw.dk.dk.lt x e
      · rw [e]; exact block_lt_of_row K2.out.st
      · rw [e]; exact K2.out.mp.lt
      · rw [e]; exact block_lt_of_row K2.out.cr
      · rw [e]; exact block_lt_of_row R2.out
    clear hb' hm3 b3 K2 R2
    by_cases hk1 : q.kind = 1
    · as_aux_lemma =>
        have qk : (q.kind == 1) = true := beq_iff_eq.2 hk1
        obtain ⟨B, hB⟩ : ∃ B, B = w3.heap.size := ⟨_, rfl⟩
        have BB0 : Hid (B ≤ w3.heap.size) := by rw [hB]; exact Nat.le_refl _
        have LTB : Hid (∀ x, (x < w.heap.size ∨ o.has x ∨ x = gs ∨ x = b ∨ x = gC ∨ x = b' ∨ x = g11) → x < B) := fun x hx => by
          rw [hB]
          rcases hx with e | e | e | e | e | e | e
          · exact Nat.lt_of_lt_of_le e K3.out.pw.below.size
          · exact K3.out.pw.dk.dk.lt x e
          · rw [e]; exact block_lt_of_row K3.out.st
          · rw [e]; exact K3.out.mp.lt
          · rw [e]; exact block_lt_of_row K3.out.cr
          · rw [e]; exact M3.out.lt
          · rw [e]; exact block_lt_of_row R3.out
        have OB : Hid (∀ j, o.has j → j < B) := fun j hj => LTB.out j (Or.inr (Or.inl hj))
        obtain ⟨e0, e1, e2, e3, e4, e5, e6, e7⟩ := row8 R3.out
        clear hB
        go_wp2_with fail
        clear e0 e1 e2 e3 e4 e5 e6 e7 qk
        go_loopw [14, 15, 16] (fun v tv j wr => ∃ (J : Nat) (Ls : List ShV), J ≤ 6 ∧ J ≤ q.ns.length ∧ j = .int .i64 (J : Int) ∧ tv = .bool (S.tw q J) ∧ (J = 0 → v = .slice none 0 0) ∧ Shk wr B v q J Ls ∧ MpIs wr b' (n + J) (S.fA f q J) ∧ Ks w wr og gC gs b n o d p t ns pg f kv c ar ag ∧ wr.heap[g11]? = some (.cells #[.int .i64 q.kind, .int .i64 q.after, .int .i64 q.again, .slice an q.ns.length cn, .int .u8 (q.fill.toNat : Int), .slice ak q.keep.length ck, .int .i64 q.torn, .int .i64 q.bytes] 48 (0, 0)) ∧ B ≤ wr.heap.size) (fun _ _ j _ => 6 - (intOf j).toNat)
        case atStart => exact ⟨0, [], by omega, Nat.zero_le _, rfl, by rw [S.tw_zero], fun _ => rfl, Shk.nil _ _ _, M3.out, K3.out, R3.out, BB0.out⟩
        case round =>
        obtain ⟨J, Ls, hJ6, hJn, rfl, rfl, hnil, hsh, hmp, hks, hrow, hbq⟩ := hrel
        have SF := hide hsh
        have MF := hide hmp
        have KF0 := hide hks
        have RF := hide hrow
        have BF := hide hbq
        have J6 := hide hJ6
        clear hsh hmp hks hrow hbq K3 M3 R3 BB0
        obtain ⟨e0, e1, e2, e3, e4, e5, e6, e7⟩ := row8 RF.out
        by_cases hgo : J < q.ns.length ∧ J < 6
        · obtain ⟨hjn, hj6⟩ := hgo
          have q1 : (J : Int) < (q.ns.length : Int) := by omega
          have q2 : (J : Int) < 6 := by omega
          have q0 : (0 : Int) ≤ (J : Int) := by omega
          obtain ⟨ao2, cap2, hve, _, hxs⟩ := INS.out
          simp only [Value.slice.injEq] at hve
          obtain ⟨rfl, _, rfl⟩ := hve
          obtain ⟨bn, on, rfl, hbn, hcs⟩ := hxs (by omega)
          obtain ⟨hcj, hlo, hhi⟩ := hcs J hjn
          have hcn := (KF0.out.pw.below.cell (p := ⟨bn, on + J, none⟩) hbn).trans hcj
          clear hxs hcs
          obtain ⟨xv, hxv⟩ : ∃ xv, xv = q.ns.getD J 0 := ⟨_, rfl⟩
          rw [← hxv] at hcn hlo hhi
          have HXV := hide hxv
          clear hxv hcj
          go_wp2_with fail
          as_aux_lemma =>
            refine (within_any xv 11 wr hlo hhi (by omega) (by omega)).mono ?_
            rintro e w4 ⟨rfl, rfl⟩
            rw [show S.within xv 11 = q.pgN J by rw [HXV.out]; rfl]
            obtain ⟨m, hm⟩ : ∃ m, m = q.pgN J := ⟨_, rfl⟩
            have hm12 : m < 12 := by rw [hm]; exact q.pgN_lt J
            rw [← hm]
            have HM := hide hm
            clear hm hcn hlo hhi
            go_wp2_with fail
            go_loopw [15, 18] (fun tv i wq => ∃ I : Nat, I ≤ J ∧ i = .int .i64 (I : Int) ∧ tv = .bool (S.twTo q J I) ∧ wr = wq) (fun _ i _ => J - (intOf i).toNat)
            case atStart => exact ⟨0, Nat.zero_le _, rfl, by rw [S.twTo_zero], rfl⟩
            case round =>
            obtain ⟨I, hI, rfl, rfl, rfl⟩ := hrel
            by_cases hIJ : I < J
            · obtain ⟨gv, cv, hv, hcell⟩ := SF.out.page I hIJ
              have qi : (I : Int) < (J : Int) := by omega
              have qi0 : (0 : Int) ≤ (I : Int) := by omega
              have q3 : IntKind.i64.wrap ((I : Int) + 1) = (I : Int) + 1 := by rw [IntKind.wrap_i64]; omega
              have TS := hide (S.twTo_succ q J I)
              subst hv
              cases hb : S.twTo q J I with
              | true =>
                rw [hb, Bool.true_or] at TS
                go_wp2_with fail
                go_roundw
                case rel => exact ⟨I + 1, hIJ, by go_num, by rw [TS.out], trivial⟩
                case measure => simp [intOf]; omega
              | false =>
                rw [hb, Bool.false_or] at TS
                by_cases he : q.pgN I = m
                · have qe : ((q.pgN I : Int) == (m : Int)) = true := by rw [he]; exact beq_self_eq_true _
                  have TT : Hid (S.twTo q J (I + 1) = true) := by rw [TS.out]; exact decide_eq_true (by rw [he, HM.out])
                  clear he
                  go_wp2_with fail
                  go_roundw
                  case rel => exact ⟨I + 1, hIJ, by go_num, by rw [TT.out], trivial⟩
                  case measure => simp [intOf]; omega
                · have qe : ((q.pgN I : Int) == (m : Int)) = false := beq_false_of_ne (fun e => he (by omega))
                  have TT : Hid (S.twTo q J (I + 1) = false) := by rw [TS.out]; exact decide_eq_false (fun e => he (by rw [HM.out]; exact e))
                  clear he
                  go_wp2_with fail
                  go_roundw
                  case rel => exact ⟨I + 1, hIJ, by go_num, by rw [TT.out], trivial⟩
                  case measure => simp [intOf]; omega
            · obtain rfl : I = J := by omega
              have qi : ¬ ((I : Int) < (I : Int)) := by omega
              obtain ⟨av, cv, hv⟩ : ∃ av cv, u14 = .slice av I cv := by
                rcases SF.out.row.2 with ⟨h1, h2⟩ | ⟨g, cap, cur, h1, _⟩
                · exact ⟨none, 0, by rw [h1, h2]⟩
                · exact ⟨_, _, h1⟩
              subst hv
              rw [S.twTo_all]
              obtain ⟨C, hC⟩ : ∃ C, C = q.cB I := ⟨_, rfl⟩
              have HC := hide hC
              have hct := q.cB_toNat I hj6
              rw [← hC] at hct
              have q4 : (q.fill.toNat : Int).tmod 200 = ((q.fill.toNat % 200 : Nat) : Int) := by rw [Int.tmod_eq_emod_of_nonneg (by omega)]; omega
              obtain ⟨F, hF⟩ : ∃ F : Nat, F = q.fill.toNat % 200 := ⟨_, rfl⟩
              have hF2 : F < 200 := by omega
              rw [← hF] at q4 hct
              have HCT : Hid ((C.toNat : Int) = (F : Int) + (I : Int) + 1) := by show (C.toNat : Int) = _; omega
              clear hC hF hct
              as_aux_lemma =>
                go_wp2_with fail
                have PA := page_any C wr
                rw [HCT.out] at PA
                refine PA.mono ?_
                clear PA
                rintro e w4 ⟨gp, rfl, hgp, hrp, b4⟩
                have K4 := hide (KF0.out.then b4)
                have S4 := hide (SF.out.below b4)
                have M4 := hide (MF.out.below b4)
                have R4 : Hid (w4.heap[g11]? = some (.cells #[.int .i64 q.kind, .int .i64 q.after, .int .i64 q.again, .slice (some ⟨bn, on, none⟩) q.ns.length cn, .int .u8 (q.fill.toNat : Int), .slice ak q.keep.length ck, .int .i64 q.torn, .int .i64 q.bytes] 48 (0, 0))) := (b4.block g11 (block_lt_of_row RF.out)).trans RF.out
                have RP4 := hide hrp
                have GPB : Hid (B ≤ gp) := Nat.le_trans BF.out hgp
                have B4 : Hid (B ≤ w4.heap.size) := Nat.le_trans BF.out b4.size
                obtain ⟨w5, hw5⟩ : ∃ w5, w5 = w4.alloc (.cells #[.int .i64 (m : Int), .slice (some ⟨gp, 0, none⟩) 1024 1024] 37) := ⟨_, rfl⟩
                have b5 : Below w4.heap.size w4 w5 := by rw [hw5]; exact (Below.refl _ _).alloc (Nat.le_refl _) _
                have r5 : w5.heap[w4.heap.size]? = some (.cells #[.int .i64 (m : Int), .slice (some ⟨gp, 0, none⟩) 1024 1024] 37 (0, 0)) := by rw [hw5]; exact heap_alloc_new _ _
                have K5 := hide (K4.out.then b5)
                have S5 := hide (S4.out.below b5)
                have M5 := hide (M4.out.below b5)
                have R5 : Hid (w5.heap[g11]? = some (.cells #[.int .i64 q.kind, .int .i64 q.after, .int .i64 q.again, .slice (some ⟨bn, on, none⟩) q.ns.length cn, .int .u8 (q.fill.toNat : Int), .slice ak q.keep.length ck, .int .i64 q.torn, .int .i64 q.bytes] 48 (0, 0))) := (b5.block g11 (block_lt_of_row R4.out)).trans R4.out
                have RP5 : Hid (w5.heap[gp]? = some (.cells (S.v8 (S.pgOf C)) 5 (0, 0))) := (b5.block gp (block_lt_of_row RP4.out)).trans RP4.out
                have B5 : Hid (B ≤ w5.heap.size) := Nat.le_trans B4.out b5.size
                have APP := hide (run_append_sh w5 B w4.heap.size (((m : Nat) : Int), some ⟨gp, 0, none⟩, 1024, 1024) 38 (.slice av I cv) _ _ S5.out.row (by omega) B5.out r5)
                have HW5 := hide hw5
                clear b4 b5 r5 hw5 hgp hrp KF0 SF MF RF BF K4 S4 M4 R4 RP4 B4 e0 e1 e2 e3 e4 e5 e6 e7
                go_upto_region 28 with (at_builtin; (rw [← HW5.out]; refine wpList_append_known rfl (.tmp 94) (.tmp 99) 38 38 rfl _ _ rfl rfl APP.out ?_; rintro v6 w6 ⟨ho6, hg6⟩; have O6 := hide ho6; have G6 := hide hg6; clear ho6 hg6))
                have LT5 := S5.out.row.lt
                have C6 : Hid (Chg (fun j => (Value.slice av I cv).ownBlock = some j) w5 w6) := grown_chg G6.out
                have far6 : ∀ x, x < B → ¬ (Value.slice av I cv).ownBlock = some x := fun x hx e => by have := (LT5 x e).1; omega
                have K6 := hide (K5.out.chg C6.out (fun x hx => far6 x (LTB.out x (by rcases hx with e | e | e | e | e <;> simp [e]))))
                have M6 := hide (M5.out.chg C6.out (far6 b' (LTB.out b' (by simp))))
                have R6 : Hid (w6.heap[g11]? = some (.cells #[.int .i64 q.kind, .int .i64 q.after, .int .i64 q.again, .slice (some ⟨bn, on, none⟩) q.ns.length cn, .int .u8 (q.fill.toNat : Int), .slice ak q.keep.length ck, .int .i64 q.torn, .int .i64 q.bytes] 48 (0, 0))) := C6.out.row R5.out (far6 g11 (LTB.out g11 (by simp)))
                have B6 : Hid (B ≤ w6.heap.size) := Nat.le_trans B5.out C6.out.size
                have S6 : Hid (Shk w6 B v6 q (I + 1) (Ls ++ [(((q.pgN I : Nat) : Int), some ⟨gp, 0, none⟩, 1024, 1024)])) := S5.out.snoc (by have := O6.out; rw [HM.out] at this; exact this) G6.out GPB.out (by have := RP5.out; rw [HC.out] at this; exact this)
                obtain ⟨w7, hput, hm7, hg7⟩ := M6.out.put (by omega) m hm12 C
                have hmap : ∀ cur tt, w6.heap[b']? ≠ some (.cells cur tt (0, 0)) := fun cur tt e => by
                  obtain ⟨D, ⟨es, cl, h1, _⟩, _⟩ := M6.out.ex
                  rw [h1] at e
                  simp at e
                have c7 : Chg (fun j => some b' = some j) w6 w7 := (Chg.refl _ _).grown hg7 (fun _ _ e => e)
                have S7 := hide (S6.out.map hg7 hmap)
                have K7 := hide (K6.out.chg c7 (fun x hx e => by have := HB3.out x (by rcases hx with e | e | e | e | e <;> simp [e]); simp at e; omega))
                have R7 : Hid (w7.heap[g11]? = some (.cells #[.int .i64 q.kind, .int .i64 q.after, .int .i64 q.again, .slice (some ⟨bn, on, none⟩) q.ns.length cn, .int .u8 (q.fill.toNat : Int), .slice ak q.keep.length ck, .int .i64 q.torn, .int .i64 q.bytes] 48 (0, 0))) := c7.row R6.out (fun e => by have := HB3.out g11 (by simp); simp at e; omega)
                have B7 : Hid (B ≤ w7.heap.size) := Nat.le_trans B6.out c7.size
                have M7 : Hid (MpIs w7 b' (n + (I + 1)) (S.fA f q (I + 1))) := by
                  have := hm7
                  rw [HM.out, HC.out] at this
                  exact this
                rw [HCT.out] at hput
                clear APP LT5 O6 G6 C6 far6 K5 M5 R5 B5 S5 RP5 GPB K6 M6 R6 B6 S6 hm7 hg7 hmap c7 HW5
                go_wp2_with fail
                go_roundw
                case rel => exact ⟨I + 1, _, hj6, hjn, by go_num, rfl, fun h => absurd h (by omega), S7.out, M7.out, K7.out, R7.out, B7.out⟩
                case measure => simp [intOf]; omega
        · as_aux_lemma =>
            have BBF := BB3
            have NBF := NB3
            have hend : ((J : Int) < (q.ns.length : Int) ∧ ¬ (J : Int) < 6) ∨ ¬ (J : Int) < (q.ns.length : Int) := by omega
            have key : S.tw q J = true ∨ S.tw q J = false := by cases S.tw q J <;> simp
            rcases key with htw | htw
            · obtain ⟨xa, xb, hxa, hxb, hxn, _⟩ := S.tw_yes htw
              obtain ⟨gx, cx, hv2, hcl⟩ := SF.out.cells (by omega)
              have HCL := hide hcl
              have LNE : Hid (Ls ≠ []) := fun e => by have := SF.out.len; rw [e] at this; simp at this; omega
              have LN6 : Hid (Ls.length ≤ 256) := by have := SF.out.len; show Ls.length ≤ 256; omega
              subst hv2
              rw [htw]
              clear hcl hnil
              rcases hend with ⟨q1, q2⟩ | q1
              · go_wp2_with fail
                as_aux_lemma =>
                  refine (pput_no gs gx 0 cx Ls _ HCL.out LNE.out LN6.out (fun h => SF.out.bad htw h.2)).mono ?_
                  rintro e w5 ⟨rfl, b5⟩
                  have K5 := hide (KF0.out.then b5)
                  clear b5 KF0 MF SF HCL LNE LN6
                  go_wp2_with fail
                  go_roundw
                  case rel => exact KR.mk (k + 1) gs b n o d p t ns pg f kv c ar ag (by omega) (by omega) rfl rfl rfl rfl (by go_num) (by omega) (by omega) K5.out
                  case measure => simp [intOf]; omega
              · go_wp2_with fail
                as_aux_lemma =>
                  refine (pput_no gs gx 0 cx Ls _ HCL.out LNE.out LN6.out (fun h => SF.out.bad htw h.2)).mono ?_
                  rintro e w5 ⟨rfl, b5⟩
                  have K5 := hide (KF0.out.then b5)
                  clear b5 KF0 MF SF HCL LNE LN6
                  go_wp2_with fail
                  go_roundw
                  case rel => exact KR.mk (k + 1) gs b n o d p t ns pg f kv c ar ag (by omega) (by omega) rfl rfl rfl rfl (by go_num) (by omega) (by omega) K5.out
                  case measure => simp [intOf]; omega
            · have TWF := hide htw
              rw [htw]
              by_cases hJ0 : J = 0
              · have hv0 := hnil hJ0
                subst hJ0 hv0
                have KN : Hid (Ks w wr og gC gs b' n o d p t ns pg f kv c ar ag) := KF0.out.map MF.out NBF.out BBF.out KF0.out.so
                rcases hend with ⟨_, q2⟩ | q1
                · exact absurd (by omega) q2
                · go_wp2_with fail
                  refine (pput_none gs _).mono ?_
                  rintro e w5 ⟨rfl, rfl⟩
                  clear KF0 MF SF
                  as_aux_lemma =>
                    go_wp2_with fail
                    refine (is_any w wr o d p t gs b' (n) ns pg f KN.out.pw KN.out.st KN.out.mp).mono ?_
                    rintro e wz ⟨rfl, _, _, _, bz⟩
                    rw [S.isSo_yes KN.out.so]
                    have KZ := hide (KN.out.then bz)
                    clear bz KN
                    go_wp2_with fail
                    go_roundw
                    case rel => exact KR.mk (k + 1) gs b' (n) o d p t ns pg f kv c ar ag (by omega) (by omega) rfl rfl rfl rfl (by go_num) (by omega) (by omega) KZ.out
                    case measure => simp [intOf]; omega
              · clear hnil
                rcases hend with ⟨q1, q2⟩ | q1
                · as_aux_lemma =>
                    obtain ⟨gx, cx, hv, hcl⟩ := SF.out.cells (by omega)
                    subst hv
                    have HCL := hide hcl
                    have LNE : Hid (Ls ≠ []) := fun e => by have := SF.out.len; rw [e] at this; simp at this; omega
                    have LN6 : Hid (Ls.length ≤ 256) := by have := SF.out.len; have := J6.out; show Ls.length ≤ 256; omega
                    clear hcl
                    go_wp2_with fail
                    refine (pput_all w wr o d p t gs gx 0 cx Ls ns pg (fun m => S.cellPg (S.fA f q J m)) KF0.out.pw KF0.out.st HCL.out LNE.out LN6.out (SF.out.ok f J6.out TWF.out OB.out) (SF.out.nodup TWF.out) KF0.out.ngs (by omega)).mono ?_
                    rintro e w5 ⟨bb, d5, o5, ns5, rfl, hpm, hup, pw5⟩
                    have hmem : ∀ m, m ∈ ns5 ↔ m ∈ S.pgs Ls := fun m => hpm.mem_iff
                    have hn5 : ∀ m ∈ ns5, m < 512 := fun m hm => by
                      obtain ⟨i, _, rfl⟩ := (SF.out.mem m).1 ((hmem m).1 hm)
                      have := q.pgN_lt i
                      omega
                    have hle5 : ns5.length ≤ 256 := by rw [hpm.length_eq]; unfold S.pgs; rw [List.length_map]; exact LN6.out
                    have hne5 : ns5 ≠ [] := fun e => by rw [e] at hpm; have := hpm.length_eq; unfold S.pgs at this; simp at this; exact LNE.out (List.length_eq_zero_iff.1 this.symm)
                    have CR := hide (pw5.crash KF0.out.pw.pend KF0.out.pw.has (by omega) hn5 hup hle5 hne5 (fun m _ => S.cellPg_length _))
                    have SOF := hide (so_put SF.out KF0.out.so hmem)
                    have FEW := hide (pw5.few KF0.out.pw.pend KF0.out.pw.has.le hle5)
                    have LEFT : Hid (d.left = none → bb = true ∧ d5.left = none) := fun hl => pw5.left hl
                    have PWW := hide pw5
                    clear hpm hup pw5 hmem hn5 hle5 hne5 HCL LNE LN6 SF
                    cases bb with
                    | true =>
                      have E : S.why true = 0 := rfl
                      rw [E]
                      obtain ⟨hp5, p5, t5, ht5, hg5⟩ := CR.out.2 rfl
                      have MN := hide (MF.out.chg PWW.out.chg NBF.out)
                      have NBN : Hid (¬ o5.has b') := fun e => by
                        rcases PWW.out.own b' e with e | e
                        · exact NBF.out e
                        · have := MF.out.lt; omega
                      have KN : Hid (Ks w w5 og gC gs b' (n + J) o5 d5 p5 t5 [] (S.putPg ns5 (fun m => S.cellPg (S.fA f q J m)) pg) (S.fA f q J) kv c ar ag) := by
                        have far : ∀ x, ¬ o.has x → x < wr.heap.size → ¬ o5.has x := fun x h1 h2 e => by
                          rcases PWW.out.own x e with e | e
                          · exact h1 e
                          · omega
                        refine ⟨⟨PWW.out.dk, hp5, hg5, PWW.out.ob, PWW.out.below, KF0.out.pw.pos⟩, PWW.out.ptr.trans KF0.out.og, PWW.out.st, far gs KF0.out.ngs (block_lt_of_row KF0.out.st), MN.out, NBN.out, SOF.out, PWW.out.chg.row KF0.out.cr KF0.out.nc, far gC KF0.out.nc (block_lt_of_row KF0.out.cr), KF0.out.kb, fun e => (LEFT.out (KF0.out.lf e)).2, AG1.out, KF0.out.bs, BBF.out, KF0.out.bc⟩
                      have T5 : Hid (t5 ≤ t + 3) := ht5
                      clear hp5 hg5 ht5 MN NBN CR SOF FEW LEFT PWW KF0 MF
                      as_aux_lemma =>
                        go_wp2_with fail
                        refine (is_any w w5 o5 d5 p5 t5 gs b' (n + J) [] (S.putPg ns5 (fun m => S.cellPg (S.fA f q J m)) pg) (S.fA f q J) KN.out.pw KN.out.st KN.out.mp).mono ?_
                        rintro e wz ⟨rfl, _, _, _, bz⟩
                        rw [S.isSo_yes KN.out.so]
                        have KZ := hide (KN.out.then bz)
                        clear bz KN
                        go_wp2_with fail
                        go_roundw
                        case rel => exact KR.mk (k + 1) gs b' (n + J) o5 d5 p5 t5 [] (S.putPg ns5 (fun m => S.cellPg (S.fA f q J m)) pg) (S.fA f q J) kv c ar ag (by omega) (by omega) rfl rfl rfl rfl (by go_num) (by have := J6.out; omega) (by have := T5.out; omega) KZ.out
                        case measure => simp [intOf]; omega
                    | false =>
                      have E : S.why false = 13 := rfl
                      rw [E]
                      have hat : ar = true := by
                        cases ar with
                        | true => rfl
                        | false => exact absurd (LEFT.out (KF0.out.lf rfl)).1 (by simp)
                      subst hat
                      have KF : Hid (KCr w5 gC kv c w) := ⟨PWW.out.chg.row KF0.out.cr KF0.out.nc, KF0.out.kb⟩
                      as_aux_lemma =>
                        have ldc := ld45 KF.out.cr
                        have OG5 : Hid (o5.g = og) := PWW.out.ptr.trans KF0.out.og
                        have KSA : Hid (∀ W, Chg o5.has w5 W → BoolsAt W kv c.keep) := fun W hc => KF.out.kb.below (PWW.out.below.trans (hc.below _ PWW.out.below.size (fun k hk e => by have := PWW.out.ob k e; omega))) (Nat.le_refl _)
                        go_wp2_with (with_reducible refine at_op ⟨some 145, .load 45 (.tmp 8), 45, "law.go:158", #[], none⟩ ?_; refine wpList_load_as rfl 45 (.tmp 8) rfl (.pointer (some ⟨gC, 0, none⟩)) rfl (.agg #[kv, .int .i64 c.torn, .int .i64 c.bytes]) ldc ?_)
                        clear ldc
                        refine (crash_og OG5.out d5 kv c w5 PWW.out.dk.dk FEW.out KSA.out).mono ?_
                        rintro e w6 ⟨rfl, o6, hd6, hm6⟩
                        obtain ⟨p6, t6, k6, ht6, hpg6⟩ := CR.out.1 c
                        obtain ⟨pgx, hpx, hpgx⟩ : ∃ pgx, (pgx = pg ∨ pgx = S.putPg ns5 (fun m => S.cellPg (S.fA f q J m)) pg) ∧ S.Pgs (d5.crash c).safe p6 t6 k6 pgx := by
                          rcases hpg6 with h | h
                          · exact ⟨_, Or.inl rfl, h⟩
                          · exact ⟨_, Or.inr rfl, h⟩
                        obtain ⟨d6, hd6e⟩ : ∃ d6, d6 = d5.crash c := ⟨_, rfl⟩
                        have X6 : Hid (Kx w w6 og gC b n b' (n + J) o6 d6 p6 t6 k6 pgx f (S.fA f q J) kv c) := by
                          have hc6 : Chg o.has wr w6 := PWW.out.chg.trans hm6.chg (fun j hj e => by rcases PWW.out.own j e with e | e; exact e; omega)
                          have ho6 : ∀ k, o6.has k → o.has k ∨ wr.heap.size ≤ k := fun k e => by
                            rcases hm6.own k e with e | e
                            · exact PWW.out.own k e
                            · exact Or.inr (Nat.le_trans PWW.out.chg.size e)
                          have far : ∀ x, ¬ o.has x → x < wr.heap.size → ¬ o6.has x := fun x h1 h2 e => by
                            rcases ho6 x e with e | e
                            · exact h1 e
                            · omega
                          refine ⟨⟨PWW.out.dk.to (by rw [hd6e]; exact hd6) hm6, by rw [hd6e]; rfl, by rw [hd6e]; exact hpgx, fun k e => ?_, PWW.out.below.trans (hm6.chg.below _ PWW.out.below.size (fun k hk e => by have := PWW.out.ob k e; omega)), KF0.out.pw.pos⟩, hm6.g.trans (PWW.out.ptr.trans KF0.out.og), KF0.out.mp.chg hc6 KF0.out.nb, far b KF0.out.nb KF0.out.mp.lt, MF.out.chg hc6 NBF.out, far b' NBF.out MF.out.lt, hc6.row KF0.out.cr KF0.out.nc, far gC KF0.out.nc (block_lt_of_row KF0.out.cr), KF0.out.kb, KF0.out.bb, BBF.out, KF0.out.bc, ?_⟩
                          · rcases ho6 k e with e | e
                            · exact KF0.out.pw.ob k e
                            · exact Nat.le_trans KF0.out.pw.below.size e
                          · rcases hpx with e | e
                            · exact Or.inl (by rw [e]; exact KF0.out.so)
                            · exact Or.inr (by rw [e]; exact SOF.out)
                        have T6 : Hid (t6 ≤ t + 3) := ht6
                        have LL6 : Hid (d6.left = none) := by rw [hd6e]; rfl
                        clear hd6 hm6 hpg6 hpx hpgx hd6e ht6 KSA CR PWW FEW KF KF0 MF SOF LEFT
                        by_cases hag : 0 ≤ ag
                        · have qa : (0 : Int) ≤ ag := hag
                          go_wp2_with fail
                          refine (stop_og X6.out.og d6 ag w6 X6.out.pw.dk.dk AG1.out).mono ?_
                          rintro e w7 ⟨rfl, o7, hd7, hm7⟩
                          have X7 := hide (X6.out.disk (d' := d6.stop ag) (X6.out.pw.dk.to hd7 hm7) hm7 X6.out.pw.pend X6.out.pw.has)
                          clear hd7 hm7 X6
                          go_wp2_with fail
                          refine (popen_og X7.out.og w w7 (d6.stop ag) p6 t6 k6 pgx X7.out.pw).mono ?_
                          rintro e w8 ⟨g8, rfl, _, _, _, b8⟩
                          have X8 := hide (X7.out.then b8)
                          clear b8 X7
                          have ldc := ld45 X8.out.cr
                          have KSA : Hid (∀ W, Chg o7.has w8 W → BoolsAt W kv c.keep) := fun W hc => X8.out.kb.below (X8.out.pw.below.trans (hc.below _ X8.out.pw.below.size (fun k hk e => by have := X8.out.pw.ob k e; omega))) (Nat.le_refl _)
                          go_wp2_with (with_reducible refine at_op ⟨some 164, .load 45 (.tmp 8), 45, "law.go:165", #[], none⟩ ?_; refine wpList_load_as rfl 45 (.tmp 8) rfl (.pointer (some ⟨gC, 0, none⟩)) rfl (.agg #[kv, .int .i64 c.torn, .int .i64 c.bytes]) ldc ?_)
                          clear ldc
                          refine (crash_og X8.out.og (d6.stop ag) kv c w8 X8.out.pw.dk.dk (by rw [X8.out.pw.pend]; simp) KSA.out).mono ?_
                          rintro e w9 ⟨rfl, o9, hd9, hm9⟩
                          obtain ⟨d9, hd9e⟩ : ∃ d9, d9 = (d6.stop ag).crash c := ⟨_, rfl⟩
                          have hs9 : d9.safe = (d6.stop ag).safe := by rw [hd9e]; exact S.Dk.crash_flushed _ X8.out.pw.pend c
                          rw [← hd9e] at hd9
                          have X9 : Hid (Kx w w9 og gC b n b' (n + J) o9 d9 p6 t6 k6 pgx f (S.fA f q J) kv c) := X8.out.disk (X8.out.pw.dk.to hd9 hm9) hm9 (by rw [hd9e]; rfl) (by rw [hs9]; exact X8.out.pw.has)
                          have L9 : Hid (d9.left = none) := by rw [hd9e]; rfl
                          clear hd9 hm9 hd9e hs9 KSA X8
                          as_aux_lemma =>
                            go_wp2_with fail
                            refine (popen_og X9.out.og w w9 d9 p6 t6 k6 pgx X9.out.pw).mono ?_
                            rintro e wa ⟨ga, rfl, hsta, hga, hpa, ba⟩
                            have XA := hide (X9.out.then ba)
                            have STA := hide hsta
                            have GA : Hid (w.heap.size ≤ ga) := Nat.le_trans X9.out.pw.below.size hga
                            have NGA : Hid (¬ o9.has ga) := fun e => by have := X9.out.pw.dk.dk.lt ga e; omega
                            clear hsta hga hpa ba X9
                            go_wp2_with fail
                            refine (is_any w wa o9 d9 p6 t6 ga b (n) k6 pgx f XA.out.pw STA.out XA.out.mp).mono ?_
                            rintro e wb ⟨rfl, _, hstb, _, bb⟩
                            have XB := hide (XA.out.then bb)
                            have STB := hide hstb
                            clear hstb bb XA STA
                            cases hr1 : S.isSo pgx f with
                            | true =>
                              have SO1 : Hid (∀ m, m < 12 → pgx m = S.cellPg (f m)) := (S.isSo_iff pgx f).1 hr1
                              go_wp2_with fail
                              refine (is_any w wb o9 d9 p6 t6 ga b (n) k6 pgx f XB.out.pw STB.out XB.out.mp).mono ?_
                              rintro e wc ⟨rfl, _, hstc, _, bc⟩
                              rw [hr1]
                              have XC := hide (XB.out.then bc)
                              have KZ : Hid (Ks w wc og gC ga b (n) o9 d9 p6 t6 k6 pgx f kv c false ag) := ⟨XC.out.pw, XC.out.og, hstc, NGA.out, XC.out.mp, XC.out.nb, SO1.out, XC.out.cr, XC.out.nc, XC.out.kb, fun _ => L9.out, AG1.out, GA.out, XC.out.bb, XC.out.bc⟩
                              clear hstc bc XB STB XC hr1
                              go_wp2_with fail
                              go_roundw
                              case rel => exact KR.mk (k + 1) ga b (n) o9 d9 p6 t6 k6 pgx f kv c false ag (by omega) (by omega) rfl rfl rfl rfl (by go_num) (by omega) (by have := T6.out; omega) KZ.out
                              case measure => simp [intOf]; omega
                            | false =>
                              have SO2 : Hid (∀ m, m < 12 → pgx m = S.cellPg (S.fA f q J m)) := by
                                rcases XB.out.so with e | e
                                · exact absurd (S.isSo_yes e) (by rw [hr1]; simp)
                                · exact e
                              go_wp2_with fail
                              refine (is_any w wb o9 d9 p6 t6 ga b' (n + J) k6 pgx (S.fA f q J) XB.out.pw STB.out XB.out.mp').mono ?_
                              rintro e wc ⟨rfl, _, hstc, _, bc⟩
                              rw [S.isSo_yes SO2.out]
                              have XC := hide (XB.out.then bc)
                              have STC := hide hstc
                              clear hstc bc XB STB
                              go_wp2_with fail
                              refine (is_any w wc o9 d9 p6 t6 ga b (n) k6 pgx f XC.out.pw STC.out XC.out.mp).mono ?_
                              rintro e wd ⟨rfl, _, hstd, _, bd⟩
                              rw [hr1]
                              have XD := hide (XC.out.then bd)
                              have KZ : Hid (Ks w wd og gC ga b' (n + J) o9 d9 p6 t6 k6 pgx (S.fA f q J) kv c false ag) := ⟨XD.out.pw, XD.out.og, hstd, NGA.out, XD.out.mp', XD.out.nb', SO2.out, XD.out.cr, XD.out.nc, XD.out.kb, fun _ => L9.out, AG1.out, GA.out, XD.out.bb', XD.out.bc⟩
                              clear hstd bd XC STC XD hr1
                              go_wp2_with fail
                              go_roundw
                              case rel => exact KR.mk (k + 1) ga b' (n + J) o9 d9 p6 t6 k6 pgx (S.fA f q J) kv c false ag (by omega) (by omega) rfl rfl rfl rfl (by go_num) (by have := J6.out; omega) (by have := T6.out; omega) KZ.out
                              case measure => simp [intOf]; omega
                        · have qa : ¬ ((0 : Int) ≤ ag) := hag
                          have L6 : Hid (d6.left = none) := LL6.out
                          as_aux_lemma =>
                            go_wp2_with fail
                            refine (popen_og X6.out.og w w6 d6 p6 t6 k6 pgx X6.out.pw).mono ?_
                            rintro e wa ⟨ga, rfl, hsta, hga, hpa, ba⟩
                            have XA := hide (X6.out.then ba)
                            have STA := hide hsta
                            have GA : Hid (w.heap.size ≤ ga) := Nat.le_trans X6.out.pw.below.size hga
                            have NGA : Hid (¬ o6.has ga) := fun e => by have := X6.out.pw.dk.dk.lt ga e; omega
                            clear hsta hga hpa ba X6
                            go_wp2_with fail
                            refine (is_any w wa o6 d6 p6 t6 ga b (n) k6 pgx f XA.out.pw STA.out XA.out.mp).mono ?_
                            rintro e wb ⟨rfl, _, hstb, _, bb⟩
                            have XB := hide (XA.out.then bb)
                            have STB := hide hstb
                            clear hstb bb XA STA
                            cases hr1 : S.isSo pgx f with
                            | true =>
                              have SO1 : Hid (∀ m, m < 12 → pgx m = S.cellPg (f m)) := (S.isSo_iff pgx f).1 hr1
                              go_wp2_with fail
                              refine (is_any w wb o6 d6 p6 t6 ga b (n) k6 pgx f XB.out.pw STB.out XB.out.mp).mono ?_
                              rintro e wc ⟨rfl, _, hstc, _, bc⟩
                              rw [hr1]
                              have XC := hide (XB.out.then bc)
                              have KZ : Hid (Ks w wc og gC ga b (n) o6 d6 p6 t6 k6 pgx f kv c false ag) := ⟨XC.out.pw, XC.out.og, hstc, NGA.out, XC.out.mp, XC.out.nb, SO1.out, XC.out.cr, XC.out.nc, XC.out.kb, fun _ => L6.out, AG1.out, GA.out, XC.out.bb, XC.out.bc⟩
                              clear hstc bc XB STB XC hr1
                              go_wp2_with fail
                              go_roundw
                              case rel => exact KR.mk (k + 1) ga b (n) o6 d6 p6 t6 k6 pgx f kv c false ag (by omega) (by omega) rfl rfl rfl rfl (by go_num) (by omega) (by have := T6.out; omega) KZ.out
                              case measure => simp [intOf]; omega
                            | false =>
                              have SO2 : Hid (∀ m, m < 12 → pgx m = S.cellPg (S.fA f q J m)) := by
                                rcases XB.out.so with e | e
                                · exact absurd (S.isSo_yes e) (by rw [hr1]; simp)
                                · exact e
                              go_wp2_with fail
                              refine (is_any w wb o6 d6 p6 t6 ga b' (n + J) k6 pgx (S.fA f q J) XB.out.pw STB.out XB.out.mp').mono ?_
                              rintro e wc ⟨rfl, _, hstc, _, bc⟩
                              rw [S.isSo_yes SO2.out]
                              have XC := hide (XB.out.then bc)
                              have STC := hide hstc
                              clear hstc bc XB STB
                              go_wp2_with fail
                              refine (is_any w wc o6 d6 p6 t6 ga b (n) k6 pgx f XC.out.pw STC.out XC.out.mp).mono ?_
                              rintro e wd ⟨rfl, _, hstd, _, bd⟩
                              rw [hr1]
                              have XD := hide (XC.out.then bd)
                              have KZ : Hid (Ks w wd og gC ga b' (n + J) o6 d6 p6 t6 k6 pgx (S.fA f q J) kv c false ag) := ⟨XD.out.pw, XD.out.og, hstd, NGA.out, XD.out.mp', XD.out.nb', SO2.out, XD.out.cr, XD.out.nc, XD.out.kb, fun _ => L6.out, AG1.out, GA.out, XD.out.bb', XD.out.bc⟩
                              clear hstd bd XC STC XD hr1
                              go_wp2_with fail
                              go_roundw
                              case rel => exact KR.mk (k + 1) ga b' (n + J) o6 d6 p6 t6 k6 pgx (S.fA f q J) kv c false ag (by omega) (by omega) rfl rfl rfl rfl (by go_num) (by have := J6.out; omega) (by have := T6.out; omega) KZ.out
                              case measure => simp [intOf]; omega
                · as_aux_lemma =>
                    obtain ⟨gx, cx, hv, hcl⟩ := SF.out.cells (by omega)
                    subst hv
                    have HCL := hide hcl
                    have LNE : Hid (Ls ≠ []) := fun e => by have := SF.out.len; rw [e] at this; simp at this; omega
                    have LN6 : Hid (Ls.length ≤ 256) := by have := SF.out.len; have := J6.out; show Ls.length ≤ 256; omega
                    clear hcl
                    go_wp2_with fail
                    refine (pput_all w wr o d p t gs gx 0 cx Ls ns pg (fun m => S.cellPg (S.fA f q J m)) KF0.out.pw KF0.out.st HCL.out LNE.out LN6.out (SF.out.ok f J6.out TWF.out OB.out) (SF.out.nodup TWF.out) KF0.out.ngs (by omega)).mono ?_
                    rintro e w5 ⟨bb, d5, o5, ns5, rfl, hpm, hup, pw5⟩
                    have hmem : ∀ m, m ∈ ns5 ↔ m ∈ S.pgs Ls := fun m => hpm.mem_iff
                    have hn5 : ∀ m ∈ ns5, m < 512 := fun m hm => by
                      obtain ⟨i, _, rfl⟩ := (SF.out.mem m).1 ((hmem m).1 hm)
                      have := q.pgN_lt i
                      omega
                    have hle5 : ns5.length ≤ 256 := by rw [hpm.length_eq]; unfold S.pgs; rw [List.length_map]; exact LN6.out
                    have hne5 : ns5 ≠ [] := fun e => by rw [e] at hpm; have := hpm.length_eq; unfold S.pgs at this; simp at this; exact LNE.out (List.length_eq_zero_iff.1 this.symm)
                    have CR := hide (pw5.crash KF0.out.pw.pend KF0.out.pw.has (by omega) hn5 hup hle5 hne5 (fun m _ => S.cellPg_length _))
                    have SOF := hide (so_put SF.out KF0.out.so hmem)
                    have FEW := hide (pw5.few KF0.out.pw.pend KF0.out.pw.has.le hle5)
                    have LEFT : Hid (d.left = none → bb = true ∧ d5.left = none) := fun hl => pw5.left hl
                    have PWW := hide pw5
                    clear hpm hup pw5 hmem hn5 hle5 hne5 HCL LNE LN6 SF
                    cases bb with
                    | true =>
                      have E : S.why true = 0 := rfl
                      rw [E]
                      obtain ⟨hp5, p5, t5, ht5, hg5⟩ := CR.out.2 rfl
                      have MN := hide (MF.out.chg PWW.out.chg NBF.out)
                      have NBN : Hid (¬ o5.has b') := fun e => by
                        rcases PWW.out.own b' e with e | e
                        · exact NBF.out e
                        · have := MF.out.lt; omega
                      have KN : Hid (Ks w w5 og gC gs b' (n + J) o5 d5 p5 t5 [] (S.putPg ns5 (fun m => S.cellPg (S.fA f q J m)) pg) (S.fA f q J) kv c ar ag) := by
                        have far : ∀ x, ¬ o.has x → x < wr.heap.size → ¬ o5.has x := fun x h1 h2 e => by
                          rcases PWW.out.own x e with e | e
                          · exact h1 e
                          · omega
                        refine ⟨⟨PWW.out.dk, hp5, hg5, PWW.out.ob, PWW.out.below, KF0.out.pw.pos⟩, PWW.out.ptr.trans KF0.out.og, PWW.out.st, far gs KF0.out.ngs (block_lt_of_row KF0.out.st), MN.out, NBN.out, SOF.out, PWW.out.chg.row KF0.out.cr KF0.out.nc, far gC KF0.out.nc (block_lt_of_row KF0.out.cr), KF0.out.kb, fun e => (LEFT.out (KF0.out.lf e)).2, AG1.out, KF0.out.bs, BBF.out, KF0.out.bc⟩
                      have T5 : Hid (t5 ≤ t + 3) := ht5
                      clear hp5 hg5 ht5 MN NBN CR SOF FEW LEFT PWW KF0 MF
                      as_aux_lemma =>
                        go_wp2_with fail
                        refine (is_any w w5 o5 d5 p5 t5 gs b' (n + J) [] (S.putPg ns5 (fun m => S.cellPg (S.fA f q J m)) pg) (S.fA f q J) KN.out.pw KN.out.st KN.out.mp).mono ?_
                        rintro e wz ⟨rfl, _, _, _, bz⟩
                        rw [S.isSo_yes KN.out.so]
                        have KZ := hide (KN.out.then bz)
                        clear bz KN
                        go_wp2_with fail
                        go_roundw
                        case rel => exact KR.mk (k + 1) gs b' (n + J) o5 d5 p5 t5 [] (S.putPg ns5 (fun m => S.cellPg (S.fA f q J m)) pg) (S.fA f q J) kv c ar ag (by omega) (by omega) rfl rfl rfl rfl (by go_num) (by have := J6.out; omega) (by have := T5.out; omega) KZ.out
                        case measure => simp [intOf]; omega
                    | false =>
                      have E : S.why false = 13 := rfl
                      rw [E]
                      have hat : ar = true := by
                        cases ar with
                        | true => rfl
                        | false => exact absurd (LEFT.out (KF0.out.lf rfl)).1 (by simp)
                      subst hat
                      have KF : Hid (KCr w5 gC kv c w) := ⟨PWW.out.chg.row KF0.out.cr KF0.out.nc, KF0.out.kb⟩
                      as_aux_lemma =>
                        have ldc := ld45 KF.out.cr
                        have OG5 : Hid (o5.g = og) := PWW.out.ptr.trans KF0.out.og
                        have KSA : Hid (∀ W, Chg o5.has w5 W → BoolsAt W kv c.keep) := fun W hc => KF.out.kb.below (PWW.out.below.trans (hc.below _ PWW.out.below.size (fun k hk e => by have := PWW.out.ob k e; omega))) (Nat.le_refl _)
                        go_wp2_with (with_reducible refine at_op ⟨some 145, .load 45 (.tmp 8), 45, "law.go:158", #[], none⟩ ?_; refine wpList_load_as rfl 45 (.tmp 8) rfl (.pointer (some ⟨gC, 0, none⟩)) rfl (.agg #[kv, .int .i64 c.torn, .int .i64 c.bytes]) ldc ?_)
                        clear ldc
                        refine (crash_og OG5.out d5 kv c w5 PWW.out.dk.dk FEW.out KSA.out).mono ?_
                        rintro e w6 ⟨rfl, o6, hd6, hm6⟩
                        obtain ⟨p6, t6, k6, ht6, hpg6⟩ := CR.out.1 c
                        obtain ⟨pgx, hpx, hpgx⟩ : ∃ pgx, (pgx = pg ∨ pgx = S.putPg ns5 (fun m => S.cellPg (S.fA f q J m)) pg) ∧ S.Pgs (d5.crash c).safe p6 t6 k6 pgx := by
                          rcases hpg6 with h | h
                          · exact ⟨_, Or.inl rfl, h⟩
                          · exact ⟨_, Or.inr rfl, h⟩
                        obtain ⟨d6, hd6e⟩ : ∃ d6, d6 = d5.crash c := ⟨_, rfl⟩
                        have X6 : Hid (Kx w w6 og gC b n b' (n + J) o6 d6 p6 t6 k6 pgx f (S.fA f q J) kv c) := by
                          have hc6 : Chg o.has wr w6 := PWW.out.chg.trans hm6.chg (fun j hj e => by rcases PWW.out.own j e with e | e; exact e; omega)
                          have ho6 : ∀ k, o6.has k → o.has k ∨ wr.heap.size ≤ k := fun k e => by
                            rcases hm6.own k e with e | e
                            · exact PWW.out.own k e
                            · exact Or.inr (Nat.le_trans PWW.out.chg.size e)
                          have far : ∀ x, ¬ o.has x → x < wr.heap.size → ¬ o6.has x := fun x h1 h2 e => by
                            rcases ho6 x e with e | e
                            · exact h1 e
                            · omega
                          refine ⟨⟨PWW.out.dk.to (by rw [hd6e]; exact hd6) hm6, by rw [hd6e]; rfl, by rw [hd6e]; exact hpgx, fun k e => ?_, PWW.out.below.trans (hm6.chg.below _ PWW.out.below.size (fun k hk e => by have := PWW.out.ob k e; omega)), KF0.out.pw.pos⟩, hm6.g.trans (PWW.out.ptr.trans KF0.out.og), KF0.out.mp.chg hc6 KF0.out.nb, far b KF0.out.nb KF0.out.mp.lt, MF.out.chg hc6 NBF.out, far b' NBF.out MF.out.lt, hc6.row KF0.out.cr KF0.out.nc, far gC KF0.out.nc (block_lt_of_row KF0.out.cr), KF0.out.kb, KF0.out.bb, BBF.out, KF0.out.bc, ?_⟩
                          · rcases ho6 k e with e | e
                            · exact KF0.out.pw.ob k e
                            · exact Nat.le_trans KF0.out.pw.below.size e
                          · rcases hpx with e | e
                            · exact Or.inl (by rw [e]; exact KF0.out.so)
                            · exact Or.inr (by rw [e]; exact SOF.out)
                        have T6 : Hid (t6 ≤ t + 3) := ht6
                        have LL6 : Hid (d6.left = none) := by rw [hd6e]; rfl
                        clear hd6 hm6 hpg6 hpx hpgx hd6e ht6 KSA CR PWW FEW KF KF0 MF SOF LEFT
                        by_cases hag : 0 ≤ ag
                        · have qa : (0 : Int) ≤ ag := hag
                          go_wp2_with fail
                          refine (stop_og X6.out.og d6 ag w6 X6.out.pw.dk.dk AG1.out).mono ?_
                          rintro e w7 ⟨rfl, o7, hd7, hm7⟩
                          have X7 := hide (X6.out.disk (d' := d6.stop ag) (X6.out.pw.dk.to hd7 hm7) hm7 X6.out.pw.pend X6.out.pw.has)
                          clear hd7 hm7 X6
                          go_wp2_with fail
                          refine (popen_og X7.out.og w w7 (d6.stop ag) p6 t6 k6 pgx X7.out.pw).mono ?_
                          rintro e w8 ⟨g8, rfl, _, _, _, b8⟩
                          have X8 := hide (X7.out.then b8)
                          clear b8 X7
                          have ldc := ld45 X8.out.cr
                          have KSA : Hid (∀ W, Chg o7.has w8 W → BoolsAt W kv c.keep) := fun W hc => X8.out.kb.below (X8.out.pw.below.trans (hc.below _ X8.out.pw.below.size (fun k hk e => by have := X8.out.pw.ob k e; omega))) (Nat.le_refl _)
                          go_wp2_with (with_reducible refine at_op ⟨some 164, .load 45 (.tmp 8), 45, "law.go:165", #[], none⟩ ?_; refine wpList_load_as rfl 45 (.tmp 8) rfl (.pointer (some ⟨gC, 0, none⟩)) rfl (.agg #[kv, .int .i64 c.torn, .int .i64 c.bytes]) ldc ?_)
                          clear ldc
                          refine (crash_og X8.out.og (d6.stop ag) kv c w8 X8.out.pw.dk.dk (by rw [X8.out.pw.pend]; simp) KSA.out).mono ?_
                          rintro e w9 ⟨rfl, o9, hd9, hm9⟩
                          obtain ⟨d9, hd9e⟩ : ∃ d9, d9 = (d6.stop ag).crash c := ⟨_, rfl⟩
                          have hs9 : d9.safe = (d6.stop ag).safe := by rw [hd9e]; exact S.Dk.crash_flushed _ X8.out.pw.pend c
                          rw [← hd9e] at hd9
                          have X9 : Hid (Kx w w9 og gC b n b' (n + J) o9 d9 p6 t6 k6 pgx f (S.fA f q J) kv c) := X8.out.disk (X8.out.pw.dk.to hd9 hm9) hm9 (by rw [hd9e]; rfl) (by rw [hs9]; exact X8.out.pw.has)
                          have L9 : Hid (d9.left = none) := by rw [hd9e]; rfl
                          clear hd9 hm9 hd9e hs9 KSA X8
                          as_aux_lemma =>
                            go_wp2_with fail
                            refine (popen_og X9.out.og w w9 d9 p6 t6 k6 pgx X9.out.pw).mono ?_
                            rintro e wa ⟨ga, rfl, hsta, hga, hpa, ba⟩
                            have XA := hide (X9.out.then ba)
                            have STA := hide hsta
                            have GA : Hid (w.heap.size ≤ ga) := Nat.le_trans X9.out.pw.below.size hga
                            have NGA : Hid (¬ o9.has ga) := fun e => by have := X9.out.pw.dk.dk.lt ga e; omega
                            clear hsta hga hpa ba X9
                            go_wp2_with fail
                            refine (is_any w wa o9 d9 p6 t6 ga b (n) k6 pgx f XA.out.pw STA.out XA.out.mp).mono ?_
                            rintro e wb ⟨rfl, _, hstb, _, bb⟩
                            have XB := hide (XA.out.then bb)
                            have STB := hide hstb
                            clear hstb bb XA STA
                            cases hr1 : S.isSo pgx f with
                            | true =>
                              have SO1 : Hid (∀ m, m < 12 → pgx m = S.cellPg (f m)) := (S.isSo_iff pgx f).1 hr1
                              go_wp2_with fail
                              refine (is_any w wb o9 d9 p6 t6 ga b (n) k6 pgx f XB.out.pw STB.out XB.out.mp).mono ?_
                              rintro e wc ⟨rfl, _, hstc, _, bc⟩
                              rw [hr1]
                              have XC := hide (XB.out.then bc)
                              have KZ : Hid (Ks w wc og gC ga b (n) o9 d9 p6 t6 k6 pgx f kv c false ag) := ⟨XC.out.pw, XC.out.og, hstc, NGA.out, XC.out.mp, XC.out.nb, SO1.out, XC.out.cr, XC.out.nc, XC.out.kb, fun _ => L9.out, AG1.out, GA.out, XC.out.bb, XC.out.bc⟩
                              clear hstc bc XB STB XC hr1
                              go_wp2_with fail
                              go_roundw
                              case rel => exact KR.mk (k + 1) ga b (n) o9 d9 p6 t6 k6 pgx f kv c false ag (by omega) (by omega) rfl rfl rfl rfl (by go_num) (by omega) (by have := T6.out; omega) KZ.out
                              case measure => simp [intOf]; omega
                            | false =>
                              have SO2 : Hid (∀ m, m < 12 → pgx m = S.cellPg (S.fA f q J m)) := by
                                rcases XB.out.so with e | e
                                · exact absurd (S.isSo_yes e) (by rw [hr1]; simp)
                                · exact e
                              go_wp2_with fail
                              refine (is_any w wb o9 d9 p6 t6 ga b' (n + J) k6 pgx (S.fA f q J) XB.out.pw STB.out XB.out.mp').mono ?_
                              rintro e wc ⟨rfl, _, hstc, _, bc⟩
                              rw [S.isSo_yes SO2.out]
                              have XC := hide (XB.out.then bc)
                              have STC := hide hstc
                              clear hstc bc XB STB
                              go_wp2_with fail
                              refine (is_any w wc o9 d9 p6 t6 ga b (n) k6 pgx f XC.out.pw STC.out XC.out.mp).mono ?_
                              rintro e wd ⟨rfl, _, hstd, _, bd⟩
                              rw [hr1]
                              have XD := hide (XC.out.then bd)
                              have KZ : Hid (Ks w wd og gC ga b' (n + J) o9 d9 p6 t6 k6 pgx (S.fA f q J) kv c false ag) := ⟨XD.out.pw, XD.out.og, hstd, NGA.out, XD.out.mp', XD.out.nb', SO2.out, XD.out.cr, XD.out.nc, XD.out.kb, fun _ => L9.out, AG1.out, GA.out, XD.out.bb', XD.out.bc⟩
                              clear hstd bd XC STC XD hr1
                              go_wp2_with fail
                              go_roundw
                              case rel => exact KR.mk (k + 1) ga b' (n + J) o9 d9 p6 t6 k6 pgx (S.fA f q J) kv c false ag (by omega) (by omega) rfl rfl rfl rfl (by go_num) (by have := J6.out; omega) (by have := T6.out; omega) KZ.out
                              case measure => simp [intOf]; omega
                        · have qa : ¬ ((0 : Int) ≤ ag) := hag
                          have L6 : Hid (d6.left = none) := LL6.out
                          as_aux_lemma =>
                            go_wp2_with fail
                            refine (popen_og X6.out.og w w6 d6 p6 t6 k6 pgx X6.out.pw).mono ?_
                            rintro e wa ⟨ga, rfl, hsta, hga, hpa, ba⟩
                            have XA := hide (X6.out.then ba)
                            have STA := hide hsta
                            have GA : Hid (w.heap.size ≤ ga) := Nat.le_trans X6.out.pw.below.size hga
                            have NGA : Hid (¬ o6.has ga) := fun e => by have := X6.out.pw.dk.dk.lt ga e; omega
                            clear hsta hga hpa ba X6
                            go_wp2_with fail
                            refine (is_any w wa o6 d6 p6 t6 ga b (n) k6 pgx f XA.out.pw STA.out XA.out.mp).mono ?_
                            rintro e wb ⟨rfl, _, hstb, _, bb⟩
                            have XB := hide (XA.out.then bb)
                            have STB := hide hstb
                            clear hstb bb XA STA
                            cases hr1 : S.isSo pgx f with
                            | true =>
                              have SO1 : Hid (∀ m, m < 12 → pgx m = S.cellPg (f m)) := (S.isSo_iff pgx f).1 hr1
                              go_wp2_with fail
                              refine (is_any w wb o6 d6 p6 t6 ga b (n) k6 pgx f XB.out.pw STB.out XB.out.mp).mono ?_
                              rintro e wc ⟨rfl, _, hstc, _, bc⟩
                              rw [hr1]
                              have XC := hide (XB.out.then bc)
                              have KZ : Hid (Ks w wc og gC ga b (n) o6 d6 p6 t6 k6 pgx f kv c false ag) := ⟨XC.out.pw, XC.out.og, hstc, NGA.out, XC.out.mp, XC.out.nb, SO1.out, XC.out.cr, XC.out.nc, XC.out.kb, fun _ => L6.out, AG1.out, GA.out, XC.out.bb, XC.out.bc⟩
                              clear hstc bc XB STB XC hr1
                              go_wp2_with fail
                              go_roundw
                              case rel => exact KR.mk (k + 1) ga b (n) o6 d6 p6 t6 k6 pgx f kv c false ag (by omega) (by omega) rfl rfl rfl rfl (by go_num) (by omega) (by have := T6.out; omega) KZ.out
                              case measure => simp [intOf]; omega
                            | false =>
                              have SO2 : Hid (∀ m, m < 12 → pgx m = S.cellPg (S.fA f q J m)) := by
                                rcases XB.out.so with e | e
                                · exact absurd (S.isSo_yes e) (by rw [hr1]; simp)
                                · exact e
                              go_wp2_with fail
                              refine (is_any w wb o6 d6 p6 t6 ga b' (n + J) k6 pgx (S.fA f q J) XB.out.pw STB.out XB.out.mp').mono ?_
                              rintro e wc ⟨rfl, _, hstc, _, bc⟩
                              rw [S.isSo_yes SO2.out]
                              have XC := hide (XB.out.then bc)
                              have STC := hide hstc
                              clear hstc bc XB STB
                              go_wp2_with fail
                              refine (is_any w wc o6 d6 p6 t6 ga b (n) k6 pgx f XC.out.pw STC.out XC.out.mp).mono ?_
                              rintro e wd ⟨rfl, _, hstd, _, bd⟩
                              rw [hr1]
                              have XD := hide (XC.out.then bd)
                              have KZ : Hid (Ks w wd og gC ga b' (n + J) o6 d6 p6 t6 k6 pgx (S.fA f q J) kv c false ag) := ⟨XD.out.pw, XD.out.og, hstd, NGA.out, XD.out.mp', XD.out.nb', SO2.out, XD.out.cr, XD.out.nc, XD.out.kb, fun _ => L6.out, AG1.out, GA.out, XD.out.bb', XD.out.bc⟩
                              clear hstd bd XC STC XD hr1
                              go_wp2_with fail
                              go_roundw
                              case rel => exact KR.mk (k + 1) ga b' (n + J) o6 d6 p6 t6 k6 pgx (S.fA f q J) kv c false ag (by omega) (by omega) rfl rfl rfl rfl (by go_num) (by have := J6.out; omega) (by have := T6.out; omega) KZ.out
                              case measure => simp [intOf]; omega
    · have qk1 : (q.kind == 1) = false := beq_false_of_ne hk1
      by_cases hk2 : q.kind = 2
      · as_aux_lemma =>
          have qk2 : (q.kind == 2) = true := beq_iff_eq.2 hk2
          obtain ⟨e0, e1, e2, e3, e4, e5, e6, e7⟩ := row8 R3.out
          cases ar with
          | true =>
            have KN : Hid (Ks w w3 og gC gs b' n o d p t ns pg f kv c true ag) := K3.out.map M3.out NB3.out BB3.out K3.out.so
            go_wp2_with fail
            refine (is_any w w3 o d p t gs b' (n) ns pg f KN.out.pw KN.out.st KN.out.mp).mono ?_
            rintro e wz ⟨rfl, _, _, _, bz⟩
            rw [S.isSo_yes KN.out.so]
            have KZ := hide (KN.out.then bz)
            clear bz KN
            go_wp2_with fail
            go_roundw
            case rel => exact KR.mk (k + 1) gs b' (n) o d p t ns pg f kv c true ag (by omega) (by omega) rfl rfl rfl rfl (by go_num) (by omega) (by omega) KZ.out
            case measure => simp [intOf]; omega
          | false =>
            go_wp2_with fail
            refine (popen_og K3.out.og w w3 d p t ns pg K3.out.pw).mono ?_
            rintro e w4 ⟨g4, rfl, hst4, hg4, hp4, b4⟩
            have K4 := K3.out.then b4
            have KN : Hid (Ks w w4 og gC g4 b' n o d p t ns pg f kv c false ag) := by
              have hs3 := K3.out.pw.below.size
              refine ⟨hp4, K4.og, hst4, fun e => by have := K3.out.pw.dk.dk.lt g4 e; omega, M3.out.below b4, NB3.out, K4.so, K4.cr, K4.nc, K4.kb, K4.lf, K4.ag1, by omega, BB3.out, K4.bc⟩
            clear hst4 hg4 hp4 b4 K4 K3 M3 R3 e0 e1 e2 e3 e4 e5 e6 e7
            go_wp2_with fail
            refine (is_any w w4 o d p t g4 b' (n) ns pg f KN.out.pw KN.out.st KN.out.mp).mono ?_
            rintro e wz ⟨rfl, _, _, _, bz⟩
            rw [S.isSo_yes KN.out.so]
            have KZ := hide (KN.out.then bz)
            clear bz KN
            go_wp2_with fail
            go_roundw
            case rel => exact KR.mk (k + 1) g4 b' (n) o d p t ns pg f kv c false ag (by omega) (by omega) rfl rfl rfl rfl (by go_num) (by omega) (by omega) KZ.out
            case measure => simp [intOf]; omega
      · by_cases hk3 : q.kind = 3
        · as_aux_lemma =>
            have qk3 : (q.kind == 3) = true := beq_iff_eq.2 hk3
            have qk2 : (q.kind == 2) = false := by rw [hk3]; rfl
            obtain ⟨e0, e1, e2, e3, e4, e5, e6, e7⟩ := row8 R3.out
            go_wp2_with fail
            refine (within_any q.after 130 w3 AF.out.1 AF.out.2 (by omega) (by omega)).mono ?_
            rintro e w4 ⟨rfl, rfl⟩
            obtain ⟨s, hs⟩ : ∃ s : Nat, s = S.within q.after 130 := ⟨_, rfl⟩
            have hs130 : s ≤ 130 := by have := S.within_le q.after 130 (by omega); omega
            rw [← hs]
            clear hs
            go_wp2_with fail
            refine (stop_og K3.out.og d (s : Int) w3 K3.out.pw.dk.dk (by omega)).mono ?_
            rintro e w4 ⟨rfl, o4, hd4, hm4⟩
            have K4 : Hid (Ks w w4 og gC gs b n o4 (d.stop (s : Int)) p t ns pg f kv c true ag) := K3.out.disk (K3.out.pw.dk.to hd4 hm4) hm4.g hm4.chg hm4.own K3.out.pw.pend K3.out.pw.has K3.out.so (fun e => nomatch e)
            have M4 := hide (M3.out.chg hm4.chg NB3.out)
            have NB4 : Hid (¬ o4.has b') := fun e => by
              rcases hm4.own b' e with e | e
              · exact NB3.out e
              · have := M3.out.lt; omega
            have R4 : Hid (w4.heap[g11]? = some (.cells #[.int .i64 q.kind, .int .i64 q.after, .int .i64 q.again, .slice an q.ns.length cn, .int .u8 (q.fill.toNat : Int), .slice ak q.keep.length ck, .int .i64 q.torn, .int .i64 q.bytes] 48 (0, 0))) := hm4.chg.row R3.out NG11.out
            have NG4 : Hid (¬ o4.has g11) := fun e => by
              rcases hm4.own g11 e with e | e
              · exact NG11.out e
              · have := block_lt_of_row R3.out; omega
            obtain ⟨d4, hd4e⟩ : ∃ d4, d4 = d.stop (s : Int) := ⟨_, rfl⟩
            rw [← hd4e] at K4
            clear hd4 hm4 hd4e K3 M3 R3 NB3 e0 e1 e2 e3 e4 e5 e6 e7
            obtain ⟨e0, e1, e2, e3, e4, e5, e6, e7⟩ := row8 R4.out
            have ldq : (Instr.loadAt 45 (.pointer (some ⟨g11, 5, none⟩))).run Tryz.prog w4 = .ok (.agg #[.slice ak q.keep.length ck, .int .i64 q.torn, .int .i64 q.bytes]) w4 :=
              run_loadAt_mid (P := Tryz.prog) w4 g11 5 45 [.slice ak q.keep.length ck, .int .i64 q.torn, .int .i64 q.bytes] _ (fun j v hv => by
                match j, hv with
                | 0, hv => simp at hv; rw [← hv]; exact e5
                | 1, hv => simp at hv; rw [← hv]; exact e6
                | 2, hv => simp at hv; rw [← hv]; exact e7) Tryz.underlying45 rfl (by kernel_rfl)
            obtain ⟨w5, hst5, r5, c5⟩ := store45 (x := .slice ak q.keep.length ck) (y := q.torn) (z := q.bytes) K4.out.cr rfl
            have ngs5 : gs ≠ gC := fun e => by
              have h1 := K4.out.st
              unfold StAt at h1
              rw [e, K4.out.cr] at h1
              simp at h1
            have nb5 : b ≠ gC := fun e => by
              obtain ⟨D, ⟨es, cl, h1, _⟩, _⟩ := K4.out.mp.ex
              rw [e, K4.out.cr] at h1
              simp at h1
            have nb5' : b' ≠ gC := fun e => by
              obtain ⟨D, ⟨es, cl, h1, _⟩, _⟩ := M4.out.ex
              rw [e, K4.out.cr] at h1
              simp at h1
            have ng5 : g11 ≠ gC := fun e => by
              have h1 := R4.out
              rw [e, K4.out.cr] at h1
              simp at h1
            have R5 : Hid (w5.heap[g11]? = some (.cells #[.int .i64 q.kind, .int .i64 q.after, .int .i64 q.again, .slice an q.ns.length cn, .int .u8 (q.fill.toNat : Int), .slice ak q.keep.length ck, .int .i64 q.torn, .int .i64 q.bytes] 48 (0, 0))) := c5.row R4.out (fun e => ng5 e)
            have KN : Hid (Ks w w5 og gC gs b' n o4 d4 p t ns pg f (.slice ak q.keep.length ck) ⟨q.keep, q.torn, q.bytes⟩ true q.again) := by
              have hbw := K4.out.bc
              refine ⟨⟨⟨K4.out.pw.dk.dk.chg c5 (fun k hk e => K4.out.nc (e ▸ hk)), K4.out.pw.dk.k.chg c5 (fun e => by have := K4.out.pw.pos; omega), K4.out.pw.dk.no⟩, K4.out.pw.pend, K4.out.pw.has, K4.out.pw.ob, K4.out.pw.below.trans (c5.below _ K4.out.pw.below.size (fun k hk e => by omega)), K4.out.pw.pos⟩, K4.out.og, c5.row K4.out.st (fun e => ngs5 e), K4.out.ngs, M4.out.chg c5 (fun e => nb5' e), NB4.out, K4.out.so, r5, K4.out.nc, KBQ.out, (fun e => nomatch e), AGQ.out, K4.out.bs, BB3.out, K4.out.bc⟩
            clear r5 c5 K4 M4 R4 ngs5 nb5 nb5' ng5
            go_upto_region 42 with (first | (with_reducible refine at_op ⟨some 136, .load 45 (.tmp 135), 45, "law.go:153", #[⟨0, .data⟩], none⟩ ?_; refine wpList_load_as rfl 45 (.tmp 135) rfl (.pointer (some ⟨g11, 5, none⟩)) rfl (.agg #[.slice ak q.keep.length ck, .int .i64 q.torn, .int .i64 q.bytes]) ldq ?_) | (with_reducible refine at_op ⟨none, .store 45 (.tmp 8) (.tmp 136), 0, "law.go:153", #[⟨1, .data⟩, ⟨0, .phase⟩, ⟨1, .phase⟩], none⟩ ?_; refine wpList_store_as rfl 45 (.tmp 8) (.tmp 136) rfl (.pointer (some ⟨gC, 0, none⟩)) (.agg #[.slice ak q.keep.length ck, .int .i64 q.torn, .int .i64 q.bytes]) rfl rfl w5 hst5 ?_))
            clear ldq hst5 e0 e1 e2 e3 e4 e5 e6 e7
            obtain ⟨e0, e1, e2, e3, e4, e5, e6, e7⟩ := row8 R5.out
            go_wp2_with fail
            refine (is_any w w5 o4 d4 p t gs b' (n) ns pg f KN.out.pw KN.out.st KN.out.mp).mono ?_
            rintro e wz ⟨rfl, _, _, _, bz⟩
            rw [S.isSo_yes KN.out.so]
            have KZ := hide (KN.out.then bz)
            clear bz KN
            go_wp2_with fail
            go_roundw
            case rel => exact KR.mk (k + 1) gs b' (n) o4 d4 p t ns pg f (.slice ak q.keep.length ck) ⟨q.keep, q.torn, q.bytes⟩ true q.again (by omega) (by omega) rfl rfl rfl rfl (by go_num) (by omega) (by omega) KZ.out
            case measure => simp [intOf]; omega
        · as_aux_lemma =>
            have KN : Hid (Ks w w3 og gC gs b' n o d p t ns pg f kv c ar ag) := K3.out.map M3.out NB3.out BB3.out K3.out.so
            have qk2 : (q.kind == 2) = false := beq_false_of_ne hk2
            have qk3 : (q.kind == 3) = false := beq_false_of_ne hk3
            obtain ⟨e0, e1, e2, e3, e4, e5, e6, e7⟩ := row8 R3.out
            go_wp2_with fail
            refine (is_any w w3 o d p t gs b' (n) ns pg f KN.out.pw KN.out.st KN.out.mp).mono ?_
            rintro e wz ⟨rfl, _, _, _, bz⟩
            rw [S.isSo_yes KN.out.so]
            have KZ := hide (KN.out.then bz)
            clear bz KN
            go_wp2_with fail
            go_roundw
            case rel => exact KR.mk (k + 1) gs b' (n) o d p t ns pg f kv c ar ag (by omega) (by omega) rfl rfl rfl rfl (by go_num) (by omega) (by omega) KZ.out
            case measure => simp [intOf]; omega
  · have BF0 : Hid (Below w.heap.size w wr) := KS.out.pw.below
    have KF1 := hide (HK.out.below BF0.out HP.out)
    by_cases hlt : k < L
    · have qa : (k : Int) < (L : Int) := by omega
      have qb : ¬ ((k : Int) < 12) := by omega
      as_aux_lemma =>
        go_wp2_with fail
        refine (pknown_go _ KF1.out).mono ?_
        rintro e wz ⟨rfl, bz⟩
        have BF := hide (BF0.out.trans (bz.mono BF0.out.size))
        clear bz
        go_wp2_with fail
        go_ret
        exact ⟨rfl, BF.out⟩
    · have qa : ¬ ((k : Int) < (L : Int)) := by omega
      as_aux_lemma =>
        go_wp2_with fail
        refine (pknown_go _ KF1.out).mono ?_
        rintro e wz ⟨rfl, bz⟩
        have BF := hide (BF0.out.trans (bz.mono BF0.out.size))
        clear bz
        go_wp2_with fail
        go_ret
        exact ⟨rfl, BF.out⟩
end Go.Proofs.YthjlhngjpbmieaaGreatDoor
