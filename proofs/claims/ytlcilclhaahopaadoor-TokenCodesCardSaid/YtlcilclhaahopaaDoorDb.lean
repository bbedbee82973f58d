/- The document's Decode. -/
import Derived.Test.YtlcilclhaahopaaDoorDa
import Derived.Deep.CutBlock
namespace Go.Proofs.YtlcilclhaahopaaDoor
open Go.RowKit

theorem load_cs {w : World} {g id : Nat} {cv : Value} {tag : List UInt8} (h : w.heap[g]? = some (.cells (encT id cv tag).toArray 27 (0, 0))) : (Instr.loadAt 23 (.pointer (some ⟨g, 1, none⟩))).run Tryd.prog w = .ok cv w := by
  have c1 := (t_cells h).2
  go_simp
theorem build42d (k : Int) (n : Nat) (w : World) : (Instr.build 42 #[(0, .int .i64 k), (1, .int .u32 (n : Int))]).run Tryd.prog w = .ok (.agg (encC ⟨k, n⟩).toArray) w := run_build w 42 _ _ (by kernel_rfl)
theorem store_cs {w : World} {g id : Nat} {cv : Value} {tag : List UInt8} (uo : Option Addr) (un uc : Nat) (h : w.heap[g]? = some (.cells (encT id cv tag).toArray 27 (0, 0))) : (Instr.storeAt 23 (.pointer (some ⟨g, 1, none⟩)) (.slice uo un uc)).run Tryd.prog w = .ok () (w.setCell ⟨g, 1, none⟩ (.slice uo un uc)) := by
  have c1 := (t_cells h).2
  have f1 := frozen_of_row _ _ 1 _ _ h
  go_simp
theorem S.kindRd_bs (r : S.Rd) : (S.kindRd r).bs = r.bs := by
  unfold S.kindRd S.Rd.fail
  split
  · rw [S.Rd.refuse_bs]; exact S.Rd.take_bs _ _
  · exact S.Rd.take_bs _ _
theorem results_rt3 {fn : Func} {p q r : Tmp} {ty : TypeId} (h : fn.results = #[.cell p ty, .tmp q, .tmp r]) (tmps : Array Value) (w : World) (g : Nat) (cs : Array Value)
    (hp : tmps.getD p undef = .pointer (some ⟨g, 0, none⟩)) (hl : (loadVar ty ⟨g, 0, none⟩).run Tryd.prog w = .ok (.agg cs) w) :
    (results fn tmps).run Tryd.prog w = .ok (.tuple #[.agg cs, tmps.getD q undef, tmps.getD r undef]) w := by
  have hp' : tmps[p]?.getD undef = .pointer (some ⟨g, 0, none⟩) := by simpa using hp
  simp [results, h, hp', asAddr, hl]
theorem DrIs.bad {w : World} {g : Nat} {ao : Option Addr} {len cap : Nat} {r : S.Rd} (h : DrIs w g ao len cap r) : w.cell? ⟨g, 4, none⟩ = some (.bool (r.why != 0)) := by
  obtain ⟨a, y, b, h1, h2⟩ := h.row
  exact (fiveCells h1).2.2.2.2
set_option maxHeartbeats 40000000 in
set_option maxRecDepth 10000 in
theorem rdecode_any (v : Value) (bs : List UInt8) (w : World) (hv : SliceAt w v bs) (hb : bs.length ≤ 140737488355328) :
   Calls Tryd.prog 27 #[v] w fun e w' => (∃ cv, e = .returned (.tuple #[.agg (encT (S.decode bs).1.id cv (S.decode bs).1.tag).toArray, .int .i64 (S.decode bs).2.1, .int .i64 (S.decode bs).2.2]) ∧ CRow w.heap.size w' cv (S.decode bs).1.cs) ∧ Below w.heap.size w w' := by
  obtain ⟨ao, ln, cap, rfl, hn, hmax⟩ := hv.form
  have HV := hide hv
  have HN := hide hn
  have HB : Hid (bs.length ≤ 140737488355328) := hb
  obtain ⟨rc, hrc⟩ : ∃ rc, rc = S.decode bs := ⟨_, rfl⟩
  have HRC := hide hrc
  rw [← hrc]
  clear hv hn hb hrc hmax
  go_enter Tryd.func27, Tryd.ntmps27
  go_upto_region 1 with (refine wpList_alloc_known rfl 27 rfl _ _ (alloc27 _) ?_)
  generalize hW0 : w.alloc _ = W0
  have B0 : Below w.heap.size w W0 := by rw [← hW0]; exact (Below.refl _ _).alloc (Nat.le_refl _) _
  have s0 : W0.heap.size = w.heap.size + 1 := by rw [← hW0]; simp
  have r0 : W0.heap[w.heap.size]? = some (.cells tk0 27 (0, 0)) := by rw [← hW0]; exact heap_alloc_new _ _
  clear hW0
  have S0 := hide s0
  clear s0
  go_upto_region 2 with fail
  have s0 := S0.out
  generalize hW1 : W0.alloc _ = W1
  have B1 : Below W0.heap.size W0 W1 := by rw [← hW1]; exact (Below.refl _ _).alloc (Nat.le_refl _) _
  have r1 : W1.heap[W0.heap.size]? = some (.cells #[.slice ao ln cap, .int .i64 0, .int .i64 0, .int .i64 0, .bool false] 111 (0, 0)) := by rw [← hW1]; exact heap_alloc_new _ _
  have BB := hide (B0.trans (B1.mono (by omega)))
  have Q1 := hide ((B1.block _ (by omega)).trans r0)
  obtain ⟨gd, hgd⟩ : ∃ g, g = W0.heap.size := ⟨_, rfl⟩
  rw [← hgd] at r1 ⊢
  obtain ⟨r0', hr0⟩ : ∃ r : S.Rd, r = ⟨bs, 0, 0, 0⟩ := ⟨_, rfl⟩
  have HR0 := hide hr0
  have GD := hide (show w.heap.size < gd by omega)
  have R1 : Hid (DrIs W1 gd ao ln cap r0') := by
    rw [hr0]
    exact ⟨⟨0, 0, 0, r1, fun _ => rfl, fun h => absurd rfl h⟩, HN.out, Nat.zero_le _, HB.out, fun W2 h2 => HV.out.below (BB.out.trans (h2.below w.heap.size BB.out.size (fun k hk e => by have := GD.out; omega))) (Nat.le_refl _)⟩
  clear hW1 B0 s0 r0 B1 r1 hgd hr0
  go_wp2_with fail
  refine (dnum_any gd ao ln cap r0' 4 W1 R1.out).mono ?_
  rintro e w2 ⟨rfl, h2, k2⟩
  have hnl := S.number4_lt r0'
  obtain ⟨id, hid⟩ : ∃ k, k = (r0'.number 4).2 := ⟨_, rfl⟩
  obtain ⟨r1, hr1⟩ : ∃ k, k = (r0'.number 4).1 := ⟨_, rfl⟩
  rw [← hid] at hnl ⊢
  rw [← hr1] at h2
  have H1 := hide (show (⟨bs, 0, 0, 0⟩ : S.Rd).number 4 = (r1, id) by rw [← HR0.out, hr1, hid])
  have R2 := hide h2
  have Q2 := hide (k2.row Q1.out (by have := GD.out; omega))
  have B2 := hide (BB.out.trans (k2.below w.heap.size BB.out.size (fun k hk e => by have := GD.out; omega)))
  have qi : IntKind.u32.wrap (id : Int) = (id : Int) := by rw [IntKind.wrap_u32]; omega
  obtain ⟨A3, w3, ha3, hs3, hr3, hb3, -⟩ := lay_t w2 id none 0 0 (S.zeros 32) (S.zeros_length 32)
  obtain ⟨g6, hg6⟩ : ∃ g, g = w2.heap.size := ⟨_, rfl⟩
  rw [← hg6] at ha3 hs3 hr3
  have hbj := build27j id w2
  have R3 := hide (R2.out.below hb3)
  have Q3 := hide ((hb3.block _ (block_lt_of_row Q2.out)).trans Q2.out)
  have X3 := hide hr3
  have G6 := hide (show gd < g6 ∧ w.heap.size < g6 by rw [hg6]; exact ⟨R2.out.lt, block_lt_of_row Q2.out⟩)
  have B3 := hide (B2.out.trans (hb3.mono B2.out.size))
  clear h2 k2 hid hr1 hr3 hb3 hg6 hnl R1 Q1 BB R2 Q2 B2 HR0
  go_upto_region 3 with (first | (with_reducible refine at_op { dst := some 18, op := Op.build 27 #[(0, Operand.tmp 17)], type := 27, pos := "ref.go:89", after := #[{ on := 2, ground := Ground.data }], guard := none } ?_; refine wpList_build_as rfl 27 [(0, .tmp 17)] rfl [(0, .int .u32 (id : Int))] rfl (.agg (encT id (.slice none 0 0) (S.zeros 32)).toArray) hbj ?_) | (with_reducible refine at_op { dst := some 6, op := Op.alloc 27, type := 0, pos := "ref.go:89", after := #[], guard := none } ?_; refine wpList_alloc_known rfl 27 rfl _ _ ha3 ?_) | (with_reducible refine at_op { dst := none, op := Op.store 27 (Operand.tmp 6) (Operand.tmp 18), type := 0, pos := "ref.go:89", after := #[{ on := 4, ground := Ground.data }, { on := 3, ground := Ground.data }, { on := 1, ground := Ground.chain }, { on := 0, ground := Ground.phase }, { on := 1, ground := Ground.phase }, { on := 2, ground := Ground.phase }, { on := 3, ground := Ground.phase }, { on := 4, ground := Ground.phase }], guard := none } ?_; refine wpList_store_as rfl 27 (.tmp 6) (.tmp 18) rfl (.pointer (some ⟨g6, 0, none⟩)) (.agg (encT id (.slice none 0 0) (S.zeros 32)).toArray) rfl rfl w3 hs3 ?_))
  clear ha3 hs3 A3 hbj qi
  go_wp2_with fail
  refine (dnum_any gd ao ln cap r1 1 w3 R3.out).mono ?_
  rintro e w4 ⟨rfl, h4, k4⟩
  have hnl := S.number1_lt r1
  have hnb := S.Rd.number_then r1 1
  obtain ⟨n, hn⟩ : ∃ k, k = (r1.number 1).2 := ⟨_, rfl⟩
  obtain ⟨r2, hr2⟩ : ∃ k, k = (r1.number 1).1 := ⟨_, rfl⟩
  rw [← hn] at hnl hnb ⊢
  rw [← hr2] at h4 hnb
  have H2 := hide (show r1.number 1 = (r2, n) by rw [hr2, hn])
  have NB := hide hnb
  have NL := hide hnl
  have R4 := hide h4
  have Q4 := hide (k4.row Q3.out (by have := GD.out; omega))
  have X4 := hide (k4.row X3.out (by have := G6.out; omega))
  have B4 := hide (B3.out.trans (k4.below w.heap.size B3.out.size (fun k hk e => by have := GD.out; omega)))
  have qn : IntKind.i64.wrap (n : Int) = (n : Int) := by rw [IntKind.wrap_i64]; omega
  clear h4 k4 hn hr2 hnl hnb R3 Q3 X3 B3
  go_upto_region 4 with fail
  clear qn
  go_cut [30] from 22 to 29 (fun s30 wc => w4 = wc ∧ s30 = .bool (decide (r2.why = 0) && decide (4 < n)))
  case first =>
    have d4 := R4.out.bad
    by_cases hw : r2.why = 0
    · have b0 : (r2.why != 0) = false := by simp [hw]
      rw [b0] at d4
      by_cases h4 : 4 < n
      · have q : (4 : Int) < (n : Int) := by omega
        have E := hide (show (decide (r2.why = 0) && decide (4 < n)) = true by simp [hw, h4])
        clear b0 hw h4
        go_wp2_with fail
        go_meet
        exact ⟨rfl, by rw [E.out]⟩
      · have q : ¬ (4 : Int) < (n : Int) := by omega
        have q' : decide ((4 : Int) < (n : Int)) = false := by simp; omega
        have E := hide (show (decide (r2.why = 0) && decide (4 < n)) = false by simp [h4])
        clear b0 hw h4 q
        go_wp2_with fail
        go_meet
        exact ⟨rfl, by rw [E.out]⟩
    · have b0 : (r2.why != 0) = true := by simp [hw]
      rw [b0] at d4
      have E := hide (show (decide (r2.why = 0) && decide (4 < n)) = false by simp [hw])
      clear b0 hw
      go_wp2_with fail
      go_meet
      exact ⟨rfl, by rw [E.out]⟩
  case rest =>
  obtain ⟨rfl, rfl⟩ := hcut
  obtain ⟨bb, hbb⟩ : ∃ b, b = (decide (r2.why = 0) && decide (4 < n)) := ⟨_, rfl⟩
  rw [← hbb]
  have HBB := hide hbb
  clear hbb
  go_upto_if 30 with fail
  go_cut [32] from 31 to 31 (fun _s wc => ∃ r3, Hid (r3 = if 4 < n then r2.fail 4 else r2) ∧ Hid (DrIs wc gd ao ln cap r3) ∧ Hid (Chg (fun k => k = gd) w4 wc))
  case first =>
    cases bb with
    | true =>
      have h := HBB.out.symm
      rw [Bool.and_eq_true, decide_eq_true_eq, decide_eq_true_eq] at h
      have E := hide (show r2.fail 4 = if 4 < n then r2.fail 4 else r2 by rw [if_pos h.2])
      clear h HBB
      go_wp2_with fail
      refine (dfail_any gd ao ln cap r2 4 w4 R4.out).mono ?_
      rintro e w5 ⟨rfl, h5, k5⟩
      have R5 := hide h5
      have K5 := hide k5
      clear h5 k5
      go_wp2_with fail
      go_meet
      exact ⟨_, E, R5, K5⟩
    | false =>
      have E := hide (show r2 = if 4 < n then r2.fail 4 else r2 by
        by_cases h4 : 4 < n
        · have hw : r2.why ≠ 0 := fun e => by have := HBB.out; simp [e, h4] at this
          have := NB.out hw
          omega
        · rw [if_neg h4])
      clear HBB
      go_wp2_with fail
      go_meet
      exact ⟨_, E, R4, hide (Chg.refl _ _)⟩
  case rest =>
  obtain ⟨r3, E3, R5, K5⟩ := hcut
  have Q5 := hide (K5.out.row Q4.out (by have := GD.out; omega))
  have X5 := hide (K5.out.row X4.out (by have := G6.out; omega))
  have B5 := hide (B4.out.trans (K5.out.below w.heap.size B4.out.size (fun k hk e => by have := GD.out; omega)))
  have E0 := hide (show (r3, ([] : List S.Cv)) = if 4 < n then (r2.fail 4, []) else S.readMany 0 r2 by
    rw [E3.out]; split <;> rfl)
  have W3 := hide (show 4 < n → r3.why ≠ 0 from fun h => by rw [E3.out, if_pos h]; exact S.Rd.refuse_why _ _ _ (by decide))
  have S5 := hide B5.out.size
  have BS3 := hide (show r3.bs = bs by
    have e1 : r1.bs = bs := by have h := S.Rd.take_bs ⟨bs, 0, 0, 0⟩ (S.size 4); have h2 := H1.out; rw [S.Rd.number, Prod.mk.injEq] at h2; rw [← h2.1]; exact h
    have e2 : r2.bs = r1.bs := by have h := S.Rd.take_bs r1 (S.size 1); have h2 := H2.out; rw [S.Rd.number, Prod.mk.injEq] at h2; rw [← h2.1]; exact h
    rw [E3.out, ← e1, ← e2]
    split
    · exact S.Rd.refuse_bs _ _ _
    · rfl)
  clear R4 Q4 X4 B4 K5 E3 NB HBB
  go_wp2_with fail
  go_loopw [8] (fun s8 wr => ∃ (i : Nat) (rr : S.Rd) (cs : List S.Cv) (co : Option Addr) (cn cc : Nat), i ≤ n ∧ s8 = .int .i64 (i : Int) ∧ Hid ((rr, cs) = if 4 < n then (r2.fail 4, []) else S.readMany i r2) ∧ Hid (4 < n → rr.why ≠ 0) ∧ Hid ((cs.length ≤ i ∧ cs.length = cn) ∧ rr.bs = bs) ∧ Hid (DrIs wr gd ao ln cap rr) ∧ Hid (CRow w.heap.size wr (.slice co cn cc) cs) ∧ Hid (wr.heap[g6]? = some (.cells (encT id (.slice co cn cc) (S.zeros 32)).toArray 27 (0, 0))) ∧ Hid (wr.heap[w.heap.size]? = some (.cells tk0 27 (0, 0))) ∧ Hid (Below w.heap.size w wr)) (fun s8 _ => n - (intOf s8).toNat)
  case atStart => exact ⟨0, r3, [], none, 0, 0, by omega, rfl, E0, W3, ⟨⟨Nat.le_refl _, rfl⟩, BS3.out⟩, R5, hide (Rw.nil _ _ _ _ _), X5, Q5, B5⟩
  case round =>
    clear E0 W3 R5 X5 Q5 B5
    obtain ⟨i, rr, cs, co, cn, cc, hin, rfl, HE, HW, HCN, RR, CC, X, Q, B⟩ := hrel
    go_upto_region 7 with fail
    go_cut [42] from 33 to 41 (fun s42 wc => wr = wc ∧ s42 = .bool (decide (i < n) && decide (rr.why = 0)))
    case first =>
      have d4 := RR.out.bad
      by_cases hl : i < n
      · have q : (i : Int) < (n : Int) := by omega
        by_cases hw : rr.why = 0
        · have b0 : (rr.why != 0) = false := by simp [hw]
          rw [b0] at d4
          have E := hide (show (decide (i < n) && decide (rr.why = 0)) = true by simp [hw, hl])
          clear b0 hw hl
          go_wp2_with fail
          go_meet
          exact ⟨rfl, by rw [E.out]⟩
        · have b0 : (rr.why != 0) = true := by simp [hw]
          rw [b0] at d4
          have E := hide (show (decide (i < n) && decide (rr.why = 0)) = false by simp [hw])
          clear b0 hw hl
          go_wp2_with fail
          go_meet
          exact ⟨rfl, by rw [E.out]⟩
      · have q : ¬ (i : Int) < (n : Int) := by omega
        have E := hide (show (decide (i < n) && decide (rr.why = 0)) = false by simp [hl])
        clear hl
        go_wp2_with fail
        go_meet
        exact ⟨rfl, by rw [E.out]⟩
    case rest =>
    obtain ⟨rfl, rfl⟩ := hcut
    by_cases hgo : i < n ∧ rr.why = 0
    · have EB : (decide (i < n) && decide (rr.why = 0)) = true := by simp [hgo.1, hgo.2]
      rw [EB]
      have HI := hide (show i < n ∧ ¬ 4 < n from ⟨hgo.1, fun h => HW.out h hgo.2⟩)
      have qw : IntKind.i64.wrap ((i : Int) + 1) = (i : Int) + 1 := by rw [IntKind.wrap_i64]; have := NL.out; omega
      clear EB hgo hin
      go_wp2_with fail
      refine (dnum_any gd ao ln cap rr 1 wr RR.out).mono ?_
      rintro e w6 ⟨rfl, h6, k6⟩
      have hkl := S.number1_lt rr
      obtain ⟨k, hk⟩ : ∃ k, k = (rr.number 1).2 := ⟨_, rfl⟩
      obtain ⟨rk, hrk⟩ : ∃ k, k = (rr.number 1).1 := ⟨_, rfl⟩
      rw [← hk] at hkl ⊢
      rw [← hrk] at h6
      have HK := hide hk
      have KB := hide (show S.kindRd rr = if S.oddk (k : Int) = true then rk.fail 12 else rk by unfold S.kindRd; rw [← hk, ← hrk])
      have R6 := hide h6
      have C6 := hide (CC.out.chg k6 (fun j e e2 => by
        obtain ⟨_, _, _, hrow, _⟩ := RR.out.row
        exact CC.out.apart hrow (by decide) (e2 ▸ e)))
      have X6 := hide (k6.row X.out (by have := G6.out; omega))
      have Q6 := hide (k6.row Q.out (by have := GD.out; omega))
      have B6 := hide (B.out.trans (k6.below w.heap.size B.out.size (fun k hk e => by have := GD.out; omega)))
      have qk : IntKind.i64.wrap (k : Int) = (k : Int) := by rw [IntKind.wrap_i64]; omega
      clear h6 k6 hkl hk hrk RR CC X Q B
      go_upto_region 10 with fail
      clear qk
      go_cut [57] from 48 to 56 (fun s57 wc => w6 = wc ∧ s57 = .bool (decide (rk.why = 0) && S.oddk (k : Int)))
      case first =>
        have d4 := R6.out.bad
        by_cases hw : rk.why = 0
        · have b0 : (rk.why != 0) = false := by simp [hw]
          rw [b0] at d4
          obtain ⟨od, hod⟩ : ∃ b, b = S.odd ⟨(k : Int), 0⟩ := ⟨_, rfl⟩
          have E := hide (show (decide (rk.why = 0) && S.oddk (k : Int)) = od by rw [hod]; simp [hw, S.oddk])
          have HOD := hide hod
          clear b0 hw hod
          go_wp2_with fail
          refine (rkind_any ⟨(k : Int), 0⟩ w6).mono ?_
          rintro e _ ⟨rfl, rfl⟩
          rw [← HOD.out]
          clear HOD
          cases od with
          | true =>
            go_wp2_with fail
            go_meet
            exact ⟨rfl, by rw [E.out]⟩
          | false =>
            go_wp2_with fail
            go_meet
            exact ⟨rfl, by rw [E.out]⟩
        · have b0 : (rk.why != 0) = true := by simp [hw]
          rw [b0] at d4
          have E := hide (show (decide (rk.why = 0) && S.oddk (k : Int)) = false by simp [hw])
          clear b0 hw
          go_wp2_with fail
          go_meet
          exact ⟨rfl, by rw [E.out]⟩
      case rest =>
      obtain ⟨rfl, rfl⟩ := hcut
      obtain ⟨bb, hbb⟩ : ∃ b, b = (decide (rk.why = 0) && S.oddk (k : Int)) := ⟨_, rfl⟩
      rw [← hbb]
      have HBB := hide hbb
      clear hbb
      go_upto_if 57 with fail
      go_cut [59] from 58 to 58 (fun _s wc => Hid (DrIs wc gd ao ln cap (S.kindRd rr)) ∧ Hid (Chg (fun k => k = gd) w6 wc))
      case first =>
        cases bb with
        | true =>
          have h := HBB.out.symm
          rw [Bool.and_eq_true] at h
          have E := hide (show rk.fail 12 = S.kindRd rr by rw [KB.out, if_pos h.2])
          clear h HBB
          go_wp2_with fail
          refine (dfail_any gd ao ln cap rk 12 w6 R6.out).mono ?_
          rintro e w7 ⟨rfl, h7, k7⟩
          rw [E.out] at h7
          have R7 := hide h7
          have K7 := hide k7
          clear h7 k7
          go_wp2_with fail
          go_meet
          exact ⟨R7, K7⟩
        | false =>
          have E := hide (show rk = S.kindRd rr by
            rw [KB.out]
            by_cases ho : S.oddk (k : Int) = true
            · have hw : rk.why ≠ 0 := fun e => by have := HBB.out; simp [e, ho] at this
              rw [if_pos ho, S.Rd.fail_bad _ _ hw]
            · rw [if_neg ho])
          have R7 : Hid (DrIs w6 gd ao ln cap (S.kindRd rr)) := by rw [← E.out]; exact R6
          clear HBB
          go_wp2_with fail
          go_meet
          exact ⟨R7, hide (Chg.refl _ _)⟩
      case rest =>
      obtain ⟨R7, K7⟩ := hcut
      obtain ⟨w7, hw7⟩ : ∃ w7, w7 = wc := ⟨_, rfl⟩
      rw [← hw7] at R7 K7 ⊢
      clear hw7
      have C7 := hide (C6.out.chg K7.out (fun j e e2 => by
        obtain ⟨_, _, _, hrow, _⟩ := R6.out.row
        exact C6.out.apart hrow (by decide) (e2 ▸ e)))
      have X7 := hide (K7.out.row X6.out (by have := G6.out; omega))
      have Q7 := hide (K7.out.row Q6.out (by have := GD.out; omega))
      have B7 := hide (B6.out.trans (K7.out.below w.heap.size B6.out.size (fun k hk e => by have := GD.out; omega)))
      have HE2 : ∀ n4, n4 = ((S.kindRd rr).number 4).2 → Hid ((((S.kindRd rr).number 4).1, cs ++ [(⟨(k : Int), n4⟩ : S.Cv)]) = if 4 < n then (r2.fail 4, []) else S.readMany (i + 1) r2) := fun n4 h4 => by
        have he := HE.out
        rw [if_neg HI.out.2] at he
        show _ = _
        rw [if_neg HI.out.2, h4, HK.out]
        show _ = ((S.readCav (S.readMany i r2).1).1, (S.readMany i r2).2 ++ [(S.readCav (S.readMany i r2).1).2])
        rw [← he]
        rfl
      have LOWP : Hid (∀ k, (k = gd ∨ k = g6 ∨ (Value.slice co cn cc).ownBlock = some k) → w.heap.size ≤ k) := fun k e => by
        rcases e with e | e | e
        · have := GD.out; omega
        · have := G6.out; omega
        · exact (C7.out.blk e).1
      have NQ : Hid (¬ (w.heap.size = gd ∨ w.heap.size = g6 ∨ (Value.slice co cn cc).ownBlock = some w.heap.size)) := fun e => by
        rcases e with e | e | e
        · have := GD.out; omega
        · have := G6.out; omega
        · exact C7.out.apart Q7.out (by decide) e
      clear K7 C6 X6 Q6 B6 R6 KB HE HBB
      go_upto_region 12 with fail
      refine wp_region_noPanic ?_
      refine wp_region_held_drew (S := (fun W => Chg (fun k => k = gd ∨ k = g6 ∨ (Value.slice co cn cc).ownBlock = some k) w7 W)) follows ((Chg.refl _ _).drew) (fun hHeld => ?_)
      clear hHeld
      have hHeld : Chg (fun k => k = gd ∨ k = g6 ∨ (Value.slice co cn cc).ownBlock = some k) w7 w7.drew := (Chg.refl _ _).drew
      have CZ0 := hide hHeld
      have X7' : Hid (w7.drew.heap[g6]? = some (.cells (encT id (.slice co cn cc) (S.zeros 32)).toArray 27 (0, 0))) := X7.out
      have C7' : Hid (CRow w.heap.size w7.drew (.slice co cn cc) cs) := C7.out.below ((Below.refl _ _).drew)
      have R7' : Hid (DrIs w7.drew gd ao ln cap (S.kindRd rr)) := R7.out.below ((Below.refl _ _).drew)
      generalize w7.drew = Z0 at CZ0 hHeld X7' C7' R7' ⊢
      refine wpAnyH_take (i := 0) (oi := { dst := some 60, op := Op.fieldAddr 27 (Operand.tmp 6) 1, type := 0, pos := "ref.go:99", after := #[], guard := none }) (v := ?_) rfl (by kernel_rfl) (by kernel_rfl) (by kernel_rfl) (fun _ _ _ h => h) (Or.inl ⟨by rfl, ?_⟩) (by assumption) ?_
      rotate_left
      · intro w hSw
        clear hSw
        go_simp
        all_goals with_reducible rfl
      simp only [Act.put, List.setIfInBounds_toArray, List.set_cons_zero, List.set_cons_succ]
      refine wpAnyH_take (i := 2) (oi := { dst := some 62, op := Op.move (Operand.tmp 9), type := 3, pos := "ref.go:99", after := #[], guard := none }) (v := ?_) rfl (by kernel_rfl) (by kernel_rfl) (by kernel_rfl) (fun _ _ _ h => h) (Or.inl ⟨by rfl, ?_⟩) (by assumption) ?_
      rotate_left
      · intro w hSw
        clear hSw
        go_simp
        all_goals with_reducible rfl
      simp only [Act.put, List.setIfInBounds_toArray, List.set_cons_zero, List.set_cons_succ]
      refine wpAnyH_take (i := 3) (oi := { dst := some 63, op := Op.move (Operand.tmp 5), type := 109, pos := "ref.go:99", after := #[], guard := none }) (v := ?_) rfl (by kernel_rfl) (by kernel_rfl) (by kernel_rfl) (fun _ _ _ h => h) (Or.inl ⟨by rfl, ?_⟩) (by assumption) ?_
      rotate_left
      · intro w hSw
        clear hSw
        go_simp
        all_goals with_reducible rfl
      simp only [Act.put, List.setIfInBounds_toArray, List.set_cons_zero, List.set_cons_succ]
      refine wpAnyH_ready (rs := [1, 4]) (by kernel_rfl) (by simp) ?_
      refine step_load (o := { dst := some 61, op := Op.load 23 (Operand.tmp 60), type := 23, pos := "ref.go:99", after := #[{ on := 0, ground := Ground.data }], guard := none }) rfl rfl 23 (.tmp 60) rfl (.slice co cn cc) (load_cs X7'.out) ?_ ⟨CZ0.out, fun hHeld => ?_⟩
      rotate_left
      · skip
        simp only [Act.put, List.setIfInBounds_toArray, List.set_cons_zero, List.set_cons_succ]
        refine wpAnyH_ready (rs := [4]) (by kernel_rfl) (by simp) ?_
        refine AllReadyH.cons (o := { dst := some 64, op := Op.call { callee := Callee.value (Operand.func 58), args := #[Operand.tmp 63, Operand.const (Value.int IntKind.i64 4)], argTypes := #[109, 3] }, type := 46, pos := "ref.go:99", after := #[{ on := 3, ground := Ground.data }], guard := none }) rfl (fun K hK => ?_) AllReadyH.nil
        go_simp
        refine (dnum_any gd ao ln cap (S.kindRd rr) 4 Z0 R7'.out).mono ?_
        rintro e Z1 ⟨rfl, h8, k8⟩
        have hn8 := S.number4_lt (S.kindRd rr)
        obtain ⟨n4, hn4⟩ : ∃ k, k = ((S.kindRd rr).number 4).2 := ⟨_, rfl⟩
        rw [← hn4] at hn8 ⊢
        have HN4 := hide hn4
        have qn4 : IntKind.u32.wrap (n4 : Int) = (n4 : Int) := by rw [IntKind.wrap_u32]; omega
        have CZ1 : Hid (Chg (fun k => k = gd ∨ k = g6 ∨ (Value.slice co cn cc).ownBlock = some k) w7 Z1) := CZ0.out.trans k8 (fun k hk e => Or.inl e)
        replace X7' : Hid (Z1.heap[g6]? = some (.cells (encT id (.slice co cn cc) (S.zeros 32)).toArray 27 (0, 0))) := k8.row X7'.out (by have := G6.out; omega)
        replace C7' : Hid (CRow w.heap.size Z1 (.slice co cn cc) cs) := C7'.out.chg k8 (fun j e e2 => by obtain ⟨_, _, _, hrow, _⟩ := R7'.out.row; exact C7'.out.apart hrow (by decide) (e2 ▸ e))
        replace R7' : Hid (DrIs Z1 gd ao ln cap ((S.kindRd rr).number 4).1) := h8
        clear h8 k8 hn4 hn8 CZ0 hHeld
        refine hK.out _ _ CZ1.out (fun hHeld => ?_)
        clear hK K
        try simp only [Act.put, List.setIfInBounds_toArray, List.set_cons_zero, List.set_cons_succ]
        refine wpAnyH_take (i := 5) (oi := { dst := some 65, op := Op.convert 46 22 (Operand.tmp 64), type := 22, pos := "ref.go:99", after := #[{ on := 4, ground := Ground.data }], guard := none }) (v := ?_) rfl (by kernel_rfl) (by kernel_rfl) (by kernel_rfl) (fun _ _ _ h => h) (Or.inl ⟨by rfl, ?_⟩) (by assumption) ?_
        rotate_left
        · intro w hSw
          clear hSw
          go_simp
          all_goals with_reducible rfl
        simp only [Act.put, List.setIfInBounds_toArray, List.set_cons_zero, List.set_cons_succ]
        refine wpAnyH_ready (rs := [6]) (by kernel_rfl) (by simp) ?_
        refine step_build_as (o := { dst := some 66, op := Op.build 42 #[(0, Operand.tmp 62), (1, Operand.tmp 65)], type := 42, pos := "ref.go:99", after := #[{ on := 2, ground := Ground.data }, { on := 5, ground := Ground.data }], guard := none }) rfl rfl 42 [(0, .tmp 62), (1, .tmp 65)] rfl [(0, .int .i64 (k : Int)), (1, .int .u32 (n4 : Int))] rfl (.agg (encC ⟨(k : Int), n4⟩).toArray) (build42d (k : Int) n4 Z1) AllReadyH.nil ⟨CZ1.out, fun hHeld => ?_⟩
        simp only [Act.put, List.setIfInBounds_toArray, List.set_cons_zero, List.set_cons_succ]
        refine wpAnyH_ready (rs := [7]) (by kernel_rfl) (by simp) ?_
        refine step_buildSlice_as (o := { dst := some 67, op := Op.buildSlice 23 1 #[(0, Operand.tmp 66)], type := 23, pos := "ref.go:99", after := #[{ on := 6, ground := Ground.data }], guard := none }) rfl rfl 23 1 [(0, .tmp 66)] rfl [(0, .agg (encC ⟨(k : Int), n4⟩).toArray)] rfl _ _ (bs23one Z1 ⟨(k : Int), n4⟩) AllReadyH.nil ⟨CZ1.out.alloc _, fun hHeld => ?_⟩
        clear hHeld
        simp only [Act.put, List.setIfInBounds_toArray, List.set_cons_zero, List.set_cons_succ]
        obtain ⟨gc, hgc⟩ : ∃ gg, gg = Z1.heap.size := ⟨_, rfl⟩
        rw [← hgc]
        generalize hZ : Z1.alloc _ = Z2
        have hb2 : Below Z1.heap.size Z1 Z2 := by rw [← hZ]; exact (Below.refl _ _).alloc (Nat.le_refl _) _
        have Rgc : Hid (Z2.heap[gc]? = some (.cells (encC ⟨(k : Int), n4⟩).toArray 42 (0, 0))) := by rw [← hZ, hgc]; exact heap_alloc_new _ _
        have Ggc := hide (show w7.heap.size ≤ gc by rw [hgc]; exact CZ1.out.size)
        clear hZ hgc
        replace X7' : Hid (Z2.heap[g6]? = some (.cells (encT id (.slice co cn cc) (S.zeros 32)).toArray 27 (0, 0))) := (hb2.block _ (block_lt_of_row X7'.out)).trans X7'.out
        replace C7' : Hid (CRow w.heap.size Z2 (.slice co cn cc) cs) := C7'.out.below hb2
        replace R7' : Hid (DrIs Z2 gd ao ln cap ((S.kindRd rr).number 4).1) := R7'.out.below hb2
        have CZ2 : Hid (Chg (fun k => k = gd ∨ k = g6 ∨ (Value.slice co cn cc).ownBlock = some k) w7 Z2) := CZ1.out.then hb2
        clear hb2 CZ1
        have hHeld := CZ2.out
        refine wpAnyH_ready (rs := [8]) (by kernel_rfl) (by simp) ?_
        obtain ⟨v', Z3, hst, hR6, C6⟩ := Rw.append kdC 23 (u := .slice (some ⟨gc, 0, none⟩) 1 1) (ys := [(⟨(k : Int), n4⟩ : S.Cv)]) C7'.out (Sce.of_row Rgc.out) (fun y _ => encC_length y) (by have := HCN.out.1.1; have := HI.out.1; have := NL.out; simp; omega) (B7.out.trans (CZ2.out.below w.heap.size B7.out.size (fun k hk e => Nat.not_lt.2 (LOWP.out k e) hk))).size
        obtain ⟨uo, uc, rfl⟩ := hR6.form
        obtain ⟨un, hun⟩ : ∃ un, un = (cs ++ [(⟨(k : Int), n4⟩ : S.Cv)]).length := ⟨_, rfl⟩
        rw [← hun] at hR6 hst
        have HUN := hide hun
        clear hun
        refine step_append_as (o := { dst := some 68, op := Op.call { callee := Callee.builtin Builtin.append, args := #[Operand.tmp 61, Operand.tmp 67], argTypes := #[23, 23] }, type := 23, pos := "ref.go:99", after := #[{ on := 1, ground := Ground.data }, { on := 7, ground := Ground.data }, { on := 4, ground := Ground.chain }], guard := none }) rfl rfl (.tmp 61) (.tmp 67) 23 23 rfl (.slice co cn cc) (.slice (some ⟨gc, 0, none⟩) 1 1) rfl rfl (.slice uo un uc) Z3 hst AllReadyH.nil ⟨CZ2.out.trans C6 (fun k hk e => Or.inr (Or.inr e)), fun hHeld => ?_⟩
        have CZ3 : Hid (Chg (fun k => k = gd ∨ k = g6 ∨ (Value.slice co cn cc).ownBlock = some k) w7 Z3) := CZ2.out.trans C6 (fun k hk e => Or.inr (Or.inr e))
        have X9 : Hid (Z3.heap[g6]? = some (.cells (encT id (.slice co cn cc) (S.zeros 32)).toArray 27 (0, 0))) := C6.row X7'.out (fun e => C7'.out.apart X7'.out (by decide) e)
        have BL := hide (B7.out.trans (CZ3.out.below w.heap.size B7.out.size (fun k hk e => Nat.not_lt.2 (LOWP.out k e) hk)))
        have e9 : ((S.kindRd rr).number 4).1.bs = bs := (S.Rd.take_bs _ _).trans ((S.kindRd_bs rr).trans HCN.out.2)
        have R9 : Hid (DrIs Z3 gd ao ln cap ((S.kindRd rr).number 4).1) := R7'.out.chg C6 (fun e => by obtain ⟨_, _, _, hrow, _⟩ := R7'.out.row; exact C7'.out.apart hrow (by decide) e) (fun W2 h2 => by rw [e9]; exact HV.out.below (BL.out.trans (h2.below w.heap.size BL.out.size (fun k hk e => by have := GD.out; omega))) (Nat.le_refl _))
        have CR2 : Hid (CRow w.heap.size Z3 (.slice uo un uc) (cs ++ [(⟨(k : Int), n4⟩ : S.Cv)])) := hR6
        clear hst hR6 C6 e9 CZ2 Rgc C7' X7' R7' hHeld BL
        have hHeld := CZ3.out
        simp only [Act.put, List.setIfInBounds_toArray, List.set_cons_zero, List.set_cons_succ]
        refine wpAnyH_take (i := 9) (oi := { dst := some 69, op := Op.fieldAddr 27 (Operand.tmp 6) 1, type := 0, pos := "ref.go:99", after := #[{ on := 0, ground := Ground.phase }, { on := 1, ground := Ground.phase }, { on := 2, ground := Ground.phase }, { on := 3, ground := Ground.phase }, { on := 4, ground := Ground.phase }, { on := 5, ground := Ground.phase }, { on := 6, ground := Ground.phase }, { on := 7, ground := Ground.phase }, { on := 8, ground := Ground.phase }], guard := none }) (v := ?_) rfl (by kernel_rfl) (by kernel_rfl) (by kernel_rfl) (fun _ _ _ h => h) (Or.inl ⟨by rfl, ?_⟩) (by assumption) ?_
        rotate_left
        · intro w hSw
          clear hSw
          go_simp
          all_goals with_reducible rfl
        simp only [Act.put, List.setIfInBounds_toArray, List.set_cons_zero, List.set_cons_succ]
        refine wpAnyH_ready (rs := [10]) (by kernel_rfl) (by simp) ?_
        have hst := store_cs uo un uc X9.out
        have C6 := (Chg.refl (fun k => k = g6) Z3).setCell g6 1 (.slice uo un uc) (fun _ => rfl)
        have hx8 := set_cv (.slice uo un uc) X9.out
        refine step_store_as (o := { dst := none, op := Op.store 23 (Operand.tmp 69) (Operand.tmp 68), type := 0, pos := "ref.go:99", after := #[{ on := 9, ground := Ground.data }, { on := 8, ground := Ground.data }, { on := 8, ground := Ground.chain }, { on := 0, ground := Ground.phase }, { on := 1, ground := Ground.phase }, { on := 2, ground := Ground.phase }, { on := 3, ground := Ground.phase }, { on := 4, ground := Ground.phase }, { on := 5, ground := Ground.phase }, { on := 6, ground := Ground.phase }, { on := 7, ground := Ground.phase }, { on := 8, ground := Ground.phase }], guard := none }) rfl rfl 23 (.tmp 69) (.tmp 68) rfl _ _ rfl rfl _ hst AllReadyH.nil ⟨CZ3.out.trans C6 (fun k hk e => Or.inr (Or.inl e)), fun hHeld => ?_⟩
        clear hHeld hst
        generalize Z3.setCell ⟨g6, 1, none⟩ (.slice uo un uc) = Z4 at C6 hx8 ⊢
        have CZ4 : Hid (Chg (fun k => k = gd ∨ k = g6 ∨ (Value.slice co cn cc).ownBlock = some k) w7 Z4) := CZ3.out.trans C6 (fun k hk e => Or.inr (Or.inl e))
        have BL := hide (B7.out.trans (CZ4.out.below w.heap.size B7.out.size (fun k hk e => Nat.not_lt.2 (LOWP.out k e) hk)))
        have e9 : ((S.kindRd rr).number 4).1.bs = bs := (S.Rd.take_bs _ _).trans ((S.kindRd_bs rr).trans HCN.out.2)
        have R8 : Hid (DrIs Z4 gd ao ln cap ((S.kindRd rr).number 4).1) := R9.out.chg C6 (by have := G6.out; omega) (fun W2 h2 => by rw [e9]; exact HV.out.below (BL.out.trans (h2.below w.heap.size BL.out.size (fun k hk e => by have := GD.out; omega))) (Nat.le_refl _))
        have CR3 := hide (CR2.out.chg C6 (fun j e e2 => CR2.out.apart X9.out (by decide) (e2 ▸ e)))
        have BS9 := hide e9
        have X8 := hide hx8
        have Q8 := hide (CZ4.out.row Q7.out NQ.out)
        clear C6 hx8 e9 X9 R9 CR2 CZ3
        simp only [Act.put]
        refine wpAnyH_done (by kernel_rfl) ?_ _
        refine NoPanic.normal ?_
        go_wp2_with fail
        go_roundw
        case rel => exact ⟨i + 1, ((S.kindRd rr).number 4).1, cs ++ [(⟨(k : Int), n4⟩ : S.Cv)], uo, un, uc, by have := HI.out.1; omega, by first | rfl | simp, HE2 n4 HN4.out, fun h => absurd h HI.out.2, ⟨⟨by have := HCN.out.1.1; simp; omega, HUN.out.symm⟩, BS9.out⟩, R8, CR3, X8, Q8, BL⟩
        case measure => have := HI.out.1; simp [intOf]; omega
      refine AllReadyH.cons (o := { dst := some 64, op := Op.call { callee := Callee.value (Operand.func 58), args := #[Operand.tmp 63, Operand.const (Value.int IntKind.i64 4)], argTypes := #[109, 3] }, type := 46, pos := "ref.go:99", after := #[{ on := 3, ground := Ground.data }], guard := none }) rfl (fun K hK => ?_) AllReadyH.nil
      go_simp
      refine (dnum_any gd ao ln cap (S.kindRd rr) 4 Z0 R7'.out).mono ?_
      rintro e Z1 ⟨rfl, h8, k8⟩
      have hn8 := S.number4_lt (S.kindRd rr)
      obtain ⟨n4, hn4⟩ : ∃ k, k = ((S.kindRd rr).number 4).2 := ⟨_, rfl⟩
      rw [← hn4] at hn8 ⊢
      have HN4 := hide hn4
      have qn4 : IntKind.u32.wrap (n4 : Int) = (n4 : Int) := by rw [IntKind.wrap_u32]; omega
      have CZ1 : Hid (Chg (fun k => k = gd ∨ k = g6 ∨ (Value.slice co cn cc).ownBlock = some k) w7 Z1) := CZ0.out.trans k8 (fun k hk e => Or.inl e)
      replace X7' : Hid (Z1.heap[g6]? = some (.cells (encT id (.slice co cn cc) (S.zeros 32)).toArray 27 (0, 0))) := k8.row X7'.out (by have := G6.out; omega)
      replace C7' : Hid (CRow w.heap.size Z1 (.slice co cn cc) cs) := C7'.out.chg k8 (fun j e e2 => by obtain ⟨_, _, _, hrow, _⟩ := R7'.out.row; exact C7'.out.apart hrow (by decide) (e2 ▸ e))
      replace R7' : Hid (DrIs Z1 gd ao ln cap ((S.kindRd rr).number 4).1) := h8
      clear h8 k8 hn4 hn8 CZ0 hHeld
      refine hK.out _ _ CZ1.out (fun hHeld => ?_)
      clear hK K
      try simp only [Act.put, List.setIfInBounds_toArray, List.set_cons_zero, List.set_cons_succ]
      refine wpAnyH_take (i := 5) (oi := { dst := some 65, op := Op.convert 46 22 (Operand.tmp 64), type := 22, pos := "ref.go:99", after := #[{ on := 4, ground := Ground.data }], guard := none }) (v := ?_) rfl (by kernel_rfl) (by kernel_rfl) (by kernel_rfl) (fun _ _ _ h => h) (Or.inl ⟨by rfl, ?_⟩) (by assumption) ?_
      rotate_left
      · intro w hSw
        clear hSw
        go_simp
        all_goals with_reducible rfl
      simp only [Act.put, List.setIfInBounds_toArray, List.set_cons_zero, List.set_cons_succ]
      refine wpAnyH_ready (rs := [1, 6]) (by kernel_rfl) (by simp) ?_
      refine step_load (o := { dst := some 61, op := Op.load 23 (Operand.tmp 60), type := 23, pos := "ref.go:99", after := #[{ on := 0, ground := Ground.data }], guard := none }) rfl rfl 23 (.tmp 60) rfl (.slice co cn cc) (load_cs X7'.out) ?_ ⟨CZ1.out, fun hHeld => ?_⟩
      rotate_left
      · skip
        simp only [Act.put, List.setIfInBounds_toArray, List.set_cons_zero, List.set_cons_succ]
        refine wpAnyH_ready (rs := [6]) (by kernel_rfl) (by simp) ?_
        refine step_build_as (o := { dst := some 66, op := Op.build 42 #[(0, Operand.tmp 62), (1, Operand.tmp 65)], type := 42, pos := "ref.go:99", after := #[{ on := 2, ground := Ground.data }, { on := 5, ground := Ground.data }], guard := none }) rfl rfl 42 [(0, .tmp 62), (1, .tmp 65)] rfl [(0, .int .i64 (k : Int)), (1, .int .u32 (n4 : Int))] rfl (.agg (encC ⟨(k : Int), n4⟩).toArray) (build42d (k : Int) n4 Z1) AllReadyH.nil ⟨CZ1.out, fun hHeld => ?_⟩
        simp only [Act.put, List.setIfInBounds_toArray, List.set_cons_zero, List.set_cons_succ]
        refine wpAnyH_ready (rs := [7]) (by kernel_rfl) (by simp) ?_
        refine step_buildSlice_as (o := { dst := some 67, op := Op.buildSlice 23 1 #[(0, Operand.tmp 66)], type := 23, pos := "ref.go:99", after := #[{ on := 6, ground := Ground.data }], guard := none }) rfl rfl 23 1 [(0, .tmp 66)] rfl [(0, .agg (encC ⟨(k : Int), n4⟩).toArray)] rfl _ _ (bs23one Z1 ⟨(k : Int), n4⟩) AllReadyH.nil ⟨CZ1.out.alloc _, fun hHeld => ?_⟩
        clear hHeld
        simp only [Act.put, List.setIfInBounds_toArray, List.set_cons_zero, List.set_cons_succ]
        obtain ⟨gc, hgc⟩ : ∃ gg, gg = Z1.heap.size := ⟨_, rfl⟩
        rw [← hgc]
        generalize hZ : Z1.alloc _ = Z2
        have hb2 : Below Z1.heap.size Z1 Z2 := by rw [← hZ]; exact (Below.refl _ _).alloc (Nat.le_refl _) _
        have Rgc : Hid (Z2.heap[gc]? = some (.cells (encC ⟨(k : Int), n4⟩).toArray 42 (0, 0))) := by rw [← hZ, hgc]; exact heap_alloc_new _ _
        have Ggc := hide (show w7.heap.size ≤ gc by rw [hgc]; exact CZ1.out.size)
        clear hZ hgc
        replace X7' : Hid (Z2.heap[g6]? = some (.cells (encT id (.slice co cn cc) (S.zeros 32)).toArray 27 (0, 0))) := (hb2.block _ (block_lt_of_row X7'.out)).trans X7'.out
        replace C7' : Hid (CRow w.heap.size Z2 (.slice co cn cc) cs) := C7'.out.below hb2
        replace R7' : Hid (DrIs Z2 gd ao ln cap ((S.kindRd rr).number 4).1) := R7'.out.below hb2
        have CZ2 : Hid (Chg (fun k => k = gd ∨ k = g6 ∨ (Value.slice co cn cc).ownBlock = some k) w7 Z2) := CZ1.out.then hb2
        clear hb2 CZ1
        have hHeld := CZ2.out
        refine wpAnyH_ready (rs := [8]) (by kernel_rfl) (by simp) ?_
        obtain ⟨v', Z3, hst, hR6, C6⟩ := Rw.append kdC 23 (u := .slice (some ⟨gc, 0, none⟩) 1 1) (ys := [(⟨(k : Int), n4⟩ : S.Cv)]) C7'.out (Sce.of_row Rgc.out) (fun y _ => encC_length y) (by have := HCN.out.1.1; have := HI.out.1; have := NL.out; simp; omega) (B7.out.trans (CZ2.out.below w.heap.size B7.out.size (fun k hk e => Nat.not_lt.2 (LOWP.out k e) hk))).size
        obtain ⟨uo, uc, rfl⟩ := hR6.form
        obtain ⟨un, hun⟩ : ∃ un, un = (cs ++ [(⟨(k : Int), n4⟩ : S.Cv)]).length := ⟨_, rfl⟩
        rw [← hun] at hR6 hst
        have HUN := hide hun
        clear hun
        refine step_append_as (o := { dst := some 68, op := Op.call { callee := Callee.builtin Builtin.append, args := #[Operand.tmp 61, Operand.tmp 67], argTypes := #[23, 23] }, type := 23, pos := "ref.go:99", after := #[{ on := 1, ground := Ground.data }, { on := 7, ground := Ground.data }, { on := 4, ground := Ground.chain }], guard := none }) rfl rfl (.tmp 61) (.tmp 67) 23 23 rfl (.slice co cn cc) (.slice (some ⟨gc, 0, none⟩) 1 1) rfl rfl (.slice uo un uc) Z3 hst AllReadyH.nil ⟨CZ2.out.trans C6 (fun k hk e => Or.inr (Or.inr e)), fun hHeld => ?_⟩
        have CZ3 : Hid (Chg (fun k => k = gd ∨ k = g6 ∨ (Value.slice co cn cc).ownBlock = some k) w7 Z3) := CZ2.out.trans C6 (fun k hk e => Or.inr (Or.inr e))
        have X9 : Hid (Z3.heap[g6]? = some (.cells (encT id (.slice co cn cc) (S.zeros 32)).toArray 27 (0, 0))) := C6.row X7'.out (fun e => C7'.out.apart X7'.out (by decide) e)
        have BL := hide (B7.out.trans (CZ3.out.below w.heap.size B7.out.size (fun k hk e => Nat.not_lt.2 (LOWP.out k e) hk)))
        have e9 : ((S.kindRd rr).number 4).1.bs = bs := (S.Rd.take_bs _ _).trans ((S.kindRd_bs rr).trans HCN.out.2)
        have R9 : Hid (DrIs Z3 gd ao ln cap ((S.kindRd rr).number 4).1) := R7'.out.chg C6 (fun e => by obtain ⟨_, _, _, hrow, _⟩ := R7'.out.row; exact C7'.out.apart hrow (by decide) e) (fun W2 h2 => by rw [e9]; exact HV.out.below (BL.out.trans (h2.below w.heap.size BL.out.size (fun k hk e => by have := GD.out; omega))) (Nat.le_refl _))
        have CR2 : Hid (CRow w.heap.size Z3 (.slice uo un uc) (cs ++ [(⟨(k : Int), n4⟩ : S.Cv)])) := hR6
        clear hst hR6 C6 e9 CZ2 Rgc C7' X7' R7' hHeld BL
        have hHeld := CZ3.out
        simp only [Act.put, List.setIfInBounds_toArray, List.set_cons_zero, List.set_cons_succ]
        refine wpAnyH_take (i := 9) (oi := { dst := some 69, op := Op.fieldAddr 27 (Operand.tmp 6) 1, type := 0, pos := "ref.go:99", after := #[{ on := 0, ground := Ground.phase }, { on := 1, ground := Ground.phase }, { on := 2, ground := Ground.phase }, { on := 3, ground := Ground.phase }, { on := 4, ground := Ground.phase }, { on := 5, ground := Ground.phase }, { on := 6, ground := Ground.phase }, { on := 7, ground := Ground.phase }, { on := 8, ground := Ground.phase }], guard := none }) (v := ?_) rfl (by kernel_rfl) (by kernel_rfl) (by kernel_rfl) (fun _ _ _ h => h) (Or.inl ⟨by rfl, ?_⟩) (by assumption) ?_
        rotate_left
        · intro w hSw
          clear hSw
          go_simp
          all_goals with_reducible rfl
        simp only [Act.put, List.setIfInBounds_toArray, List.set_cons_zero, List.set_cons_succ]
        refine wpAnyH_ready (rs := [10]) (by kernel_rfl) (by simp) ?_
        have hst := store_cs uo un uc X9.out
        have C6 := (Chg.refl (fun k => k = g6) Z3).setCell g6 1 (.slice uo un uc) (fun _ => rfl)
        have hx8 := set_cv (.slice uo un uc) X9.out
        refine step_store_as (o := { dst := none, op := Op.store 23 (Operand.tmp 69) (Operand.tmp 68), type := 0, pos := "ref.go:99", after := #[{ on := 9, ground := Ground.data }, { on := 8, ground := Ground.data }, { on := 8, ground := Ground.chain }, { on := 0, ground := Ground.phase }, { on := 1, ground := Ground.phase }, { on := 2, ground := Ground.phase }, { on := 3, ground := Ground.phase }, { on := 4, ground := Ground.phase }, { on := 5, ground := Ground.phase }, { on := 6, ground := Ground.phase }, { on := 7, ground := Ground.phase }, { on := 8, ground := Ground.phase }], guard := none }) rfl rfl 23 (.tmp 69) (.tmp 68) rfl _ _ rfl rfl _ hst AllReadyH.nil ⟨CZ3.out.trans C6 (fun k hk e => Or.inr (Or.inl e)), fun hHeld => ?_⟩
        clear hHeld hst
        generalize Z3.setCell ⟨g6, 1, none⟩ (.slice uo un uc) = Z4 at C6 hx8 ⊢
        have CZ4 : Hid (Chg (fun k => k = gd ∨ k = g6 ∨ (Value.slice co cn cc).ownBlock = some k) w7 Z4) := CZ3.out.trans C6 (fun k hk e => Or.inr (Or.inl e))
        have BL := hide (B7.out.trans (CZ4.out.below w.heap.size B7.out.size (fun k hk e => Nat.not_lt.2 (LOWP.out k e) hk)))
        have e9 : ((S.kindRd rr).number 4).1.bs = bs := (S.Rd.take_bs _ _).trans ((S.kindRd_bs rr).trans HCN.out.2)
        have R8 : Hid (DrIs Z4 gd ao ln cap ((S.kindRd rr).number 4).1) := R9.out.chg C6 (by have := G6.out; omega) (fun W2 h2 => by rw [e9]; exact HV.out.below (BL.out.trans (h2.below w.heap.size BL.out.size (fun k hk e => by have := GD.out; omega))) (Nat.le_refl _))
        have CR3 := hide (CR2.out.chg C6 (fun j e e2 => CR2.out.apart X9.out (by decide) (e2 ▸ e)))
        have BS9 := hide e9
        have X8 := hide hx8
        have Q8 := hide (CZ4.out.row Q7.out NQ.out)
        clear C6 hx8 e9 X9 R9 CR2 CZ3
        simp only [Act.put]
        refine wpAnyH_done (by kernel_rfl) ?_ _
        refine NoPanic.normal ?_
        go_wp2_with fail
        go_roundw
        case rel => exact ⟨i + 1, ((S.kindRd rr).number 4).1, cs ++ [(⟨(k : Int), n4⟩ : S.Cv)], uo, un, uc, by have := HI.out.1; omega, by first | rfl | simp, HE2 n4 HN4.out, fun h => absurd h HI.out.2, ⟨⟨by have := HCN.out.1.1; simp; omega, HUN.out.symm⟩, BS9.out⟩, R8, CR3, X8, Q8, BL⟩
        case measure => have := HI.out.1; simp [intOf]; omega
      refine step_build_as (o := { dst := some 66, op := Op.build 42 #[(0, Operand.tmp 62), (1, Operand.tmp 65)], type := 42, pos := "ref.go:99", after := #[{ on := 2, ground := Ground.data }, { on := 5, ground := Ground.data }], guard := none }) rfl rfl 42 [(0, .tmp 62), (1, .tmp 65)] rfl [(0, .int .i64 (k : Int)), (1, .int .u32 (n4 : Int))] rfl (.agg (encC ⟨(k : Int), n4⟩).toArray) (build42d (k : Int) n4 Z1) AllReadyH.nil ⟨CZ1.out, fun hHeld => ?_⟩
      simp only [Act.put, List.setIfInBounds_toArray, List.set_cons_zero, List.set_cons_succ]
      refine wpAnyH_ready (rs := [1, 7]) (by kernel_rfl) (by simp) ?_
      refine step_load (o := { dst := some 61, op := Op.load 23 (Operand.tmp 60), type := 23, pos := "ref.go:99", after := #[{ on := 0, ground := Ground.data }], guard := none }) rfl rfl 23 (.tmp 60) rfl (.slice co cn cc) (load_cs X7'.out) ?_ ⟨CZ1.out, fun hHeld => ?_⟩
      rotate_left
      · skip
        simp only [Act.put, List.setIfInBounds_toArray, List.set_cons_zero, List.set_cons_succ]
        refine wpAnyH_ready (rs := [7]) (by kernel_rfl) (by simp) ?_
        refine step_buildSlice_as (o := { dst := some 67, op := Op.buildSlice 23 1 #[(0, Operand.tmp 66)], type := 23, pos := "ref.go:99", after := #[{ on := 6, ground := Ground.data }], guard := none }) rfl rfl 23 1 [(0, .tmp 66)] rfl [(0, .agg (encC ⟨(k : Int), n4⟩).toArray)] rfl _ _ (bs23one Z1 ⟨(k : Int), n4⟩) AllReadyH.nil ⟨CZ1.out.alloc _, fun hHeld => ?_⟩
        clear hHeld
        simp only [Act.put, List.setIfInBounds_toArray, List.set_cons_zero, List.set_cons_succ]
        obtain ⟨gc, hgc⟩ : ∃ gg, gg = Z1.heap.size := ⟨_, rfl⟩
        rw [← hgc]
        generalize hZ : Z1.alloc _ = Z2
        have hb2 : Below Z1.heap.size Z1 Z2 := by rw [← hZ]; exact (Below.refl _ _).alloc (Nat.le_refl _) _
        have Rgc : Hid (Z2.heap[gc]? = some (.cells (encC ⟨(k : Int), n4⟩).toArray 42 (0, 0))) := by rw [← hZ, hgc]; exact heap_alloc_new _ _
        have Ggc := hide (show w7.heap.size ≤ gc by rw [hgc]; exact CZ1.out.size)
        clear hZ hgc
        replace X7' : Hid (Z2.heap[g6]? = some (.cells (encT id (.slice co cn cc) (S.zeros 32)).toArray 27 (0, 0))) := (hb2.block _ (block_lt_of_row X7'.out)).trans X7'.out
        replace C7' : Hid (CRow w.heap.size Z2 (.slice co cn cc) cs) := C7'.out.below hb2
        replace R7' : Hid (DrIs Z2 gd ao ln cap ((S.kindRd rr).number 4).1) := R7'.out.below hb2
        have CZ2 : Hid (Chg (fun k => k = gd ∨ k = g6 ∨ (Value.slice co cn cc).ownBlock = some k) w7 Z2) := CZ1.out.then hb2
        clear hb2 CZ1
        have hHeld := CZ2.out
        refine wpAnyH_ready (rs := [8]) (by kernel_rfl) (by simp) ?_
        obtain ⟨v', Z3, hst, hR6, C6⟩ := Rw.append kdC 23 (u := .slice (some ⟨gc, 0, none⟩) 1 1) (ys := [(⟨(k : Int), n4⟩ : S.Cv)]) C7'.out (Sce.of_row Rgc.out) (fun y _ => encC_length y) (by have := HCN.out.1.1; have := HI.out.1; have := NL.out; simp; omega) (B7.out.trans (CZ2.out.below w.heap.size B7.out.size (fun k hk e => Nat.not_lt.2 (LOWP.out k e) hk))).size
        obtain ⟨uo, uc, rfl⟩ := hR6.form
        obtain ⟨un, hun⟩ : ∃ un, un = (cs ++ [(⟨(k : Int), n4⟩ : S.Cv)]).length := ⟨_, rfl⟩
        rw [← hun] at hR6 hst
        have HUN := hide hun
        clear hun
        refine step_append_as (o := { dst := some 68, op := Op.call { callee := Callee.builtin Builtin.append, args := #[Operand.tmp 61, Operand.tmp 67], argTypes := #[23, 23] }, type := 23, pos := "ref.go:99", after := #[{ on := 1, ground := Ground.data }, { on := 7, ground := Ground.data }, { on := 4, ground := Ground.chain }], guard := none }) rfl rfl (.tmp 61) (.tmp 67) 23 23 rfl (.slice co cn cc) (.slice (some ⟨gc, 0, none⟩) 1 1) rfl rfl (.slice uo un uc) Z3 hst AllReadyH.nil ⟨CZ2.out.trans C6 (fun k hk e => Or.inr (Or.inr e)), fun hHeld => ?_⟩
        have CZ3 : Hid (Chg (fun k => k = gd ∨ k = g6 ∨ (Value.slice co cn cc).ownBlock = some k) w7 Z3) := CZ2.out.trans C6 (fun k hk e => Or.inr (Or.inr e))
        have X9 : Hid (Z3.heap[g6]? = some (.cells (encT id (.slice co cn cc) (S.zeros 32)).toArray 27 (0, 0))) := C6.row X7'.out (fun e => C7'.out.apart X7'.out (by decide) e)
        have BL := hide (B7.out.trans (CZ3.out.below w.heap.size B7.out.size (fun k hk e => Nat.not_lt.2 (LOWP.out k e) hk)))
        have e9 : ((S.kindRd rr).number 4).1.bs = bs := (S.Rd.take_bs _ _).trans ((S.kindRd_bs rr).trans HCN.out.2)
        have R9 : Hid (DrIs Z3 gd ao ln cap ((S.kindRd rr).number 4).1) := R7'.out.chg C6 (fun e => by obtain ⟨_, _, _, hrow, _⟩ := R7'.out.row; exact C7'.out.apart hrow (by decide) e) (fun W2 h2 => by rw [e9]; exact HV.out.below (BL.out.trans (h2.below w.heap.size BL.out.size (fun k hk e => by have := GD.out; omega))) (Nat.le_refl _))
        have CR2 : Hid (CRow w.heap.size Z3 (.slice uo un uc) (cs ++ [(⟨(k : Int), n4⟩ : S.Cv)])) := hR6
        clear hst hR6 C6 e9 CZ2 Rgc C7' X7' R7' hHeld BL
        have hHeld := CZ3.out
        simp only [Act.put, List.setIfInBounds_toArray, List.set_cons_zero, List.set_cons_succ]
        refine wpAnyH_take (i := 9) (oi := { dst := some 69, op := Op.fieldAddr 27 (Operand.tmp 6) 1, type := 0, pos := "ref.go:99", after := #[{ on := 0, ground := Ground.phase }, { on := 1, ground := Ground.phase }, { on := 2, ground := Ground.phase }, { on := 3, ground := Ground.phase }, { on := 4, ground := Ground.phase }, { on := 5, ground := Ground.phase }, { on := 6, ground := Ground.phase }, { on := 7, ground := Ground.phase }, { on := 8, ground := Ground.phase }], guard := none }) (v := ?_) rfl (by kernel_rfl) (by kernel_rfl) (by kernel_rfl) (fun _ _ _ h => h) (Or.inl ⟨by rfl, ?_⟩) (by assumption) ?_
        rotate_left
        · intro w hSw
          clear hSw
          go_simp
          all_goals with_reducible rfl
        simp only [Act.put, List.setIfInBounds_toArray, List.set_cons_zero, List.set_cons_succ]
        refine wpAnyH_ready (rs := [10]) (by kernel_rfl) (by simp) ?_
        have hst := store_cs uo un uc X9.out
        have C6 := (Chg.refl (fun k => k = g6) Z3).setCell g6 1 (.slice uo un uc) (fun _ => rfl)
        have hx8 := set_cv (.slice uo un uc) X9.out
        refine step_store_as (o := { dst := none, op := Op.store 23 (Operand.tmp 69) (Operand.tmp 68), type := 0, pos := "ref.go:99", after := #[{ on := 9, ground := Ground.data }, { on := 8, ground := Ground.data }, { on := 8, ground := Ground.chain }, { on := 0, ground := Ground.phase }, { on := 1, ground := Ground.phase }, { on := 2, ground := Ground.phase }, { on := 3, ground := Ground.phase }, { on := 4, ground := Ground.phase }, { on := 5, ground := Ground.phase }, { on := 6, ground := Ground.phase }, { on := 7, ground := Ground.phase }, { on := 8, ground := Ground.phase }], guard := none }) rfl rfl 23 (.tmp 69) (.tmp 68) rfl _ _ rfl rfl _ hst AllReadyH.nil ⟨CZ3.out.trans C6 (fun k hk e => Or.inr (Or.inl e)), fun hHeld => ?_⟩
        clear hHeld hst
        generalize Z3.setCell ⟨g6, 1, none⟩ (.slice uo un uc) = Z4 at C6 hx8 ⊢
        have CZ4 : Hid (Chg (fun k => k = gd ∨ k = g6 ∨ (Value.slice co cn cc).ownBlock = some k) w7 Z4) := CZ3.out.trans C6 (fun k hk e => Or.inr (Or.inl e))
        have BL := hide (B7.out.trans (CZ4.out.below w.heap.size B7.out.size (fun k hk e => Nat.not_lt.2 (LOWP.out k e) hk)))
        have e9 : ((S.kindRd rr).number 4).1.bs = bs := (S.Rd.take_bs _ _).trans ((S.kindRd_bs rr).trans HCN.out.2)
        have R8 : Hid (DrIs Z4 gd ao ln cap ((S.kindRd rr).number 4).1) := R9.out.chg C6 (by have := G6.out; omega) (fun W2 h2 => by rw [e9]; exact HV.out.below (BL.out.trans (h2.below w.heap.size BL.out.size (fun k hk e => by have := GD.out; omega))) (Nat.le_refl _))
        have CR3 := hide (CR2.out.chg C6 (fun j e e2 => CR2.out.apart X9.out (by decide) (e2 ▸ e)))
        have BS9 := hide e9
        have X8 := hide hx8
        have Q8 := hide (CZ4.out.row Q7.out NQ.out)
        clear C6 hx8 e9 X9 R9 CR2 CZ3
        simp only [Act.put]
        refine wpAnyH_done (by kernel_rfl) ?_ _
        refine NoPanic.normal ?_
        go_wp2_with fail
        go_roundw
        case rel => exact ⟨i + 1, ((S.kindRd rr).number 4).1, cs ++ [(⟨(k : Int), n4⟩ : S.Cv)], uo, un, uc, by have := HI.out.1; omega, by first | rfl | simp, HE2 n4 HN4.out, fun h => absurd h HI.out.2, ⟨⟨by have := HCN.out.1.1; simp; omega, HUN.out.symm⟩, BS9.out⟩, R8, CR3, X8, Q8, BL⟩
        case measure => have := HI.out.1; simp [intOf]; omega
      refine step_buildSlice_as (o := { dst := some 67, op := Op.buildSlice 23 1 #[(0, Operand.tmp 66)], type := 23, pos := "ref.go:99", after := #[{ on := 6, ground := Ground.data }], guard := none }) rfl rfl 23 1 [(0, .tmp 66)] rfl [(0, .agg (encC ⟨(k : Int), n4⟩).toArray)] rfl _ _ (bs23one Z1 ⟨(k : Int), n4⟩) AllReadyH.nil ⟨CZ1.out.alloc _, fun hHeld => ?_⟩
      clear hHeld
      simp only [Act.put, List.setIfInBounds_toArray, List.set_cons_zero, List.set_cons_succ]
      obtain ⟨gc, hgc⟩ : ∃ gg, gg = Z1.heap.size := ⟨_, rfl⟩
      rw [← hgc]
      generalize hZ : Z1.alloc _ = Z2
      have hb2 : Below Z1.heap.size Z1 Z2 := by rw [← hZ]; exact (Below.refl _ _).alloc (Nat.le_refl _) _
      have Rgc : Hid (Z2.heap[gc]? = some (.cells (encC ⟨(k : Int), n4⟩).toArray 42 (0, 0))) := by rw [← hZ, hgc]; exact heap_alloc_new _ _
      have Ggc := hide (show w7.heap.size ≤ gc by rw [hgc]; exact CZ1.out.size)
      clear hZ hgc
      replace X7' : Hid (Z2.heap[g6]? = some (.cells (encT id (.slice co cn cc) (S.zeros 32)).toArray 27 (0, 0))) := (hb2.block _ (block_lt_of_row X7'.out)).trans X7'.out
      replace C7' : Hid (CRow w.heap.size Z2 (.slice co cn cc) cs) := C7'.out.below hb2
      replace R7' : Hid (DrIs Z2 gd ao ln cap ((S.kindRd rr).number 4).1) := R7'.out.below hb2
      have CZ2 : Hid (Chg (fun k => k = gd ∨ k = g6 ∨ (Value.slice co cn cc).ownBlock = some k) w7 Z2) := CZ1.out.then hb2
      clear hb2 CZ1
      have hHeld := CZ2.out
      refine wpAnyH_ready (rs := [1]) (by kernel_rfl) (by simp) ?_
      refine step_load (o := { dst := some 61, op := Op.load 23 (Operand.tmp 60), type := 23, pos := "ref.go:99", after := #[{ on := 0, ground := Ground.data }], guard := none }) rfl rfl 23 (.tmp 60) rfl (.slice co cn cc) (load_cs X7'.out) AllReadyH.nil ⟨CZ2.out, fun hHeld => ?_⟩
      simp only [Act.put, List.setIfInBounds_toArray, List.set_cons_zero, List.set_cons_succ]
      refine wpAnyH_ready (rs := [8]) (by kernel_rfl) (by simp) ?_
      obtain ⟨v', Z3, hst, hR6, C6⟩ := Rw.append kdC 23 (u := .slice (some ⟨gc, 0, none⟩) 1 1) (ys := [(⟨(k : Int), n4⟩ : S.Cv)]) C7'.out (Sce.of_row Rgc.out) (fun y _ => encC_length y) (by have := HCN.out.1.1; have := HI.out.1; have := NL.out; simp; omega) (B7.out.trans (CZ2.out.below w.heap.size B7.out.size (fun k hk e => Nat.not_lt.2 (LOWP.out k e) hk))).size
      obtain ⟨uo, uc, rfl⟩ := hR6.form
      obtain ⟨un, hun⟩ : ∃ un, un = (cs ++ [(⟨(k : Int), n4⟩ : S.Cv)]).length := ⟨_, rfl⟩
      rw [← hun] at hR6 hst
      have HUN := hide hun
      clear hun
      refine step_append_as (o := { dst := some 68, op := Op.call { callee := Callee.builtin Builtin.append, args := #[Operand.tmp 61, Operand.tmp 67], argTypes := #[23, 23] }, type := 23, pos := "ref.go:99", after := #[{ on := 1, ground := Ground.data }, { on := 7, ground := Ground.data }, { on := 4, ground := Ground.chain }], guard := none }) rfl rfl (.tmp 61) (.tmp 67) 23 23 rfl (.slice co cn cc) (.slice (some ⟨gc, 0, none⟩) 1 1) rfl rfl (.slice uo un uc) Z3 hst AllReadyH.nil ⟨CZ2.out.trans C6 (fun k hk e => Or.inr (Or.inr e)), fun hHeld => ?_⟩
      have CZ3 : Hid (Chg (fun k => k = gd ∨ k = g6 ∨ (Value.slice co cn cc).ownBlock = some k) w7 Z3) := CZ2.out.trans C6 (fun k hk e => Or.inr (Or.inr e))
      have X9 : Hid (Z3.heap[g6]? = some (.cells (encT id (.slice co cn cc) (S.zeros 32)).toArray 27 (0, 0))) := C6.row X7'.out (fun e => C7'.out.apart X7'.out (by decide) e)
      have BL := hide (B7.out.trans (CZ3.out.below w.heap.size B7.out.size (fun k hk e => Nat.not_lt.2 (LOWP.out k e) hk)))
      have e9 : ((S.kindRd rr).number 4).1.bs = bs := (S.Rd.take_bs _ _).trans ((S.kindRd_bs rr).trans HCN.out.2)
      have R9 : Hid (DrIs Z3 gd ao ln cap ((S.kindRd rr).number 4).1) := R7'.out.chg C6 (fun e => by obtain ⟨_, _, _, hrow, _⟩ := R7'.out.row; exact C7'.out.apart hrow (by decide) e) (fun W2 h2 => by rw [e9]; exact HV.out.below (BL.out.trans (h2.below w.heap.size BL.out.size (fun k hk e => by have := GD.out; omega))) (Nat.le_refl _))
      have CR2 : Hid (CRow w.heap.size Z3 (.slice uo un uc) (cs ++ [(⟨(k : Int), n4⟩ : S.Cv)])) := hR6
      clear hst hR6 C6 e9 CZ2 Rgc C7' X7' R7' hHeld BL
      have hHeld := CZ3.out
      simp only [Act.put, List.setIfInBounds_toArray, List.set_cons_zero, List.set_cons_succ]
      refine wpAnyH_take (i := 9) (oi := { dst := some 69, op := Op.fieldAddr 27 (Operand.tmp 6) 1, type := 0, pos := "ref.go:99", after := #[{ on := 0, ground := Ground.phase }, { on := 1, ground := Ground.phase }, { on := 2, ground := Ground.phase }, { on := 3, ground := Ground.phase }, { on := 4, ground := Ground.phase }, { on := 5, ground := Ground.phase }, { on := 6, ground := Ground.phase }, { on := 7, ground := Ground.phase }, { on := 8, ground := Ground.phase }], guard := none }) (v := ?_) rfl (by kernel_rfl) (by kernel_rfl) (by kernel_rfl) (fun _ _ _ h => h) (Or.inl ⟨by rfl, ?_⟩) (by assumption) ?_
      rotate_left
      · intro w hSw
        clear hSw
        go_simp
        all_goals with_reducible rfl
      simp only [Act.put, List.setIfInBounds_toArray, List.set_cons_zero, List.set_cons_succ]
      refine wpAnyH_ready (rs := [10]) (by kernel_rfl) (by simp) ?_
      have hst := store_cs uo un uc X9.out
      have C6 := (Chg.refl (fun k => k = g6) Z3).setCell g6 1 (.slice uo un uc) (fun _ => rfl)
      have hx8 := set_cv (.slice uo un uc) X9.out
      refine step_store_as (o := { dst := none, op := Op.store 23 (Operand.tmp 69) (Operand.tmp 68), type := 0, pos := "ref.go:99", after := #[{ on := 9, ground := Ground.data }, { on := 8, ground := Ground.data }, { on := 8, ground := Ground.chain }, { on := 0, ground := Ground.phase }, { on := 1, ground := Ground.phase }, { on := 2, ground := Ground.phase }, { on := 3, ground := Ground.phase }, { on := 4, ground := Ground.phase }, { on := 5, ground := Ground.phase }, { on := 6, ground := Ground.phase }, { on := 7, ground := Ground.phase }, { on := 8, ground := Ground.phase }], guard := none }) rfl rfl 23 (.tmp 69) (.tmp 68) rfl _ _ rfl rfl _ hst AllReadyH.nil ⟨CZ3.out.trans C6 (fun k hk e => Or.inr (Or.inl e)), fun hHeld => ?_⟩
      clear hHeld hst
      generalize Z3.setCell ⟨g6, 1, none⟩ (.slice uo un uc) = Z4 at C6 hx8 ⊢
      have CZ4 : Hid (Chg (fun k => k = gd ∨ k = g6 ∨ (Value.slice co cn cc).ownBlock = some k) w7 Z4) := CZ3.out.trans C6 (fun k hk e => Or.inr (Or.inl e))
      have BL := hide (B7.out.trans (CZ4.out.below w.heap.size B7.out.size (fun k hk e => Nat.not_lt.2 (LOWP.out k e) hk)))
      have e9 : ((S.kindRd rr).number 4).1.bs = bs := (S.Rd.take_bs _ _).trans ((S.kindRd_bs rr).trans HCN.out.2)
      have R8 : Hid (DrIs Z4 gd ao ln cap ((S.kindRd rr).number 4).1) := R9.out.chg C6 (by have := G6.out; omega) (fun W2 h2 => by rw [e9]; exact HV.out.below (BL.out.trans (h2.below w.heap.size BL.out.size (fun k hk e => by have := GD.out; omega))) (Nat.le_refl _))
      have CR3 := hide (CR2.out.chg C6 (fun j e e2 => CR2.out.apart X9.out (by decide) (e2 ▸ e)))
      have BS9 := hide e9
      have X8 := hide hx8
      have Q8 := hide (CZ4.out.row Q7.out NQ.out)
      clear C6 hx8 e9 X9 R9 CR2 CZ3
      simp only [Act.put]
      refine wpAnyH_done (by kernel_rfl) ?_ _
      refine NoPanic.normal ?_
      go_wp2_with fail
      go_roundw
      case rel => exact ⟨i + 1, ((S.kindRd rr).number 4).1, cs ++ [(⟨(k : Int), n4⟩ : S.Cv)], uo, un, uc, by have := HI.out.1; omega, by first | rfl | simp, HE2 n4 HN4.out, fun h => absurd h HI.out.2, ⟨⟨by have := HCN.out.1.1; simp; omega, HUN.out.symm⟩, BS9.out⟩, R8, CR3, X8, Q8, BL⟩
      case measure => have := HI.out.1; simp [intOf]; omega
    · have EB : (decide (i < n) && decide (rr.why = 0)) = false := by
        by_cases h : i < n
        · have : rr.why ≠ 0 := fun e => hgo ⟨h, e⟩
          simp [this]
        · simp [h]
      rw [EB]
      have HEND := hide (show 4 < n ∨ i = n ∨ rr.why ≠ 0 by
        by_cases h : i < n
        · exact Or.inr (Or.inr (fun e => hgo ⟨h, e⟩))
        · exact Or.inr (Or.inl (by omega)))
      have HD := hide (S.decode_is bs id n i r1 r2 rr cs H1.out H2.out HE.out hin HEND.out)
      have HBS := hide HCN.out.2
      clear EB hgo HEND HE HW H1 H2 hin
      obtain ⟨D, hD⟩ : ∃ D, D = rr.digest.2 := ⟨_, rfl⟩
      obtain ⟨rd, hrd⟩ : ∃ k, k = rr.digest.1 := ⟨_, rfl⟩
      obtain ⟨f1, hf1⟩ : ∃ k, k = rd.fin.1 := ⟨_, rfl⟩
      obtain ⟨f2, hf2⟩ : ∃ k, k = rd.fin.2 := ⟨_, rfl⟩
      have HF : Hid (rd.fin = (f1, f2)) := by show _ = _; rw [hf1, hf2]
      have HD2 := hide (show rc = if f2 = 0 then (⟨id, cs, D⟩, (0, 0)) else (S.t0, (f1, f2)) by rw [HRC.out, HD.out, ← hD, ← hrd, HF.out])
      have LD := hide (show D.length = 32 by rw [hD]; exact rr.digest_length)
      have ED := hide hD
      have ERD := hide hrd
      have HCN2 := hide HCN.out.1.2
      clear hD hrd hf1 hf2 HD HCN HRC
      go_wp2_with fail
      refine (ddigest_any gd ao ln cap rr wr RR.out).mono ?_
      rintro e w6 ⟨rfl, h6, k6⟩
      rw [← ED.out]
      rw [← ERD.out] at h6
      have R6 := hide h6
      have Q6 := hide (k6.row Q.out (by have := GD.out; omega))
      have X6 := hide (k6.row X.out (by have := G6.out; omega))
      have C6 := hide (CC.out.chg k6 (fun j e e2 => by
        obtain ⟨_, _, _, hrow, _⟩ := RR.out.row
        exact CC.out.apart hrow (by decide) (e2 ▸ e)))
      have B6 := hide (B.out.trans (k6.below w.heap.size B.out.size (fun k hk e => by have := GD.out; omega)))
      obtain ⟨w7, hs7, hx7, k7, -⟩ := store_tt (D := D) X6.out (S.zeros_length 32) LD.out
      have BSD := hide (show rd.bs = bs by rw [ERD.out]; exact (S.Rd.take_bs _ _).trans HBS.out)
      have Q7 := hide (k7.row Q6.out (by have := G6.out; omega))
      have X7 := hide hx7
      have C7 := hide (C6.out.chg k7 (fun j hj e => C6.out.apart X6.out (by decide) (e ▸ hj)))
      have B7 := hide (B6.out.trans (k7.below w.heap.size B6.out.size (fun k hk e => by have := G6.out; omega)))
      have R7 := hide (R6.out.chg k7 (by have := G6.out; omega) (fun W2 h2 => by rw [BSD.out]; exact HV.out.below (B7.out.trans (h2.below w.heap.size B7.out.size (fun k hk e => by have := GD.out; omega))) (Nat.le_refl _)))
      clear h6 k6 hx7 k7 RR CC X Q B R6 Q6 X6 C6 B6
      go_upto_region 14 with (with_reducible refine at_op { dst := none, op := Op.store 25 (Operand.tmp 72) (Operand.tmp 71), type := 0, pos := "ref.go:101", after := #[{ on := 2, ground := Ground.data }, { on := 1, ground := Ground.data }, { on := 1, ground := Ground.chain }, { on := 0, ground := Ground.phase }, { on := 1, ground := Ground.phase }], guard := none } ?_; refine wpList_store_as rfl 25 (.tmp 72) (.tmp 71) rfl (.pointer (some ⟨g6, 2, none⟩)) (.agg (S.v8 D)) rfl rfl w7 hs7 ?_)
      clear hs7
      go_wp2_with fail
      refine (dend_any gd ao ln cap rd w7 R7.out).mono ?_
      rintro e w8 ⟨rfl, hb8⟩
      rw [HF.out]
      have Q8 := hide ((hb8.block _ (block_lt_of_row Q7.out)).trans Q7.out)
      have X8 := hide ((hb8.block _ (block_lt_of_row X7.out)).trans X7.out)
      have C8 := hide (C7.out.below hb8)
      have B8 := hide (B7.out.trans (hb8.mono B7.out.size))
      clear hb8 R7 Q7 X7 C7 B7 HF
      by_cases hz : f2 = 0
      · have HE := hide (show rc = (⟨id, cs, D⟩, (0, 0)) by rw [HD2.out, if_pos hz])
        have ld := load_t X8.out LD.out
        obtain ⟨w9, hs9, hx9, k9, -⟩ := store_t (id := id) (ao := co) (n := cn) (m := cc) (tag := D) Q8.out tk0_size LD.out
        have X9 := hide hx9
        have C9 := hide (C8.out.chg k9 (fun j hj e => C8.out.apart Q8.out (by decide) (e ▸ hj)))
        have B9 := hide (B8.out.trans (k9.below w.heap.size B8.out.size (fun k hk e => by omega)))
        clear hx9 k9 Q8 X8 C8 B8 HD2
        subst hz
        go_wp2_with (first | (with_reducible refine at_op { dst := some 83, op := Op.load 27 (Operand.tmp 6), type := 27, pos := "ref.go:106", after := #[], guard := none } ?_; refine wpList_load_as rfl 27 (.tmp 6) rfl (.pointer (some ⟨g6, 0, none⟩)) rfl (.agg (encT id (.slice co cn cc) D).toArray) ld ?_) | (with_reducible refine at_op { dst := none, op := Op.store 27 (Operand.tmp 2) (Operand.tmp 83), type := 0, pos := "ref.go:106", after := #[{ on := 0, ground := Ground.data }, { on := 0, ground := Ground.phase }], guard := none } ?_; refine wpList_store_as rfl 27 (.tmp 2) (.tmp 83) rfl (.pointer (some ⟨w.heap.size, 0, none⟩)) (.agg (encT id (.slice co cn cc) D).toArray) rfl rfl w9 hs9 ?_))
        exact bodyPost_ret (v := .tuple #[.agg (encT id (.slice co cn cc) D).toArray, .int .i64 0, .int .i64 0]) (results_rt3 Tryd.results27 _ _ w.heap.size _ rfl (var27 X9.out LD.out)) rfl ⟨⟨.slice co cn cc, by rw [HE.out], by rw [HE.out]; exact C9.out⟩, B9.out⟩
      · have HE := hide (show rc = (S.t0, (f1, f2)) by rw [HD2.out, if_neg hz])
        obtain ⟨w9, hs9, hx9, k9, -⟩ := store_t (id := 0) (ao := none) (n := 0) (m := 0) (tag := S.zeros 32) Q8.out tk0_size (S.zeros_length 32)
        have X9 := hide hx9
        have B9 := hide (B8.out.trans (k9.below w.heap.size B8.out.size (fun k hk e => by omega)))
        have hbz := build27z w8
        clear hx9 k9 Q8 X8 C8 B8 HD2
        go_wp2_with (first | (with_reducible refine at_op { dst := some 80, op := Op.build 27 #[], type := 27, pos := "ref.go:104", after := #[], guard := none } ?_; refine wpList_build_as rfl 27 [] rfl [] rfl (.agg tk0) hbz ?_) | (with_reducible refine at_op { dst := none, op := Op.store 27 (Operand.tmp 2) (Operand.tmp 80), type := 0, pos := "ref.go:104", after := #[{ on := 0, ground := Ground.data }, { on := 0, ground := Ground.phase }, { on := 1, ground := Ground.textOnly Departure.lateStores }, { on := 2, ground := Ground.textOnly Departure.lateStores }], guard := none } ?_; refine wpList_store_as rfl 27 (.tmp 2) (.tmp 80) rfl (.pointer (some ⟨w.heap.size, 0, none⟩)) (.agg tk0) rfl rfl w9 hs9 ?_))
        exact bodyPost_ret (v := .tuple #[.agg tk0, .int .i64 f1, .int .i64 f2]) (results_rt3 Tryd.results27 _ _ w.heap.size _ rfl (var27 X9.out (S.zeros_length 32))) rfl ⟨⟨.slice none 0 0, by rw [HE.out]; rfl, by rw [HE.out]; exact Rw.nil _ _ _ _ _⟩, B9.out⟩
end Go.Proofs.YtlcilclhaahopaaDoor
