/- Decode: caveats are read, tokens are read. -/
import Derived.Test.YtlcilclhaahopaaDoorTl
import Derived.Test.YtlcilclhaahopaaDoorPure
namespace Go.Proofs.YtlcilclhaahopaaDoor
open Go.RowKit

namespace S
theorem number1_lt (r : Rd) : (r.number 1).2 < 256 := by
  have h1 := val_lt (r.take (size 1)).2
  have h2 : (r.take (size 1)).2.length ≤ 1 := r.take_len (size 1)
  have h3 : 256 ^ (r.take (size 1)).2.length ≤ 256 ^ 1 := Nat.pow_le_pow_right (by decide) h2
  exact Nat.lt_of_lt_of_le h1 h3
theorem number4_lt (r : Rd) : (r.number 4).2 < 4294967296 := by
  have h1 := val_lt (r.take (size 4)).2
  have h2 : (r.take (size 4)).2.length ≤ 4 := r.take_len (size 4)
  have h3 : 256 ^ (r.take (size 4)).2.length ≤ 256 ^ 4 := Nat.pow_le_pow_right (by decide) h2
  exact Nat.lt_of_lt_of_le h1 h3
def oddk (k : Int) : Bool := odd ⟨k, 0⟩
/-- The state behind a kind. -/
def kindRd (r : Rd) : Rd := if oddk ((r.number 1).2 : Int) = true then (r.number 1).1.fail 12 else (r.number 1).1
def readCav (r : Rd) : Rd × Cv := (((kindRd r).number 4).1, ⟨((r.number 1).2 : Int), ((kindRd r).number 4).2⟩)
theorem readCav_eq (r : Rd) : (readCav r).2 = ⟨((r.number 1).2 : Int), ((kindRd r).number 4).2⟩ := rfl
def readMany : Nat → Rd → Rd × List Cv
  | 0, r => (r, [])
  | n + 1, r => ((readCav (readMany n r).1).1, (readMany n r).2 ++ [(readCav (readMany n r).1).2])
def readCavs (r : Rd) : Rd × List Cv := if 4 < (r.number 1).2 then ((r.number 1).1.fail 4, []) else readMany (r.number 1).2 (r.number 1).1
theorem readMany_length (n : Nat) (r : Rd) : (readMany n r).2.length = n := by
  induction n with
  | zero => rfl
  | succ n ih => simp [readMany, ih]
theorem readCavs_length (r : Rd) : (readCavs r).2.length ≤ 4 := by
  unfold readCavs
  split
  · simp
  · rw [readMany_length]; omega
/-- The reader behind a token, and the token. -/
def readTok (r : Rd) : Rd × Tk := ((readCavs (r.number 4).1).1.digest.1, ⟨(r.number 4).2, (readCavs (r.number 4).1).2, (readCavs (r.number 4).1).1.digest.2⟩)
def decode (bs : List UInt8) : Tk × (Int × Int) := if (readTok ⟨bs, 0, 0, 0⟩).1.fin.2 = 0 then ((readTok ⟨bs, 0, 0, 0⟩).2, (0, 0)) else (t0, (readTok ⟨bs, 0, 0, 0⟩).1.fin)
end S
theorem build42k (k : Int) (w : World) : (Instr.build 42 #[(0, .int .i64 k)]).run Tryd.prog w = .ok (.agg (encC ⟨k, 0⟩).toArray) w := run_build w 42 _ _ (by kernel_rfl)
theorem build27j (id : Nat) (w : World) : (Instr.build 27 #[(0, .int .u32 (id : Int))]).run Tryd.prog w = .ok (.agg (encT id (.slice none 0 0) (S.zeros 32)).toArray) w := run_build w 27 _ _ (by kernel_rfl)
theorem set_n {w : World} {g : Nat} {c : S.Cv} (n : Nat) (hr : w.heap[g]? = some (.cells (encC c).toArray 42 (0, 0))) : (w.setCell ⟨g, 1, none⟩ (.int .u32 (n : Int))).heap[g]? = some (.cells (encC ⟨c.k, n⟩).toArray 42 (0, 0)) := by
  rw [heap_setCell_same _ _ _ _ _ _ hr]
  congr 2
set_option maxHeartbeats 8000000 in
set_option maxRecDepth 10000 in
theorem readCav_any (g t : Nat) (r : S.Rd) (w : World) (hr : RdIs w g t r) :
   Calls Tryd.prog 71 #[.pointer (some ⟨g, 0, none⟩)] w fun e w' => e = .returned (.agg (encC (S.readCav r).2).toArray) ∧ RdIs w' g t (S.readCav r).1 ∧ Chg (fun k => k = g) w w' := by
  have GL := hide hr.lt
  have TL := hide hr.tlt
  have HR := hide hr
  obtain ⟨rc, hrc⟩ : ∃ rc, rc = S.readCav r := ⟨_, rfl⟩
  have HRC := hide hrc
  rw [← hrc]
  clear hr hrc
  go_enter Tryd.func71, Tryd.ntmps71
  go_upto_region 1 with (refine wpList_alloc_known rfl 42 rfl _ _ (alloc42 _) ?_)
  generalize hW0 : w.alloc _ = W0
  have B0 : Below w.heap.size w W0 := by rw [← hW0]; exact (Below.refl _ _).alloc (Nat.le_refl _) _
  have s0 : W0.heap.size = w.heap.size + 1 := by rw [← hW0]; simp
  have r0 : W0.heap[w.heap.size]? = some (.cells (encC S.c0).toArray 42 (0, 0)) := by rw [← hW0]; exact heap_alloc_new _ _
  have BB : Hid (Below w.heap.size w W0) := B0
  have Q0 : Hid (W0.heap[w.heap.size]? = some (.cells (encC S.c0).toArray 42 (0, 0))) := r0
  clear hW0 B0 s0 r0
  have R0 := hide (HR.out.below BB.out)
  clear HR
  go_wp2_with fail
  refine (rnumber_any g t r 1 W0 R0.out).mono ?_
  rintro e w1 ⟨rfl, h1, k1⟩
  have R1 := hide h1
  have Q1 := hide (k1.row Q0.out (by have := GL.out; omega))
  have K1 := hide ((Chg.ofBelow' (p := fun k => k = g) BB.out).trans k1 (fun _ _ e => e))
  have hn := S.number1_lt r
  obtain ⟨k0, hk0⟩ : ∃ k, k = (r.number 1).2 := ⟨_, rfl⟩
  rw [← hk0] at hn ⊢
  have qk : IntKind.i64.wrap (k0 : Int) = (k0 : Int) := by rw [IntKind.wrap_i64]; omega
  obtain ⟨k, hk⟩ : ∃ k : Int, k = (k0 : Int) := ⟨_, rfl⟩
  have EK := hide (show k = ((r.number 1).2 : Int) by rw [hk, hk0])
  rw [← hk] at qk ⊢
  obtain ⟨A3, w3, ha3, hs3, hr3, hb3⟩ := lay_c w1 ⟨k, 0⟩
  obtain ⟨g3, hg3⟩ : ∃ g, g = w1.heap.size := ⟨_, rfl⟩
  rw [← hg3] at ha3 hs3 hr3
  have hbk := build42k k w1
  have R3 := hide (R1.out.below hb3)
  have Q3 := hide ((hb3.block _ (block_lt_of_row Q1.out)).trans Q1.out)
  have X3 := hide hr3
  have G3 := hide (show w.heap.size < g3 by rw [hg3]; exact block_lt_of_row Q1.out)
  have K3 := hide (K1.out.then hb3)
  clear h1 k1 hn hk0 hk hr3 hb3 hg3 R0 R1 Q0 Q1 K1 BB
  go_upto_region 2 with (first | (with_reducible refine at_op { dst := some 7, op := Op.build 42 #[(0, Operand.tmp 6)], type := 42, pos := "bytes.go:56", after := #[{ on := 2, ground := Ground.data }], guard := none } ?_; refine wpList_build_as rfl 42 [(0, .tmp 6)] rfl [(0, .int .i64 k)] rfl (.agg (encC ⟨k, 0⟩).toArray) hbk ?_) | (with_reducible refine at_op { dst := some 3, op := Op.alloc 42, type := 0, pos := "bytes.go:56", after := #[], guard := none } ?_; refine wpList_alloc_known rfl 42 rfl _ _ ha3 ?_) | (with_reducible refine at_op { dst := none, op := Op.store 42 (Operand.tmp 3) (Operand.tmp 7), type := 0, pos := "bytes.go:56", after := #[{ on := 4, ground := Ground.data }, { on := 3, ground := Ground.data }, { on := 1, ground := Ground.chain }, { on := 0, ground := Ground.phase }, { on := 1, ground := Ground.phase }, { on := 2, ground := Ground.phase }, { on := 3, ground := Ground.phase }, { on := 4, ground := Ground.phase }], guard := none } ?_; refine wpList_store_as rfl 42 (.tmp 3) (.tmp 7) rfl (.pointer (some ⟨g3, 0, none⟩)) (.agg (encC ⟨k, 0⟩).toArray) rfl rfl w3 hs3 ?_))
  clear ha3 hs3 A3 hbk qk
  have ld3 := load_c X3.out
  go_wp2_with (with_reducible refine at_op { dst := some 8, op := Op.load 42 (Operand.tmp 3), type := 42, pos := "bytes.go:57", after := #[], guard := none } ?_; refine wpList_load_as rfl 42 (.tmp 3) rfl (.pointer (some ⟨g3, 0, none⟩)) rfl (.agg (encC ⟨k, 0⟩).toArray) ld3 ?_)
  refine (strange_any ⟨k, 0⟩ w3).mono ?_
  rintro e w4 ⟨rfl, hb4⟩
  have R4 := hide (R3.out.below hb4)
  have QQ := hide ((hb4.block _ (block_lt_of_row Q3.out)).trans Q3.out)
  have XX := hide ((hb4.block _ (block_lt_of_row X3.out)).trans X3.out)
  have K4 := hide (K3.out.then hb4)
  obtain ⟨b, hb⟩ : ∃ b, b = S.odd ⟨k, 0⟩ := ⟨_, rfl⟩
  have HB := hide hb
  rw [← hb]
  clear hb hb4 ld3 R3 Q3 X3 K3
  cases b with
  | true =>
    have HK := hide (show S.kindRd r = (r.number 1).1.fail 12 by rw [S.kindRd, if_pos]; rw [S.oddk, ← EK.out, ← HB.out])
    go_wp2_with fail
    refine (rfail_any g t _ 12 w4 R4.out).mono ?_
    rintro e w9 ⟨rfl, h9, k9⟩
    have RR : Hid (RdIs w9 g t (S.kindRd r)) := by show RdIs w9 g t _; rw [HK.out]; exact h9
    have BB := hide (K4.out.trans k9 (fun _ _ e => e))
    replace QQ := hide (k9.row QQ.out (by have := GL.out; omega))
    replace XX := hide (k9.row XX.out (by have := G3.out; have := GL.out; omega))
    clear h9 k9 R4 K4 HK HB
    go_wp2_with fail
    refine (rnumber_any g t (S.kindRd r) 4 w9 RR.out).mono ?_
    rintro e w5 ⟨rfl, h5, k5⟩
    have R5 := hide h5
    have N5 := hide (S.number4_lt (S.kindRd r))
    obtain ⟨n5, hn5⟩ : ∃ n, n = ((S.kindRd r).number 4).2 := ⟨_, rfl⟩
    rw [← hn5] at N5 ⊢
    have E5 := hide hn5
    have Q5 := hide (k5.row QQ.out (by have := GL.out; omega))
    have X5 := hide (k5.row XX.out (by have := G3.out; have := GL.out; omega))
    have B5 := hide (BB.out.trans k5 (fun _ _ e => e))
    clear h5 k5 hn5 RR QQ XX BB
    have qv : IntKind.u32.wrap (n5 : Int) = (n5 : Int) := by have := N5.out; rw [IntKind.wrap_u32]; omega
    obtain ⟨x0, x1⟩ := c_cells X5.out
    have xf := frozen_of_row _ _ 1 _ _ X5.out
    go_upto_region 5 with fail
    generalize hW6 : World.setCell w5 ⟨g3, 1, none⟩ _ = w6
    have X6 : w6.heap[g3]? = some (.cells (encC ⟨k, n5⟩).toArray 42 (0, 0)) := by rw [← hW6]; exact set_n n5 X5.out
    have C6 : Chg (fun k => k = g3) w5 w6 := by rw [← hW6]; exact (Chg.refl _ _).setCell _ _ _ (fun _ => rfl)
    have Q6 := hide (C6.row Q5.out (by have := G3.out; omega))
    have R6 := hide (R5.out.chg C6 (by have := G3.out; have := GL.out; omega) (by have := G3.out; have := TL.out; omega))
    have B6 := hide (B5.out.trans C6 (fun j hj e => by have := G3.out; omega))
    have HX6 := hide X6
    obtain ⟨w7, hs7, q7, c7, -⟩ := store_c (c := ⟨k, n5⟩) Q6.out rfl
    have R7 := hide (R6.out.chg c7 (by have := GL.out; omega) (by have := TL.out; omega))
    have B7 := hide (B6.out.trans c7 (fun j hj e => by omega))
    have ld6 := load_c X6
    have HQ7 := hide q7
    clear hW6 X6 C6 Q6 R6 B6 q7 c7 x0 x1 xf R5 B5 X5 Q5
    go_wp2_with (first | (with_reducible refine at_op { dst := some 16, op := Op.load 42 (Operand.tmp 3), type := 42, pos := "bytes.go:61", after := #[], guard := none } ?_; refine wpList_load_as rfl 42 (.tmp 3) rfl (.pointer (some ⟨g3, 0, none⟩)) rfl (.agg (encC ⟨k, n5⟩).toArray) ld6 ?_) | (with_reducible refine at_op { dst := none, op := Op.store 42 (Operand.tmp 2) (Operand.tmp 16), type := 0, pos := "bytes.go:61", after := #[{ on := 0, ground := Ground.data }, { on := 0, ground := Ground.phase }], guard := none } ?_; refine wpList_store_as rfl 42 (.tmp 2) (.tmp 16) rfl (.pointer (some ⟨w.heap.size, 0, none⟩)) (.agg (encC ⟨k, n5⟩).toArray) rfl rfl w7 hs7 ?_))
    exact bodyPost_ret (v := .agg (encC ⟨k, n5⟩).toArray) (results_cell_row (g := w.heap.size) (t := 42) (fr := (0, 0)) Tryd.results71 _ _ _ _ rfl HQ7.out Tryd.underlying42 rfl (size_c _)) rfl ⟨by rw [HRC.out]; simp only [S.readCav_eq]; rw [← EK.out, ← E5.out], by rw [HRC.out]; exact R7.out, B7.out⟩
  | false =>
    have HK := hide (show S.kindRd r = (r.number 1).1 by rw [S.kindRd, if_neg]; rw [S.oddk, ← EK.out, ← HB.out]; decide)
    have RR : Hid (RdIs w4 g t (S.kindRd r)) := by show RdIs w4 g t _; rw [HK.out]; exact R4.out
    have BB := K4
    clear R4 K4 HK HB
    go_wp2_with fail
    refine (rnumber_any g t (S.kindRd r) 4 w4 RR.out).mono ?_
    rintro e w5 ⟨rfl, h5, k5⟩
    have R5 := hide h5
    have N5 := hide (S.number4_lt (S.kindRd r))
    obtain ⟨n5, hn5⟩ : ∃ n, n = ((S.kindRd r).number 4).2 := ⟨_, rfl⟩
    rw [← hn5] at N5 ⊢
    have E5 := hide hn5
    have Q5 := hide (k5.row QQ.out (by have := GL.out; omega))
    have X5 := hide (k5.row XX.out (by have := G3.out; have := GL.out; omega))
    have B5 := hide (BB.out.trans k5 (fun _ _ e => e))
    clear h5 k5 hn5 RR QQ XX BB
    have qv : IntKind.u32.wrap (n5 : Int) = (n5 : Int) := by have := N5.out; rw [IntKind.wrap_u32]; omega
    obtain ⟨x0, x1⟩ := c_cells X5.out
    have xf := frozen_of_row _ _ 1 _ _ X5.out
    go_upto_region 5 with fail
    generalize hW6 : World.setCell w5 ⟨g3, 1, none⟩ _ = w6
    have X6 : w6.heap[g3]? = some (.cells (encC ⟨k, n5⟩).toArray 42 (0, 0)) := by rw [← hW6]; exact set_n n5 X5.out
    have C6 : Chg (fun k => k = g3) w5 w6 := by rw [← hW6]; exact (Chg.refl _ _).setCell _ _ _ (fun _ => rfl)
    have Q6 := hide (C6.row Q5.out (by have := G3.out; omega))
    have R6 := hide (R5.out.chg C6 (by have := G3.out; have := GL.out; omega) (by have := G3.out; have := TL.out; omega))
    have B6 := hide (B5.out.trans C6 (fun j hj e => by have := G3.out; omega))
    have HX6 := hide X6
    obtain ⟨w7, hs7, q7, c7, -⟩ := store_c (c := ⟨k, n5⟩) Q6.out rfl
    have R7 := hide (R6.out.chg c7 (by have := GL.out; omega) (by have := TL.out; omega))
    have B7 := hide (B6.out.trans c7 (fun j hj e => by omega))
    have ld6 := load_c X6
    have HQ7 := hide q7
    clear hW6 X6 C6 Q6 R6 B6 q7 c7 x0 x1 xf R5 B5 X5 Q5
    go_wp2_with (first | (with_reducible refine at_op { dst := some 16, op := Op.load 42 (Operand.tmp 3), type := 42, pos := "bytes.go:61", after := #[], guard := none } ?_; refine wpList_load_as rfl 42 (.tmp 3) rfl (.pointer (some ⟨g3, 0, none⟩)) rfl (.agg (encC ⟨k, n5⟩).toArray) ld6 ?_) | (with_reducible refine at_op { dst := none, op := Op.store 42 (Operand.tmp 2) (Operand.tmp 16), type := 0, pos := "bytes.go:61", after := #[{ on := 0, ground := Ground.data }, { on := 0, ground := Ground.phase }], guard := none } ?_; refine wpList_store_as rfl 42 (.tmp 2) (.tmp 16) rfl (.pointer (some ⟨w.heap.size, 0, none⟩)) (.agg (encC ⟨k, n5⟩).toArray) rfl rfl w7 hs7 ?_))
    exact bodyPost_ret (v := .agg (encC ⟨k, n5⟩).toArray) (results_cell_row (g := w.heap.size) (t := 42) (fr := (0, 0)) Tryd.results71 _ _ _ _ rfl HQ7.out Tryd.underlying42 rfl (size_c _)) rfl ⟨by rw [HRC.out]; simp only [S.readCav_eq]; rw [← EK.out, ← E5.out], by rw [HRC.out]; exact R7.out, B7.out⟩
end Go.Proofs.YtlcilclhaahopaaDoor
namespace Go.Proofs.YtlcilclhaahopaaDoor
open Go.RowKit

set_option maxHeartbeats 8000000 in
set_option maxRecDepth 10000 in
theorem readCavs_any (g t : Nat) (r : S.Rd) (w : World) (hr : RdIs w g t r) :
   Calls Tryd.prog 45 #[.pointer (some ⟨g, 0, none⟩)] w fun e w' => ∃ v, e = .returned v ∧ CRow w.heap.size w' v (S.readCavs r).2 ∧ RdIs w' g t (S.readCavs r).1 ∧ Chg (fun k => k = g) w w' := by
  have GL := hide hr.lt
  have TL := hide hr.tlt
  have HR := hide hr
  obtain ⟨rc, hrc⟩ : ∃ rc, rc = S.readCavs r := ⟨_, rfl⟩
  have HRC := hide hrc
  rw [← hrc]
  clear hr hrc
  go_enter Tryd.func45, Tryd.ntmps45
  go_wp2_with fail
  refine (rnumber_any g t r 1 w HR.out).mono ?_
  rintro e w1 ⟨rfl, h1, k1⟩
  have R1 := hide h1
  have K1 := hide k1
  obtain ⟨n, hn⟩ : ∃ n, n = (r.number 1).2 := ⟨_, rfl⟩
  have hnl : n < 256 := by rw [hn]; exact S.number1_lt r
  have EN := hide hn
  rw [← hn]
  clear h1 k1 hn HR
  by_cases h4 : 4 < n
  · have q1 : (n : Int) > 4 := by omega
    have q1' : (4 : Int) < (n : Int) := by omega
    have HE := hide (show S.readCavs r = ((r.number 1).1.fail 4, []) by rw [S.readCavs, if_pos (by rw [← EN.out]; exact h4)])
    go_wp2_with fail
    refine (rfail_any g t _ 4 w1 R1.out).mono ?_
    rintro e w9 ⟨rfl, h9, k9⟩
    have R9 := hide h9
    have K9 := hide (K1.out.trans k9 (fun _ _ e => e))
    clear h9 k9 R1 K1
    go_wp2_with fail
    go_ret
    exact ⟨.slice none 0 0, rfl, by rw [HRC.out, HE.out]; exact Rw.nil _ _ _ _ _, by rw [HRC.out, HE.out]; exact R9.out, K9.out⟩
  have q1 : ¬ (n : Int) > 4 := by omega
  have q1' : decide ((4 : Int) < (n : Int)) = false := by simp; omega
  have hn4 : n ≤ 4 := by omega
  have HE := hide (show S.readCavs r = S.readMany n (r.number 1).1 by rw [S.readCavs, if_neg (by rw [← EN.out]; omega), ← EN.out])
  obtain ⟨r1, hr1⟩ : ∃ r1, r1 = (r.number 1).1 := ⟨_, rfl⟩
  rw [← hr1] at R1 HE
  clear h4 hnl hr1 EN
  go_wp2_with fail
  clear q1 q1'
  go_loopg [4, 12] n (fun gk s4 s12 wr => ∃ i : Nat, i + gk = n ∧ s12 = .int .u64 (i : Int) ∧ Hid (CRow w.heap.size wr s4 (S.readMany i r1).2) ∧ Hid (RdIs wr g t (S.readMany i r1).1) ∧ Hid (Chg (fun k => k = g) w wr))
  case atStart => exact ⟨0, by omega, rfl, hide (Rw.nil _ _ _ _ _), R1, K1⟩
  case round =>
    clear R1 K1
    obtain ⟨i, hi, rfl, CI, RI, KI⟩ := hrel
    cases gk with
    | zero =>
      obtain rfl : i = n := by omega
      have q : ¬ (i : Int) < (i : Int) := by omega
      obtain ⟨vo, vc, rfl⟩ := CI.out.form
      obtain ⟨vn, hvn⟩ : ∃ vn, vn = (S.readMany i r1).2.length := ⟨_, rfl⟩
      rw [← hvn] at CI ⊢
      clear hi hvn
      go_wp2_with fail
      go_ret
      exact ⟨_, rfl, by rw [HRC.out, HE.out]; exact CI.out, by rw [HRC.out, HE.out]; exact RI.out, KI.out⟩
    | succ gO =>
      have q : (i : Int) < (n : Int) := by omega
      have qw : IntKind.u64.wrap ((i : Int) + 1) = (i : Int) + 1 := by rw [IntKind.wrap_u64]; omega
      obtain ⟨vo, vc, rfl⟩ := CI.out.form
      have hvl := S.readMany_length i r1
      rw [hvl] at CI ⊢
      have HLL := hide hvl
      clear hvl
      go_wp2_with fail
      refine (readCav_any g t _ wr RI.out).mono ?_
      rintro e w3 ⟨rfl, h3, k3⟩
      obtain ⟨c, hc⟩ : ∃ c, c = (S.readCav (S.readMany i r1).1).2 := ⟨_, rfl⟩
      have EC := hide hc
      rw [← hc]
      have R3 : Hid (RdIs w3 g t (S.readMany (i + 1) r1).1) := h3
      have K3 := hide (KI.out.trans k3 (fun _ _ e => e))
      have C3 := hide (CI.out.chg k3 (fun j hj e => by have := (CI.out.blk hj).1; have := GL.out; omega))
      clear h3 k3 hc RI KI CI
      have hbs := bs23one w3 c
      obtain ⟨A4, hA4⟩ : ∃ A, A = w3.alloc (.cells (encC c).toArray 42) := ⟨_, rfl⟩
      have hb4 : Below w3.heap.size w3 A4 := by rw [hA4]; exact (Below.refl _ _).alloc (Nat.le_refl _) _
      have hr4 : A4.heap[w3.heap.size]? = some (.cells (encC c).toArray 42 (0, 0)) := by rw [hA4]; exact heap_alloc_new _ _
      rw [← hA4] at hbs
      have hsrc : Sce encC A4 (.slice (some ⟨w3.heap.size, 0, none⟩) 1 1) [c] := Sce.of_row hr4
      have C4 : CRow w.heap.size A4 (.slice vo (S.readMany i r1).2.length vc) (S.readMany i r1).2 := by rw [HLL.out]; exact C3.out.below hb4
      have happ := Rw.append kdC 23 C4 hsrc (fun y _ => encC_length y) (by rw [HLL.out]; simp; omega) (Nat.le_trans K3.out.size hb4.size)
      rw [HLL.out] at happ
      have R4 := hide (R3.out.below hb4)
      have K4 := hide (K3.out.then hb4)
      have HAP := hide happ
      have HOW := hide (show ∀ j, (Value.slice vo i vc).ownBlock = some j → w.heap.size ≤ j from fun j hj => (C3.out.blk hj).1)
      clear hA4 hb4 hr4 hsrc C4 happ C3 R3 K3
      go_wp2_with (first | (with_reducible refine at_op { dst := some 17, op := Op.buildSlice 23 1 #[(0, Operand.tmp 16)], type := 23, pos := "bytes.go:49", after := #[{ on := 2, ground := Ground.data }], guard := none } ?_; refine wpList_buildSlice_as rfl 23 1 [(0, .tmp 16)] rfl [(0, .agg (encC c).toArray)] rfl _ _ hbs ?_) | (at_builtin; (refine wpList_append_known rfl (.tmp 14) (.tmp 17) 23 23 rfl _ _ rfl rfl HAP.out ?_; rintro v5 w5 ⟨h5, k5⟩; obtain ⟨vo5, vc5, hv5⟩ := h5.form; subst hv5)))
      have C5 : Hid (CRow w.heap.size w5 (.slice vo5 ((S.readMany i r1).2.length + 1) vc5) (S.readMany (i + 1) r1).2) := by
        show Rw 42 2 encC w.heap.size w5 _ ((S.readMany i r1).2 ++ [(S.readCav (S.readMany i r1).1).2])
        rw [← EC.out]
        rw [List.length_append, List.length_singleton] at h5
        exact h5
      have R5 := hide (R4.out.chg k5 (fun e => by have := HOW.out _ e; have := GL.out; omega) (fun e => by have := HOW.out _ e; have := TL.out; omega))
      have K5 := hide (K4.out.trans k5 (fun j hj e => by have := HOW.out _ e; omega))
      clear h5 k5 HAP R4 K4
      go_roundg gO
      case measure => omega
      case rel => exact ⟨i + 1, by omega, by first | rfl | simp, C5, R5, K5⟩
set_option maxHeartbeats 8000000 in
set_option maxRecDepth 10000 in
/-- Decode. -/
theorem decode_any (v : Value) (bs : List UInt8) (w : World) (hv : SliceAt w v bs) (hb : bs.length ≤ 140737488355328) :
   Calls Tryd.prog 12 #[v] w fun e w' => ∃ cv ev, e = .returned (.tuple #[.agg (encT (S.decode bs).1.id cv (S.decode bs).1.tag).toArray, ev]) ∧ CRow w.heap.size w' cv (S.decode bs).1.cs ∧ (((S.decode bs).2.2 = 0 ∧ ev = .nilIface) ∨ ((S.decode bs).2.2 ≠ 0 ∧ ∃ q, ev = .iface 93 (.pointer (some ⟨q, 0, none⟩)) ∧ w.heap.size ≤ q ∧ w'.heap[q]? = some (.cells #[.int .i64 (S.decode bs).2.1, .int .i64 (S.decode bs).2.2] 96 (0, 0)))) ∧ Below w.heap.size w w' := by
  obtain ⟨ao, n, cap, rfl, hn, hmax⟩ := hv.form
  have HV := hide hv
  have HB : Hid (bs.length ≤ 140737488355328) := hb
  obtain ⟨rc, hrc⟩ : ∃ rc, rc = S.decode bs := ⟨_, rfl⟩
  have HRC := hide hrc
  rw [← hrc]
  clear hv hn hb hrc
  go_enter Tryd.func12, Tryd.ntmps12
  go_upto_region 1 with (refine wpList_alloc_known rfl 27 rfl _ _ (alloc27 _) ?_)
  generalize hW0 : w.alloc _ = W0
  have B0 : Below w.heap.size w W0 := by rw [← hW0]; exact (Below.refl _ _).alloc (Nat.le_refl _) _
  have s0 : W0.heap.size = w.heap.size + 1 := by rw [← hW0]; simp
  have r0 : W0.heap[w.heap.size]? = some (.cells tk0 27 (0, 0)) := by rw [← hW0]; exact heap_alloc_new _ _
  have BB : Hid (Below w.heap.size w W0) := B0
  have Q0 : Hid (W0.heap[w.heap.size]? = some (.cells tk0 27 (0, 0))) := r0
  clear hW0 B0 s0 r0
  go_wp2_with fail
  refine (newReader_any _ bs W0 (HV.out.below BB.out (Nat.le_refl _)) HB.out).mono ?_
  rintro e w1 ⟨g, t, rfl, hg, ht, hr, hb1⟩
  have R1 := hide hr
  have LQ := hide (block_lt_of_row Q0.out)
  have GL := hide (show w.heap.size < g by have := LQ.out; omega)
  have TL := hide (show w.heap.size < t by have := LQ.out; omega)
  have Q1 := hide ((hb1.block _ (block_lt_of_row Q0.out)).trans Q0.out)
  have B1 := hide (BB.out.trans (hb1.mono BB.out.size))
  obtain ⟨r0, hr0⟩ : ∃ r0 : S.Rd, r0 = ⟨bs, 0, 0, 0⟩ := ⟨_, rfl⟩
  rw [← hr0] at R1
  have HR0 := hide hr0
  clear hr hb1 hg ht hr0 Q0 BB LQ
  go_wp2_with fail
  refine (rnumber_any g t r0 4 w1 R1.out).mono ?_
  rintro e w2 ⟨rfl, h2, k2⟩
  have hnl := S.number4_lt r0
  obtain ⟨id, hid⟩ : ∃ k, k = (r0.number 4).2 := ⟨_, rfl⟩
  obtain ⟨r1, hr1⟩ : ∃ k, k = (r0.number 4).1 := ⟨_, rfl⟩
  rw [← hid] at hnl ⊢
  rw [← hr1] at h2
  have EI := hide hid
  have E1 := hide hr1
  have R2 := hide h2
  have Q2 := hide (k2.row Q1.out (by have := GL.out; omega))
  have B2 := hide (B1.out.trans (k2.below w.heap.size B1.out.size (fun k hk e => by have := GL.out; omega)))
  have qi : IntKind.u32.wrap (id : Int) = (id : Int) := by rw [IntKind.wrap_u32]; omega
  obtain ⟨A3, w3, ha3, hs3, hr3, hb3, -⟩ := lay_t w2 id none 0 0 (S.zeros 32) (S.zeros_length 32)
  obtain ⟨g5, hg5⟩ : ∃ g, g = w2.heap.size := ⟨_, rfl⟩
  rw [← hg5] at ha3 hs3 hr3
  have hbj := build27j id w2
  have R3 := hide (R2.out.below hb3)
  have Q3 := hide ((hb3.block _ (block_lt_of_row Q2.out)).trans Q2.out)
  have X3 := hide hr3
  have G5 := hide (show g < g5 ∧ t < g5 ∧ w.heap.size < g5 by rw [hg5]; exact ⟨R2.out.lt, R2.out.tlt, block_lt_of_row Q2.out⟩)
  have B3 := hide (B2.out.trans (hb3.mono B2.out.size))
  have NL := hide hnl
  have S3 := hide B3.out.size
  clear h2 k2 hid hr1 hr3 hb3 hg5 hnl R1 Q1 B1 R2 Q2 B2
  go_upto_region 3 with (first | (with_reducible refine at_op { dst := some 12, op := Op.build 27 #[(0, Operand.tmp 11)], type := 27, pos := "bytes.go:31", after := #[{ on := 2, ground := Ground.data }], guard := none } ?_; refine wpList_build_as rfl 27 [(0, .tmp 11)] rfl [(0, .int .u32 (id : Int))] rfl (.agg (encT id (.slice none 0 0) (S.zeros 32)).toArray) hbj ?_) | (with_reducible refine at_op { dst := some 5, op := Op.alloc 27, type := 0, pos := "bytes.go:31", after := #[], guard := none } ?_; refine wpList_alloc_known rfl 27 rfl _ _ ha3 ?_) | (with_reducible refine at_op { dst := none, op := Op.store 27 (Operand.tmp 5) (Operand.tmp 12), type := 0, pos := "bytes.go:31", after := #[{ on := 4, ground := Ground.data }, { on := 3, ground := Ground.data }, { on := 1, ground := Ground.chain }, { on := 0, ground := Ground.phase }, { on := 1, ground := Ground.phase }, { on := 2, ground := Ground.phase }, { on := 3, ground := Ground.phase }, { on := 4, ground := Ground.phase }], guard := none } ?_; refine wpList_store_as rfl 27 (.tmp 5) (.tmp 12) rfl (.pointer (some ⟨g5, 0, none⟩)) (.agg (encT id (.slice none 0 0) (S.zeros 32)).toArray) rfl rfl w3 hs3 ?_))
  clear ha3 hs3 A3 hbj qi
  go_wp2_with fail
  refine (readCavs_any g t r1 w3 R3.out).mono ?_
  rintro e w4 ⟨cv, rfl, hc, h4, k4⟩
  obtain ⟨vo, vc, rfl⟩ := hc.form
  obtain ⟨cs, hcs⟩ : ∃ k, k = (S.readCavs r1).2 := ⟨_, rfl⟩
  obtain ⟨r2, hr2⟩ : ∃ k, k = (S.readCavs r1).1 := ⟨_, rfl⟩
  rw [← hcs] at hc ⊢
  rw [← hr2] at h4
  have E2 := hide hr2
  have EC := hide hcs
  obtain ⟨m, hm⟩ : ∃ m, m = cs.length := ⟨_, rfl⟩
  rw [← hm] at hc ⊢
  have HM := hide hm
  have C4 := hide hc
  have R4 := hide h4
  have Q4 := hide (k4.row Q3.out (by have := GL.out; omega))
  have X4 := k4.row X3.out (by have := G5.out; omega)
  have B4 := hide (B3.out.trans (k4.below w.heap.size B3.out.size (fun k hk e => by have := GL.out; omega)))
  have S4 := hide k4.size
  obtain ⟨c0, c1⟩ := t_cells X4
  have f1 := frozen_of_row _ _ 1 _ _ X4
  have X4' := hide X4
  clear hc h4 k4 hcs hr2 hm X4 R3 Q3 X3 B3
  go_upto_region 4 with fail
  generalize hW5 : World.setCell w4 ⟨g5, 1, none⟩ _ = w5
  have X5 : Hid (w5.heap[g5]? = some (.cells (encT id (.slice vo m vc) (S.zeros 32)).toArray 27 (0, 0))) := by show w5.heap[g5]? = _; rw [← hW5]; exact set_cv _ X4'.out
  have K5 : Hid (Chg (fun k => k = g5) w4 w5) := by show Chg _ w4 w5; rw [← hW5]; exact (Chg.refl _ _).setCell _ _ _ (fun _ => rfl)
  have R5 := hide (R4.out.chg K5.out (by have := G5.out; omega) (by have := G5.out; omega))
  have Q5 := hide (K5.out.row Q4.out (by have := G5.out; omega))
  have C5 := hide (C4.out.chg K5.out (fun j hj e => C4.out.apart X4'.out (by decide) (e ▸ hj)))
  have B5 := hide (B4.out.trans (K5.out.below w.heap.size B4.out.size (fun k hk e => by have := G5.out; omega)))
  clear hW5 c0 c1 f1 X4' R4 Q4 C4 B4 S4 K5
  go_wp2_with fail
  refine (rdigest_any g t r2 w5 R5.out).mono ?_
  rintro e w6 ⟨rfl, h6, k6⟩
  obtain ⟨D, hD⟩ : ∃ D, D = r2.digest.2 := ⟨_, rfl⟩
  obtain ⟨r3, hr3⟩ : ∃ k, k = r2.digest.1 := ⟨_, rfl⟩
  have LD := hide (show D.length = 32 by rw [hD]; exact r2.digest_length)
  rw [← hD]
  rw [← hr3] at h6
  have ED := hide hD
  have E3 := hide hr3
  have R6 := hide h6
  have Q6 := hide (k6.row Q5.out (by have := GL.out; omega))
  have X6 := hide (k6.row X5.out (by have := G5.out; omega))
  have C6 := hide (C5.out.chg k6 (fun j hj e => by subst e; exact C5.out.apart R5.out.row (by decide) hj))
  have B6 := hide (B5.out.trans (k6.below w.heap.size B5.out.size (fun k hk e => by have := GL.out; omega)))
  obtain ⟨w7, hs7, hx7, k7, -⟩ := store_tt (D := D) X6.out (S.zeros_length 32) LD.out
  have R7 := hide (R6.out.chg k7 (by have := G5.out; omega) (by have := G5.out; omega))
  have Q7 := hide (k7.row Q6.out (by have := G5.out; omega))
  have X7 := hide hx7
  have C7 := hide (C6.out.chg k7 (fun j hj e => C6.out.apart X6.out (by decide) (e ▸ hj)))
  have B7 := hide (B6.out.trans (k7.below w.heap.size B6.out.size (fun k hk e => by have := G5.out; omega)))
  clear h6 k6 hD hr3 hx7 k7 R5 Q5 X5 C5 B5 R6 Q6 X6 C6 B6
  go_upto_region 5 with (with_reducible refine at_op { dst := none, op := Op.store 25 (Operand.tmp 18) (Operand.tmp 17), type := 0, pos := "bytes.go:33", after := #[{ on := 2, ground := Ground.data }, { on := 1, ground := Ground.data }, { on := 1, ground := Ground.chain }, { on := 0, ground := Ground.phase }, { on := 1, ground := Ground.phase }], guard := none } ?_; refine wpList_store_as rfl 25 (.tmp 18) (.tmp 17) rfl (.pointer (some ⟨g5, 2, none⟩)) (.agg (S.v8 D)) rfl rfl w7 hs7 ?_)
  clear hs7
  have HTK := hide (show S.readTok r0 = (r3, ⟨id, cs, D⟩) by rw [S.readTok, ← E1.out, ← EI.out, ← EC.out, ← E2.out, ← ED.out, ← E3.out])
  go_wp2_with fail
  refine (rend_any g t r3 w7 R7.out).mono ?_
  rintro e w8 ⟨hd, hb8⟩
  have Q8 := hide ((hb8.block _ (block_lt_of_row Q7.out)).trans Q7.out)
  have X8 := hide ((hb8.block _ (block_lt_of_row X7.out)).trans X7.out)
  have C8 := hide (C7.out.below hb8)
  have B8 := hide (B7.out.trans (hb8.mono B7.out.size))
  have S7 := hide (block_lt_of_row Q7.out)
  clear hb8 R7 Q7 X7 C7 B7
  obtain ⟨hz, rfl⟩ | ⟨hz, q, rfl, hq, hqr⟩ := hd
  · have HE := hide (show rc = (⟨id, cs, D⟩, (0, 0)) by rw [HRC.out, S.decode, ← HR0.out, HTK.out]; exact if_pos hz)
    have ld := load_t X8.out LD.out
    obtain ⟨w9, hs9, hx9, k9, -⟩ := store_t (id := id) (ao := vo) (n := m) (m := vc) (tag := D) Q8.out tk0_size LD.out
    have X9 := hide hx9
    have C9 := hide (C8.out.chg k9 (fun j hj e => C8.out.apart Q8.out (by decide) (e ▸ hj)))
    have B9 := hide (B8.out.trans (k9.below w.heap.size B8.out.size (fun k hk e => by omega)))
    clear hz hx9 k9 Q8 X8 C8 B8
    go_wp2_with (first | (with_reducible refine at_op { dst := some 25, op := Op.load 27 (Operand.tmp 5), type := 27, pos := "bytes.go:37", after := #[], guard := none } ?_; refine wpList_load_as rfl 27 (.tmp 5) rfl (.pointer (some ⟨g5, 0, none⟩)) rfl (.agg (encT id (.slice vo m vc) D).toArray) ld ?_) | (with_reducible refine at_op { dst := none, op := Op.store 27 (Operand.tmp 2) (Operand.tmp 25), type := 0, pos := "bytes.go:37", after := #[{ on := 0, ground := Ground.data }, { on := 0, ground := Ground.phase }], guard := none } ?_; refine wpList_store_as rfl 27 (.tmp 2) (.tmp 25) rfl (.pointer (some ⟨w.heap.size, 0, none⟩)) (.agg (encT id (.slice vo m vc) D).toArray) rfl rfl w9 hs9 ?_))
    exact bodyPost_ret (v := .tuple #[.agg (encT id (.slice vo m vc) D).toArray, .nilIface]) (results_rt Tryd.results12 _ _ w.heap.size _ rfl (var27 X9.out LD.out)) rfl ⟨.slice vo m vc, .nilIface, by rw [HE.out], by rw [HE.out]; exact C9.out.mono S3.out, Or.inl ⟨by rw [HE.out], rfl⟩, B9.out⟩
  · have HE := hide (show rc = (S.t0, r3.fin) by rw [HRC.out, S.decode, ← HR0.out, HTK.out]; exact if_neg hz)
    obtain ⟨w9, hs9, hx9, k9, -⟩ := store_t (id := 0) (ao := none) (n := 0) (m := 0) (tag := S.zeros 32) Q8.out tk0_size (S.zeros_length 32)
    have X9 := hide hx9
    have QQ := hide (k9.row hqr (by have := S7.out; omega))
    have HZ := hide hz
    have HQ := hide (show w.heap.size ≤ q by have := S7.out; omega)
    have B9 := hide (B8.out.trans (k9.below w.heap.size B8.out.size (fun k hk e => by omega)))
    have hbz := build27z w8
    clear hz hx9 k9 Q8 X8 C8 B8 hq hqr
    go_wp2_with (first | (with_reducible refine at_op { dst := some 23, op := Op.build 27 #[], type := 27, pos := "bytes.go:35", after := #[], guard := none } ?_; refine wpList_build_as rfl 27 [] rfl [] rfl (.agg tk0) hbz ?_) | (with_reducible refine at_op { dst := none, op := Op.store 27 (Operand.tmp 2) (Operand.tmp 23), type := 0, pos := "bytes.go:35", after := #[{ on := 0, ground := Ground.data }, { on := 0, ground := Ground.phase }, { on := 1, ground := Ground.textOnly Departure.lateStores }], guard := none } ?_; refine wpList_store_as rfl 27 (.tmp 2) (.tmp 23) rfl (.pointer (some ⟨w.heap.size, 0, none⟩)) (.agg tk0) rfl rfl w9 hs9 ?_))
    exact bodyPost_ret (v := .tuple #[.agg tk0, .iface 93 (.pointer (some ⟨q, 0, none⟩))]) (results_rt Tryd.results12 _ _ w.heap.size _ rfl (var27 X9.out (S.zeros_length 32))) rfl ⟨.slice none 0 0, _, by rw [HE.out]; rfl, by rw [HE.out]; exact Rw.nil _ _ _ _ _, Or.inr ⟨by rw [HE.out]; exact HZ.out, q, rfl, HQ.out, by rw [HE.out]; exact QQ.out⟩, B9.out⟩
end Go.Proofs.YtlcilclhaahopaaDoor
