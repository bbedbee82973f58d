/- The range of some leaves of a list. -/
import Derived.Test.YtkljajfgdelfgaaDoorFf
import Derived.Test.YtkljajfgdelfgaaDoorMe
namespace Go.Proofs.YtkljajfgdelfgaaDoor
open Go.RowKit

namespace C
/-- What a call answers that makes a range. -/
structure Ans where
  b : Nat
  e : Nat
  hs : List (List UInt8)
  no : Nat
def no1 : Ans := ⟨0, 0, [], 1⟩
def no25 : Ans := ⟨0, 0, [], 25⟩
def ofA (a : Int) (l : List (List UInt8)) (b e : Nat) : Ans := if e < b ∨ l.length < e then no25 else ⟨b, e, ofs a l b e, 0⟩
def addA (a : Int) (b e : Nat) (hs : List (List UInt8)) (d : List UInt8) : Ans := if S.right b e hs.length = true ∧ e ≠ 4294967296 then ⟨b, e + 1, glue (S.node a) [] b e (e + 1) hs [d], 0⟩ else no1
def mergeA (a : Int) (b e : Nat) (hs : List (List UInt8)) (b' e' : Nat) (hs' : List (List UInt8)) : Ans :=
  if S.right b e hs.length = true ∧ S.right b' e' hs'.length = true then (if e = b' then ⟨b, e', glue (S.node a) [] b e e' hs hs', 0⟩ else no25) else no1
def rootA (a : Int) (b e : Nat) (hs : List (List UInt8)) : List UInt8 × Nat :=
  if S.right b e hs.length = true then (if b = 0 then ((if e = 0 then S.root a [] else fold (S.node a) [] hs), 0) else (S.zeros 32, 25)) else (S.zeros 32, 1)
end C
/-- It is answered. -/
def Ansd (w w' : World) (r : Ending) (A : C.Ans) : Prop := (∃ v, r = .returned (.tuple #[.agg #[.int .u64 (A.b : Int), .int .u64 (A.e : Int), v], .int .i64 (A.no : Int)]) ∧ DgRow w.heap.size w' v A.hs) ∧ Below w.heap.size w w'
theorem load28 {w : World} {g : Nat} {a b : Value} {ao : Option Addr} {n cap : Nat} (h : w.heap[g]? = some (.cells #[a, b, .slice ao n cap] 30 (0, 0))) : (Instr.loadAt 28 (.pointer (some ⟨g, 2, none⟩))).run Tryd.prog w = .ok (.slice ao n cap) w := by
  obtain ⟨c0, c1, c2⟩ := cells3 h
  go_simp
set_option maxHeartbeats 20000000 in
set_option maxRecDepth 10000 in
theorem of_any (a : Int) (v : Value) (l : List (List UInt8)) (b e : Nat) (w : World) (hb : b < 18446744073709551616) (he : e < 18446744073709551616) (hv : BsAt w v l) (hl : l.length ≤ 256) (hf : Fit l) (hK : KAt w) :
   Calls Tryd.prog 12 #[.int .i64 a, v, .int .u64 (b : Int), .int .u64 (e : Int)] w fun r w' => Ansd w w' r (C.ofA a l b e) := by
  obtain ⟨lo, lc, rfl, hlc⟩ := hv.form
  obtain ⟨A, hA⟩ : ∃ A, A = C.ofA a l b e := ⟨_, rfl⟩
  rw [← hA]
  have HA := hide hA
  obtain ⟨N, hN⟩ : ∃ N, N = l.length := ⟨_, rfl⟩
  have HN := hide hN
  have HV := hide hv
  have HF := hide hf
  have HK := hide hK
  have h0 := hK.pos
  rw [← hN] at hlc hl HV ⊢
  have qn : IntKind.u64.wrap (N : Int) = (N : Int) := by rw [IntKind.wrap_u64]; omega
  clear hv hf hK hA hN
  go_enter Tryd.func12, Tryd.ntmps12
  go_upto_region 1 with fail
  generalize hW0 : w.alloc _ = W0
  have B0 : Below w.heap.size w W0 := by rw [← hW0]; exact (Below.refl _ _).alloc (Nat.le_refl _) _
  have s0 : W0.heap.size = w.heap.size + 1 := by rw [← hW0]; simp
  have r0 : W0.heap[w.heap.size]? = some (.cells #[.int .u64 0, .int .u64 0, .slice none 0 0] 30 (0, 0)) := by rw [← hW0]; exact heap_alloc_new _ _
  have BB : Hid (Below w.heap.size w W0) := B0
  have Q0 : Hid (W0.heap[w.heap.size]? = some (.cells #[.int .u64 0, .int .u64 0, .slice none 0 0] 30 (0, 0))) := r0
  clear hW0 B0 s0 r0
  obtain ⟨z0, z1, z2⟩ := cells3 Q0.out
  by_cases h1 : e < b ∨ N < e
  · have hA2 := hide (show A = C.no25 by rw [HA.out, C.ofA, if_pos (by rw [← HN.out]; exact h1)])
    obtain ⟨YF, hsf, rf, cf, sf⟩ := store_rg (x := .int .u64 0) (y := .int .u64 0) (z := .slice none 0 0) Q0.out rfl rfl rfl
    have RF := hide rf
    have BF := hide (BB.out.trans (cf.below w.heap.size BB.out.size (fun j hj e => by omega)))
    clear rf cf sf Q0 z0 z1 z2
    by_cases h2 : e < b
    · have q1 : (b : Int) > (e : Int) := by omega
      have q1' : (e : Int) < (b : Int) := by omega
      clear h1
      go_wp2_with (with_reducible refine at_op { dst := none, op := Op.store 30 (Operand.tmp 8) (Operand.tmp 24), type := 0, pos := "compact.go:23", after := #[{ on := 0, ground := Ground.data }, { on := 0, ground := Ground.phase }], guard := none } ?_; refine wpList_store_as rfl 30 (.tmp 8) (.tmp 24) rfl (.pointer (some ⟨w.heap.size, 0, none⟩)) (.agg #[.int .u64 0, .int .u64 0, .slice none 0 0]) rfl rfl YF hsf ?_)
      exact bodyPost_ret (v := .tuple #[.agg #[.int .u64 0, .int .u64 0, .slice none 0 0], .int .i64 25]) (results_rt Tryd.results12 _ _ w.heap.size _ rfl (var30 RF.out)) rfl ⟨⟨_, by rw [hA2.out]; rfl, by rw [hA2.out]; exact DgRow.nil _ _⟩, BF.out⟩
    · have q1 : ¬ (b : Int) > (e : Int) := by omega
      have q1' : ¬ (e : Int) < (b : Int) := by omega
      have q2 : (e : Int) > (N : Int) := by omega
      have q2' : (N : Int) < (e : Int) := by omega
      clear h1
      go_wp2_with (with_reducible refine at_op { dst := none, op := Op.store 30 (Operand.tmp 8) (Operand.tmp 24), type := 0, pos := "compact.go:23", after := #[{ on := 0, ground := Ground.data }, { on := 0, ground := Ground.phase }], guard := none } ?_; refine wpList_store_as rfl 30 (.tmp 8) (.tmp 24) rfl (.pointer (some ⟨w.heap.size, 0, none⟩)) (.agg #[.int .u64 0, .int .u64 0, .slice none 0 0]) rfl rfl YF hsf ?_)
      exact bodyPost_ret (v := .tuple #[.agg #[.int .u64 0, .int .u64 0, .slice none 0 0], .int .i64 25]) (results_rt Tryd.results12 _ _ w.heap.size _ rfl (var30 RF.out)) rfl ⟨⟨_, by rw [hA2.out]; rfl, by rw [hA2.out]; exact DgRow.nil _ _⟩, BF.out⟩
  · have q1 : ¬ (b : Int) > (e : Int) := by omega
    have q1' : ¬ (e : Int) < (b : Int) := by omega
    have q2 : ¬ (e : Int) > (N : Int) := by omega
    have q2' : ¬ (N : Int) < (e : Int) := by omega
    have hbe : b ≤ e := by omega
    have heN : e ≤ N := by omega
    obtain ⟨O, hO⟩ : ∃ O, O = C.ofs a l b e := ⟨_, rfl⟩
    have hA2 := hide (show A = ⟨b, e, O, 0⟩ by rw [HA.out, C.ofA, if_neg (by rw [← HN.out]; exact h1), hO])
    obtain ⟨ss, hss⟩ : ∃ ss, ss = C.blocks b e := ⟨_, rfl⟩
    have HT := hide (show C.Tiles b e ss by rw [hss]; exact C.blocks_tiles _ b e rfl hbe (by omega))
    have h64 : ss.length ≤ 64 := by rw [hss]; exact C.blocks_len b e
    have HO := hide (show O = C.vals (C.rt a l) b ss by rw [hO, C.ofs, hss])
    have HS := hide hss
    clear h1 hO hss
    go_upto_region 5 with fail
    generalize hW5 : W0.alloc _ = W5
    obtain ⟨gr, hgr⟩ : ∃ g, g = W0.heap.size := ⟨_, rfl⟩
    have b5 : Below W0.heap.size W0 W5 := by rw [← hW5]; exact (Below.refl _ _).alloc (Nat.le_refl _) _
    have RR0 : W5.heap[gr]? = some (.cells #[.int .u64 (b : Int), .int .u64 (e : Int), .slice none 0 0] 30 (0, 0)) := by rw [← hW5, hgr]; exact heap_alloc_new _ _
    rw [← hgr]
    have Q5 := hide ((b5.block _ (block_lt_of_row Q0.out)).trans Q0.out)
    have BW5 := hide (BB.out.trans (b5.mono BB.out.size))
    have GR := hide (show w.heap.size < gr by rw [hgr]; exact block_lt_of_row Q0.out)
    clear hW5 b5 hgr z0 z1 z2 Q0 BB
    go_wp2_with fail
    refine (blocks_any b e W5 hb he).mono ?_
    rintro r W6 ⟨⟨vb, rfl, hvb⟩, hb6⟩
    rw [← HS.out] at hvb
    obtain ⟨bo, bc, rfl⟩ := hvb.form
    have HVB := hide hvb
    have RR : Hid (W6.heap[gr]? = some (.cells #[.int .u64 (b : Int), .int .u64 (e : Int), .slice none 0 0] 30 (0, 0))) := (hb6.block _ (block_lt_of_row RR0)).trans RR0
    have Q6 : Hid (W6.heap[w.heap.size]? = some (.cells #[.int .u64 0, .int .u64 0, .slice none 0 0] 30 (0, 0))) := (hb6.block _ (block_lt_of_row Q5.out)).trans Q5.out
    have BW6 := hide (BW5.out.trans (hb6.mono BW5.out.size))
    have GR6 := hide (block_lt_of_row RR.out)
    have R60 := RR
    obtain ⟨M, hM⟩ : ∃ M, M = ss.length := ⟨_, rfl⟩
    rw [← hM] at HVB h64 ⊢
    have HM := hide hM
    clear hvb hb6 RR0 Q5 BW5 hM
    go_wp2_with fail
    go_loopg [11, 33] M (fun gk s11 s33 wr => ∃ (k p n c : Nat) (ao : Option Addr) (ds : List (List UInt8)), k + gk = M ∧ s33 = .int .i64 (k : Int) ∧ s11 = .int .u64 (p : Int) ∧ n = k ∧ ds.length = k ∧ Hid (C.Tiles p e (ss.drop k)) ∧ Hid (O = ds ++ C.vals (C.rt a l) p (ss.drop k)) ∧ Hid (DgRow W6.heap.size wr (.slice ao n c) ds) ∧ Hid (wr.heap[gr]? = some (.cells #[.int .u64 (b : Int), .int .u64 (e : Int), .slice ao n c] 30 (0, 0))) ∧ Hid (Chg (fun j => j = gr) W6 wr))
    case atStart => exact ⟨0, b, 0, 0, none, [], by omega, rfl, rfl, rfl, rfl, HT, HO, DgRow.nil _ _, RR, Chg.refl _ _⟩
    case round =>
      clear RR HO HT
      obtain ⟨k, p, n, c, ao, ds, hk, rfl, rfl, hnk, hds, HT, HO, HD, RR, CW⟩ := hrel
      cases gk with
      | zero =>
        have hkM : k = M := by omega
        have qk : ¬ (k : Int) < (M : Int) := by omega
        have hd : ss.drop k = [] := List.drop_eq_nil_of_le (by rw [← HM.out, hkM]; exact Nat.le_refl _)
        have DF := hide (show DgRow w.heap.size wr (.slice ao n c) O by
          rw [HO.out, hd, C.vals, List.append_nil]
          exact HD.out.mono BW6.out.size)
        obtain ⟨c0, c1, c2⟩ := cells3 RR.out
        have QF : Hid (wr.heap[w.heap.size]? = some (.cells #[.int .u64 0, .int .u64 0, .slice none 0 0] 30 (0, 0))) := CW.out.row Q6.out (by have := GR.out; omega)
        have BF := hide (BW6.out.trans (CW.out.below w.heap.size BW6.out.size (fun j hj e => by have := GR.out; omega)))
        obtain ⟨YF, hsf, rf, cf, sf⟩ := store_rg (x := .int .u64 (b : Int)) (y := .int .u64 (e : Int)) (z := .slice ao n c) QF.out rfl rfl rfl
        have RF := hide rf
        have DFF := hide (Rw.chg (el := 23) DF.out cf (fun j hj e => (Rw.apart (el := 23) DF.out QF.out (by decide)) (by rw [← e]; exact hj)))
        have BFF := hide (BF.out.trans (cf.below w.heap.size BF.out.size (fun j hj e => by omega)))
        clear rf cf sf DF BF QF hkM hk hnk hds hd HD RR CW HO HT
        go_wp2_with (with_reducible refine at_op { dst := none, op := Op.store 30 (Operand.tmp 8) (Operand.tmp 54), type := 0, pos := "compact.go:31", after := #[{ on := 0, ground := Ground.data }, { on := 0, ground := Ground.phase }], guard := none } ?_; refine wpList_store_as rfl 30 (.tmp 8) (.tmp 54) rfl (.pointer (some ⟨w.heap.size, 0, none⟩)) (.agg #[.int .u64 (b : Int), .int .u64 (e : Int), .slice ao n c]) rfl rfl YF hsf ?_)
        exact bodyPost_ret (v := .tuple #[.agg #[.int .u64 (b : Int), .int .u64 (e : Int), .slice ao n c], .int .i64 0]) (results_rt Tryd.results12 _ _ w.heap.size _ rfl (var30 RF.out)) rfl ⟨⟨_, by rw [hA2.out]; rfl, by rw [hA2.out]; exact DFF.out⟩, BFF.out⟩
      | succ gO =>
        have qk : (k : Int) < (M : Int) := by omega
        have qk0 : (0 : Int) ≤ (k : Int) := by omega
        have qk1 : IntKind.i64.wrap ((k : Int) + 1) = (k : Int) + 1 := by rw [IntKind.wrap_i64]; omega
        have hks : k < ss.length := by rw [← HM.out]; omega
        obtain ⟨t, ht⟩ : ∃ t, ss[k]? = some t := ⟨_, List.getElem?_eq_getElem hks⟩
        have hsd : ss.drop k = t :: ss.drop (k + 1) := by rw [List.drop_eq_getElem_cons hks]; congr 1; rw [List.getElem?_eq_getElem hks] at ht; exact Option.some.inj ht
        obtain ⟨gn, cn, en, hgn, hgB, hcn⟩ := (HVB.out).cell k t ht
        simp only [Value.slice.injEq] at en
        obtain ⟨rfl, eN, rfl⟩ := en
        clear eN
        have hngr : gn ≠ gr := fun e => by
          have := (Rw.apart HVB.out (show W6.heap[gr]? = _ from R60.out) (by decide))
          exact this (by rw [e]; rfl)
        have hcn2 : wr.cell? ⟨gn, k, none⟩ = some (.int .u64 (t : Int)) := (World.cell?_of_block (CW.out.block gn hgn hngr)).trans hcn
        have hT := HT.out
        rw [hsd] at hT
        have hpt : p + t ≤ e := C.tiles_le _ _ _ hT.2.2
        have ht0 : 0 < t := by obtain ⟨⟨i, hi⟩, _⟩ := hT; rw [hi]; exact C.two_pos i
        have HTN := hide hT.2.2
        obtain ⟨D, hD⟩ : ∃ D, D = C.rt a l p t := ⟨_, rfl⟩
        have LD := hide (show D.length = 32 by rw [hD]; exact S.root_length _ _)
        have HON : Hid (O = (ds ++ [D]) ++ C.vals (C.rt a l) (p + t) (ss.drop (k + 1))) := by
          have := HO.out
          rw [hsd, C.vals, ← hD] at this
          rw [List.append_assoc]; exact this
        have HD2 := hide (show D = S.root a ((l.drop p).take t) by rw [hD]; rfl)
        obtain ⟨vb', vo, vc, ev, hvc, hvb, -⟩ := HV.out.src (by have := HN.out; omega)
        simp only [Value.slice.injEq] at ev
        obtain ⟨rfl, -, rfl⟩ := ev
        have qa : IntKind.u64.wrap ((p : Int) + (t : Int)) = ((p + t : Nat) : Int) := by rw [IntKind.wrap_u64]; omega
        obtain ⟨pt, hpt2⟩ : ∃ n, n = p + t := ⟨_, rfl⟩
        rw [← hpt2] at qa
        have HPT := hide hpt2
        have q5 : (0 : Int) ≤ (p : Int) := by omega
        have q6 : (p : Int) ≤ (pt : Int) := by omega
        have q7 : (pt : Int) ≤ (lc : Int) := by omega
        have q8 : ¬ lc = p := by omega
        have HVS := hide (show BsAt w (.slice (some ⟨vb', vo + p, none⟩) t (lc - p)) ((l.drop p).take t) from (HV.out.drop p (by have := HN.out; omega)).take t (by rw [List.length_drop]; have := HN.out; omega))
        have hst2 : pt - p = t := by omega
        have HFS := hide (show Fit ((l.drop p).take t) from fun x hx => HF.out x (List.mem_of_mem_drop (List.mem_of_mem_take hx)))
        have h256 := hide (show ((l.drop p).take t).length ≤ 256 by rw [List.length_take, List.length_drop]; omega)
        have HDS := hide hds
        have HNK := hide hnk
        have BWR := hide (BW6.out.trans (CW.out.below w.heap.size BW6.out.size (fun j hj e => by have := GR.out; omega)))
        clear hsd ht hks hgB hgn hcn hngr hT hD HT HO hpt2 hvc hvb hds hnk
        have HWN := hide (show ∀ j, (Value.slice ao n c).ownBlock = some j → W6.heap.size ≤ j from fun j hj => (Rw.blk (el := 23) HD.out hj).1)
        have HDL := hide (show ds.length ≤ 64 by have := HDS.out; omega)
        go_wp2_with fail
        refine wp_region_noPanic ?_
        refine wp_region_held_drew (S := (fun W => Chg (fun j => j = gr ∨ (Value.slice ao n c).ownBlock = some j) wr W)) follows ((Chg.refl _ _).drew) (fun hHeld => ?_)
        clear hHeld
        have hHeld : Chg (fun j => j = gr ∨ (Value.slice ao n c).ownBlock = some j) wr wr.drew := (Chg.refl _ _).drew
        have CZ0 := hide hHeld
        have RR' : Hid (wr.drew.heap[gr]? = some (.cells #[.int .u64 (b : Int), .int .u64 (e : Int), .slice ao n c] 30 (0, 0))) := RR.out
        have HD' : Hid (DgRow W6.heap.size wr.drew (.slice ao n c) ds) := HD.out.below ((Below.refl _ _).drew)
        generalize wr.drew = Z0 at CZ0 hHeld RR' HD' ⊢
        refine wpAnyH_take (i := 0) (oi := { dst := some 37, op := Op.fieldAddr 30 (Operand.tmp 10) 2, type := 0, pos := "compact.go:28", after := #[], guard := none }) (v := ?_) rfl (by kernel_rfl) (by kernel_rfl) (by kernel_rfl) (fun _ _ _ h => h) (Or.inl ⟨by rfl, ?_⟩) (by assumption) ?_
        rotate_left
        · intro w hSw
          clear hSw
          go_simp
          all_goals with_reducible rfl
        simp only [Act.put, List.setIfInBounds_toArray, List.set_cons_zero, List.set_cons_succ]
        refine wpAnyH_take (i := 2) (oi := { dst := some 39, op := Op.move (Operand.tmp 0), type := 3, pos := "compact.go:28", after := #[], guard := none }) (v := ?_) rfl (by kernel_rfl) (by kernel_rfl) (by kernel_rfl) (fun _ _ _ h => h) (Or.inl ⟨by rfl, ?_⟩) (by assumption) ?_
        rotate_left
        · intro w hSw
          clear hSw
          go_simp
          all_goals with_reducible rfl
        simp only [Act.put, List.setIfInBounds_toArray, List.set_cons_zero, List.set_cons_succ]
        refine wpAnyH_take (i := 3) (oi := { dst := some 40, op := Op.move (Operand.tmp 1), type := 53, pos := "compact.go:28", after := #[], guard := none }) (v := ?_) rfl (by kernel_rfl) (by kernel_rfl) (by kernel_rfl) (fun _ _ _ h => h) (Or.inl ⟨by rfl, ?_⟩) (by assumption) ?_
        rotate_left
        · intro w hSw
          clear hSw
          go_simp
          all_goals with_reducible rfl
        simp only [Act.put, List.setIfInBounds_toArray, List.set_cons_zero, List.set_cons_succ]
        refine wpAnyH_take (i := 4) (oi := { dst := some 41, op := Op.move (Operand.tmp 11), type := 27, pos := "compact.go:28", after := #[], guard := none }) (v := ?_) rfl (by kernel_rfl) (by kernel_rfl) (by kernel_rfl) (fun _ _ _ h => h) (Or.inl ⟨by rfl, ?_⟩) (by assumption) ?_
        rotate_left
        · intro w hSw
          clear hSw
          go_simp
          all_goals with_reducible rfl
        simp only [Act.put, List.setIfInBounds_toArray, List.set_cons_zero, List.set_cons_succ]
        refine wpAnyH_take (i := 5) (oi := { dst := some 42, op := Op.move (Operand.tmp 11), type := 27, pos := "compact.go:28", after := #[], guard := none }) (v := ?_) rfl (by kernel_rfl) (by kernel_rfl) (by kernel_rfl) (fun _ _ _ h => h) (Or.inl ⟨by rfl, ?_⟩) (by assumption) ?_
        rotate_left
        · intro w hSw
          clear hSw
          go_simp
          all_goals with_reducible rfl
        simp only [Act.put, List.setIfInBounds_toArray, List.set_cons_zero, List.set_cons_succ]
        refine wpAnyH_take (i := 6) (oi := { dst := some 43, op := Op.move (Operand.tmp 13), type := 27, pos := "compact.go:28", after := #[], guard := none }) (v := ?_) rfl (by kernel_rfl) (by kernel_rfl) (by kernel_rfl) (fun _ _ _ h => h) (Or.inl ⟨by rfl, ?_⟩) (by assumption) ?_
        rotate_left
        · intro w hSw
          clear hSw
          go_simp
          all_goals with_reducible rfl
        simp only [Act.put, List.setIfInBounds_toArray, List.set_cons_zero, List.set_cons_succ]
        refine wpAnyH_take (i := 7) (oi := { dst := some 44, op := Op.binOp BinOp.add 27 (Operand.tmp 42) (Operand.tmp 43) 27, type := 27, pos := "compact.go:28", after := #[{ on := 5, ground := Ground.data }, { on := 6, ground := Ground.data }], guard := none }) (v := ?_) rfl (by kernel_rfl) (by kernel_rfl) (by kernel_rfl) (fun _ _ _ h => h) (Or.inl ⟨by rfl, ?_⟩) (by assumption) ?_
        rotate_left
        · intro w hSw
          clear hSw
          go_simp
          all_goals with_reducible rfl
        simp only [Act.put, List.setIfInBounds_toArray, List.set_cons_zero, List.set_cons_succ]
        refine wpAnyH_take (i := 8) (oi := { dst := some 45, op := Op.slice 53 (Operand.tmp 40) (some (Operand.tmp 41)) (some (Operand.tmp 44)) none, type := 53, pos := "compact.go:28", after := #[{ on := 3, ground := Ground.data }, { on := 4, ground := Ground.data }, { on := 7, ground := Ground.data }], guard := none }) (v := ?_) rfl (by kernel_rfl) (by kernel_rfl) (by kernel_rfl) (fun _ _ _ h => h) (Or.inl ⟨by rfl, ?_⟩) (by assumption) ?_
        rotate_left
        · intro w hSw
          clear hSw
          go_simp
          all_goals with_reducible rfl
        simp only [Act.put, List.setIfInBounds_toArray, List.set_cons_zero, List.set_cons_succ]
        refine wpAnyH_ready (rs := [1, 9]) (by kernel_rfl) (by simp) ?_
        refine step_load (o := { dst := some 38, op := Op.load 28 (Operand.tmp 37), type := 28, pos := "compact.go:28", after := #[{ on := 0, ground := Ground.data }], guard := none }) rfl rfl 28 (.tmp 37) rfl (.slice ao n c) (load28 RR'.out) ?_ ⟨CZ0.out, fun hHeld => ?_⟩
        rotate_left
        · skip
          simp only [Act.put, List.setIfInBounds_toArray, List.set_cons_zero, List.set_cons_succ]
          refine wpAnyH_ready (rs := [9]) (by kernel_rfl) (by simp) ?_
          refine AllReadyH.cons (o := { dst := some 46, op := Op.call { callee := Callee.value (Operand.func 31), args := #[Operand.tmp 39, Operand.tmp 45], argTypes := #[3, 53] }, type := 23, pos := "compact.go:28", after := #[{ on := 2, ground := Ground.data }, { on := 8, ground := Ground.data }], guard := none }) rfl (fun K hK => ?_) AllReadyH.nil
          go_simp
          refine (root_any a (.slice (some ⟨vb', vo + p, none⟩) t (lc - p)) ((l.drop p).take t) Z0 (HVS.out.below (BWR.out.trans (CZ0.out.below w.heap.size BWR.out.size (fun k hk e => by rcases e with e | e; (have := GR.out; omega); (have := HWN.out k e; have := BW6.out.size; omega)))) (Nat.le_refl _)) h256.out HFS.out (HK.out.below (BWR.out.trans (CZ0.out.below w.heap.size BWR.out.size (fun k hk e => by rcases e with e | e; (have := GR.out; omega); (have := HWN.out k e; have := BW6.out.size; omega)))) h0)).mono ?_
          rintro e Z1 ⟨rfl, hb2⟩
          rw [← HD2.out]
          replace RR' : Hid (Z1.heap[gr]? = some (.cells #[.int .u64 (b : Int), .int .u64 (e : Int), .slice ao n c] 30 (0, 0))) := (hb2.block _ (block_lt_of_row RR'.out)).trans RR'.out
          replace HD' : Hid (DgRow W6.heap.size Z1 (.slice ao n c) ds) := HD'.out.below hb2
          have CZ1 : Hid (Chg (fun j => j = gr ∨ (Value.slice ao n c).ownBlock = some j) wr Z1) := CZ0.out.then hb2
          clear hb2 CZ0
          clear hHeld
          refine hK.out _ _ CZ1.out (fun hHeld => ?_)
          clear hK K
          try simp only [Act.put, List.setIfInBounds_toArray, List.set_cons_zero, List.set_cons_succ]
          refine wpAnyH_ready (rs := [10]) (by kernel_rfl) (by simp) ?_
          refine step_buildSlice_as (o := { dst := some 47, op := Op.buildSlice 28 1 #[(0, Operand.tmp 46)], type := 28, pos := "compact.go:28", after := #[{ on := 9, ground := Ground.data }], guard := none }) rfl rfl 28 1 [(0, .tmp 46)] rfl [(0, .agg (S.v8 D))] rfl _ _ (bs24one Z1 D LD.out) AllReadyH.nil ⟨CZ1.out.alloc _, fun hHeld => ?_⟩
          clear hHeld
          simp only [Act.put, List.setIfInBounds_toArray, List.set_cons_zero, List.set_cons_succ]
          obtain ⟨gl, hgl⟩ : ∃ gg, gg = Z1.heap.size := ⟨_, rfl⟩
          rw [← hgl]
          generalize hZ : Z1.alloc _ = Z2
          have hb2 : Below Z1.heap.size Z1 Z2 := by rw [← hZ]; exact (Below.refl _ _).alloc (Nat.le_refl _) _
          have Rgl : Hid (Z2.heap[gl]? = some (.cells (S.v8 D) 23 (0, 0))) := by rw [← hZ, hgl]; exact heap_alloc_new _ _
          have Ggl := hide (show wr.heap.size ≤ gl by rw [hgl]; exact CZ1.out.size)
          clear hZ hgl
          replace RR' : Hid (Z2.heap[gr]? = some (.cells #[.int .u64 (b : Int), .int .u64 (e : Int), .slice ao n c] 30 (0, 0))) := (hb2.block _ (block_lt_of_row RR'.out)).trans RR'.out
          replace HD' : Hid (DgRow W6.heap.size Z2 (.slice ao n c) ds) := HD'.out.below hb2
          have CZ2 : Hid (Chg (fun j => j = gr ∨ (Value.slice ao n c).ownBlock = some j) wr Z2) := CZ1.out.then hb2
          clear hb2 CZ1
          have hHeld := CZ2.out
          refine wpAnyH_ready (rs := [11]) (by kernel_rfl) (by simp) ?_
          obtain ⟨vn, Z3, hst, hR9, hC9⟩ := Rw.append kdD 28 (w := Z2) (v := .slice ao n c) HD'.out (Sce.of_row (c := 1) (show Z2.heap[gl]? = some (.cells (S.v8l D).toArray 23 (0, 0)) by rw [← S.v8_eq]; exact Rgl.out)) (fun y hy => by simp only [List.mem_singleton] at hy; rw [hy, S.v8l_length, LD.out]) (by simp only [List.length_cons, List.length_nil]; have := HDL.out; omega) (Nat.le_trans CW.out.size CZ2.out.size)
          obtain ⟨o9, c9, rfl⟩ := Rw.form hR9
          obtain ⟨n9, hn9⟩ : ∃ m, m = (ds ++ [D]).length := ⟨_, rfl⟩
          rw [← hn9] at hst hR9
          have C6 : Chg (fun j => j = gr ∨ (Value.slice ao n c).ownBlock = some j) Z2 Z3 := hC9.mono (fun j _ e => Or.inr e)
          refine step_append_as (o := { dst := some 48, op := Op.call { callee := Callee.builtin Builtin.append, args := #[Operand.tmp 38, Operand.tmp 47], argTypes := #[28, 28] }, type := 28, pos := "compact.go:28", after := #[{ on := 1, ground := Ground.data }, { on := 10, ground := Ground.data }, { on := 9, ground := Ground.chain }], guard := none }) rfl rfl (.tmp 38) (.tmp 47) 28 28 rfl (.slice ao n c) (.slice (some ⟨gl, 0, none⟩) 1 1) rfl rfl (.slice o9 n9 c9) Z3 hst AllReadyH.nil ⟨CZ2.out.trans C6 (fun k hk e => e), fun hHeld => ?_⟩
          have CZ3 : Hid (Chg (fun j => j = gr ∨ (Value.slice ao n c).ownBlock = some j) wr Z3) := CZ2.out.trans C6 (fun k hk e => e)
          have RR9 : Hid (Z3.heap[gr]? = some (.cells #[.int .u64 (b : Int), .int .u64 (e : Int), .slice ao n c] 30 (0, 0))) := hC9.row RR'.out (Rw.apart (el := 23) HD'.out RR'.out (by decide))
          have HR9 := hide hR9
          have HN9 := hide hn9
          clear hst C6 hC9 hR9 hn9 CZ2 RR' HD' Rgl
          simp only [Act.put, List.setIfInBounds_toArray, List.set_cons_zero, List.set_cons_succ]
          refine wpAnyH_take (i := 12) (oi := { dst := some 49, op := Op.fieldAddr 30 (Operand.tmp 10) 2, type := 0, pos := "compact.go:28", after := #[{ on := 0, ground := Ground.phase }, { on := 1, ground := Ground.phase }, { on := 2, ground := Ground.phase }, { on := 3, ground := Ground.phase }, { on := 4, ground := Ground.phase }, { on := 5, ground := Ground.phase }, { on := 6, ground := Ground.phase }, { on := 7, ground := Ground.phase }, { on := 8, ground := Ground.phase }, { on := 9, ground := Ground.phase }, { on := 10, ground := Ground.phase }, { on := 11, ground := Ground.phase }], guard := none }) (v := ?_) rfl (by kernel_rfl) (by kernel_rfl) (by kernel_rfl) (fun _ _ _ h => h) (Or.inl ⟨by rfl, ?_⟩) (by assumption) ?_
          rotate_left
          · intro w hSw
            clear hSw
            go_simp
            all_goals with_reducible rfl
          simp only [Act.put, List.setIfInBounds_toArray, List.set_cons_zero, List.set_cons_succ]
          refine wpAnyH_ready (rs := [13]) (by kernel_rfl) (by simp) ?_
          obtain ⟨Z4, hst, r6, C6, s6⟩ := store28 o9 n9 c9 RR9.out
          refine step_store_as (o := { dst := none, op := Op.store 28 (Operand.tmp 49) (Operand.tmp 48), type := 0, pos := "compact.go:28", after := #[{ on := 12, ground := Ground.data }, { on := 11, ground := Ground.data }, { on := 11, ground := Ground.chain }, { on := 0, ground := Ground.phase }, { on := 1, ground := Ground.phase }, { on := 2, ground := Ground.phase }, { on := 3, ground := Ground.phase }, { on := 4, ground := Ground.phase }, { on := 5, ground := Ground.phase }, { on := 6, ground := Ground.phase }, { on := 7, ground := Ground.phase }, { on := 8, ground := Ground.phase }, { on := 9, ground := Ground.phase }, { on := 10, ground := Ground.phase }, { on := 11, ground := Ground.phase }], guard := none }) rfl rfl 28 (.tmp 49) (.tmp 48) rfl _ _ rfl rfl Z4 hst AllReadyH.nil ⟨CZ3.out.trans C6 (fun k hk e => Or.inl e), fun hHeld => ?_⟩
          have CZ4 : Hid (Chg (fun j => j = gr ∨ (Value.slice ao n c).ownBlock = some j) wr Z4) := CZ3.out.trans C6 (fun k hk e => Or.inl e)
          have RS := hide r6
          have RN := hide (Rw.chg HR9.out C6 (fun j hj e => (Rw.apart HR9.out RR9.out (by decide)) (by rw [← e]; exact hj)))
          clear hst r6 C6 s6 CZ3 HR9 RR9
          simp only [Act.put]
          refine wpAnyH_done (by kernel_rfl) ?_ _
          refine NoPanic.normal ?_
          clear hHeld
          have CS := hide ((CW.out.trans CZ4.out (fun k hk e => by rcases e with e | e; exact e; exact absurd (HWN.out k e) (by omega))))
          go_wp2_with fail
          go_roundg gO
          case measure => omega
          case rel => exact ⟨k + 1, pt, n9, c9, o9, ds ++ [D], by omega, by first | rfl | simp, rfl, by rw [HN9.out, List.length_append, HDS.out]; rfl, by rw [List.length_append, HDS.out]; rfl, by rw [HPT.out]; exact HTN, by rw [HPT.out]; exact HON, RN, RS, CS⟩
        refine AllReadyH.cons (o := { dst := some 46, op := Op.call { callee := Callee.value (Operand.func 31), args := #[Operand.tmp 39, Operand.tmp 45], argTypes := #[3, 53] }, type := 23, pos := "compact.go:28", after := #[{ on := 2, ground := Ground.data }, { on := 8, ground := Ground.data }], guard := none }) rfl (fun K hK => ?_) AllReadyH.nil
        go_simp
        refine (root_any a (.slice (some ⟨vb', vo + p, none⟩) t (lc - p)) ((l.drop p).take t) Z0 (HVS.out.below (BWR.out.trans (CZ0.out.below w.heap.size BWR.out.size (fun k hk e => by rcases e with e | e; (have := GR.out; omega); (have := HWN.out k e; have := BW6.out.size; omega)))) (Nat.le_refl _)) h256.out HFS.out (HK.out.below (BWR.out.trans (CZ0.out.below w.heap.size BWR.out.size (fun k hk e => by rcases e with e | e; (have := GR.out; omega); (have := HWN.out k e; have := BW6.out.size; omega)))) h0)).mono ?_
        rintro e Z1 ⟨rfl, hb2⟩
        rw [← HD2.out]
        replace RR' : Hid (Z1.heap[gr]? = some (.cells #[.int .u64 (b : Int), .int .u64 (e : Int), .slice ao n c] 30 (0, 0))) := (hb2.block _ (block_lt_of_row RR'.out)).trans RR'.out
        replace HD' : Hid (DgRow W6.heap.size Z1 (.slice ao n c) ds) := HD'.out.below hb2
        have CZ1 : Hid (Chg (fun j => j = gr ∨ (Value.slice ao n c).ownBlock = some j) wr Z1) := CZ0.out.then hb2
        clear hb2 CZ0
        clear hHeld
        refine hK.out _ _ CZ1.out (fun hHeld => ?_)
        clear hK K
        try simp only [Act.put, List.setIfInBounds_toArray, List.set_cons_zero, List.set_cons_succ]
        refine wpAnyH_ready (rs := [1, 10]) (by kernel_rfl) (by simp) ?_
        refine step_load (o := { dst := some 38, op := Op.load 28 (Operand.tmp 37), type := 28, pos := "compact.go:28", after := #[{ on := 0, ground := Ground.data }], guard := none }) rfl rfl 28 (.tmp 37) rfl (.slice ao n c) (load28 RR'.out) ?_ ⟨CZ1.out, fun hHeld => ?_⟩
        rotate_left
        · skip
          simp only [Act.put, List.setIfInBounds_toArray, List.set_cons_zero, List.set_cons_succ]
          refine wpAnyH_ready (rs := [10]) (by kernel_rfl) (by simp) ?_
          refine step_buildSlice_as (o := { dst := some 47, op := Op.buildSlice 28 1 #[(0, Operand.tmp 46)], type := 28, pos := "compact.go:28", after := #[{ on := 9, ground := Ground.data }], guard := none }) rfl rfl 28 1 [(0, .tmp 46)] rfl [(0, .agg (S.v8 D))] rfl _ _ (bs24one Z1 D LD.out) AllReadyH.nil ⟨CZ1.out.alloc _, fun hHeld => ?_⟩
          clear hHeld
          simp only [Act.put, List.setIfInBounds_toArray, List.set_cons_zero, List.set_cons_succ]
          obtain ⟨gl, hgl⟩ : ∃ gg, gg = Z1.heap.size := ⟨_, rfl⟩
          rw [← hgl]
          generalize hZ : Z1.alloc _ = Z2
          have hb2 : Below Z1.heap.size Z1 Z2 := by rw [← hZ]; exact (Below.refl _ _).alloc (Nat.le_refl _) _
          have Rgl : Hid (Z2.heap[gl]? = some (.cells (S.v8 D) 23 (0, 0))) := by rw [← hZ, hgl]; exact heap_alloc_new _ _
          have Ggl := hide (show wr.heap.size ≤ gl by rw [hgl]; exact CZ1.out.size)
          clear hZ hgl
          replace RR' : Hid (Z2.heap[gr]? = some (.cells #[.int .u64 (b : Int), .int .u64 (e : Int), .slice ao n c] 30 (0, 0))) := (hb2.block _ (block_lt_of_row RR'.out)).trans RR'.out
          replace HD' : Hid (DgRow W6.heap.size Z2 (.slice ao n c) ds) := HD'.out.below hb2
          have CZ2 : Hid (Chg (fun j => j = gr ∨ (Value.slice ao n c).ownBlock = some j) wr Z2) := CZ1.out.then hb2
          clear hb2 CZ1
          have hHeld := CZ2.out
          refine wpAnyH_ready (rs := [11]) (by kernel_rfl) (by simp) ?_
          obtain ⟨vn, Z3, hst, hR9, hC9⟩ := Rw.append kdD 28 (w := Z2) (v := .slice ao n c) HD'.out (Sce.of_row (c := 1) (show Z2.heap[gl]? = some (.cells (S.v8l D).toArray 23 (0, 0)) by rw [← S.v8_eq]; exact Rgl.out)) (fun y hy => by simp only [List.mem_singleton] at hy; rw [hy, S.v8l_length, LD.out]) (by simp only [List.length_cons, List.length_nil]; have := HDL.out; omega) (Nat.le_trans CW.out.size CZ2.out.size)
          obtain ⟨o9, c9, rfl⟩ := Rw.form hR9
          obtain ⟨n9, hn9⟩ : ∃ m, m = (ds ++ [D]).length := ⟨_, rfl⟩
          rw [← hn9] at hst hR9
          have C6 : Chg (fun j => j = gr ∨ (Value.slice ao n c).ownBlock = some j) Z2 Z3 := hC9.mono (fun j _ e => Or.inr e)
          refine step_append_as (o := { dst := some 48, op := Op.call { callee := Callee.builtin Builtin.append, args := #[Operand.tmp 38, Operand.tmp 47], argTypes := #[28, 28] }, type := 28, pos := "compact.go:28", after := #[{ on := 1, ground := Ground.data }, { on := 10, ground := Ground.data }, { on := 9, ground := Ground.chain }], guard := none }) rfl rfl (.tmp 38) (.tmp 47) 28 28 rfl (.slice ao n c) (.slice (some ⟨gl, 0, none⟩) 1 1) rfl rfl (.slice o9 n9 c9) Z3 hst AllReadyH.nil ⟨CZ2.out.trans C6 (fun k hk e => e), fun hHeld => ?_⟩
          have CZ3 : Hid (Chg (fun j => j = gr ∨ (Value.slice ao n c).ownBlock = some j) wr Z3) := CZ2.out.trans C6 (fun k hk e => e)
          have RR9 : Hid (Z3.heap[gr]? = some (.cells #[.int .u64 (b : Int), .int .u64 (e : Int), .slice ao n c] 30 (0, 0))) := hC9.row RR'.out (Rw.apart (el := 23) HD'.out RR'.out (by decide))
          have HR9 := hide hR9
          have HN9 := hide hn9
          clear hst C6 hC9 hR9 hn9 CZ2 RR' HD' Rgl
          simp only [Act.put, List.setIfInBounds_toArray, List.set_cons_zero, List.set_cons_succ]
          refine wpAnyH_take (i := 12) (oi := { dst := some 49, op := Op.fieldAddr 30 (Operand.tmp 10) 2, type := 0, pos := "compact.go:28", after := #[{ on := 0, ground := Ground.phase }, { on := 1, ground := Ground.phase }, { on := 2, ground := Ground.phase }, { on := 3, ground := Ground.phase }, { on := 4, ground := Ground.phase }, { on := 5, ground := Ground.phase }, { on := 6, ground := Ground.phase }, { on := 7, ground := Ground.phase }, { on := 8, ground := Ground.phase }, { on := 9, ground := Ground.phase }, { on := 10, ground := Ground.phase }, { on := 11, ground := Ground.phase }], guard := none }) (v := ?_) rfl (by kernel_rfl) (by kernel_rfl) (by kernel_rfl) (fun _ _ _ h => h) (Or.inl ⟨by rfl, ?_⟩) (by assumption) ?_
          rotate_left
          · intro w hSw
            clear hSw
            go_simp
            all_goals with_reducible rfl
          simp only [Act.put, List.setIfInBounds_toArray, List.set_cons_zero, List.set_cons_succ]
          refine wpAnyH_ready (rs := [13]) (by kernel_rfl) (by simp) ?_
          obtain ⟨Z4, hst, r6, C6, s6⟩ := store28 o9 n9 c9 RR9.out
          refine step_store_as (o := { dst := none, op := Op.store 28 (Operand.tmp 49) (Operand.tmp 48), type := 0, pos := "compact.go:28", after := #[{ on := 12, ground := Ground.data }, { on := 11, ground := Ground.data }, { on := 11, ground := Ground.chain }, { on := 0, ground := Ground.phase }, { on := 1, ground := Ground.phase }, { on := 2, ground := Ground.phase }, { on := 3, ground := Ground.phase }, { on := 4, ground := Ground.phase }, { on := 5, ground := Ground.phase }, { on := 6, ground := Ground.phase }, { on := 7, ground := Ground.phase }, { on := 8, ground := Ground.phase }, { on := 9, ground := Ground.phase }, { on := 10, ground := Ground.phase }, { on := 11, ground := Ground.phase }], guard := none }) rfl rfl 28 (.tmp 49) (.tmp 48) rfl _ _ rfl rfl Z4 hst AllReadyH.nil ⟨CZ3.out.trans C6 (fun k hk e => Or.inl e), fun hHeld => ?_⟩
          have CZ4 : Hid (Chg (fun j => j = gr ∨ (Value.slice ao n c).ownBlock = some j) wr Z4) := CZ3.out.trans C6 (fun k hk e => Or.inl e)
          have RS := hide r6
          have RN := hide (Rw.chg HR9.out C6 (fun j hj e => (Rw.apart HR9.out RR9.out (by decide)) (by rw [← e]; exact hj)))
          clear hst r6 C6 s6 CZ3 HR9 RR9
          simp only [Act.put]
          refine wpAnyH_done (by kernel_rfl) ?_ _
          refine NoPanic.normal ?_
          clear hHeld
          have CS := hide ((CW.out.trans CZ4.out (fun k hk e => by rcases e with e | e; exact e; exact absurd (HWN.out k e) (by omega))))
          go_wp2_with fail
          go_roundg gO
          case measure => omega
          case rel => exact ⟨k + 1, pt, n9, c9, o9, ds ++ [D], by omega, by first | rfl | simp, rfl, by rw [HN9.out, List.length_append, HDS.out]; rfl, by rw [List.length_append, HDS.out]; rfl, by rw [HPT.out]; exact HTN, by rw [HPT.out]; exact HON, RN, RS, CS⟩
        refine step_buildSlice_as (o := { dst := some 47, op := Op.buildSlice 28 1 #[(0, Operand.tmp 46)], type := 28, pos := "compact.go:28", after := #[{ on := 9, ground := Ground.data }], guard := none }) rfl rfl 28 1 [(0, .tmp 46)] rfl [(0, .agg (S.v8 D))] rfl _ _ (bs24one Z1 D LD.out) AllReadyH.nil ⟨CZ1.out.alloc _, fun hHeld => ?_⟩
        clear hHeld
        simp only [Act.put, List.setIfInBounds_toArray, List.set_cons_zero, List.set_cons_succ]
        obtain ⟨gl, hgl⟩ : ∃ gg, gg = Z1.heap.size := ⟨_, rfl⟩
        rw [← hgl]
        generalize hZ : Z1.alloc _ = Z2
        have hb2 : Below Z1.heap.size Z1 Z2 := by rw [← hZ]; exact (Below.refl _ _).alloc (Nat.le_refl _) _
        have Rgl : Hid (Z2.heap[gl]? = some (.cells (S.v8 D) 23 (0, 0))) := by rw [← hZ, hgl]; exact heap_alloc_new _ _
        have Ggl := hide (show wr.heap.size ≤ gl by rw [hgl]; exact CZ1.out.size)
        clear hZ hgl
        replace RR' : Hid (Z2.heap[gr]? = some (.cells #[.int .u64 (b : Int), .int .u64 (e : Int), .slice ao n c] 30 (0, 0))) := (hb2.block _ (block_lt_of_row RR'.out)).trans RR'.out
        replace HD' : Hid (DgRow W6.heap.size Z2 (.slice ao n c) ds) := HD'.out.below hb2
        have CZ2 : Hid (Chg (fun j => j = gr ∨ (Value.slice ao n c).ownBlock = some j) wr Z2) := CZ1.out.then hb2
        clear hb2 CZ1
        have hHeld := CZ2.out
        refine wpAnyH_ready (rs := [1]) (by kernel_rfl) (by simp) ?_
        refine step_load (o := { dst := some 38, op := Op.load 28 (Operand.tmp 37), type := 28, pos := "compact.go:28", after := #[{ on := 0, ground := Ground.data }], guard := none }) rfl rfl 28 (.tmp 37) rfl (.slice ao n c) (load28 RR'.out) AllReadyH.nil ⟨CZ2.out, fun hHeld => ?_⟩
        simp only [Act.put, List.setIfInBounds_toArray, List.set_cons_zero, List.set_cons_succ]
        refine wpAnyH_ready (rs := [11]) (by kernel_rfl) (by simp) ?_
        obtain ⟨vn, Z3, hst, hR9, hC9⟩ := Rw.append kdD 28 (w := Z2) (v := .slice ao n c) HD'.out (Sce.of_row (c := 1) (show Z2.heap[gl]? = some (.cells (S.v8l D).toArray 23 (0, 0)) by rw [← S.v8_eq]; exact Rgl.out)) (fun y hy => by simp only [List.mem_singleton] at hy; rw [hy, S.v8l_length, LD.out]) (by simp only [List.length_cons, List.length_nil]; have := HDL.out; omega) (Nat.le_trans CW.out.size CZ2.out.size)
        obtain ⟨o9, c9, rfl⟩ := Rw.form hR9
        obtain ⟨n9, hn9⟩ : ∃ m, m = (ds ++ [D]).length := ⟨_, rfl⟩
        rw [← hn9] at hst hR9
        have C6 : Chg (fun j => j = gr ∨ (Value.slice ao n c).ownBlock = some j) Z2 Z3 := hC9.mono (fun j _ e => Or.inr e)
        refine step_append_as (o := { dst := some 48, op := Op.call { callee := Callee.builtin Builtin.append, args := #[Operand.tmp 38, Operand.tmp 47], argTypes := #[28, 28] }, type := 28, pos := "compact.go:28", after := #[{ on := 1, ground := Ground.data }, { on := 10, ground := Ground.data }, { on := 9, ground := Ground.chain }], guard := none }) rfl rfl (.tmp 38) (.tmp 47) 28 28 rfl (.slice ao n c) (.slice (some ⟨gl, 0, none⟩) 1 1) rfl rfl (.slice o9 n9 c9) Z3 hst AllReadyH.nil ⟨CZ2.out.trans C6 (fun k hk e => e), fun hHeld => ?_⟩
        have CZ3 : Hid (Chg (fun j => j = gr ∨ (Value.slice ao n c).ownBlock = some j) wr Z3) := CZ2.out.trans C6 (fun k hk e => e)
        have RR9 : Hid (Z3.heap[gr]? = some (.cells #[.int .u64 (b : Int), .int .u64 (e : Int), .slice ao n c] 30 (0, 0))) := hC9.row RR'.out (Rw.apart (el := 23) HD'.out RR'.out (by decide))
        have HR9 := hide hR9
        have HN9 := hide hn9
        clear hst C6 hC9 hR9 hn9 CZ2 RR' HD' Rgl
        simp only [Act.put, List.setIfInBounds_toArray, List.set_cons_zero, List.set_cons_succ]
        refine wpAnyH_take (i := 12) (oi := { dst := some 49, op := Op.fieldAddr 30 (Operand.tmp 10) 2, type := 0, pos := "compact.go:28", after := #[{ on := 0, ground := Ground.phase }, { on := 1, ground := Ground.phase }, { on := 2, ground := Ground.phase }, { on := 3, ground := Ground.phase }, { on := 4, ground := Ground.phase }, { on := 5, ground := Ground.phase }, { on := 6, ground := Ground.phase }, { on := 7, ground := Ground.phase }, { on := 8, ground := Ground.phase }, { on := 9, ground := Ground.phase }, { on := 10, ground := Ground.phase }, { on := 11, ground := Ground.phase }], guard := none }) (v := ?_) rfl (by kernel_rfl) (by kernel_rfl) (by kernel_rfl) (fun _ _ _ h => h) (Or.inl ⟨by rfl, ?_⟩) (by assumption) ?_
        rotate_left
        · intro w hSw
          clear hSw
          go_simp
          all_goals with_reducible rfl
        simp only [Act.put, List.setIfInBounds_toArray, List.set_cons_zero, List.set_cons_succ]
        refine wpAnyH_ready (rs := [13]) (by kernel_rfl) (by simp) ?_
        obtain ⟨Z4, hst, r6, C6, s6⟩ := store28 o9 n9 c9 RR9.out
        refine step_store_as (o := { dst := none, op := Op.store 28 (Operand.tmp 49) (Operand.tmp 48), type := 0, pos := "compact.go:28", after := #[{ on := 12, ground := Ground.data }, { on := 11, ground := Ground.data }, { on := 11, ground := Ground.chain }, { on := 0, ground := Ground.phase }, { on := 1, ground := Ground.phase }, { on := 2, ground := Ground.phase }, { on := 3, ground := Ground.phase }, { on := 4, ground := Ground.phase }, { on := 5, ground := Ground.phase }, { on := 6, ground := Ground.phase }, { on := 7, ground := Ground.phase }, { on := 8, ground := Ground.phase }, { on := 9, ground := Ground.phase }, { on := 10, ground := Ground.phase }, { on := 11, ground := Ground.phase }], guard := none }) rfl rfl 28 (.tmp 49) (.tmp 48) rfl _ _ rfl rfl Z4 hst AllReadyH.nil ⟨CZ3.out.trans C6 (fun k hk e => Or.inl e), fun hHeld => ?_⟩
        have CZ4 : Hid (Chg (fun j => j = gr ∨ (Value.slice ao n c).ownBlock = some j) wr Z4) := CZ3.out.trans C6 (fun k hk e => Or.inl e)
        have RS := hide r6
        have RN := hide (Rw.chg HR9.out C6 (fun j hj e => (Rw.apart HR9.out RR9.out (by decide)) (by rw [← e]; exact hj)))
        clear hst r6 C6 s6 CZ3 HR9 RR9
        simp only [Act.put]
        refine wpAnyH_done (by kernel_rfl) ?_ _
        refine NoPanic.normal ?_
        clear hHeld
        have CS := hide ((CW.out.trans CZ4.out (fun k hk e => by rcases e with e | e; exact e; exact absurd (HWN.out k e) (by omega))))
        go_wp2_with fail
        go_roundg gO
        case measure => omega
        case rel => exact ⟨k + 1, pt, n9, c9, o9, ds ++ [D], by omega, by first | rfl | simp, rfl, by rw [HN9.out, List.length_append, HDS.out]; rfl, by rw [List.length_append, HDS.out]; rfl, by rw [HPT.out]; exact HTN, by rw [HPT.out]; exact HON, RN, RS, CS⟩
end Go.Proofs.YtkljajfgdelfgaaDoor
