/- CompactReckons. -/
import Derived.Test.YtkljajfgdelfgaaDoorIf
import Derived.Test.YtkljajfgdelfgaaDoorHj
import Derived.Test.YtkljajfgdelfgaaDoorGb
import Derived.Test.YtkljajfgdelfgaaDoorZd
import Derived.Test.YtkljajfgdelfgaaDoorArgr
namespace Go.Proofs.YtkljajfgdelfgaaDoor
open Go.RowKit

namespace C
theorem join_length {α : Type} (nd : α → α → α) (z : α) : ∀ (ws ss : List Nat) (hs : List α), (join nd z ws ss hs).length = ws.length := by
  intro ws
  induction ws with
  | nil => intro ss hs; rfl
  | cons w ws ih => intro ss hs; rw [join, List.length_cons, ih, List.length_cons]
theorem glue_len (a : Int) (p m e : Nat) (ha hb : List (List UInt8)) : (glue (S.node a) [] p m e ha hb).length ≤ 64 := by
  show (join (S.node a) [] (blocks p e) (blocks p m ++ blocks m e) (ha ++ hb)).length ≤ 64
  rw [join_length]; exact blocks_len p e
theorem mergeA_ok (a : Int) (b e : Nat) (hs : List (List UInt8)) (b' e' : Nat) (hs' : List (List UInt8)) (h1 : ∀ d ∈ hs, d.length = 32) (h2 : ∀ d ∈ hs', d.length = 32) : (mergeA a b e hs b' e' hs').hs.length ≤ 1000000 ∧ ∀ d ∈ (mergeA a b e hs b' e' hs').hs, d.length = 32 := by
  rw [mergeA]
  by_cases hr : S.right b e hs.length = true ∧ S.right b' e' hs'.length = true
  · rw [if_pos hr]
    by_cases hm : e = b'
    · rw [if_pos hm]
      subst hm
      obtain ⟨t1, t2, t3⟩ := S.right_of hr.1
      obtain ⟨s1, s2, s3⟩ := S.right_of hr.2
      exact ⟨Nat.le_trans (glue_len a b e e' hs hs') (by omega), glue_all (S.node a) [] (fun d => d.length = 32) (fun _ _ => S.node_length _ _ _) b e e' hs hs' t1 s1 s2 t3 s3 h1 h2⟩
    · rw [if_neg hm]; exact ⟨Nat.zero_le _, fun d hd => absurd hd (by simp [no25])⟩
  · rw [if_neg hr]; exact ⟨Nat.zero_le _, fun d hd => absurd hd (by simp [no1])⟩
theorem addA_ok (a : Int) (b e : Nat) (hs : List (List UInt8)) (d : List UInt8) (h1 : ∀ d ∈ hs, d.length = 32) (h2 : d.length = 32) : (addA a b e hs d).hs.length ≤ 1000000 ∧ ∀ x ∈ (addA a b e hs d).hs, x.length = 32 := by
  by_cases hr : S.right b e hs.length = true ∧ e ≠ 4294967296
  · obtain ⟨t1, t2, t3⟩ := S.right_of hr.1
    rw [addA_merge a b e hs d hr.1 (by have := hr.2; omega)]
    exact mergeA_ok a b e hs e (e + 1) [d] h1 (fun x hx => by simp only [List.mem_singleton] at hx; rw [hx]; exact h2)
  · rw [addA, if_neg hr]; exact ⟨Nat.zero_le _, fun d hd => absurd hd (by simp [no1])⟩
theorem rootA_32 (a : Int) (b e : Nat) (hs : List (List UInt8)) (h1 : ∀ d ∈ hs, d.length = 32) : (rootA a b e hs).1.length = 32 := by
  rw [rootA]
  by_cases hr : S.right b e hs.length = true
  · rw [if_pos hr]
    by_cases hb : b = 0
    · rw [if_pos hb]
      subst hb
      by_cases he : e = 0
      · rw [if_pos he]; exact S.root_length _ _
      · rw [if_neg he]
        obtain ⟨t1, t2, t3⟩ := S.right_of hr
        exact fold_len a hs h1 0 (by rw [t3, blocks_cons 0 e (by omega) (by omega)]; simp)
    · rw [if_neg hb]; exact S.zeros_length 32
  · rw [if_neg hr]; exact S.zeros_length 32
end C
theorem build30r (b e : Int) (ao : Option Addr) (n c : Nat) (w : World) : (Instr.build 30 #[(0, .int .u64 b), (1, .int .u64 e), (2, .slice ao n c)]).run Tryd.prog w = .ok (.agg #[.int .u64 b, .int .u64 e, .slice ao n c]) w := by
  go_simp
theorem alloc37 (w : World) : (Instr.alloc 37 true (.tuple #[])).run Tryd.prog w = .ok (.pointer (some ⟨w.heap.size, 0, none⟩)) (w.alloc (.cells #[.int .u64 0, .int .u64 0, .slice none 0 0] 37)) := by
  go_simp
theorem radd_v (a : Int) (gh gT b e : Nat) (u : Value) (hs : List (List UInt8)) (d : List UInt8) (V : Value) (hV : V = .agg (S.v8 d)) (w : World) (hb : b < 18446744073709551616) (he : e < 18446744073709551616) (hd : d.length = 32) (hu : DgAt w u hs) (hH : HsAt w gh gT a) :
   Calls Tryd.prog 20 #[.pointer (some ⟨gh, 0, none⟩), .agg #[.int .u64 (b : Int), .int .u64 (e : Int), u], V] w fun r w' => Ansd w w' r (C.addA a b e hs d) := by
  subst hV; exact radd_any a gh gT b e u hs d w hb he hd hu hH
theorem build_when {w : World} {ops : Array Oper} {rest : List Oper} {o : Oper} {a : Act} {Q : Exit → Act → World → Prop} (hw : Region.wanted o (yielded ops a.tmps) = true) (t : TypeId) (parts : List (Nat × Operand)) (ho : o.op = .build t parts.toArray) (vs : List (Nat × Value)) (hvs : (parts.map fun p => (p.1, a.eval p.2)) = vs) (v : Value)
    (hr : (Instr.build t vs.toArray).run Tryd.prog w = .ok v w) (h : wpList Tryd.prog ops Q rest (a.put o.dst v) w) : wpList Tryd.prog ops Q (o :: rest) a w := by
  subst hvs
  exact wpList_step fun _ hK => by
    rw [if_pos hw]
    unfold Oper.wp execOp
    simp only [ho, Sem.run_bind, Sem.run_pure, List.map_toArray, hr, Result.andThen_ok]
    exact hK _ _ h
set_option maxHeartbeats 40000000 in
set_option maxRecDepth 10000 in
theorem compactReckons_walk (a : Int) (b1 e1 : Nat) (u1 : Value) (hs1 : List (List UInt8)) (b2 e2 : Nat) (u2 : Value) (hs2 : List (List UInt8)) (d : List UInt8) (x y : Nat) (w : World) (hb1 : b1 < 18446744073709551616) (he1 : e1 < 18446744073709551616) (hb2 : b2 < 18446744073709551616) (he2 : e2 < 18446744073709551616)
   (hu1 : DgAny w u1 hs1) (hl1 : hs1.length ≤ 4398046511104) (hu2 : DgAny w u2 hs2) (hl2 : hs2.length ≤ 4398046511104) (hd : d.length = 32) (hx : x < 18446744073709551616) (hy : y < 18446744073709551616) (hK : KAt w) :
   Calls Tryd.prog 4 #[.int .i64 a, .agg #[.int .u64 (b1 : Int), .int .u64 (e1 : Int), u1], .agg #[.int .u64 (b2 : Int), .int .u64 (e2 : Int), u2], .agg (S.v8 d), .int .u64 (x : Int), .int .u64 (y : Int)] w fun r w' => r = .returned (.bool true) ∧ Below w.heap.size w w' := by
  obtain ⟨o1, c1, rfl, hc1⟩ := hu1.form
  obtain ⟨o2, c2, rfl, hc2⟩ := hu2.form
  obtain ⟨N1, hN1⟩ : ∃ n, n = hs1.length := ⟨_, rfl⟩
  obtain ⟨N2, hN2⟩ : ∃ n, n = hs2.length := ⟨_, rfl⟩
  have HU1 := hide hu1
  have HU2 := hide hu2
  have G32 : Hid ((∀ d ∈ hs1, d.length = 32) ∧ ∀ d ∈ hs2, d.length = 32) := by
    obtain ⟨_, _, _, _, h, _⟩ := hu1
    obtain ⟨_, _, _, _, h', _⟩ := hu2
    exact ⟨h, h'⟩
  rw [← hN1] at HU1 hl1 hc1 ⊢
  rw [← hN2] at HU2 hl2 hc2 ⊢
  have HN := hide (And.intro hN1 hN2)
  have HD := hide hd
  have HK := hide hK
  have h0 := hK.pos
  clear hu1 hu2 hN1 hN2 hd hK
  go_enter Tryd.func4, Tryd.ntmps4
  go_upto_region 1 with fail
  generalize hW0 : w.alloc _ = W0
  generalize hW1 : W0.alloc _ = W1
  generalize hW2 : W1.alloc _ = W2
  have B0 : Below w.heap.size w W0 := by rw [← hW0]; exact (Below.refl _ _).alloc (Nat.le_refl _) _
  have s0 : W0.heap.size = w.heap.size + 1 := by rw [← hW0]; simp
  have r0 : W0.heap[w.heap.size]? = some (.cells #[.int .u64 (b1 : Int), .int .u64 (e1 : Int), .slice o1 N1 c1] 30 (0, 0)) := by rw [← hW0]; exact heap_alloc_new _ _
  have B1 : Below W0.heap.size W0 W1 := by rw [← hW1]; exact (Below.refl _ _).alloc (Nat.le_refl _) _
  have s1 : W1.heap.size = w.heap.size + 2 := by rw [← hW1]; simp [s0]
  have r1 : W1.heap[w.heap.size + 1]? = some (.cells #[.int .u64 (b2 : Int), .int .u64 (e2 : Int), .slice o2 N2 c2] 30 (0, 0)) := by rw [← hW1, ← s0]; exact heap_alloc_new _ _
  have B2 : Below W1.heap.size W1 W2 := by rw [← hW2]; exact (Below.refl _ _).alloc (Nat.le_refl _) _
  have s2 : W2.heap.size = w.heap.size + 3 := by rw [← hW2]; simp [s1]
  have r2 : W2.heap[w.heap.size + 2]? = some (.cells (S.v8 d) 23 (0, 0)) := by rw [← hW2, ← s1]; exact heap_alloc_new _ _
  have BB : Hid (Below w.heap.size w W2) := ((B0.trans (B1.mono (by omega))).trans (B2.mono (by omega)))
  have Q0 : Hid (W2.heap[w.heap.size]? = some (.cells #[.int .u64 (b1 : Int), .int .u64 (e1 : Int), .slice o1 N1 c1] 30 (0, 0))) := ((B2.block _ (by omega)).trans ((B1.block _ (by omega)).trans r0))
  have Q1 : Hid (W2.heap[w.heap.size + 1]? = some (.cells #[.int .u64 (b2 : Int), .int .u64 (e2 : Int), .slice o2 N2 c2] 30 (0, 0))) := ((B2.block _ (by omega)).trans r1)
  have Q2 : Hid (W2.heap[w.heap.size + 2]? = some (.cells (S.v8 d) 23 (0, 0))) := r2
  clear hW0 B0 s0 r0 hW1 B1 s1 r1 hW2 B2 s2 r2
  obtain ⟨y0, y1, y2⟩ := cells3 Q0.out
  obtain ⟨z0, z1, z2⟩ := cells3 Q1.out
  by_cases h70 : 70 < N1
  · have q1 : (70 : Int) < (N1 : Int) := by omega
    have q1' : (N1 : Int) > 70 := by omega
    go_wp2_with fail
    refine (known10_any W2 (HK.out.below BB.out h0)).mono ?_
    rintro r wk ⟨rfl, bk⟩
    have BK := hide (BB.out.trans (bk.mono BB.out.size))
    clear bk
    go_wp2_with fail
    go_ret
    exact ⟨rfl, BK.out⟩
  have qn1 : decide ((70 : Int) < (N1 : Int)) = false := decide_eq_false (by omega)
  by_cases h71 : 70 < N2
  · have q1 : (70 : Int) < (N2 : Int) := by omega
    have q1' : (N2 : Int) > 70 := by omega
    have p1 : ¬ (70 : Int) < (N1 : Int) := by omega
    clear qn1
    go_wp2_with fail
    refine (known10_any W2 (HK.out.below BB.out h0)).mono ?_
    rintro r wk ⟨rfl, bk⟩
    have BK := hide (BB.out.trans (bk.mono BB.out.size))
    clear bk
    go_wp2_with fail
    go_ret
    exact ⟨rfl, BK.out⟩
  have qn2 : decide ((70 : Int) < (N2 : Int)) = false := decide_eq_false (by omega)
  have HL := hide (And.intro (show N1 ≤ 70 by omega) (show N2 ≤ 70 by omega))
  have BW := BB
  have D1 := hide ((HU1.out.dgAt (by have := HN.out.1; have := HL.out; omega)).below BB.out)
  have D2 := hide ((HU2.out.dgAt (by have := HN.out.2; have := HL.out; omega)).below BB.out)
  have R7 := Q0
  have R8 := Q1
  have R9 := Q2
  clear Q0 Q1 Q2 BB HU1 HU2 h70 h71 hl1 hl2 hc1 hc2
  go_wp2_with fail
  clear y0 y1 y2 z0 z1 z2 qn1 qn2
  refine (hasher_any a W2).mono ?_
  rintro r V1 ⟨gh, gT, rfl, hH, hb⟩
  have HH := hide hH
  replace R7 : Hid (V1.heap[w.heap.size]? = some (.cells #[.int .u64 (b1 : Int), .int .u64 (e1 : Int), .slice o1 N1 c1] 30 (0, 0))) := (hb.block _ (block_lt_of_row R7.out)).trans R7.out
  replace R8 : Hid (V1.heap[w.heap.size + 1]? = some (.cells #[.int .u64 (b2 : Int), .int .u64 (e2 : Int), .slice o2 N2 c2] 30 (0, 0))) := (hb.block _ (block_lt_of_row R8.out)).trans R8.out
  replace R9 : Hid (V1.heap[w.heap.size + 2]? = some (.cells (S.v8 d) 23 (0, 0))) := (hb.block _ (block_lt_of_row R9.out)).trans R9.out
  replace D1 : Hid (DgAt V1 (.slice o1 N1 c1) hs1) := hide (D1.out.below hb)
  replace D2 : Hid (DgAt V1 (.slice o2 N2 c2) hs2) := hide (D2.out.below hb)
  replace BW : Hid (Below w.heap.size w V1) := hide (BW.out.trans (hb.mono BW.out.size))
  clear hb hH
  obtain ⟨y0, y1, y2⟩ := cells3 R7.out
  go_wp2_with (with_reducible refine at_op { dst := some 43, op := Op.build 23 #[(0, Operand.const (Value.int IntKind.u8 9))], type := 23, pos := "law.go:56", after := #[], guard := none } ?_; refine wpList_build_known rfl 23 [(0, .const (.int .u8 9))] rfl (.agg (S.v8 S.nine)) (bmark _) ?_)
  refine (roomy_dig _ hs1 S.nine V1 D1.out S.nine_length (by have := HN.out.1; have := HL.out; omega)).mono ?_
  rintro r V2 ⟨gF, rfl, rF, hb⟩
  have hp32 : ∀ d ∈ hs1 ++ List.replicate 80 S.nine, d.length = 32 := fun d hd => by
    rw [List.mem_append] at hd
    rcases hd with hd | hd
    · exact G32.out.1 d hd
    · rw [List.eq_of_mem_replicate hd]; exact S.nine_length
  have fa := rF.dgAt (by rw [List.length_append, List.length_replicate, ← HN.out.1]; have := HL.out; omega) hp32
  rw [← HN.out.1] at fa ⊢
  obtain ⟨KK, hKK⟩ : ∃ N, N = N1 + 80 := ⟨_, rfl⟩
  rw [← hKK] at fa ⊢
  have FA := hide fa
  have FT := hide (show DgAt V2 (.slice (some ⟨gF, 0, none⟩) N1 KK) hs1 by have := fa.take N1 (by omega); rwa [HN.out.1, List.take_left, ← HN.out.1] at this)
  have HCF := hide (show ∀ ao n c, Value.slice (some ⟨gF, 0, none⟩) KK KK = .slice ao n c → n ≤ c from fun ao n c e => by simp only [Value.slice.injEq] at e; omega)
  have HCP := hide (show ∀ ao n c, Value.slice (some ⟨gF, 0, none⟩) N1 KK = .slice ao n c → n ≤ c from fun ao n c e => by simp only [Value.slice.injEq] at e; omega)
  have q1 : (0 : Int) ≤ (N1 : Int) := by omega
  have q2 : (N1 : Int) ≤ (KK : Int) := by omega
  replace R7 : Hid (V2.heap[w.heap.size]? = some (.cells #[.int .u64 (b1 : Int), .int .u64 (e1 : Int), .slice o1 N1 c1] 30 (0, 0))) := (hb.block _ (block_lt_of_row R7.out)).trans R7.out
  replace R8 : Hid (V2.heap[w.heap.size + 1]? = some (.cells #[.int .u64 (b2 : Int), .int .u64 (e2 : Int), .slice o2 N2 c2] 30 (0, 0))) := (hb.block _ (block_lt_of_row R8.out)).trans R8.out
  replace R9 : Hid (V2.heap[w.heap.size + 2]? = some (.cells (S.v8 d) 23 (0, 0))) := (hb.block _ (block_lt_of_row R9.out)).trans R9.out
  replace D1 : Hid (DgAt V2 (.slice o1 N1 c1) hs1) := hide (D1.out.below hb)
  replace D2 : Hid (DgAt V2 (.slice o2 N2 c2) hs2) := hide (D2.out.below hb)
  replace HH : Hid (HsAt V2 gh gT a) := hide (HH.out.below hb (Nat.le_refl _))
  replace BW : Hid (Below w.heap.size w V2) := hide (BW.out.trans (hb.mono BW.out.size))
  clear hb rF fa hp32 hKK y0 y1 y2
  obtain ⟨p1, z1, l1, n1, hA⟩ : ∃ p z l n, C.addA a b1 e1 hs1 d = ⟨p, z, l, n⟩ := ⟨(C.addA a b1 e1 hs1 d).b, (C.addA a b1 e1 hs1 d).e, (C.addA a b1 e1 hs1 d).hs, (C.addA a b1 e1 hs1 d).no, rfl⟩
  have HA1 := hide hA
  have OK1 : Hid (l1.length ≤ 1000000 ∧ ∀ d ∈ l1, d.length = 32) := by
    have h := C.addA_ok a b1 e1 hs1 d G32.out.1 HD.out
    rw [hA] at h
    exact h
  obtain ⟨k1, hk⟩ : ∃ n, n = l1.length := ⟨_, rfl⟩
  have HK1 := hide hk
  clear hA hk
  obtain ⟨p2, z2, l2, n2, hA⟩ : ∃ p z l n, C.mergeA a b1 e1 hs1 b2 e2 hs2 = ⟨p, z, l, n⟩ := ⟨(C.mergeA a b1 e1 hs1 b2 e2 hs2).b, (C.mergeA a b1 e1 hs1 b2 e2 hs2).e, (C.mergeA a b1 e1 hs1 b2 e2 hs2).hs, (C.mergeA a b1 e1 hs1 b2 e2 hs2).no, rfl⟩
  have HA2 := hide hA
  have OK2 : Hid (l2.length ≤ 1000000 ∧ ∀ d ∈ l2, d.length = 32) := by
    have h := C.mergeA_ok a b1 e1 hs1 b2 e2 hs2 G32.out.1 G32.out.2
    rw [hA] at h
    exact h
  obtain ⟨k2, hk⟩ : ∃ n, n = l2.length := ⟨_, rfl⟩
  have HK2 := hide hk
  clear hA hk
  obtain ⟨E3, n3, hA⟩ : ∃ D n, C.rootA a b1 e1 hs1 = (D, n) := ⟨_, _, rfl⟩
  have HA3 := hide hA
  have LE3 : Hid (E3.length = 32) := by
    have h := C.rootA_32 a b1 e1 hs1 G32.out.1
    rw [hA] at h
    exact h
  clear hA
  go_upto_region 5 with fail
  go_cut [15] from 28 (fun p15 wc => ∃ g15, p15 = .pointer (some ⟨g15, 0, none⟩) ∧ Hid (wc.heap[g15]? = some (.cells #[.int .u64 (b1 : Int), .int .u64 (e1 : Int), .slice (some ⟨gF, 0, none⟩) N1 KK] 30 (0, 0))) ∧ Hid (Below V2.heap.size V2 wc))
  case first =>
    refine wp_region_noPanic ?_
    refine wp_region_held_drew (S := (fun W => Chg (fun _ => False) V2 W)) follows ((Chg.refl _ _).drew) (fun hHeld => ?_)
    clear hHeld
    have hHeld : Chg (fun _ => False) V2 V2.drew := (Chg.refl _ _).drew
    have CZ0 := hide hHeld
    generalize V2.drew = Z0 at CZ0 hHeld ⊢
    refine wpAnyH_take (i := 0) (oi := { dst := some 45, op := Op.fieldAddr 30 (Operand.tmp 7) 0, type := 0, pos := "law.go:57", after := #[], guard := none }) (v := ?_) rfl (by kernel_rfl) (by kernel_rfl) (by kernel_rfl) (fun _ _ _ h => h) (Or.inl ⟨by rfl, ?_⟩) (by assumption) ?_
    rotate_left
    · intro w hSw
      clear hSw
      go_simp
      all_goals with_reducible rfl
    simp only [Act.put, List.setIfInBounds_toArray, List.set_cons_zero, List.set_cons_succ]
    refine wpAnyH_take (i := 1) (oi := { dst := some 46, op := Op.load 27 (Operand.tmp 45), type := 27, pos := "law.go:57", after := #[{ on := 0, ground := Ground.data }], guard := none }) (v := ?_) rfl (by kernel_rfl) (by kernel_rfl) (by kernel_rfl) (fun _ _ _ h => h) (Or.inl ⟨by rfl, ?_⟩) (by assumption) ?_
    rotate_left
    · intro w hSw
      obtain ⟨f0, f1, f2⟩ := cells3 (hSw.row R7.out (fun e => e))
      clear hSw
      go_simp
      all_goals with_reducible rfl
    simp only [Act.put, List.setIfInBounds_toArray, List.set_cons_zero, List.set_cons_succ]
    refine wpAnyH_take (i := 2) (oi := { dst := some 47, op := Op.fieldAddr 30 (Operand.tmp 7) 1, type := 0, pos := "law.go:57", after := #[], guard := none }) (v := ?_) rfl (by kernel_rfl) (by kernel_rfl) (by kernel_rfl) (fun _ _ _ h => h) (Or.inl ⟨by rfl, ?_⟩) (by assumption) ?_
    rotate_left
    · intro w hSw
      clear hSw
      go_simp
      all_goals with_reducible rfl
    simp only [Act.put, List.setIfInBounds_toArray, List.set_cons_zero, List.set_cons_succ]
    refine wpAnyH_take (i := 3) (oi := { dst := some 48, op := Op.load 27 (Operand.tmp 47), type := 27, pos := "law.go:57", after := #[{ on := 2, ground := Ground.data }], guard := none }) (v := ?_) rfl (by kernel_rfl) (by kernel_rfl) (by kernel_rfl) (fun _ _ _ h => h) (Or.inl ⟨by rfl, ?_⟩) (by assumption) ?_
    rotate_left
    · intro w hSw
      obtain ⟨f0, f1, f2⟩ := cells3 (hSw.row R7.out (fun e => e))
      clear hSw
      go_simp
      all_goals with_reducible rfl
    simp only [Act.put, List.setIfInBounds_toArray, List.set_cons_zero, List.set_cons_succ]
    refine wpAnyH_take (i := 4) (oi := { dst := some 49, op := Op.move (Operand.tmp 14), type := 28, pos := "law.go:57", after := #[], guard := none }) (v := ?_) rfl (by kernel_rfl) (by kernel_rfl) (by kernel_rfl) (fun _ _ _ h => h) (Or.inl ⟨by rfl, ?_⟩) (by assumption) ?_
    rotate_left
    · intro w hSw
      clear hSw
      go_simp
      all_goals with_reducible rfl
    simp only [Act.put, List.setIfInBounds_toArray, List.set_cons_zero, List.set_cons_succ]
    refine wpAnyH_take (i := 5) (oi := { dst := some 50, op := Op.fieldAddr 30 (Operand.tmp 7) 2, type := 0, pos := "law.go:57", after := #[], guard := none }) (v := ?_) rfl (by kernel_rfl) (by kernel_rfl) (by kernel_rfl) (fun _ _ _ h => h) (Or.inl ⟨by rfl, ?_⟩) (by assumption) ?_
    rotate_left
    · intro w hSw
      clear hSw
      go_simp
      all_goals with_reducible rfl
    simp only [Act.put, List.setIfInBounds_toArray, List.set_cons_zero, List.set_cons_succ]
    refine wpAnyH_take (i := 6) (oi := { dst := some 51, op := Op.load 28 (Operand.tmp 50), type := 28, pos := "law.go:57", after := #[{ on := 5, ground := Ground.data }], guard := none }) (v := ?_) rfl (by kernel_rfl) (by kernel_rfl) (by kernel_rfl) (fun _ _ _ h => h) (Or.inl ⟨by rfl, ?_⟩) (by assumption) ?_
    rotate_left
    · intro w hSw
      obtain ⟨f0, f1, f2⟩ := cells3 (hSw.row R7.out (fun e => e))
      clear hSw
      go_simp
      all_goals with_reducible rfl
    simp only [Act.put, List.setIfInBounds_toArray, List.set_cons_zero, List.set_cons_succ]
    refine wpAnyH_take (i := 7) (oi := { dst := some 52, op := Op.call { callee := Callee.builtin Builtin.len, args := #[Operand.tmp 51], argTypes := #[28] }, type := 3, pos := "law.go:57", after := #[{ on := 6, ground := Ground.data }], guard := none }) (v := ?_) rfl (by kernel_rfl) (by kernel_rfl) (by kernel_rfl) (fun _ _ _ h => h) (Or.inl ⟨by rfl, ?_⟩) (by assumption) ?_
    rotate_left
    · intro w hSw
      clear hSw
      go_simp
      all_goals with_reducible rfl
    simp only [Act.put, List.setIfInBounds_toArray, List.set_cons_zero, List.set_cons_succ]
    refine wpAnyH_take (i := 8) (oi := { dst := some 53, op := Op.slice 28 (Operand.tmp 49) none (some (Operand.tmp 52)) none, type := 28, pos := "law.go:57", after := #[{ on := 4, ground := Ground.data }, { on := 7, ground := Ground.data }], guard := none }) (v := ?_) rfl (by kernel_rfl) (by kernel_rfl) (by kernel_rfl) (fun _ _ _ h => h) (Or.inl ⟨by rfl, ?_⟩) (by assumption) ?_
    rotate_left
    · intro w hSw
      clear hSw
      go_simp
      all_goals with_reducible rfl
    simp only [Act.put, List.setIfInBounds_toArray, List.set_cons_zero, List.set_cons_succ]
    refine wpAnyH_take (i := 9) (oi := { dst := some 54, op := Op.build 30 #[(0, Operand.tmp 46), (1, Operand.tmp 48), (2, Operand.tmp 53)], type := 30, pos := "law.go:57", after := #[{ on := 1, ground := Ground.data }, { on := 3, ground := Ground.data }, { on := 8, ground := Ground.data }], guard := none }) (v := .agg #[.int .u64 (b1 : Int), .int .u64 (e1 : Int), .slice (some ⟨gF, 0, none⟩) N1 KK]) rfl (by kernel_rfl) (by kernel_rfl) (by kernel_rfl) (fun _ _ _ h => h) (yieldsIf_build (by rfl) 30 [(0, .tmp 46), (1, .tmp 48), (2, .tmp 53)] rfl _ (fun w => build30r _ _ _ _ _ w)) (by assumption) ?_
    simp only [Act.put, List.setIfInBounds_toArray, List.set_cons_zero, List.set_cons_succ]
    refine wpAnyH_ready (rs := [10]) (by kernel_rfl) (by simp) ?_
    refine step_alloc_as (o := { dst := some 15, op := Op.alloc 30, type := 0, pos := "law.go:57", after := #[], guard := none }) rfl rfl 30 rfl _ _ (alloc30 Z0) AllReadyH.nil ⟨CZ0.out.alloc _, fun hHeld => ?_⟩
    clear hHeld
    simp only [Act.put, List.setIfInBounds_toArray, List.set_cons_zero, List.set_cons_succ]
    obtain ⟨g15, hg15⟩ : ∃ gg, gg = Z0.heap.size := ⟨_, rfl⟩
    rw [← hg15]
    generalize hZ : Z0.alloc _ = Z1
    have hb2 : Below Z0.heap.size Z0 Z1 := by rw [← hZ]; exact (Below.refl _ _).alloc (Nat.le_refl _) _
    have Rg15 : Hid (Z1.heap[g15]? = some (.cells #[.int .u64 0, .int .u64 0, .slice none 0 0] 30 (0, 0))) := by rw [← hZ, hg15]; exact heap_alloc_new _ _
    have Gg15 := hide (show V2.heap.size ≤ g15 by rw [hg15]; exact CZ0.out.size)
    clear hZ hg15
    have CZ1 : Hid (Chg (fun _ => False) V2 Z1) := CZ0.out.then hb2
    clear hb2 CZ0
    have hHeld := CZ1.out
    refine wpAnyH_ready (rs := [11]) (by kernel_rfl) (by simp) ?_
    obtain ⟨Z2, hst, r6, C6, s6⟩ := store_rg (x := .int .u64 (b1 : Int)) (y := .int .u64 (e1 : Int)) (z := .slice (some ⟨gF, 0, none⟩) N1 KK) Rg15.out rfl rfl rfl
    refine step_store_as (o := { dst := none, op := Op.store 30 (Operand.tmp 15) (Operand.tmp 54), type := 0, pos := "law.go:57", after := #[{ on := 10, ground := Ground.data }, { on := 9, ground := Ground.data }, { on := 0, ground := Ground.phase }, { on := 1, ground := Ground.phase }, { on := 2, ground := Ground.phase }, { on := 3, ground := Ground.phase }, { on := 4, ground := Ground.phase }, { on := 5, ground := Ground.phase }, { on := 6, ground := Ground.phase }, { on := 7, ground := Ground.phase }, { on := 8, ground := Ground.phase }, { on := 9, ground := Ground.phase }, { on := 10, ground := Ground.phase }], guard := none }) rfl rfl 30 (.tmp 15) (.tmp 54) rfl _ _ rfl rfl Z2 hst AllReadyH.nil ⟨CZ1.out.trans C6 (fun k hk e => by have := Gg15.out; omega), fun hHeld => ?_⟩
    replace Rg15 : Hid (Z2.heap[g15]? = some (.cells #[.int .u64 (b1 : Int), .int .u64 (e1 : Int), .slice (some ⟨gF, 0, none⟩) N1 KK] 30 (0, 0))) := r6
    have CZ2 : Hid (Chg (fun _ => False) V2 Z2) := CZ1.out.trans C6 (fun k hk e => by have := Gg15.out; omega)
    clear hst r6 C6 s6 CZ1
    simp only [Act.put]
    refine wpAnyH_done (by kernel_rfl) ?_ _
    refine NoPanic.normal ?_
    clear hHeld
    have BF := hide (show Below V2.heap.size V2 Z2 from (CZ2.out.below _ (Nat.le_refl _) (fun _ _ e => e)))
    go_wp2_with fail
    go_meet
    case rel => exact ⟨g15, rfl, Rg15, BF⟩
  obtain ⟨g15, rfl, R15, BC⟩ := hcut
  replace R7 : Hid (wc.heap[w.heap.size]? = some (.cells #[.int .u64 (b1 : Int), .int .u64 (e1 : Int), .slice o1 N1 c1] 30 (0, 0))) := (BC.out.block _ (block_lt_of_row R7.out)).trans R7.out
  replace R8 : Hid (wc.heap[w.heap.size + 1]? = some (.cells #[.int .u64 (b2 : Int), .int .u64 (e2 : Int), .slice o2 N2 c2] 30 (0, 0))) := (BC.out.block _ (block_lt_of_row R8.out)).trans R8.out
  replace R9 : Hid (wc.heap[w.heap.size + 2]? = some (.cells (S.v8 d) 23 (0, 0))) := (BC.out.block _ (block_lt_of_row R9.out)).trans R9.out
  replace D1 : Hid (DgAt wc (.slice o1 N1 c1) hs1) := hide (D1.out.below BC.out)
  replace D2 : Hid (DgAt wc (.slice o2 N2 c2) hs2) := hide (D2.out.below BC.out)
  replace FA : Hid (DgAt wc (.slice (some ⟨gF, 0, none⟩) KK KK) (hs1 ++ List.replicate 80 S.nine)) := hide (FA.out.below BC.out)
  replace FT : Hid (DgAt wc (.slice (some ⟨gF, 0, none⟩) N1 KK) hs1) := hide (FT.out.below BC.out)
  replace HH : Hid (HsAt wc gh gT a) := hide (HH.out.below BC.out (Nat.le_refl _))
  replace BW : Hid (Below w.heap.size w wc) := hide (BW.out.trans (BC.out.mono BW.out.size))
  clear BC
  have hld := load_dig R9.out HD.out
  obtain ⟨y00, y01, y02⟩ := cells3 R15.out
  go_wp2_with (with_reducible refine at_op { dst := some 58, op := Op.load 23 (Operand.tmp 9), type := 23, pos := "law.go:58", after := #[], guard := none } ?_; refine wpList_load_as rfl 23 (.tmp 9) rfl (.pointer (some ⟨w.heap.size + 1 + 1, 0, none⟩)) rfl (.agg (S.v8 d)) hld ?_)
  refine (add_any a b1 e1 (.slice (some ⟨gF, 0, none⟩) N1 KK) hs1 d wc hb1 he1 HD.out FT.out (HK.out.below BW.out h0)).mono ?_
  rintro r V3 ha
  rw [HA1.out] at ha
  obtain ⟨o16, c16, rfl, hd, hb⟩ := ha.some
  rw [← HK1.out] at hd ⊢
  have D16 : Hid (DgAt V3 (.slice o16 k1 c16) l1) := hide (hd.dgAt OK1.out.1 OK1.out.2)
  replace R7 : Hid (V3.heap[w.heap.size]? = some (.cells #[.int .u64 (b1 : Int), .int .u64 (e1 : Int), .slice o1 N1 c1] 30 (0, 0))) := (hb.block _ (block_lt_of_row R7.out)).trans R7.out
  replace R8 : Hid (V3.heap[w.heap.size + 1]? = some (.cells #[.int .u64 (b2 : Int), .int .u64 (e2 : Int), .slice o2 N2 c2] 30 (0, 0))) := (hb.block _ (block_lt_of_row R8.out)).trans R8.out
  replace R9 : Hid (V3.heap[w.heap.size + 2]? = some (.cells (S.v8 d) 23 (0, 0))) := (hb.block _ (block_lt_of_row R9.out)).trans R9.out
  replace R15 : Hid (V3.heap[g15]? = some (.cells #[.int .u64 (b1 : Int), .int .u64 (e1 : Int), .slice (some ⟨gF, 0, none⟩) N1 KK] 30 (0, 0))) := (hb.block _ (block_lt_of_row R15.out)).trans R15.out
  replace D1 : Hid (DgAt V3 (.slice o1 N1 c1) hs1) := hide (D1.out.below hb)
  replace D2 : Hid (DgAt V3 (.slice o2 N2 c2) hs2) := hide (D2.out.below hb)
  replace FA : Hid (DgAt V3 (.slice (some ⟨gF, 0, none⟩) KK KK) (hs1 ++ List.replicate 80 S.nine)) := hide (FA.out.below hb)
  replace FT : Hid (DgAt V3 (.slice (some ⟨gF, 0, none⟩) N1 KK) hs1) := hide (FT.out.below hb)
  replace HH : Hid (HsAt V3 gh gT a) := hide (HH.out.below hb (Nat.le_refl _))
  replace BW : Hid (Below w.heap.size w V3) := hide (BW.out.trans (hb.mono BW.out.size))
  clear hd hb y00 y01 y02
  go_upto_region 7 with fail
  generalize hA_ : V3.alloc _ = V4
  have hb : Below V3.heap.size V3 V4 := by rw [← hA_]; exact (Below.refl _ _).alloc (Nat.le_refl _) _
  obtain ⟨g16, hg⟩ : ∃ g, g = V3.heap.size := ⟨_, rfl⟩
  have R16 : Hid (V4.heap[g16]? = some (.cells #[.int .u64 (p1 : Int), .int .u64 (z1 : Int), .slice o16 k1 c16] 30 (0, 0))) := by rw [← hA_, hg]; exact heap_alloc_new _ _
  rw [← hg]
  replace R7 : Hid (V4.heap[w.heap.size]? = some (.cells #[.int .u64 (b1 : Int), .int .u64 (e1 : Int), .slice o1 N1 c1] 30 (0, 0))) := (hb.block _ (block_lt_of_row R7.out)).trans R7.out
  replace R8 : Hid (V4.heap[w.heap.size + 1]? = some (.cells #[.int .u64 (b2 : Int), .int .u64 (e2 : Int), .slice o2 N2 c2] 30 (0, 0))) := (hb.block _ (block_lt_of_row R8.out)).trans R8.out
  replace R9 : Hid (V4.heap[w.heap.size + 2]? = some (.cells (S.v8 d) 23 (0, 0))) := (hb.block _ (block_lt_of_row R9.out)).trans R9.out
  replace R15 : Hid (V4.heap[g15]? = some (.cells #[.int .u64 (b1 : Int), .int .u64 (e1 : Int), .slice (some ⟨gF, 0, none⟩) N1 KK] 30 (0, 0))) := (hb.block _ (block_lt_of_row R15.out)).trans R15.out
  replace D1 : Hid (DgAt V4 (.slice o1 N1 c1) hs1) := hide (D1.out.below hb)
  replace D2 : Hid (DgAt V4 (.slice o2 N2 c2) hs2) := hide (D2.out.below hb)
  replace FA : Hid (DgAt V4 (.slice (some ⟨gF, 0, none⟩) KK KK) (hs1 ++ List.replicate 80 S.nine)) := hide (FA.out.below hb)
  replace FT : Hid (DgAt V4 (.slice (some ⟨gF, 0, none⟩) N1 KK) hs1) := hide (FT.out.below hb)
  replace D16 : Hid (DgAt V4 (.slice o16 k1 c16) l1) := hide (D16.out.below hb)
  replace HH : Hid (HsAt V4 gh gT a) := hide (HH.out.below hb (Nat.le_refl _))
  replace BW : Hid (Below w.heap.size w V4) := hide (BW.out.trans (hb.mono BW.out.size))
  clear hA_ hb hg
  clear hld
  have hszd := size_dig d HD.out
  go_cut [18, 19] from 28 (fun vp vn wc => ∃ (g18 : Nat) (oQ : Option Addr) (cQ : Nat), vp = .pointer (some ⟨g18, 0, none⟩) ∧ vn = .int .i64 (n1 : Int) ∧ Hid (wc.heap[g18]? = some (.cells #[.int .u64 (p1 : Int), .int .u64 (z1 : Int), .slice oQ k1 cQ] 37 (0, 0))) ∧ Hid (DgAt wc (.slice oQ k1 cQ) l1) ∧ Hid (Below V4.heap.size V4 wc))
  case first =>
    refine wp_region_noPanic ?_
    refine wp_region_held_drew (S := (fun W => Chg (fun _ => False) V4 W)) follows ((Chg.refl _ _).drew) (fun hHeld => ?_)
    clear hHeld
    have hHeld : Chg (fun _ => False) V4 V4.drew := (Chg.refl _ _).drew
    have CZ0 := hide hHeld
    generalize V4.drew = Z0 at CZ0 hHeld ⊢
    refine wpAnyH_take (i := 0) (oi := { dst := some 63, op := Op.move (Operand.tmp 13), type := 42, pos := "law.go:59", after := #[], guard := none }) (v := ?_) rfl (by kernel_rfl) (by kernel_rfl) (by kernel_rfl) (fun _ _ _ h => h) (Or.inl ⟨by rfl, ?_⟩) (by assumption) ?_
    rotate_left
    · intro w hSw
      clear hSw
      go_simp
      all_goals with_reducible rfl
    simp only [Act.put, List.setIfInBounds_toArray, List.set_cons_zero, List.set_cons_succ]
    refine wpAnyH_take (i := 1) (oi := { dst := some 64, op := Op.load 30 (Operand.tmp 7), type := 30, pos := "law.go:59", after := #[], guard := none }) (v := ?_) rfl (by kernel_rfl) (by kernel_rfl) (by kernel_rfl) (fun _ _ _ h => h) (Or.inl ⟨by rfl, ?_⟩) (by assumption) ?_
    rotate_left
    · intro w hSw
      obtain ⟨f0, f1, f2⟩ := cells3 (hSw.row R7.out (fun e => e))
      clear hSw
      go_simp
      all_goals with_reducible rfl
    simp only [Act.put, List.setIfInBounds_toArray, List.set_cons_zero, List.set_cons_succ]
    refine wpAnyH_take (i := 3) (oi := { dst := some 66, op := Op.load 23 (Operand.tmp 9), type := 23, pos := "law.go:59", after := #[], guard := none }) (v := .agg (S.v8l d).toArray) rfl (by kernel_rfl) (by kernel_rfl) (by kernel_rfl) (fun _ _ _ h => h) (yieldsIf_load_mid (by rfl) _ _ rfl (w.heap.size + 1 + 1) 0 rfl (S.v8l d) _ (fun _ hSw => rangeAt_row (show _ = some (Obj.cells (S.v8l d).toArray 23 (0, 0)) by rw [← S.v8_eq]; exact hSw.row R9.out (fun e => e))) Tryd.underlying23 rfl (show _ = some (S.v8l d).toArray.size by rw [← S.v8_eq]; exact hszd)) (by assumption) ?_
    simp only [Act.put, List.setIfInBounds_toArray, List.set_cons_zero, List.set_cons_succ]
    refine wpAnyH_ready (rs := [2, 8]) (by kernel_rfl) (by simp) ?_
    refine AllReadyH.cons (o := { dst := some 65, op := Op.call { callee := Callee.value (Operand.func 21), args := #[Operand.tmp 64], argTypes := #[30] }, type := 37, pos := "law.go:59", after := #[{ on := 1, ground := Ground.data }], guard := none }) rfl (fun K hK => ?_) ?_
    · skip
      go_simp
      refine (plain_any b1 e1 o1 N1 c1 Z0).mono ?_
      rintro e Z1 ⟨rfl, hb2⟩
      have CZ1 : Hid (Chg (fun _ => False) V4 Z1) := CZ0.out.then hb2
      clear hb2 CZ0
      clear hHeld
      refine hK.out _ _ CZ1.out (fun hHeld => ?_)
      clear hK K
      try simp only [Act.put, List.setIfInBounds_toArray, List.set_cons_zero, List.set_cons_succ]
      refine wpAnyH_ready (rs := [4, 8]) (by kernel_rfl) (by simp) ?_
      refine AllReadyH.cons (o := { dst := some 67, op := Op.call { callee := Callee.value (Operand.func 20), args := #[Operand.tmp 63, Operand.tmp 65, Operand.tmp 66], argTypes := #[42, 37, 23] }, type := 45, pos := "law.go:59", after := #[{ on := 0, ground := Ground.data }, { on := 2, ground := Ground.data }, { on := 3, ground := Ground.data }, { on := 2, ground := Ground.chain }], guard := none }) rfl (fun K hK => ?_) ?_
      · skip
        go_simp
        refine (radd_v a gh gT b1 e1 (.slice o1 N1 c1) hs1 d (.agg (S.v8l d).toArray) (by rw [S.v8_eq]) Z1 hb1 he1 HD.out (D1.out.below (CZ1.out.below _ (Nat.le_refl _) (fun _ _ e => e))) (HH.out.below (CZ1.out.below _ (Nat.le_refl _) (fun _ _ e => e)) (Nat.le_refl _))).mono ?_
        rintro e Z2 ha
        rw [HA1.out] at ha
        obtain ⟨oQ, cQ, rfl, hd2, hb2⟩ := ha.some
        rw [← HK1.out] at hd2 ⊢
        have DQ : Hid (DgRow 0 _ (.slice oQ k1 cQ) l1) := hide hd2
        clear hd2
        have CZ2 : Hid (Chg (fun _ => False) V4 Z2) := CZ1.out.then hb2
        clear hb2 CZ1
        clear hHeld
        refine hK.out _ _ CZ2.out (fun hHeld => ?_)
        clear hK K
        try simp only [Act.put, List.setIfInBounds_toArray, List.set_cons_zero, List.set_cons_succ]
        refine wpAnyH_take (i := 5) (oi := { dst := some 62, op := Op.move (Operand.tmp 67), type := 45, pos := "law.go:59", after := #[{ on := 4, ground := Ground.data }], guard := none }) (v := ?_) rfl (by kernel_rfl) (by kernel_rfl) (by kernel_rfl) (fun _ _ _ h => h) (Or.inl ⟨by rfl, ?_⟩) (by assumption) ?_
        rotate_left
        · intro w hSw
          clear hSw
          go_simp
          all_goals with_reducible rfl
        simp only [Act.put, List.setIfInBounds_toArray, List.set_cons_zero, List.set_cons_succ]
        refine wpAnyH_take (i := 6) (oi := { dst := some 68, op := Op.extract (Operand.tmp 62) 0, type := 37, pos := "law.go:59", after := #[{ on := 5, ground := Ground.data }], guard := none }) (v := ?_) rfl (by kernel_rfl) (by kernel_rfl) (by kernel_rfl) (fun _ _ _ h => h) (Or.inl ⟨by rfl, ?_⟩) (by assumption) ?_
        rotate_left
        · intro w hSw
          clear hSw
          go_simp
          all_goals with_reducible rfl
        simp only [Act.put, List.setIfInBounds_toArray, List.set_cons_zero, List.set_cons_succ]
        refine wpAnyH_take (i := 7) (oi := { dst := some 69, op := Op.extract (Operand.tmp 62) 1, type := 3, pos := "law.go:59", after := #[{ on := 5, ground := Ground.data }, { on := 9, ground := Ground.gcOnly Departure.lateStores }], guard := none }) (v := ?_) rfl (by kernel_rfl) (by kernel_rfl) (by kernel_rfl) (fun _ _ _ h => h) (Or.inl ⟨by rfl, ?_⟩) (by assumption) ?_
        rotate_left
        · intro w hSw
          clear hSw
          go_simp
          all_goals with_reducible rfl
        simp only [Act.put, List.setIfInBounds_toArray, List.set_cons_zero, List.set_cons_succ]
        refine wpAnyH_ready (rs := [8]) (by kernel_rfl) (by simp) ?_
        refine step_alloc_as (o := { dst := some 18, op := Op.alloc 37, type := 0, pos := "law.go:59", after := #[], guard := none }) rfl rfl 37 rfl _ _ (alloc37 Z2) AllReadyH.nil ⟨CZ2.out.alloc _, fun hHeld => ?_⟩
        clear hHeld
        simp only [Act.put, List.setIfInBounds_toArray, List.set_cons_zero, List.set_cons_succ]
        obtain ⟨g18, hg18⟩ : ∃ gg, gg = Z2.heap.size := ⟨_, rfl⟩
        rw [← hg18]
        generalize hZ : Z2.alloc _ = Z3
        have hb2 : Below Z2.heap.size Z2 Z3 := by rw [← hZ]; exact (Below.refl _ _).alloc (Nat.le_refl _) _
        have Rg18 : Hid (Z3.heap[g18]? = some (.cells #[.int .u64 0, .int .u64 0, .slice none 0 0] 37 (0, 0))) := by rw [← hZ, hg18]; exact heap_alloc_new _ _
        have Gg18 := hide (show V4.heap.size ≤ g18 by rw [hg18]; exact CZ2.out.size)
        clear hZ hg18
        replace DQ : Hid (DgRow 0 Z3 (.slice oQ k1 cQ) l1) := Rw.below (el := 23) DQ.out hb2
        have CZ3 : Hid (Chg (fun _ => False) V4 Z3) := CZ2.out.then hb2
        clear hb2 CZ2
        have hHeld := CZ3.out
        refine wpAnyH_ready (rs := [9]) (by kernel_rfl) (by simp) ?_
        obtain ⟨Z4, hst, r6, C6, s6⟩ := store_rrc (x := .int .u64 (p1 : Int)) (y := .int .u64 (z1 : Int)) (z := .slice oQ k1 cQ) Rg18.out rfl rfl rfl
        refine step_store_as (o := { dst := none, op := Op.store 37 (Operand.tmp 18) (Operand.tmp 68), type := 0, pos := "law.go:59", after := #[{ on := 8, ground := Ground.data }, { on := 6, ground := Ground.data }, { on := 4, ground := Ground.chain }, { on := 0, ground := Ground.phase }, { on := 1, ground := Ground.phase }, { on := 2, ground := Ground.phase }, { on := 3, ground := Ground.phase }, { on := 4, ground := Ground.phase }, { on := 5, ground := Ground.phase }, { on := 6, ground := Ground.phase }, { on := 7, ground := Ground.textOnly Departure.lateStores }, { on := 8, ground := Ground.phase }], guard := none }) rfl rfl 37 (.tmp 18) (.tmp 68) rfl _ _ rfl rfl Z4 hst AllReadyH.nil ⟨CZ3.out.trans C6 (fun k hk e => by have := Gg18.out; omega), fun hHeld => ?_⟩
        have CZ4 : Hid (Chg (fun _ => False) V4 Z4) := CZ3.out.trans C6 (fun k hk e => by have := Gg18.out; omega)
        replace DQ := hide (Rw.chg (el := 23) DQ.out C6 (fun j hj e => (Rw.apart (el := 23) DQ.out Rg18.out (by decide)) (by rw [← e]; exact hj)))
        replace Rg18 : Hid (Z4.heap[g18]? = some (.cells #[.int .u64 (p1 : Int), .int .u64 (z1 : Int), .slice oQ k1 cQ] 37 (0, 0))) := r6
        clear hst r6 C6 s6 CZ3
        simp only [Act.put]
        refine wpAnyH_take (i := 10) (oi := { dst := some 19, op := Op.assign (Operand.tmp 69), type := 3, pos := "law.go:59", after := #[{ on := 7, ground := Ground.data }, { on := 9, ground := Ground.chain }, { on := 0, ground := Ground.phase }, { on := 1, ground := Ground.phase }, { on := 2, ground := Ground.phase }, { on := 3, ground := Ground.phase }, { on := 4, ground := Ground.phase }, { on := 5, ground := Ground.phase }, { on := 6, ground := Ground.phase }, { on := 7, ground := Ground.phase }, { on := 8, ground := Ground.phase }, { on := 9, ground := Ground.phase }], guard := none }) (v := ?_) rfl (by kernel_rfl) (by kernel_rfl) (by kernel_rfl) (fun _ _ _ h => h) (Or.inl ⟨by rfl, ?_⟩) (by assumption) ?_
        rotate_left
        · intro w hSw
          clear hSw
          go_simp
          all_goals with_reducible rfl
        simp only [Act.put, List.setIfInBounds_toArray, List.set_cons_zero, List.set_cons_succ]
        refine wpAnyH_done (by kernel_rfl) ?_ _
        refine NoPanic.normal ?_
        clear hHeld
        have BF := hide (show Below V4.heap.size V4 Z4 from (CZ4.out.below _ (Nat.le_refl _) (fun _ _ e => e)))
        go_wp2_with fail
        go_meet
        case rel => exact ⟨g18, oQ, cQ, rfl, rfl, Rg18, hide (DgRow.dgAt DQ.out OK1.out.1 OK1.out.2), BF⟩
      refine step_alloc_as (o := { dst := some 18, op := Op.alloc 37, type := 0, pos := "law.go:59", after := #[], guard := none }) rfl rfl 37 rfl _ _ (alloc37 Z1) AllReadyH.nil ⟨CZ1.out.alloc _, fun hHeld => ?_⟩
      clear hHeld
      simp only [Act.put, List.setIfInBounds_toArray, List.set_cons_zero, List.set_cons_succ]
      obtain ⟨g18, hg18⟩ : ∃ gg, gg = Z1.heap.size := ⟨_, rfl⟩
      rw [← hg18]
      generalize hZ : Z1.alloc _ = Z2
      have hb2 : Below Z1.heap.size Z1 Z2 := by rw [← hZ]; exact (Below.refl _ _).alloc (Nat.le_refl _) _
      have Rg18 : Hid (Z2.heap[g18]? = some (.cells #[.int .u64 0, .int .u64 0, .slice none 0 0] 37 (0, 0))) := by rw [← hZ, hg18]; exact heap_alloc_new _ _
      have Gg18 := hide (show V4.heap.size ≤ g18 by rw [hg18]; exact CZ1.out.size)
      clear hZ hg18
      have CZ2 : Hid (Chg (fun _ => False) V4 Z2) := CZ1.out.then hb2
      clear hb2 CZ1
      have hHeld := CZ2.out
      refine wpAnyH_ready (rs := [4]) (by kernel_rfl) (by simp) ?_
      refine AllReadyH.cons (o := { dst := some 67, op := Op.call { callee := Callee.value (Operand.func 20), args := #[Operand.tmp 63, Operand.tmp 65, Operand.tmp 66], argTypes := #[42, 37, 23] }, type := 45, pos := "law.go:59", after := #[{ on := 0, ground := Ground.data }, { on := 2, ground := Ground.data }, { on := 3, ground := Ground.data }, { on := 2, ground := Ground.chain }], guard := none }) rfl (fun K hK => ?_) AllReadyH.nil
      go_simp
      refine (radd_v a gh gT b1 e1 (.slice o1 N1 c1) hs1 d (.agg (S.v8l d).toArray) (by rw [S.v8_eq]) Z2 hb1 he1 HD.out (D1.out.below (CZ2.out.below _ (Nat.le_refl _) (fun _ _ e => e))) (HH.out.below (CZ2.out.below _ (Nat.le_refl _) (fun _ _ e => e)) (Nat.le_refl _))).mono ?_
      rintro e Z3 ha
      rw [HA1.out] at ha
      obtain ⟨oQ, cQ, rfl, hd2, hb2⟩ := ha.some
      rw [← HK1.out] at hd2 ⊢
      have DQ : Hid (DgRow 0 _ (.slice oQ k1 cQ) l1) := hide hd2
      clear hd2
      replace Rg18 : Hid (Z3.heap[g18]? = some (.cells #[.int .u64 0, .int .u64 0, .slice none 0 0] 37 (0, 0))) := (hb2.block _ (block_lt_of_row Rg18.out)).trans Rg18.out
      have CZ3 : Hid (Chg (fun _ => False) V4 Z3) := CZ2.out.then hb2
      clear hb2 CZ2
      clear hHeld
      refine hK.out _ _ CZ3.out (fun hHeld => ?_)
      clear hK K
      try simp only [Act.put, List.setIfInBounds_toArray, List.set_cons_zero, List.set_cons_succ]
      refine wpAnyH_take (i := 5) (oi := { dst := some 62, op := Op.move (Operand.tmp 67), type := 45, pos := "law.go:59", after := #[{ on := 4, ground := Ground.data }], guard := none }) (v := ?_) rfl (by kernel_rfl) (by kernel_rfl) (by kernel_rfl) (fun _ _ _ h => h) (Or.inl ⟨by rfl, ?_⟩) (by assumption) ?_
      rotate_left
      · intro w hSw
        clear hSw
        go_simp
        all_goals with_reducible rfl
      simp only [Act.put, List.setIfInBounds_toArray, List.set_cons_zero, List.set_cons_succ]
      refine wpAnyH_take (i := 6) (oi := { dst := some 68, op := Op.extract (Operand.tmp 62) 0, type := 37, pos := "law.go:59", after := #[{ on := 5, ground := Ground.data }], guard := none }) (v := ?_) rfl (by kernel_rfl) (by kernel_rfl) (by kernel_rfl) (fun _ _ _ h => h) (Or.inl ⟨by rfl, ?_⟩) (by assumption) ?_
      rotate_left
      · intro w hSw
        clear hSw
        go_simp
        all_goals with_reducible rfl
      simp only [Act.put, List.setIfInBounds_toArray, List.set_cons_zero, List.set_cons_succ]
      refine wpAnyH_take (i := 7) (oi := { dst := some 69, op := Op.extract (Operand.tmp 62) 1, type := 3, pos := "law.go:59", after := #[{ on := 5, ground := Ground.data }, { on := 9, ground := Ground.gcOnly Departure.lateStores }], guard := none }) (v := ?_) rfl (by kernel_rfl) (by kernel_rfl) (by kernel_rfl) (fun _ _ _ h => h) (Or.inl ⟨by rfl, ?_⟩) (by assumption) ?_
      rotate_left
      · intro w hSw
        clear hSw
        go_simp
        all_goals with_reducible rfl
      simp only [Act.put, List.setIfInBounds_toArray, List.set_cons_zero, List.set_cons_succ]
      refine wpAnyH_ready (rs := [9]) (by kernel_rfl) (by simp) ?_
      obtain ⟨Z4, hst, r6, C6, s6⟩ := store_rrc (x := .int .u64 (p1 : Int)) (y := .int .u64 (z1 : Int)) (z := .slice oQ k1 cQ) Rg18.out rfl rfl rfl
      refine step_store_as (o := { dst := none, op := Op.store 37 (Operand.tmp 18) (Operand.tmp 68), type := 0, pos := "law.go:59", after := #[{ on := 8, ground := Ground.data }, { on := 6, ground := Ground.data }, { on := 4, ground := Ground.chain }, { on := 0, ground := Ground.phase }, { on := 1, ground := Ground.phase }, { on := 2, ground := Ground.phase }, { on := 3, ground := Ground.phase }, { on := 4, ground := Ground.phase }, { on := 5, ground := Ground.phase }, { on := 6, ground := Ground.phase }, { on := 7, ground := Ground.textOnly Departure.lateStores }, { on := 8, ground := Ground.phase }], guard := none }) rfl rfl 37 (.tmp 18) (.tmp 68) rfl _ _ rfl rfl Z4 hst AllReadyH.nil ⟨CZ3.out.trans C6 (fun k hk e => by have := Gg18.out; omega), fun hHeld => ?_⟩
      have CZ4 : Hid (Chg (fun _ => False) V4 Z4) := CZ3.out.trans C6 (fun k hk e => by have := Gg18.out; omega)
      replace DQ := hide (Rw.chg (el := 23) DQ.out C6 (fun j hj e => (Rw.apart (el := 23) DQ.out Rg18.out (by decide)) (by rw [← e]; exact hj)))
      replace Rg18 : Hid (Z4.heap[g18]? = some (.cells #[.int .u64 (p1 : Int), .int .u64 (z1 : Int), .slice oQ k1 cQ] 37 (0, 0))) := r6
      clear hst r6 C6 s6 CZ3
      simp only [Act.put]
      refine wpAnyH_take (i := 10) (oi := { dst := some 19, op := Op.assign (Operand.tmp 69), type := 3, pos := "law.go:59", after := #[{ on := 7, ground := Ground.data }, { on := 9, ground := Ground.chain }, { on := 0, ground := Ground.phase }, { on := 1, ground := Ground.phase }, { on := 2, ground := Ground.phase }, { on := 3, ground := Ground.phase }, { on := 4, ground := Ground.phase }, { on := 5, ground := Ground.phase }, { on := 6, ground := Ground.phase }, { on := 7, ground := Ground.phase }, { on := 8, ground := Ground.phase }, { on := 9, ground := Ground.phase }], guard := none }) (v := ?_) rfl (by kernel_rfl) (by kernel_rfl) (by kernel_rfl) (fun _ _ _ h => h) (Or.inl ⟨by rfl, ?_⟩) (by assumption) ?_
      rotate_left
      · intro w hSw
        clear hSw
        go_simp
        all_goals with_reducible rfl
      simp only [Act.put, List.setIfInBounds_toArray, List.set_cons_zero, List.set_cons_succ]
      refine wpAnyH_done (by kernel_rfl) ?_ _
      refine NoPanic.normal ?_
      clear hHeld
      have BF := hide (show Below V4.heap.size V4 Z4 from (CZ4.out.below _ (Nat.le_refl _) (fun _ _ e => e)))
      go_wp2_with fail
      go_meet
      case rel => exact ⟨g18, oQ, cQ, rfl, rfl, Rg18, hide (DgRow.dgAt DQ.out OK1.out.1 OK1.out.2), BF⟩
    refine step_alloc_as (o := { dst := some 18, op := Op.alloc 37, type := 0, pos := "law.go:59", after := #[], guard := none }) rfl rfl 37 rfl _ _ (alloc37 Z0) AllReadyH.nil ⟨CZ0.out.alloc _, fun hHeld => ?_⟩
    clear hHeld
    simp only [Act.put, List.setIfInBounds_toArray, List.set_cons_zero, List.set_cons_succ]
    obtain ⟨g18, hg18⟩ : ∃ gg, gg = Z0.heap.size := ⟨_, rfl⟩
    rw [← hg18]
    generalize hZ : Z0.alloc _ = Z1
    have hb2 : Below Z0.heap.size Z0 Z1 := by rw [← hZ]; exact (Below.refl _ _).alloc (Nat.le_refl _) _
    have Rg18 : Hid (Z1.heap[g18]? = some (.cells #[.int .u64 0, .int .u64 0, .slice none 0 0] 37 (0, 0))) := by rw [← hZ, hg18]; exact heap_alloc_new _ _
    have Gg18 := hide (show V4.heap.size ≤ g18 by rw [hg18]; exact CZ0.out.size)
    clear hZ hg18
    have CZ1 : Hid (Chg (fun _ => False) V4 Z1) := CZ0.out.then hb2
    clear hb2 CZ0
    have hHeld := CZ1.out
    refine wpAnyH_ready (rs := [2]) (by kernel_rfl) (by simp) ?_
    refine AllReadyH.cons (o := { dst := some 65, op := Op.call { callee := Callee.value (Operand.func 21), args := #[Operand.tmp 64], argTypes := #[30] }, type := 37, pos := "law.go:59", after := #[{ on := 1, ground := Ground.data }], guard := none }) rfl (fun K hK => ?_) AllReadyH.nil
    go_simp
    refine (plain_any b1 e1 o1 N1 c1 Z1).mono ?_
    rintro e Z2 ⟨rfl, hb2⟩
    replace Rg18 : Hid (Z2.heap[g18]? = some (.cells #[.int .u64 0, .int .u64 0, .slice none 0 0] 37 (0, 0))) := (hb2.block _ (block_lt_of_row Rg18.out)).trans Rg18.out
    have CZ2 : Hid (Chg (fun _ => False) V4 Z2) := CZ1.out.then hb2
    clear hb2 CZ1
    clear hHeld
    refine hK.out _ _ CZ2.out (fun hHeld => ?_)
    clear hK K
    try simp only [Act.put, List.setIfInBounds_toArray, List.set_cons_zero, List.set_cons_succ]
    refine wpAnyH_ready (rs := [4]) (by kernel_rfl) (by simp) ?_
    refine AllReadyH.cons (o := { dst := some 67, op := Op.call { callee := Callee.value (Operand.func 20), args := #[Operand.tmp 63, Operand.tmp 65, Operand.tmp 66], argTypes := #[42, 37, 23] }, type := 45, pos := "law.go:59", after := #[{ on := 0, ground := Ground.data }, { on := 2, ground := Ground.data }, { on := 3, ground := Ground.data }, { on := 2, ground := Ground.chain }], guard := none }) rfl (fun K hK => ?_) AllReadyH.nil
    go_simp
    refine (radd_v a gh gT b1 e1 (.slice o1 N1 c1) hs1 d (.agg (S.v8l d).toArray) (by rw [S.v8_eq]) Z2 hb1 he1 HD.out (D1.out.below (CZ2.out.below _ (Nat.le_refl _) (fun _ _ e => e))) (HH.out.below (CZ2.out.below _ (Nat.le_refl _) (fun _ _ e => e)) (Nat.le_refl _))).mono ?_
    rintro e Z3 ha
    rw [HA1.out] at ha
    obtain ⟨oQ, cQ, rfl, hd2, hb2⟩ := ha.some
    rw [← HK1.out] at hd2 ⊢
    have DQ : Hid (DgRow 0 _ (.slice oQ k1 cQ) l1) := hide hd2
    clear hd2
    replace Rg18 : Hid (Z3.heap[g18]? = some (.cells #[.int .u64 0, .int .u64 0, .slice none 0 0] 37 (0, 0))) := (hb2.block _ (block_lt_of_row Rg18.out)).trans Rg18.out
    have CZ3 : Hid (Chg (fun _ => False) V4 Z3) := CZ2.out.then hb2
    clear hb2 CZ2
    clear hHeld
    refine hK.out _ _ CZ3.out (fun hHeld => ?_)
    clear hK K
    try simp only [Act.put, List.setIfInBounds_toArray, List.set_cons_zero, List.set_cons_succ]
    refine wpAnyH_take (i := 5) (oi := { dst := some 62, op := Op.move (Operand.tmp 67), type := 45, pos := "law.go:59", after := #[{ on := 4, ground := Ground.data }], guard := none }) (v := ?_) rfl (by kernel_rfl) (by kernel_rfl) (by kernel_rfl) (fun _ _ _ h => h) (Or.inl ⟨by rfl, ?_⟩) (by assumption) ?_
    rotate_left
    · intro w hSw
      clear hSw
      go_simp
      all_goals with_reducible rfl
    simp only [Act.put, List.setIfInBounds_toArray, List.set_cons_zero, List.set_cons_succ]
    refine wpAnyH_take (i := 6) (oi := { dst := some 68, op := Op.extract (Operand.tmp 62) 0, type := 37, pos := "law.go:59", after := #[{ on := 5, ground := Ground.data }], guard := none }) (v := ?_) rfl (by kernel_rfl) (by kernel_rfl) (by kernel_rfl) (fun _ _ _ h => h) (Or.inl ⟨by rfl, ?_⟩) (by assumption) ?_
    rotate_left
    · intro w hSw
      clear hSw
      go_simp
      all_goals with_reducible rfl
    simp only [Act.put, List.setIfInBounds_toArray, List.set_cons_zero, List.set_cons_succ]
    refine wpAnyH_take (i := 7) (oi := { dst := some 69, op := Op.extract (Operand.tmp 62) 1, type := 3, pos := "law.go:59", after := #[{ on := 5, ground := Ground.data }, { on := 9, ground := Ground.gcOnly Departure.lateStores }], guard := none }) (v := ?_) rfl (by kernel_rfl) (by kernel_rfl) (by kernel_rfl) (fun _ _ _ h => h) (Or.inl ⟨by rfl, ?_⟩) (by assumption) ?_
    rotate_left
    · intro w hSw
      clear hSw
      go_simp
      all_goals with_reducible rfl
    simp only [Act.put, List.setIfInBounds_toArray, List.set_cons_zero, List.set_cons_succ]
    refine wpAnyH_ready (rs := [9]) (by kernel_rfl) (by simp) ?_
    obtain ⟨Z4, hst, r6, C6, s6⟩ := store_rrc (x := .int .u64 (p1 : Int)) (y := .int .u64 (z1 : Int)) (z := .slice oQ k1 cQ) Rg18.out rfl rfl rfl
    refine step_store_as (o := { dst := none, op := Op.store 37 (Operand.tmp 18) (Operand.tmp 68), type := 0, pos := "law.go:59", after := #[{ on := 8, ground := Ground.data }, { on := 6, ground := Ground.data }, { on := 4, ground := Ground.chain }, { on := 0, ground := Ground.phase }, { on := 1, ground := Ground.phase }, { on := 2, ground := Ground.phase }, { on := 3, ground := Ground.phase }, { on := 4, ground := Ground.phase }, { on := 5, ground := Ground.phase }, { on := 6, ground := Ground.phase }, { on := 7, ground := Ground.textOnly Departure.lateStores }, { on := 8, ground := Ground.phase }], guard := none }) rfl rfl 37 (.tmp 18) (.tmp 68) rfl _ _ rfl rfl Z4 hst AllReadyH.nil ⟨CZ3.out.trans C6 (fun k hk e => by have := Gg18.out; omega), fun hHeld => ?_⟩
    have CZ4 : Hid (Chg (fun _ => False) V4 Z4) := CZ3.out.trans C6 (fun k hk e => by have := Gg18.out; omega)
    replace DQ := hide (Rw.chg (el := 23) DQ.out C6 (fun j hj e => (Rw.apart (el := 23) DQ.out Rg18.out (by decide)) (by rw [← e]; exact hj)))
    replace Rg18 : Hid (Z4.heap[g18]? = some (.cells #[.int .u64 (p1 : Int), .int .u64 (z1 : Int), .slice oQ k1 cQ] 37 (0, 0))) := r6
    clear hst r6 C6 s6 CZ3
    simp only [Act.put]
    refine wpAnyH_take (i := 10) (oi := { dst := some 19, op := Op.assign (Operand.tmp 69), type := 3, pos := "law.go:59", after := #[{ on := 7, ground := Ground.data }, { on := 9, ground := Ground.chain }, { on := 0, ground := Ground.phase }, { on := 1, ground := Ground.phase }, { on := 2, ground := Ground.phase }, { on := 3, ground := Ground.phase }, { on := 4, ground := Ground.phase }, { on := 5, ground := Ground.phase }, { on := 6, ground := Ground.phase }, { on := 7, ground := Ground.phase }, { on := 8, ground := Ground.phase }, { on := 9, ground := Ground.phase }], guard := none }) (v := ?_) rfl (by kernel_rfl) (by kernel_rfl) (by kernel_rfl) (fun _ _ _ h => h) (Or.inl ⟨by rfl, ?_⟩) (by assumption) ?_
    rotate_left
    · intro w hSw
      clear hSw
      go_simp
      all_goals with_reducible rfl
    simp only [Act.put, List.setIfInBounds_toArray, List.set_cons_zero, List.set_cons_succ]
    refine wpAnyH_done (by kernel_rfl) ?_ _
    refine NoPanic.normal ?_
    clear hHeld
    have BF := hide (show Below V4.heap.size V4 Z4 from (CZ4.out.below _ (Nat.le_refl _) (fun _ _ e => e)))
    go_wp2_with fail
    go_meet
    case rel => exact ⟨g18, oQ, cQ, rfl, rfl, Rg18, hide (DgRow.dgAt DQ.out OK1.out.1 OK1.out.2), BF⟩
  obtain ⟨g18, oQ, cQ, rfl, rfl, R18, DQ, BC⟩ := hcut
  replace R7 : Hid (wc.heap[w.heap.size]? = some (.cells #[.int .u64 (b1 : Int), .int .u64 (e1 : Int), .slice o1 N1 c1] 30 (0, 0))) := (BC.out.block _ (block_lt_of_row R7.out)).trans R7.out
  replace R8 : Hid (wc.heap[w.heap.size + 1]? = some (.cells #[.int .u64 (b2 : Int), .int .u64 (e2 : Int), .slice o2 N2 c2] 30 (0, 0))) := (BC.out.block _ (block_lt_of_row R8.out)).trans R8.out
  replace R9 : Hid (wc.heap[w.heap.size + 2]? = some (.cells (S.v8 d) 23 (0, 0))) := (BC.out.block _ (block_lt_of_row R9.out)).trans R9.out
  replace R15 : Hid (wc.heap[g15]? = some (.cells #[.int .u64 (b1 : Int), .int .u64 (e1 : Int), .slice (some ⟨gF, 0, none⟩) N1 KK] 30 (0, 0))) := (BC.out.block _ (block_lt_of_row R15.out)).trans R15.out
  replace R16 : Hid (wc.heap[g16]? = some (.cells #[.int .u64 (p1 : Int), .int .u64 (z1 : Int), .slice o16 k1 c16] 30 (0, 0))) := (BC.out.block _ (block_lt_of_row R16.out)).trans R16.out
  replace D1 : Hid (DgAt wc (.slice o1 N1 c1) hs1) := hide (D1.out.below BC.out)
  replace D2 : Hid (DgAt wc (.slice o2 N2 c2) hs2) := hide (D2.out.below BC.out)
  replace FA : Hid (DgAt wc (.slice (some ⟨gF, 0, none⟩) KK KK) (hs1 ++ List.replicate 80 S.nine)) := hide (FA.out.below BC.out)
  replace FT : Hid (DgAt wc (.slice (some ⟨gF, 0, none⟩) N1 KK) hs1) := hide (FT.out.below BC.out)
  replace D16 : Hid (DgAt wc (.slice o16 k1 c16) l1) := hide (D16.out.below BC.out)
  replace HH : Hid (HsAt wc gh gT a) := hide (HH.out.below BC.out (Nat.le_refl _))
  replace BW : Hid (Below w.heap.size w wc) := hide (BW.out.trans (BC.out.mono BW.out.size))
  clear BC
  clear hszd
  obtain ⟨y00, y01, y02⟩ := cells3 R15.out
  obtain ⟨y10, y11, y12⟩ := cells3 R8.out
  go_wp2_with fail
  refine (merge_any a b1 e1 b2 e2 (.slice (some ⟨gF, 0, none⟩) N1 KK) (.slice o2 N2 c2) hs1 hs2 wc hb1 he1 hb2 he2 FT.out D2.out (HK.out.below BW.out h0)).mono ?_
  rintro r V5 ha
  rw [HA2.out] at ha
  obtain ⟨o20, c20, rfl, hd, hb⟩ := ha.some
  rw [← HK2.out] at hd ⊢
  have D20 : Hid (DgAt V5 (.slice o20 k2 c20) l2) := hide (hd.dgAt OK2.out.1 OK2.out.2)
  replace R7 : Hid (V5.heap[w.heap.size]? = some (.cells #[.int .u64 (b1 : Int), .int .u64 (e1 : Int), .slice o1 N1 c1] 30 (0, 0))) := (hb.block _ (block_lt_of_row R7.out)).trans R7.out
  replace R8 : Hid (V5.heap[w.heap.size + 1]? = some (.cells #[.int .u64 (b2 : Int), .int .u64 (e2 : Int), .slice o2 N2 c2] 30 (0, 0))) := (hb.block _ (block_lt_of_row R8.out)).trans R8.out
  replace R9 : Hid (V5.heap[w.heap.size + 2]? = some (.cells (S.v8 d) 23 (0, 0))) := (hb.block _ (block_lt_of_row R9.out)).trans R9.out
  replace R15 : Hid (V5.heap[g15]? = some (.cells #[.int .u64 (b1 : Int), .int .u64 (e1 : Int), .slice (some ⟨gF, 0, none⟩) N1 KK] 30 (0, 0))) := (hb.block _ (block_lt_of_row R15.out)).trans R15.out
  replace R16 : Hid (V5.heap[g16]? = some (.cells #[.int .u64 (p1 : Int), .int .u64 (z1 : Int), .slice o16 k1 c16] 30 (0, 0))) := (hb.block _ (block_lt_of_row R16.out)).trans R16.out
  replace R18 : Hid (V5.heap[g18]? = some (.cells #[.int .u64 (p1 : Int), .int .u64 (z1 : Int), .slice oQ k1 cQ] 37 (0, 0))) := (hb.block _ (block_lt_of_row R18.out)).trans R18.out
  replace D1 : Hid (DgAt V5 (.slice o1 N1 c1) hs1) := hide (D1.out.below hb)
  replace D2 : Hid (DgAt V5 (.slice o2 N2 c2) hs2) := hide (D2.out.below hb)
  replace FA : Hid (DgAt V5 (.slice (some ⟨gF, 0, none⟩) KK KK) (hs1 ++ List.replicate 80 S.nine)) := hide (FA.out.below hb)
  replace FT : Hid (DgAt V5 (.slice (some ⟨gF, 0, none⟩) N1 KK) hs1) := hide (FT.out.below hb)
  replace D16 : Hid (DgAt V5 (.slice o16 k1 c16) l1) := hide (D16.out.below hb)
  replace DQ : Hid (DgAt V5 (.slice oQ k1 cQ) l1) := hide (DQ.out.below hb)
  replace HH : Hid (HsAt V5 gh gT a) := hide (HH.out.below hb (Nat.le_refl _))
  replace BW : Hid (Below w.heap.size w V5) := hide (BW.out.trans (hb.mono BW.out.size))
  clear hd hb y00 y01 y02 y10 y11 y12
  go_upto_region 9 with fail
  generalize hA_ : V5.alloc _ = V6
  have hb : Below V5.heap.size V5 V6 := by rw [← hA_]; exact (Below.refl _ _).alloc (Nat.le_refl _) _
  obtain ⟨g20, hg⟩ : ∃ g, g = V5.heap.size := ⟨_, rfl⟩
  have R20 : Hid (V6.heap[g20]? = some (.cells #[.int .u64 (p2 : Int), .int .u64 (z2 : Int), .slice o20 k2 c20] 30 (0, 0))) := by rw [← hA_, hg]; exact heap_alloc_new _ _
  rw [← hg]
  replace R7 : Hid (V6.heap[w.heap.size]? = some (.cells #[.int .u64 (b1 : Int), .int .u64 (e1 : Int), .slice o1 N1 c1] 30 (0, 0))) := (hb.block _ (block_lt_of_row R7.out)).trans R7.out
  replace R8 : Hid (V6.heap[w.heap.size + 1]? = some (.cells #[.int .u64 (b2 : Int), .int .u64 (e2 : Int), .slice o2 N2 c2] 30 (0, 0))) := (hb.block _ (block_lt_of_row R8.out)).trans R8.out
  replace R9 : Hid (V6.heap[w.heap.size + 2]? = some (.cells (S.v8 d) 23 (0, 0))) := (hb.block _ (block_lt_of_row R9.out)).trans R9.out
  replace R15 : Hid (V6.heap[g15]? = some (.cells #[.int .u64 (b1 : Int), .int .u64 (e1 : Int), .slice (some ⟨gF, 0, none⟩) N1 KK] 30 (0, 0))) := (hb.block _ (block_lt_of_row R15.out)).trans R15.out
  replace R16 : Hid (V6.heap[g16]? = some (.cells #[.int .u64 (p1 : Int), .int .u64 (z1 : Int), .slice o16 k1 c16] 30 (0, 0))) := (hb.block _ (block_lt_of_row R16.out)).trans R16.out
  replace R18 : Hid (V6.heap[g18]? = some (.cells #[.int .u64 (p1 : Int), .int .u64 (z1 : Int), .slice oQ k1 cQ] 37 (0, 0))) := (hb.block _ (block_lt_of_row R18.out)).trans R18.out
  replace D1 : Hid (DgAt V6 (.slice o1 N1 c1) hs1) := hide (D1.out.below hb)
  replace D2 : Hid (DgAt V6 (.slice o2 N2 c2) hs2) := hide (D2.out.below hb)
  replace FA : Hid (DgAt V6 (.slice (some ⟨gF, 0, none⟩) KK KK) (hs1 ++ List.replicate 80 S.nine)) := hide (FA.out.below hb)
  replace FT : Hid (DgAt V6 (.slice (some ⟨gF, 0, none⟩) N1 KK) hs1) := hide (FT.out.below hb)
  replace D16 : Hid (DgAt V6 (.slice o16 k1 c16) l1) := hide (D16.out.below hb)
  replace DQ : Hid (DgAt V6 (.slice oQ k1 cQ) l1) := hide (DQ.out.below hb)
  replace D20 : Hid (DgAt V6 (.slice o20 k2 c20) l2) := hide (D20.out.below hb)
  replace HH : Hid (HsAt V6 gh gT a) := hide (HH.out.below hb (Nat.le_refl _))
  replace BW : Hid (Below w.heap.size w V6) := hide (BW.out.trans (hb.mono BW.out.size))
  clear hA_ hb hg
  go_cut [22, 23] from 28 (fun vp vn wc => ∃ (g22 : Nat) (oS : Option Addr) (cS : Nat), vp = .pointer (some ⟨g22, 0, none⟩) ∧ vn = .int .i64 (n2 : Int) ∧ Hid (wc.heap[g22]? = some (.cells #[.int .u64 (p2 : Int), .int .u64 (z2 : Int), .slice oS k2 cS] 37 (0, 0))) ∧ Hid (DgAt wc (.slice oS k2 cS) l2) ∧ Hid (Below V6.heap.size V6 wc))
  case first =>
    refine wp_region_noPanic ?_
    refine wp_region_held_drew (S := (fun W => Chg (fun _ => False) V6 W)) follows ((Chg.refl _ _).drew) (fun hHeld => ?_)
    clear hHeld
    have hHeld : Chg (fun _ => False) V6 V6.drew := (Chg.refl _ _).drew
    have CZ0 := hide hHeld
    generalize V6.drew = Z0 at CZ0 hHeld ⊢
    refine wpAnyH_take (i := 0) (oi := { dst := some 78, op := Op.move (Operand.tmp 13), type := 42, pos := "law.go:61", after := #[], guard := none }) (v := ?_) rfl (by kernel_rfl) (by kernel_rfl) (by kernel_rfl) (fun _ _ _ h => h) (Or.inl ⟨by rfl, ?_⟩) (by assumption) ?_
    rotate_left
    · intro w hSw
      clear hSw
      go_simp
      all_goals with_reducible rfl
    simp only [Act.put, List.setIfInBounds_toArray, List.set_cons_zero, List.set_cons_succ]
    refine wpAnyH_take (i := 1) (oi := { dst := some 79, op := Op.load 30 (Operand.tmp 7), type := 30, pos := "law.go:61", after := #[], guard := none }) (v := ?_) rfl (by kernel_rfl) (by kernel_rfl) (by kernel_rfl) (fun _ _ _ h => h) (Or.inl ⟨by rfl, ?_⟩) (by assumption) ?_
    rotate_left
    · intro w hSw
      obtain ⟨f0, f1, f2⟩ := cells3 (hSw.row R7.out (fun e => e))
      clear hSw
      go_simp
      all_goals with_reducible rfl
    simp only [Act.put, List.setIfInBounds_toArray, List.set_cons_zero, List.set_cons_succ]
    refine wpAnyH_take (i := 3) (oi := { dst := some 81, op := Op.load 30 (Operand.tmp 8), type := 30, pos := "law.go:61", after := #[], guard := none }) (v := ?_) rfl (by kernel_rfl) (by kernel_rfl) (by kernel_rfl) (fun _ _ _ h => h) (Or.inl ⟨by rfl, ?_⟩) (by assumption) ?_
    rotate_left
    · intro w hSw
      obtain ⟨f0, f1, f2⟩ := cells3 (hSw.row R8.out (fun e => e))
      clear hSw
      go_simp
      all_goals with_reducible rfl
    simp only [Act.put, List.setIfInBounds_toArray, List.set_cons_zero, List.set_cons_succ]
    refine wpAnyH_ready (rs := [2, 9]) (by kernel_rfl) (by simp) ?_
    refine AllReadyH.cons (o := { dst := some 80, op := Op.call { callee := Callee.value (Operand.func 21), args := #[Operand.tmp 79], argTypes := #[30] }, type := 37, pos := "law.go:61", after := #[{ on := 1, ground := Ground.data }], guard := none }) rfl (fun K hK => ?_) ?_
    · skip
      go_simp
      refine (plain_any b1 e1 o1 N1 c1 Z0).mono ?_
      rintro e Z1 ⟨rfl, hb2⟩
      have CZ1 : Hid (Chg (fun _ => False) V6 Z1) := CZ0.out.then hb2
      clear hb2 CZ0
      clear hHeld
      refine hK.out _ _ CZ1.out (fun hHeld => ?_)
      clear hK K
      try simp only [Act.put, List.setIfInBounds_toArray, List.set_cons_zero, List.set_cons_succ]
      refine wpAnyH_ready (rs := [4, 9]) (by kernel_rfl) (by simp) ?_
      refine AllReadyH.cons (o := { dst := some 82, op := Op.call { callee := Callee.value (Operand.func 21), args := #[Operand.tmp 81], argTypes := #[30] }, type := 37, pos := "law.go:61", after := #[{ on := 3, ground := Ground.data }, { on := 2, ground := Ground.chain }], guard := none }) rfl (fun K hK => ?_) ?_
      · skip
        go_simp
        refine (plain_any b2 e2 o2 N2 c2 Z1).mono ?_
        rintro e Z2 ⟨rfl, hb2⟩
        have CZ2 : Hid (Chg (fun _ => False) V6 Z2) := CZ1.out.then hb2
        clear hb2 CZ1
        clear hHeld
        refine hK.out _ _ CZ2.out (fun hHeld => ?_)
        clear hK K
        try simp only [Act.put, List.setIfInBounds_toArray, List.set_cons_zero, List.set_cons_succ]
        refine wpAnyH_ready (rs := [5, 9]) (by kernel_rfl) (by simp) ?_
        refine AllReadyH.cons (o := { dst := some 83, op := Op.call { callee := Callee.value (Operand.func 22), args := #[Operand.tmp 78, Operand.tmp 80, Operand.tmp 82], argTypes := #[42, 37, 37] }, type := 45, pos := "law.go:61", after := #[{ on := 0, ground := Ground.data }, { on := 2, ground := Ground.data }, { on := 4, ground := Ground.data }, { on := 4, ground := Ground.chain }], guard := none }) rfl (fun K hK => ?_) ?_
        · skip
          go_simp
          refine (rmerge_any a gh gT b1 e1 b2 e2 (.slice o1 N1 c1) (.slice o2 N2 c2) hs1 hs2 Z2 hb1 he1 hb2 he2 (D1.out.below (CZ2.out.below _ (Nat.le_refl _) (fun _ _ e => e))) (D2.out.below (CZ2.out.below _ (Nat.le_refl _) (fun _ _ e => e))) (HH.out.below (CZ2.out.below _ (Nat.le_refl _) (fun _ _ e => e)) (Nat.le_refl _))).mono ?_
          rintro e Z3 ha
          rw [HA2.out] at ha
          obtain ⟨oS, cS, rfl, hd2, hb2⟩ := ha.some
          rw [← HK2.out] at hd2 ⊢
          have DS : Hid (DgRow 0 _ (.slice oS k2 cS) l2) := hide hd2
          clear hd2
          have CZ3 : Hid (Chg (fun _ => False) V6 Z3) := CZ2.out.then hb2
          clear hb2 CZ2
          clear hHeld
          refine hK.out _ _ CZ3.out (fun hHeld => ?_)
          clear hK K
          try simp only [Act.put, List.setIfInBounds_toArray, List.set_cons_zero, List.set_cons_succ]
          refine wpAnyH_take (i := 6) (oi := { dst := some 77, op := Op.move (Operand.tmp 83), type := 45, pos := "law.go:61", after := #[{ on := 5, ground := Ground.data }], guard := none }) (v := ?_) rfl (by kernel_rfl) (by kernel_rfl) (by kernel_rfl) (fun _ _ _ h => h) (Or.inl ⟨by rfl, ?_⟩) (by assumption) ?_
          rotate_left
          · intro w hSw
            clear hSw
            go_simp
            all_goals with_reducible rfl
          simp only [Act.put, List.setIfInBounds_toArray, List.set_cons_zero, List.set_cons_succ]
          refine wpAnyH_take (i := 7) (oi := { dst := some 84, op := Op.extract (Operand.tmp 77) 0, type := 37, pos := "law.go:61", after := #[{ on := 6, ground := Ground.data }], guard := none }) (v := ?_) rfl (by kernel_rfl) (by kernel_rfl) (by kernel_rfl) (fun _ _ _ h => h) (Or.inl ⟨by rfl, ?_⟩) (by assumption) ?_
          rotate_left
          · intro w hSw
            clear hSw
            go_simp
            all_goals with_reducible rfl
          simp only [Act.put, List.setIfInBounds_toArray, List.set_cons_zero, List.set_cons_succ]
          refine wpAnyH_take (i := 8) (oi := { dst := some 85, op := Op.extract (Operand.tmp 77) 1, type := 3, pos := "law.go:61", after := #[{ on := 6, ground := Ground.data }, { on := 10, ground := Ground.gcOnly Departure.lateStores }], guard := none }) (v := ?_) rfl (by kernel_rfl) (by kernel_rfl) (by kernel_rfl) (fun _ _ _ h => h) (Or.inl ⟨by rfl, ?_⟩) (by assumption) ?_
          rotate_left
          · intro w hSw
            clear hSw
            go_simp
            all_goals with_reducible rfl
          simp only [Act.put, List.setIfInBounds_toArray, List.set_cons_zero, List.set_cons_succ]
          refine wpAnyH_ready (rs := [9]) (by kernel_rfl) (by simp) ?_
          refine step_alloc_as (o := { dst := some 22, op := Op.alloc 37, type := 0, pos := "law.go:61", after := #[], guard := none }) rfl rfl 37 rfl _ _ (alloc37 Z3) AllReadyH.nil ⟨CZ3.out.alloc _, fun hHeld => ?_⟩
          clear hHeld
          simp only [Act.put, List.setIfInBounds_toArray, List.set_cons_zero, List.set_cons_succ]
          obtain ⟨g22, hg22⟩ : ∃ gg, gg = Z3.heap.size := ⟨_, rfl⟩
          rw [← hg22]
          generalize hZ : Z3.alloc _ = Z4
          have hb2 : Below Z3.heap.size Z3 Z4 := by rw [← hZ]; exact (Below.refl _ _).alloc (Nat.le_refl _) _
          have Rg22 : Hid (Z4.heap[g22]? = some (.cells #[.int .u64 0, .int .u64 0, .slice none 0 0] 37 (0, 0))) := by rw [← hZ, hg22]; exact heap_alloc_new _ _
          have Gg22 := hide (show V6.heap.size ≤ g22 by rw [hg22]; exact CZ3.out.size)
          clear hZ hg22
          replace DS : Hid (DgRow 0 Z4 (.slice oS k2 cS) l2) := Rw.below (el := 23) DS.out hb2
          have CZ4 : Hid (Chg (fun _ => False) V6 Z4) := CZ3.out.then hb2
          clear hb2 CZ3
          have hHeld := CZ4.out
          refine wpAnyH_ready (rs := [10]) (by kernel_rfl) (by simp) ?_
          obtain ⟨Z5, hst, r6, C6, s6⟩ := store_rrc (x := .int .u64 (p2 : Int)) (y := .int .u64 (z2 : Int)) (z := .slice oS k2 cS) Rg22.out rfl rfl rfl
          refine step_store_as (o := { dst := none, op := Op.store 37 (Operand.tmp 22) (Operand.tmp 84), type := 0, pos := "law.go:61", after := #[{ on := 9, ground := Ground.data }, { on := 7, ground := Ground.data }, { on := 5, ground := Ground.chain }, { on := 0, ground := Ground.phase }, { on := 1, ground := Ground.phase }, { on := 2, ground := Ground.phase }, { on := 3, ground := Ground.phase }, { on := 4, ground := Ground.phase }, { on := 5, ground := Ground.phase }, { on := 6, ground := Ground.phase }, { on := 7, ground := Ground.phase }, { on := 8, ground := Ground.textOnly Departure.lateStores }, { on := 9, ground := Ground.phase }], guard := none }) rfl rfl 37 (.tmp 22) (.tmp 84) rfl _ _ rfl rfl Z5 hst AllReadyH.nil ⟨CZ4.out.trans C6 (fun k hk e => by have := Gg22.out; omega), fun hHeld => ?_⟩
          have CZ5 : Hid (Chg (fun _ => False) V6 Z5) := CZ4.out.trans C6 (fun k hk e => by have := Gg22.out; omega)
          replace DS := hide (Rw.chg (el := 23) DS.out C6 (fun j hj e => (Rw.apart (el := 23) DS.out Rg22.out (by decide)) (by rw [← e]; exact hj)))
          replace Rg22 : Hid (Z5.heap[g22]? = some (.cells #[.int .u64 (p2 : Int), .int .u64 (z2 : Int), .slice oS k2 cS] 37 (0, 0))) := r6
          clear hst r6 C6 s6 CZ4
          simp only [Act.put]
          refine wpAnyH_take (i := 11) (oi := { dst := some 23, op := Op.assign (Operand.tmp 85), type := 3, pos := "law.go:61", after := #[{ on := 8, ground := Ground.data }, { on := 10, ground := Ground.chain }, { on := 0, ground := Ground.phase }, { on := 1, ground := Ground.phase }, { on := 2, ground := Ground.phase }, { on := 3, ground := Ground.phase }, { on := 4, ground := Ground.phase }, { on := 5, ground := Ground.phase }, { on := 6, ground := Ground.phase }, { on := 7, ground := Ground.phase }, { on := 8, ground := Ground.phase }, { on := 9, ground := Ground.phase }, { on := 10, ground := Ground.phase }], guard := none }) (v := ?_) rfl (by kernel_rfl) (by kernel_rfl) (by kernel_rfl) (fun _ _ _ h => h) (Or.inl ⟨by rfl, ?_⟩) (by assumption) ?_
          rotate_left
          · intro w hSw
            clear hSw
            go_simp
            all_goals with_reducible rfl
          simp only [Act.put, List.setIfInBounds_toArray, List.set_cons_zero, List.set_cons_succ]
          refine wpAnyH_done (by kernel_rfl) ?_ _
          refine NoPanic.normal ?_
          clear hHeld
          have BF := hide (show Below V6.heap.size V6 Z5 from (CZ5.out.below _ (Nat.le_refl _) (fun _ _ e => e)))
          go_wp2_with fail
          go_meet
          case rel => exact ⟨g22, oS, cS, rfl, rfl, Rg22, hide (DgRow.dgAt DS.out OK2.out.1 OK2.out.2), BF⟩
        refine step_alloc_as (o := { dst := some 22, op := Op.alloc 37, type := 0, pos := "law.go:61", after := #[], guard := none }) rfl rfl 37 rfl _ _ (alloc37 Z2) AllReadyH.nil ⟨CZ2.out.alloc _, fun hHeld => ?_⟩
        clear hHeld
        simp only [Act.put, List.setIfInBounds_toArray, List.set_cons_zero, List.set_cons_succ]
        obtain ⟨g22, hg22⟩ : ∃ gg, gg = Z2.heap.size := ⟨_, rfl⟩
        rw [← hg22]
        generalize hZ : Z2.alloc _ = Z3
        have hb2 : Below Z2.heap.size Z2 Z3 := by rw [← hZ]; exact (Below.refl _ _).alloc (Nat.le_refl _) _
        have Rg22 : Hid (Z3.heap[g22]? = some (.cells #[.int .u64 0, .int .u64 0, .slice none 0 0] 37 (0, 0))) := by rw [← hZ, hg22]; exact heap_alloc_new _ _
        have Gg22 := hide (show V6.heap.size ≤ g22 by rw [hg22]; exact CZ2.out.size)
        clear hZ hg22
        have CZ3 : Hid (Chg (fun _ => False) V6 Z3) := CZ2.out.then hb2
        clear hb2 CZ2
        have hHeld := CZ3.out
        refine wpAnyH_ready (rs := [5]) (by kernel_rfl) (by simp) ?_
        refine AllReadyH.cons (o := { dst := some 83, op := Op.call { callee := Callee.value (Operand.func 22), args := #[Operand.tmp 78, Operand.tmp 80, Operand.tmp 82], argTypes := #[42, 37, 37] }, type := 45, pos := "law.go:61", after := #[{ on := 0, ground := Ground.data }, { on := 2, ground := Ground.data }, { on := 4, ground := Ground.data }, { on := 4, ground := Ground.chain }], guard := none }) rfl (fun K hK => ?_) AllReadyH.nil
        go_simp
        refine (rmerge_any a gh gT b1 e1 b2 e2 (.slice o1 N1 c1) (.slice o2 N2 c2) hs1 hs2 Z3 hb1 he1 hb2 he2 (D1.out.below (CZ3.out.below _ (Nat.le_refl _) (fun _ _ e => e))) (D2.out.below (CZ3.out.below _ (Nat.le_refl _) (fun _ _ e => e))) (HH.out.below (CZ3.out.below _ (Nat.le_refl _) (fun _ _ e => e)) (Nat.le_refl _))).mono ?_
        rintro e Z4 ha
        rw [HA2.out] at ha
        obtain ⟨oS, cS, rfl, hd2, hb2⟩ := ha.some
        rw [← HK2.out] at hd2 ⊢
        have DS : Hid (DgRow 0 _ (.slice oS k2 cS) l2) := hide hd2
        clear hd2
        replace Rg22 : Hid (Z4.heap[g22]? = some (.cells #[.int .u64 0, .int .u64 0, .slice none 0 0] 37 (0, 0))) := (hb2.block _ (block_lt_of_row Rg22.out)).trans Rg22.out
        have CZ4 : Hid (Chg (fun _ => False) V6 Z4) := CZ3.out.then hb2
        clear hb2 CZ3
        clear hHeld
        refine hK.out _ _ CZ4.out (fun hHeld => ?_)
        clear hK K
        try simp only [Act.put, List.setIfInBounds_toArray, List.set_cons_zero, List.set_cons_succ]
        refine wpAnyH_take (i := 6) (oi := { dst := some 77, op := Op.move (Operand.tmp 83), type := 45, pos := "law.go:61", after := #[{ on := 5, ground := Ground.data }], guard := none }) (v := ?_) rfl (by kernel_rfl) (by kernel_rfl) (by kernel_rfl) (fun _ _ _ h => h) (Or.inl ⟨by rfl, ?_⟩) (by assumption) ?_
        rotate_left
        · intro w hSw
          clear hSw
          go_simp
          all_goals with_reducible rfl
        simp only [Act.put, List.setIfInBounds_toArray, List.set_cons_zero, List.set_cons_succ]
        refine wpAnyH_take (i := 7) (oi := { dst := some 84, op := Op.extract (Operand.tmp 77) 0, type := 37, pos := "law.go:61", after := #[{ on := 6, ground := Ground.data }], guard := none }) (v := ?_) rfl (by kernel_rfl) (by kernel_rfl) (by kernel_rfl) (fun _ _ _ h => h) (Or.inl ⟨by rfl, ?_⟩) (by assumption) ?_
        rotate_left
        · intro w hSw
          clear hSw
          go_simp
          all_goals with_reducible rfl
        simp only [Act.put, List.setIfInBounds_toArray, List.set_cons_zero, List.set_cons_succ]
        refine wpAnyH_take (i := 8) (oi := { dst := some 85, op := Op.extract (Operand.tmp 77) 1, type := 3, pos := "law.go:61", after := #[{ on := 6, ground := Ground.data }, { on := 10, ground := Ground.gcOnly Departure.lateStores }], guard := none }) (v := ?_) rfl (by kernel_rfl) (by kernel_rfl) (by kernel_rfl) (fun _ _ _ h => h) (Or.inl ⟨by rfl, ?_⟩) (by assumption) ?_
        rotate_left
        · intro w hSw
          clear hSw
          go_simp
          all_goals with_reducible rfl
        simp only [Act.put, List.setIfInBounds_toArray, List.set_cons_zero, List.set_cons_succ]
        refine wpAnyH_ready (rs := [10]) (by kernel_rfl) (by simp) ?_
        obtain ⟨Z5, hst, r6, C6, s6⟩ := store_rrc (x := .int .u64 (p2 : Int)) (y := .int .u64 (z2 : Int)) (z := .slice oS k2 cS) Rg22.out rfl rfl rfl
        refine step_store_as (o := { dst := none, op := Op.store 37 (Operand.tmp 22) (Operand.tmp 84), type := 0, pos := "law.go:61", after := #[{ on := 9, ground := Ground.data }, { on := 7, ground := Ground.data }, { on := 5, ground := Ground.chain }, { on := 0, ground := Ground.phase }, { on := 1, ground := Ground.phase }, { on := 2, ground := Ground.phase }, { on := 3, ground := Ground.phase }, { on := 4, ground := Ground.phase }, { on := 5, ground := Ground.phase }, { on := 6, ground := Ground.phase }, { on := 7, ground := Ground.phase }, { on := 8, ground := Ground.textOnly Departure.lateStores }, { on := 9, ground := Ground.phase }], guard := none }) rfl rfl 37 (.tmp 22) (.tmp 84) rfl _ _ rfl rfl Z5 hst AllReadyH.nil ⟨CZ4.out.trans C6 (fun k hk e => by have := Gg22.out; omega), fun hHeld => ?_⟩
        have CZ5 : Hid (Chg (fun _ => False) V6 Z5) := CZ4.out.trans C6 (fun k hk e => by have := Gg22.out; omega)
        replace DS := hide (Rw.chg (el := 23) DS.out C6 (fun j hj e => (Rw.apart (el := 23) DS.out Rg22.out (by decide)) (by rw [← e]; exact hj)))
        replace Rg22 : Hid (Z5.heap[g22]? = some (.cells #[.int .u64 (p2 : Int), .int .u64 (z2 : Int), .slice oS k2 cS] 37 (0, 0))) := r6
        clear hst r6 C6 s6 CZ4
        simp only [Act.put]
        refine wpAnyH_take (i := 11) (oi := { dst := some 23, op := Op.assign (Operand.tmp 85), type := 3, pos := "law.go:61", after := #[{ on := 8, ground := Ground.data }, { on := 10, ground := Ground.chain }, { on := 0, ground := Ground.phase }, { on := 1, ground := Ground.phase }, { on := 2, ground := Ground.phase }, { on := 3, ground := Ground.phase }, { on := 4, ground := Ground.phase }, { on := 5, ground := Ground.phase }, { on := 6, ground := Ground.phase }, { on := 7, ground := Ground.phase }, { on := 8, ground := Ground.phase }, { on := 9, ground := Ground.phase }, { on := 10, ground := Ground.phase }], guard := none }) (v := ?_) rfl (by kernel_rfl) (by kernel_rfl) (by kernel_rfl) (fun _ _ _ h => h) (Or.inl ⟨by rfl, ?_⟩) (by assumption) ?_
        rotate_left
        · intro w hSw
          clear hSw
          go_simp
          all_goals with_reducible rfl
        simp only [Act.put, List.setIfInBounds_toArray, List.set_cons_zero, List.set_cons_succ]
        refine wpAnyH_done (by kernel_rfl) ?_ _
        refine NoPanic.normal ?_
        clear hHeld
        have BF := hide (show Below V6.heap.size V6 Z5 from (CZ5.out.below _ (Nat.le_refl _) (fun _ _ e => e)))
        go_wp2_with fail
        go_meet
        case rel => exact ⟨g22, oS, cS, rfl, rfl, Rg22, hide (DgRow.dgAt DS.out OK2.out.1 OK2.out.2), BF⟩
      refine step_alloc_as (o := { dst := some 22, op := Op.alloc 37, type := 0, pos := "law.go:61", after := #[], guard := none }) rfl rfl 37 rfl _ _ (alloc37 Z1) AllReadyH.nil ⟨CZ1.out.alloc _, fun hHeld => ?_⟩
      clear hHeld
      simp only [Act.put, List.setIfInBounds_toArray, List.set_cons_zero, List.set_cons_succ]
      obtain ⟨g22, hg22⟩ : ∃ gg, gg = Z1.heap.size := ⟨_, rfl⟩
      rw [← hg22]
      generalize hZ : Z1.alloc _ = Z2
      have hb2 : Below Z1.heap.size Z1 Z2 := by rw [← hZ]; exact (Below.refl _ _).alloc (Nat.le_refl _) _
      have Rg22 : Hid (Z2.heap[g22]? = some (.cells #[.int .u64 0, .int .u64 0, .slice none 0 0] 37 (0, 0))) := by rw [← hZ, hg22]; exact heap_alloc_new _ _
      have Gg22 := hide (show V6.heap.size ≤ g22 by rw [hg22]; exact CZ1.out.size)
      clear hZ hg22
      have CZ2 : Hid (Chg (fun _ => False) V6 Z2) := CZ1.out.then hb2
      clear hb2 CZ1
      have hHeld := CZ2.out
      refine wpAnyH_ready (rs := [4]) (by kernel_rfl) (by simp) ?_
      refine AllReadyH.cons (o := { dst := some 82, op := Op.call { callee := Callee.value (Operand.func 21), args := #[Operand.tmp 81], argTypes := #[30] }, type := 37, pos := "law.go:61", after := #[{ on := 3, ground := Ground.data }, { on := 2, ground := Ground.chain }], guard := none }) rfl (fun K hK => ?_) AllReadyH.nil
      go_simp
      refine (plain_any b2 e2 o2 N2 c2 Z2).mono ?_
      rintro e Z3 ⟨rfl, hb2⟩
      replace Rg22 : Hid (Z3.heap[g22]? = some (.cells #[.int .u64 0, .int .u64 0, .slice none 0 0] 37 (0, 0))) := (hb2.block _ (block_lt_of_row Rg22.out)).trans Rg22.out
      have CZ3 : Hid (Chg (fun _ => False) V6 Z3) := CZ2.out.then hb2
      clear hb2 CZ2
      clear hHeld
      refine hK.out _ _ CZ3.out (fun hHeld => ?_)
      clear hK K
      try simp only [Act.put, List.setIfInBounds_toArray, List.set_cons_zero, List.set_cons_succ]
      refine wpAnyH_ready (rs := [5]) (by kernel_rfl) (by simp) ?_
      refine AllReadyH.cons (o := { dst := some 83, op := Op.call { callee := Callee.value (Operand.func 22), args := #[Operand.tmp 78, Operand.tmp 80, Operand.tmp 82], argTypes := #[42, 37, 37] }, type := 45, pos := "law.go:61", after := #[{ on := 0, ground := Ground.data }, { on := 2, ground := Ground.data }, { on := 4, ground := Ground.data }, { on := 4, ground := Ground.chain }], guard := none }) rfl (fun K hK => ?_) AllReadyH.nil
      go_simp
      refine (rmerge_any a gh gT b1 e1 b2 e2 (.slice o1 N1 c1) (.slice o2 N2 c2) hs1 hs2 Z3 hb1 he1 hb2 he2 (D1.out.below (CZ3.out.below _ (Nat.le_refl _) (fun _ _ e => e))) (D2.out.below (CZ3.out.below _ (Nat.le_refl _) (fun _ _ e => e))) (HH.out.below (CZ3.out.below _ (Nat.le_refl _) (fun _ _ e => e)) (Nat.le_refl _))).mono ?_
      rintro e Z4 ha
      rw [HA2.out] at ha
      obtain ⟨oS, cS, rfl, hd2, hb2⟩ := ha.some
      rw [← HK2.out] at hd2 ⊢
      have DS : Hid (DgRow 0 _ (.slice oS k2 cS) l2) := hide hd2
      clear hd2
      replace Rg22 : Hid (Z4.heap[g22]? = some (.cells #[.int .u64 0, .int .u64 0, .slice none 0 0] 37 (0, 0))) := (hb2.block _ (block_lt_of_row Rg22.out)).trans Rg22.out
      have CZ4 : Hid (Chg (fun _ => False) V6 Z4) := CZ3.out.then hb2
      clear hb2 CZ3
      clear hHeld
      refine hK.out _ _ CZ4.out (fun hHeld => ?_)
      clear hK K
      try simp only [Act.put, List.setIfInBounds_toArray, List.set_cons_zero, List.set_cons_succ]
      refine wpAnyH_take (i := 6) (oi := { dst := some 77, op := Op.move (Operand.tmp 83), type := 45, pos := "law.go:61", after := #[{ on := 5, ground := Ground.data }], guard := none }) (v := ?_) rfl (by kernel_rfl) (by kernel_rfl) (by kernel_rfl) (fun _ _ _ h => h) (Or.inl ⟨by rfl, ?_⟩) (by assumption) ?_
      rotate_left
      · intro w hSw
        clear hSw
        go_simp
        all_goals with_reducible rfl
      simp only [Act.put, List.setIfInBounds_toArray, List.set_cons_zero, List.set_cons_succ]
      refine wpAnyH_take (i := 7) (oi := { dst := some 84, op := Op.extract (Operand.tmp 77) 0, type := 37, pos := "law.go:61", after := #[{ on := 6, ground := Ground.data }], guard := none }) (v := ?_) rfl (by kernel_rfl) (by kernel_rfl) (by kernel_rfl) (fun _ _ _ h => h) (Or.inl ⟨by rfl, ?_⟩) (by assumption) ?_
      rotate_left
      · intro w hSw
        clear hSw
        go_simp
        all_goals with_reducible rfl
      simp only [Act.put, List.setIfInBounds_toArray, List.set_cons_zero, List.set_cons_succ]
      refine wpAnyH_take (i := 8) (oi := { dst := some 85, op := Op.extract (Operand.tmp 77) 1, type := 3, pos := "law.go:61", after := #[{ on := 6, ground := Ground.data }, { on := 10, ground := Ground.gcOnly Departure.lateStores }], guard := none }) (v := ?_) rfl (by kernel_rfl) (by kernel_rfl) (by kernel_rfl) (fun _ _ _ h => h) (Or.inl ⟨by rfl, ?_⟩) (by assumption) ?_
      rotate_left
      · intro w hSw
        clear hSw
        go_simp
        all_goals with_reducible rfl
      simp only [Act.put, List.setIfInBounds_toArray, List.set_cons_zero, List.set_cons_succ]
      refine wpAnyH_ready (rs := [10]) (by kernel_rfl) (by simp) ?_
      obtain ⟨Z5, hst, r6, C6, s6⟩ := store_rrc (x := .int .u64 (p2 : Int)) (y := .int .u64 (z2 : Int)) (z := .slice oS k2 cS) Rg22.out rfl rfl rfl
      refine step_store_as (o := { dst := none, op := Op.store 37 (Operand.tmp 22) (Operand.tmp 84), type := 0, pos := "law.go:61", after := #[{ on := 9, ground := Ground.data }, { on := 7, ground := Ground.data }, { on := 5, ground := Ground.chain }, { on := 0, ground := Ground.phase }, { on := 1, ground := Ground.phase }, { on := 2, ground := Ground.phase }, { on := 3, ground := Ground.phase }, { on := 4, ground := Ground.phase }, { on := 5, ground := Ground.phase }, { on := 6, ground := Ground.phase }, { on := 7, ground := Ground.phase }, { on := 8, ground := Ground.textOnly Departure.lateStores }, { on := 9, ground := Ground.phase }], guard := none }) rfl rfl 37 (.tmp 22) (.tmp 84) rfl _ _ rfl rfl Z5 hst AllReadyH.nil ⟨CZ4.out.trans C6 (fun k hk e => by have := Gg22.out; omega), fun hHeld => ?_⟩
      have CZ5 : Hid (Chg (fun _ => False) V6 Z5) := CZ4.out.trans C6 (fun k hk e => by have := Gg22.out; omega)
      replace DS := hide (Rw.chg (el := 23) DS.out C6 (fun j hj e => (Rw.apart (el := 23) DS.out Rg22.out (by decide)) (by rw [← e]; exact hj)))
      replace Rg22 : Hid (Z5.heap[g22]? = some (.cells #[.int .u64 (p2 : Int), .int .u64 (z2 : Int), .slice oS k2 cS] 37 (0, 0))) := r6
      clear hst r6 C6 s6 CZ4
      simp only [Act.put]
      refine wpAnyH_take (i := 11) (oi := { dst := some 23, op := Op.assign (Operand.tmp 85), type := 3, pos := "law.go:61", after := #[{ on := 8, ground := Ground.data }, { on := 10, ground := Ground.chain }, { on := 0, ground := Ground.phase }, { on := 1, ground := Ground.phase }, { on := 2, ground := Ground.phase }, { on := 3, ground := Ground.phase }, { on := 4, ground := Ground.phase }, { on := 5, ground := Ground.phase }, { on := 6, ground := Ground.phase }, { on := 7, ground := Ground.phase }, { on := 8, ground := Ground.phase }, { on := 9, ground := Ground.phase }, { on := 10, ground := Ground.phase }], guard := none }) (v := ?_) rfl (by kernel_rfl) (by kernel_rfl) (by kernel_rfl) (fun _ _ _ h => h) (Or.inl ⟨by rfl, ?_⟩) (by assumption) ?_
      rotate_left
      · intro w hSw
        clear hSw
        go_simp
        all_goals with_reducible rfl
      simp only [Act.put, List.setIfInBounds_toArray, List.set_cons_zero, List.set_cons_succ]
      refine wpAnyH_done (by kernel_rfl) ?_ _
      refine NoPanic.normal ?_
      clear hHeld
      have BF := hide (show Below V6.heap.size V6 Z5 from (CZ5.out.below _ (Nat.le_refl _) (fun _ _ e => e)))
      go_wp2_with fail
      go_meet
      case rel => exact ⟨g22, oS, cS, rfl, rfl, Rg22, hide (DgRow.dgAt DS.out OK2.out.1 OK2.out.2), BF⟩
    refine step_alloc_as (o := { dst := some 22, op := Op.alloc 37, type := 0, pos := "law.go:61", after := #[], guard := none }) rfl rfl 37 rfl _ _ (alloc37 Z0) AllReadyH.nil ⟨CZ0.out.alloc _, fun hHeld => ?_⟩
    clear hHeld
    simp only [Act.put, List.setIfInBounds_toArray, List.set_cons_zero, List.set_cons_succ]
    obtain ⟨g22, hg22⟩ : ∃ gg, gg = Z0.heap.size := ⟨_, rfl⟩
    rw [← hg22]
    generalize hZ : Z0.alloc _ = Z1
    have hb2 : Below Z0.heap.size Z0 Z1 := by rw [← hZ]; exact (Below.refl _ _).alloc (Nat.le_refl _) _
    have Rg22 : Hid (Z1.heap[g22]? = some (.cells #[.int .u64 0, .int .u64 0, .slice none 0 0] 37 (0, 0))) := by rw [← hZ, hg22]; exact heap_alloc_new _ _
    have Gg22 := hide (show V6.heap.size ≤ g22 by rw [hg22]; exact CZ0.out.size)
    clear hZ hg22
    have CZ1 : Hid (Chg (fun _ => False) V6 Z1) := CZ0.out.then hb2
    clear hb2 CZ0
    have hHeld := CZ1.out
    refine wpAnyH_ready (rs := [2]) (by kernel_rfl) (by simp) ?_
    refine AllReadyH.cons (o := { dst := some 80, op := Op.call { callee := Callee.value (Operand.func 21), args := #[Operand.tmp 79], argTypes := #[30] }, type := 37, pos := "law.go:61", after := #[{ on := 1, ground := Ground.data }], guard := none }) rfl (fun K hK => ?_) AllReadyH.nil
    go_simp
    refine (plain_any b1 e1 o1 N1 c1 Z1).mono ?_
    rintro e Z2 ⟨rfl, hb2⟩
    replace Rg22 : Hid (Z2.heap[g22]? = some (.cells #[.int .u64 0, .int .u64 0, .slice none 0 0] 37 (0, 0))) := (hb2.block _ (block_lt_of_row Rg22.out)).trans Rg22.out
    have CZ2 : Hid (Chg (fun _ => False) V6 Z2) := CZ1.out.then hb2
    clear hb2 CZ1
    clear hHeld
    refine hK.out _ _ CZ2.out (fun hHeld => ?_)
    clear hK K
    try simp only [Act.put, List.setIfInBounds_toArray, List.set_cons_zero, List.set_cons_succ]
    refine wpAnyH_ready (rs := [4]) (by kernel_rfl) (by simp) ?_
    refine AllReadyH.cons (o := { dst := some 82, op := Op.call { callee := Callee.value (Operand.func 21), args := #[Operand.tmp 81], argTypes := #[30] }, type := 37, pos := "law.go:61", after := #[{ on := 3, ground := Ground.data }, { on := 2, ground := Ground.chain }], guard := none }) rfl (fun K hK => ?_) AllReadyH.nil
    go_simp
    refine (plain_any b2 e2 o2 N2 c2 Z2).mono ?_
    rintro e Z3 ⟨rfl, hb2⟩
    replace Rg22 : Hid (Z3.heap[g22]? = some (.cells #[.int .u64 0, .int .u64 0, .slice none 0 0] 37 (0, 0))) := (hb2.block _ (block_lt_of_row Rg22.out)).trans Rg22.out
    have CZ3 : Hid (Chg (fun _ => False) V6 Z3) := CZ2.out.then hb2
    clear hb2 CZ2
    clear hHeld
    refine hK.out _ _ CZ3.out (fun hHeld => ?_)
    clear hK K
    try simp only [Act.put, List.setIfInBounds_toArray, List.set_cons_zero, List.set_cons_succ]
    refine wpAnyH_ready (rs := [5]) (by kernel_rfl) (by simp) ?_
    refine AllReadyH.cons (o := { dst := some 83, op := Op.call { callee := Callee.value (Operand.func 22), args := #[Operand.tmp 78, Operand.tmp 80, Operand.tmp 82], argTypes := #[42, 37, 37] }, type := 45, pos := "law.go:61", after := #[{ on := 0, ground := Ground.data }, { on := 2, ground := Ground.data }, { on := 4, ground := Ground.data }, { on := 4, ground := Ground.chain }], guard := none }) rfl (fun K hK => ?_) AllReadyH.nil
    go_simp
    refine (rmerge_any a gh gT b1 e1 b2 e2 (.slice o1 N1 c1) (.slice o2 N2 c2) hs1 hs2 Z3 hb1 he1 hb2 he2 (D1.out.below (CZ3.out.below _ (Nat.le_refl _) (fun _ _ e => e))) (D2.out.below (CZ3.out.below _ (Nat.le_refl _) (fun _ _ e => e))) (HH.out.below (CZ3.out.below _ (Nat.le_refl _) (fun _ _ e => e)) (Nat.le_refl _))).mono ?_
    rintro e Z4 ha
    rw [HA2.out] at ha
    obtain ⟨oS, cS, rfl, hd2, hb2⟩ := ha.some
    rw [← HK2.out] at hd2 ⊢
    have DS : Hid (DgRow 0 _ (.slice oS k2 cS) l2) := hide hd2
    clear hd2
    replace Rg22 : Hid (Z4.heap[g22]? = some (.cells #[.int .u64 0, .int .u64 0, .slice none 0 0] 37 (0, 0))) := (hb2.block _ (block_lt_of_row Rg22.out)).trans Rg22.out
    have CZ4 : Hid (Chg (fun _ => False) V6 Z4) := CZ3.out.then hb2
    clear hb2 CZ3
    clear hHeld
    refine hK.out _ _ CZ4.out (fun hHeld => ?_)
    clear hK K
    try simp only [Act.put, List.setIfInBounds_toArray, List.set_cons_zero, List.set_cons_succ]
    refine wpAnyH_take (i := 6) (oi := { dst := some 77, op := Op.move (Operand.tmp 83), type := 45, pos := "law.go:61", after := #[{ on := 5, ground := Ground.data }], guard := none }) (v := ?_) rfl (by kernel_rfl) (by kernel_rfl) (by kernel_rfl) (fun _ _ _ h => h) (Or.inl ⟨by rfl, ?_⟩) (by assumption) ?_
    rotate_left
    · intro w hSw
      clear hSw
      go_simp
      all_goals with_reducible rfl
    simp only [Act.put, List.setIfInBounds_toArray, List.set_cons_zero, List.set_cons_succ]
    refine wpAnyH_take (i := 7) (oi := { dst := some 84, op := Op.extract (Operand.tmp 77) 0, type := 37, pos := "law.go:61", after := #[{ on := 6, ground := Ground.data }], guard := none }) (v := ?_) rfl (by kernel_rfl) (by kernel_rfl) (by kernel_rfl) (fun _ _ _ h => h) (Or.inl ⟨by rfl, ?_⟩) (by assumption) ?_
    rotate_left
    · intro w hSw
      clear hSw
      go_simp
      all_goals with_reducible rfl
    simp only [Act.put, List.setIfInBounds_toArray, List.set_cons_zero, List.set_cons_succ]
    refine wpAnyH_take (i := 8) (oi := { dst := some 85, op := Op.extract (Operand.tmp 77) 1, type := 3, pos := "law.go:61", after := #[{ on := 6, ground := Ground.data }, { on := 10, ground := Ground.gcOnly Departure.lateStores }], guard := none }) (v := ?_) rfl (by kernel_rfl) (by kernel_rfl) (by kernel_rfl) (fun _ _ _ h => h) (Or.inl ⟨by rfl, ?_⟩) (by assumption) ?_
    rotate_left
    · intro w hSw
      clear hSw
      go_simp
      all_goals with_reducible rfl
    simp only [Act.put, List.setIfInBounds_toArray, List.set_cons_zero, List.set_cons_succ]
    refine wpAnyH_ready (rs := [10]) (by kernel_rfl) (by simp) ?_
    obtain ⟨Z5, hst, r6, C6, s6⟩ := store_rrc (x := .int .u64 (p2 : Int)) (y := .int .u64 (z2 : Int)) (z := .slice oS k2 cS) Rg22.out rfl rfl rfl
    refine step_store_as (o := { dst := none, op := Op.store 37 (Operand.tmp 22) (Operand.tmp 84), type := 0, pos := "law.go:61", after := #[{ on := 9, ground := Ground.data }, { on := 7, ground := Ground.data }, { on := 5, ground := Ground.chain }, { on := 0, ground := Ground.phase }, { on := 1, ground := Ground.phase }, { on := 2, ground := Ground.phase }, { on := 3, ground := Ground.phase }, { on := 4, ground := Ground.phase }, { on := 5, ground := Ground.phase }, { on := 6, ground := Ground.phase }, { on := 7, ground := Ground.phase }, { on := 8, ground := Ground.textOnly Departure.lateStores }, { on := 9, ground := Ground.phase }], guard := none }) rfl rfl 37 (.tmp 22) (.tmp 84) rfl _ _ rfl rfl Z5 hst AllReadyH.nil ⟨CZ4.out.trans C6 (fun k hk e => by have := Gg22.out; omega), fun hHeld => ?_⟩
    have CZ5 : Hid (Chg (fun _ => False) V6 Z5) := CZ4.out.trans C6 (fun k hk e => by have := Gg22.out; omega)
    replace DS := hide (Rw.chg (el := 23) DS.out C6 (fun j hj e => (Rw.apart (el := 23) DS.out Rg22.out (by decide)) (by rw [← e]; exact hj)))
    replace Rg22 : Hid (Z5.heap[g22]? = some (.cells #[.int .u64 (p2 : Int), .int .u64 (z2 : Int), .slice oS k2 cS] 37 (0, 0))) := r6
    clear hst r6 C6 s6 CZ4
    simp only [Act.put]
    refine wpAnyH_take (i := 11) (oi := { dst := some 23, op := Op.assign (Operand.tmp 85), type := 3, pos := "law.go:61", after := #[{ on := 8, ground := Ground.data }, { on := 10, ground := Ground.chain }, { on := 0, ground := Ground.phase }, { on := 1, ground := Ground.phase }, { on := 2, ground := Ground.phase }, { on := 3, ground := Ground.phase }, { on := 4, ground := Ground.phase }, { on := 5, ground := Ground.phase }, { on := 6, ground := Ground.phase }, { on := 7, ground := Ground.phase }, { on := 8, ground := Ground.phase }, { on := 9, ground := Ground.phase }, { on := 10, ground := Ground.phase }], guard := none }) (v := ?_) rfl (by kernel_rfl) (by kernel_rfl) (by kernel_rfl) (fun _ _ _ h => h) (Or.inl ⟨by rfl, ?_⟩) (by assumption) ?_
    rotate_left
    · intro w hSw
      clear hSw
      go_simp
      all_goals with_reducible rfl
    simp only [Act.put, List.setIfInBounds_toArray, List.set_cons_zero, List.set_cons_succ]
    refine wpAnyH_done (by kernel_rfl) ?_ _
    refine NoPanic.normal ?_
    clear hHeld
    have BF := hide (show Below V6.heap.size V6 Z5 from (CZ5.out.below _ (Nat.le_refl _) (fun _ _ e => e)))
    go_wp2_with fail
    go_meet
    case rel => exact ⟨g22, oS, cS, rfl, rfl, Rg22, hide (DgRow.dgAt DS.out OK2.out.1 OK2.out.2), BF⟩
  obtain ⟨g22, oS, cS, rfl, rfl, R22, DS, BC⟩ := hcut
  replace R7 : Hid (wc.heap[w.heap.size]? = some (.cells #[.int .u64 (b1 : Int), .int .u64 (e1 : Int), .slice o1 N1 c1] 30 (0, 0))) := (BC.out.block _ (block_lt_of_row R7.out)).trans R7.out
  replace R8 : Hid (wc.heap[w.heap.size + 1]? = some (.cells #[.int .u64 (b2 : Int), .int .u64 (e2 : Int), .slice o2 N2 c2] 30 (0, 0))) := (BC.out.block _ (block_lt_of_row R8.out)).trans R8.out
  replace R9 : Hid (wc.heap[w.heap.size + 2]? = some (.cells (S.v8 d) 23 (0, 0))) := (BC.out.block _ (block_lt_of_row R9.out)).trans R9.out
  replace R15 : Hid (wc.heap[g15]? = some (.cells #[.int .u64 (b1 : Int), .int .u64 (e1 : Int), .slice (some ⟨gF, 0, none⟩) N1 KK] 30 (0, 0))) := (BC.out.block _ (block_lt_of_row R15.out)).trans R15.out
  replace R16 : Hid (wc.heap[g16]? = some (.cells #[.int .u64 (p1 : Int), .int .u64 (z1 : Int), .slice o16 k1 c16] 30 (0, 0))) := (BC.out.block _ (block_lt_of_row R16.out)).trans R16.out
  replace R18 : Hid (wc.heap[g18]? = some (.cells #[.int .u64 (p1 : Int), .int .u64 (z1 : Int), .slice oQ k1 cQ] 37 (0, 0))) := (BC.out.block _ (block_lt_of_row R18.out)).trans R18.out
  replace R20 : Hid (wc.heap[g20]? = some (.cells #[.int .u64 (p2 : Int), .int .u64 (z2 : Int), .slice o20 k2 c20] 30 (0, 0))) := (BC.out.block _ (block_lt_of_row R20.out)).trans R20.out
  replace D1 : Hid (DgAt wc (.slice o1 N1 c1) hs1) := hide (D1.out.below BC.out)
  replace D2 : Hid (DgAt wc (.slice o2 N2 c2) hs2) := hide (D2.out.below BC.out)
  replace FA : Hid (DgAt wc (.slice (some ⟨gF, 0, none⟩) KK KK) (hs1 ++ List.replicate 80 S.nine)) := hide (FA.out.below BC.out)
  replace FT : Hid (DgAt wc (.slice (some ⟨gF, 0, none⟩) N1 KK) hs1) := hide (FT.out.below BC.out)
  replace D16 : Hid (DgAt wc (.slice o16 k1 c16) l1) := hide (D16.out.below BC.out)
  replace DQ : Hid (DgAt wc (.slice oQ k1 cQ) l1) := hide (DQ.out.below BC.out)
  replace D20 : Hid (DgAt wc (.slice o20 k2 c20) l2) := hide (D20.out.below BC.out)
  replace HH : Hid (HsAt wc gh gT a) := hide (HH.out.below BC.out (Nat.le_refl _))
  replace BW : Hid (Below w.heap.size w wc) := hide (BW.out.trans (BC.out.mono BW.out.size))
  clear BC
  obtain ⟨y0, y1, y2⟩ := cells3 R15.out
  go_wp2_with fail
  refine (rootc_any a b1 e1 (.slice (some ⟨gF, 0, none⟩) N1 KK) hs1 wc hb1 he1 FT.out HCP.out (HK.out.below BW.out h0)).mono ?_
  rintro r V7 ⟨rfl, hb⟩
  rw [HA3.out]
  replace R7 : Hid (V7.heap[w.heap.size]? = some (.cells #[.int .u64 (b1 : Int), .int .u64 (e1 : Int), .slice o1 N1 c1] 30 (0, 0))) := (hb.block _ (block_lt_of_row R7.out)).trans R7.out
  replace R8 : Hid (V7.heap[w.heap.size + 1]? = some (.cells #[.int .u64 (b2 : Int), .int .u64 (e2 : Int), .slice o2 N2 c2] 30 (0, 0))) := (hb.block _ (block_lt_of_row R8.out)).trans R8.out
  replace R9 : Hid (V7.heap[w.heap.size + 2]? = some (.cells (S.v8 d) 23 (0, 0))) := (hb.block _ (block_lt_of_row R9.out)).trans R9.out
  replace R15 : Hid (V7.heap[g15]? = some (.cells #[.int .u64 (b1 : Int), .int .u64 (e1 : Int), .slice (some ⟨gF, 0, none⟩) N1 KK] 30 (0, 0))) := (hb.block _ (block_lt_of_row R15.out)).trans R15.out
  replace R16 : Hid (V7.heap[g16]? = some (.cells #[.int .u64 (p1 : Int), .int .u64 (z1 : Int), .slice o16 k1 c16] 30 (0, 0))) := (hb.block _ (block_lt_of_row R16.out)).trans R16.out
  replace R18 : Hid (V7.heap[g18]? = some (.cells #[.int .u64 (p1 : Int), .int .u64 (z1 : Int), .slice oQ k1 cQ] 37 (0, 0))) := (hb.block _ (block_lt_of_row R18.out)).trans R18.out
  replace R20 : Hid (V7.heap[g20]? = some (.cells #[.int .u64 (p2 : Int), .int .u64 (z2 : Int), .slice o20 k2 c20] 30 (0, 0))) := (hb.block _ (block_lt_of_row R20.out)).trans R20.out
  replace R22 : Hid (V7.heap[g22]? = some (.cells #[.int .u64 (p2 : Int), .int .u64 (z2 : Int), .slice oS k2 cS] 37 (0, 0))) := (hb.block _ (block_lt_of_row R22.out)).trans R22.out
  replace D1 : Hid (DgAt V7 (.slice o1 N1 c1) hs1) := hide (D1.out.below hb)
  replace D2 : Hid (DgAt V7 (.slice o2 N2 c2) hs2) := hide (D2.out.below hb)
  replace FA : Hid (DgAt V7 (.slice (some ⟨gF, 0, none⟩) KK KK) (hs1 ++ List.replicate 80 S.nine)) := hide (FA.out.below hb)
  replace FT : Hid (DgAt V7 (.slice (some ⟨gF, 0, none⟩) N1 KK) hs1) := hide (FT.out.below hb)
  replace D16 : Hid (DgAt V7 (.slice o16 k1 c16) l1) := hide (D16.out.below hb)
  replace DQ : Hid (DgAt V7 (.slice oQ k1 cQ) l1) := hide (DQ.out.below hb)
  replace D20 : Hid (DgAt V7 (.slice o20 k2 c20) l2) := hide (D20.out.below hb)
  replace DS : Hid (DgAt V7 (.slice oS k2 cS) l2) := hide (DS.out.below hb)
  replace HH : Hid (HsAt V7 gh gT a) := hide (HH.out.below hb (Nat.le_refl _))
  replace BW : Hid (Below w.heap.size w V7) := hide (BW.out.trans (hb.mono BW.out.size))
  clear hb y0 y1 y2
  obtain ⟨A_, V8, hal, hst, ry, hb, -⟩ := lay_dig V7 E3 LE3.out
  obtain ⟨g24, hg⟩ : ∃ g, g = V7.heap.size := ⟨_, rfl⟩
  rw [← hg] at hal hst ry
  have Rg24 := hide ry
  replace R7 : Hid (V8.heap[w.heap.size]? = some (.cells #[.int .u64 (b1 : Int), .int .u64 (e1 : Int), .slice o1 N1 c1] 30 (0, 0))) := (hb.block _ (block_lt_of_row R7.out)).trans R7.out
  replace R8 : Hid (V8.heap[w.heap.size + 1]? = some (.cells #[.int .u64 (b2 : Int), .int .u64 (e2 : Int), .slice o2 N2 c2] 30 (0, 0))) := (hb.block _ (block_lt_of_row R8.out)).trans R8.out
  replace R9 : Hid (V8.heap[w.heap.size + 2]? = some (.cells (S.v8 d) 23 (0, 0))) := (hb.block _ (block_lt_of_row R9.out)).trans R9.out
  replace R15 : Hid (V8.heap[g15]? = some (.cells #[.int .u64 (b1 : Int), .int .u64 (e1 : Int), .slice (some ⟨gF, 0, none⟩) N1 KK] 30 (0, 0))) := (hb.block _ (block_lt_of_row R15.out)).trans R15.out
  replace R16 : Hid (V8.heap[g16]? = some (.cells #[.int .u64 (p1 : Int), .int .u64 (z1 : Int), .slice o16 k1 c16] 30 (0, 0))) := (hb.block _ (block_lt_of_row R16.out)).trans R16.out
  replace R18 : Hid (V8.heap[g18]? = some (.cells #[.int .u64 (p1 : Int), .int .u64 (z1 : Int), .slice oQ k1 cQ] 37 (0, 0))) := (hb.block _ (block_lt_of_row R18.out)).trans R18.out
  replace R20 : Hid (V8.heap[g20]? = some (.cells #[.int .u64 (p2 : Int), .int .u64 (z2 : Int), .slice o20 k2 c20] 30 (0, 0))) := (hb.block _ (block_lt_of_row R20.out)).trans R20.out
  replace R22 : Hid (V8.heap[g22]? = some (.cells #[.int .u64 (p2 : Int), .int .u64 (z2 : Int), .slice oS k2 cS] 37 (0, 0))) := (hb.block _ (block_lt_of_row R22.out)).trans R22.out
  replace D1 : Hid (DgAt V8 (.slice o1 N1 c1) hs1) := hide (D1.out.below hb)
  replace D2 : Hid (DgAt V8 (.slice o2 N2 c2) hs2) := hide (D2.out.below hb)
  replace FA : Hid (DgAt V8 (.slice (some ⟨gF, 0, none⟩) KK KK) (hs1 ++ List.replicate 80 S.nine)) := hide (FA.out.below hb)
  replace FT : Hid (DgAt V8 (.slice (some ⟨gF, 0, none⟩) N1 KK) hs1) := hide (FT.out.below hb)
  replace D16 : Hid (DgAt V8 (.slice o16 k1 c16) l1) := hide (D16.out.below hb)
  replace DQ : Hid (DgAt V8 (.slice oQ k1 cQ) l1) := hide (DQ.out.below hb)
  replace D20 : Hid (DgAt V8 (.slice o20 k2 c20) l2) := hide (D20.out.below hb)
  replace DS : Hid (DgAt V8 (.slice oS k2 cS) l2) := hide (DS.out.below hb)
  replace HH : Hid (HsAt V8 gh gT a) := hide (HH.out.below hb (Nat.le_refl _))
  replace BW : Hid (Below w.heap.size w V8) := hide (BW.out.trans (hb.mono BW.out.size))
  clear hb ry hg
  go_upto_region 11 with (first | (with_reducible refine at_op { dst := some 24, op := Op.alloc 23, type := 0, pos := "law.go:62", after := #[], guard := none } ?_; refine wpList_alloc_known rfl 23 rfl (.pointer (some ⟨g24, 0, none⟩)) A_ hal ?_) | (with_reducible refine at_op { dst := none, op := Op.store 23 (Operand.tmp 24) (Operand.tmp 90), type := 0, pos := "law.go:62", after := #[{ on := 6, ground := Ground.data }, { on := 4, ground := Ground.data }, { on := 2, ground := Ground.chain }, { on := 0, ground := Ground.phase }, { on := 1, ground := Ground.phase }, { on := 2, ground := Ground.phase }, { on := 3, ground := Ground.phase }, { on := 4, ground := Ground.phase }, { on := 5, ground := Ground.textOnly Departure.lateStores }, { on := 6, ground := Ground.phase }], guard := none } ?_; refine wpList_store_as rfl 23 (.tmp 24) (.tmp 90) rfl (.pointer (some ⟨g24, 0, none⟩)) (.agg (S.v8 E3)) rfl rfl V8 hst ?_))
  clear hal hst
  obtain ⟨y0, y1, y2⟩ := cells3 R7.out
  go_wp2_with fail
  refine (plain_any b1 e1 o1 N1 c1 V8).mono ?_
  rintro r V9 ⟨rfl, hb⟩
  replace R7 : Hid (V9.heap[w.heap.size]? = some (.cells #[.int .u64 (b1 : Int), .int .u64 (e1 : Int), .slice o1 N1 c1] 30 (0, 0))) := (hb.block _ (block_lt_of_row R7.out)).trans R7.out
  replace R8 : Hid (V9.heap[w.heap.size + 1]? = some (.cells #[.int .u64 (b2 : Int), .int .u64 (e2 : Int), .slice o2 N2 c2] 30 (0, 0))) := (hb.block _ (block_lt_of_row R8.out)).trans R8.out
  replace R9 : Hid (V9.heap[w.heap.size + 2]? = some (.cells (S.v8 d) 23 (0, 0))) := (hb.block _ (block_lt_of_row R9.out)).trans R9.out
  replace R15 : Hid (V9.heap[g15]? = some (.cells #[.int .u64 (b1 : Int), .int .u64 (e1 : Int), .slice (some ⟨gF, 0, none⟩) N1 KK] 30 (0, 0))) := (hb.block _ (block_lt_of_row R15.out)).trans R15.out
  replace R16 : Hid (V9.heap[g16]? = some (.cells #[.int .u64 (p1 : Int), .int .u64 (z1 : Int), .slice o16 k1 c16] 30 (0, 0))) := (hb.block _ (block_lt_of_row R16.out)).trans R16.out
  replace R18 : Hid (V9.heap[g18]? = some (.cells #[.int .u64 (p1 : Int), .int .u64 (z1 : Int), .slice oQ k1 cQ] 37 (0, 0))) := (hb.block _ (block_lt_of_row R18.out)).trans R18.out
  replace R20 : Hid (V9.heap[g20]? = some (.cells #[.int .u64 (p2 : Int), .int .u64 (z2 : Int), .slice o20 k2 c20] 30 (0, 0))) := (hb.block _ (block_lt_of_row R20.out)).trans R20.out
  replace R22 : Hid (V9.heap[g22]? = some (.cells #[.int .u64 (p2 : Int), .int .u64 (z2 : Int), .slice oS k2 cS] 37 (0, 0))) := (hb.block _ (block_lt_of_row R22.out)).trans R22.out
  replace Rg24 : Hid (V9.heap[g24]? = some (.cells (S.v8 E3) 23 (0, 0))) := (hb.block _ (block_lt_of_row Rg24.out)).trans Rg24.out
  replace D1 : Hid (DgAt V9 (.slice o1 N1 c1) hs1) := hide (D1.out.below hb)
  replace D2 : Hid (DgAt V9 (.slice o2 N2 c2) hs2) := hide (D2.out.below hb)
  replace FA : Hid (DgAt V9 (.slice (some ⟨gF, 0, none⟩) KK KK) (hs1 ++ List.replicate 80 S.nine)) := hide (FA.out.below hb)
  replace FT : Hid (DgAt V9 (.slice (some ⟨gF, 0, none⟩) N1 KK) hs1) := hide (FT.out.below hb)
  replace D16 : Hid (DgAt V9 (.slice o16 k1 c16) l1) := hide (D16.out.below hb)
  replace DQ : Hid (DgAt V9 (.slice oQ k1 cQ) l1) := hide (DQ.out.below hb)
  replace D20 : Hid (DgAt V9 (.slice o20 k2 c20) l2) := hide (D20.out.below hb)
  replace DS : Hid (DgAt V9 (.slice oS k2 cS) l2) := hide (DS.out.below hb)
  replace HH : Hid (HsAt V9 gh gT a) := hide (HH.out.below hb (Nat.le_refl _))
  replace BW : Hid (Below w.heap.size w V9) := hide (BW.out.trans (hb.mono BW.out.size))
  clear hb y0 y1 y2
  go_wp2_with fail
  refine (rroot_any a gh gT b1 e1 (.slice o1 N1 c1) hs1 V9 hb1 he1 D1.out HH.out).mono ?_
  rintro r V10 ⟨rfl, hb⟩
  rw [HA3.out]
  replace R7 : Hid (V10.heap[w.heap.size]? = some (.cells #[.int .u64 (b1 : Int), .int .u64 (e1 : Int), .slice o1 N1 c1] 30 (0, 0))) := (hb.block _ (block_lt_of_row R7.out)).trans R7.out
  replace R8 : Hid (V10.heap[w.heap.size + 1]? = some (.cells #[.int .u64 (b2 : Int), .int .u64 (e2 : Int), .slice o2 N2 c2] 30 (0, 0))) := (hb.block _ (block_lt_of_row R8.out)).trans R8.out
  replace R9 : Hid (V10.heap[w.heap.size + 2]? = some (.cells (S.v8 d) 23 (0, 0))) := (hb.block _ (block_lt_of_row R9.out)).trans R9.out
  replace R15 : Hid (V10.heap[g15]? = some (.cells #[.int .u64 (b1 : Int), .int .u64 (e1 : Int), .slice (some ⟨gF, 0, none⟩) N1 KK] 30 (0, 0))) := (hb.block _ (block_lt_of_row R15.out)).trans R15.out
  replace R16 : Hid (V10.heap[g16]? = some (.cells #[.int .u64 (p1 : Int), .int .u64 (z1 : Int), .slice o16 k1 c16] 30 (0, 0))) := (hb.block _ (block_lt_of_row R16.out)).trans R16.out
  replace R18 : Hid (V10.heap[g18]? = some (.cells #[.int .u64 (p1 : Int), .int .u64 (z1 : Int), .slice oQ k1 cQ] 37 (0, 0))) := (hb.block _ (block_lt_of_row R18.out)).trans R18.out
  replace R20 : Hid (V10.heap[g20]? = some (.cells #[.int .u64 (p2 : Int), .int .u64 (z2 : Int), .slice o20 k2 c20] 30 (0, 0))) := (hb.block _ (block_lt_of_row R20.out)).trans R20.out
  replace R22 : Hid (V10.heap[g22]? = some (.cells #[.int .u64 (p2 : Int), .int .u64 (z2 : Int), .slice oS k2 cS] 37 (0, 0))) := (hb.block _ (block_lt_of_row R22.out)).trans R22.out
  replace Rg24 : Hid (V10.heap[g24]? = some (.cells (S.v8 E3) 23 (0, 0))) := (hb.block _ (block_lt_of_row Rg24.out)).trans Rg24.out
  replace D1 : Hid (DgAt V10 (.slice o1 N1 c1) hs1) := hide (D1.out.below hb)
  replace D2 : Hid (DgAt V10 (.slice o2 N2 c2) hs2) := hide (D2.out.below hb)
  replace FA : Hid (DgAt V10 (.slice (some ⟨gF, 0, none⟩) KK KK) (hs1 ++ List.replicate 80 S.nine)) := hide (FA.out.below hb)
  replace FT : Hid (DgAt V10 (.slice (some ⟨gF, 0, none⟩) N1 KK) hs1) := hide (FT.out.below hb)
  replace D16 : Hid (DgAt V10 (.slice o16 k1 c16) l1) := hide (D16.out.below hb)
  replace DQ : Hid (DgAt V10 (.slice oQ k1 cQ) l1) := hide (DQ.out.below hb)
  replace D20 : Hid (DgAt V10 (.slice o20 k2 c20) l2) := hide (D20.out.below hb)
  replace DS : Hid (DgAt V10 (.slice oS k2 cS) l2) := hide (DS.out.below hb)
  replace HH : Hid (HsAt V10 gh gT a) := hide (HH.out.below hb (Nat.le_refl _))
  replace BW : Hid (Below w.heap.size w V10) := hide (BW.out.trans (hb.mono BW.out.size))
  clear hb
  obtain ⟨A_, V11, hal, hst, ry, hb, -⟩ := lay_dig V10 E3 LE3.out
  obtain ⟨g26, hg⟩ : ∃ g, g = V10.heap.size := ⟨_, rfl⟩
  rw [← hg] at hal hst ry
  have Rg26 := hide ry
  replace R7 : Hid (V11.heap[w.heap.size]? = some (.cells #[.int .u64 (b1 : Int), .int .u64 (e1 : Int), .slice o1 N1 c1] 30 (0, 0))) := (hb.block _ (block_lt_of_row R7.out)).trans R7.out
  replace R8 : Hid (V11.heap[w.heap.size + 1]? = some (.cells #[.int .u64 (b2 : Int), .int .u64 (e2 : Int), .slice o2 N2 c2] 30 (0, 0))) := (hb.block _ (block_lt_of_row R8.out)).trans R8.out
  replace R9 : Hid (V11.heap[w.heap.size + 2]? = some (.cells (S.v8 d) 23 (0, 0))) := (hb.block _ (block_lt_of_row R9.out)).trans R9.out
  replace R15 : Hid (V11.heap[g15]? = some (.cells #[.int .u64 (b1 : Int), .int .u64 (e1 : Int), .slice (some ⟨gF, 0, none⟩) N1 KK] 30 (0, 0))) := (hb.block _ (block_lt_of_row R15.out)).trans R15.out
  replace R16 : Hid (V11.heap[g16]? = some (.cells #[.int .u64 (p1 : Int), .int .u64 (z1 : Int), .slice o16 k1 c16] 30 (0, 0))) := (hb.block _ (block_lt_of_row R16.out)).trans R16.out
  replace R18 : Hid (V11.heap[g18]? = some (.cells #[.int .u64 (p1 : Int), .int .u64 (z1 : Int), .slice oQ k1 cQ] 37 (0, 0))) := (hb.block _ (block_lt_of_row R18.out)).trans R18.out
  replace R20 : Hid (V11.heap[g20]? = some (.cells #[.int .u64 (p2 : Int), .int .u64 (z2 : Int), .slice o20 k2 c20] 30 (0, 0))) := (hb.block _ (block_lt_of_row R20.out)).trans R20.out
  replace R22 : Hid (V11.heap[g22]? = some (.cells #[.int .u64 (p2 : Int), .int .u64 (z2 : Int), .slice oS k2 cS] 37 (0, 0))) := (hb.block _ (block_lt_of_row R22.out)).trans R22.out
  replace Rg24 : Hid (V11.heap[g24]? = some (.cells (S.v8 E3) 23 (0, 0))) := (hb.block _ (block_lt_of_row Rg24.out)).trans Rg24.out
  replace D1 : Hid (DgAt V11 (.slice o1 N1 c1) hs1) := hide (D1.out.below hb)
  replace D2 : Hid (DgAt V11 (.slice o2 N2 c2) hs2) := hide (D2.out.below hb)
  replace FA : Hid (DgAt V11 (.slice (some ⟨gF, 0, none⟩) KK KK) (hs1 ++ List.replicate 80 S.nine)) := hide (FA.out.below hb)
  replace FT : Hid (DgAt V11 (.slice (some ⟨gF, 0, none⟩) N1 KK) hs1) := hide (FT.out.below hb)
  replace D16 : Hid (DgAt V11 (.slice o16 k1 c16) l1) := hide (D16.out.below hb)
  replace DQ : Hid (DgAt V11 (.slice oQ k1 cQ) l1) := hide (DQ.out.below hb)
  replace D20 : Hid (DgAt V11 (.slice o20 k2 c20) l2) := hide (D20.out.below hb)
  replace DS : Hid (DgAt V11 (.slice oS k2 cS) l2) := hide (DS.out.below hb)
  replace HH : Hid (HsAt V11 gh gT a) := hide (HH.out.below hb (Nat.le_refl _))
  replace BW : Hid (Below w.heap.size w V11) := hide (BW.out.trans (hb.mono BW.out.size))
  clear hb ry hg
  go_upto_region 12 with (first | (with_reducible refine at_op { dst := some 26, op := Op.alloc 23, type := 0, pos := "law.go:63", after := #[], guard := none } ?_; refine wpList_alloc_known rfl 23 rfl (.pointer (some ⟨g26, 0, none⟩)) A_ hal ?_) | (with_reducible refine at_op { dst := none, op := Op.store 23 (Operand.tmp 26) (Operand.tmp 97), type := 0, pos := "law.go:63", after := #[{ on := 7, ground := Ground.data }, { on := 5, ground := Ground.data }, { on := 3, ground := Ground.chain }, { on := 0, ground := Ground.phase }, { on := 1, ground := Ground.phase }, { on := 2, ground := Ground.phase }, { on := 3, ground := Ground.phase }, { on := 4, ground := Ground.phase }, { on := 5, ground := Ground.phase }, { on := 6, ground := Ground.textOnly Departure.lateStores }, { on := 7, ground := Ground.phase }], guard := none } ?_; refine wpList_store_as rfl 23 (.tmp 26) (.tmp 97) rfl (.pointer (some ⟨g26, 0, none⟩)) (.agg (S.v8 E3)) rfl rfl V11 hst ?_))
  clear hal hst
  obtain ⟨y0, y1, y2⟩ := cells3 R16.out
  obtain ⟨t0, t1, t2⟩ := cells3 R18.out
  go_wp2_with fail
  refine (same14_any p1 z1 (.slice o16 k1 c16) (.slice oQ k1 cQ) l1 V11 D16.out DQ.out).mono ?_
  rintro r V12 ⟨rfl, hb⟩
  replace R7 : Hid (V12.heap[w.heap.size]? = some (.cells #[.int .u64 (b1 : Int), .int .u64 (e1 : Int), .slice o1 N1 c1] 30 (0, 0))) := (hb.block _ (block_lt_of_row R7.out)).trans R7.out
  replace R8 : Hid (V12.heap[w.heap.size + 1]? = some (.cells #[.int .u64 (b2 : Int), .int .u64 (e2 : Int), .slice o2 N2 c2] 30 (0, 0))) := (hb.block _ (block_lt_of_row R8.out)).trans R8.out
  replace R9 : Hid (V12.heap[w.heap.size + 2]? = some (.cells (S.v8 d) 23 (0, 0))) := (hb.block _ (block_lt_of_row R9.out)).trans R9.out
  replace R15 : Hid (V12.heap[g15]? = some (.cells #[.int .u64 (b1 : Int), .int .u64 (e1 : Int), .slice (some ⟨gF, 0, none⟩) N1 KK] 30 (0, 0))) := (hb.block _ (block_lt_of_row R15.out)).trans R15.out
  replace R16 : Hid (V12.heap[g16]? = some (.cells #[.int .u64 (p1 : Int), .int .u64 (z1 : Int), .slice o16 k1 c16] 30 (0, 0))) := (hb.block _ (block_lt_of_row R16.out)).trans R16.out
  replace R18 : Hid (V12.heap[g18]? = some (.cells #[.int .u64 (p1 : Int), .int .u64 (z1 : Int), .slice oQ k1 cQ] 37 (0, 0))) := (hb.block _ (block_lt_of_row R18.out)).trans R18.out
  replace R20 : Hid (V12.heap[g20]? = some (.cells #[.int .u64 (p2 : Int), .int .u64 (z2 : Int), .slice o20 k2 c20] 30 (0, 0))) := (hb.block _ (block_lt_of_row R20.out)).trans R20.out
  replace R22 : Hid (V12.heap[g22]? = some (.cells #[.int .u64 (p2 : Int), .int .u64 (z2 : Int), .slice oS k2 cS] 37 (0, 0))) := (hb.block _ (block_lt_of_row R22.out)).trans R22.out
  replace Rg24 : Hid (V12.heap[g24]? = some (.cells (S.v8 E3) 23 (0, 0))) := (hb.block _ (block_lt_of_row Rg24.out)).trans Rg24.out
  replace Rg26 : Hid (V12.heap[g26]? = some (.cells (S.v8 E3) 23 (0, 0))) := (hb.block _ (block_lt_of_row Rg26.out)).trans Rg26.out
  replace D1 : Hid (DgAt V12 (.slice o1 N1 c1) hs1) := hide (D1.out.below hb)
  replace D2 : Hid (DgAt V12 (.slice o2 N2 c2) hs2) := hide (D2.out.below hb)
  replace FA : Hid (DgAt V12 (.slice (some ⟨gF, 0, none⟩) KK KK) (hs1 ++ List.replicate 80 S.nine)) := hide (FA.out.below hb)
  replace FT : Hid (DgAt V12 (.slice (some ⟨gF, 0, none⟩) N1 KK) hs1) := hide (FT.out.below hb)
  replace D16 : Hid (DgAt V12 (.slice o16 k1 c16) l1) := hide (D16.out.below hb)
  replace DQ : Hid (DgAt V12 (.slice oQ k1 cQ) l1) := hide (DQ.out.below hb)
  replace D20 : Hid (DgAt V12 (.slice o20 k2 c20) l2) := hide (D20.out.below hb)
  replace DS : Hid (DgAt V12 (.slice oS k2 cS) l2) := hide (DS.out.below hb)
  replace HH : Hid (HsAt V12 gh gT a) := hide (HH.out.below hb (Nat.le_refl _))
  replace BW : Hid (Below w.heap.size w V12) := hide (BW.out.trans (hb.mono BW.out.size))
  clear hb y0 y1 y2 t0 t1 t2
  obtain ⟨y0, y1, y2⟩ := cells3 R20.out
  obtain ⟨t0, t1, t2⟩ := cells3 R22.out
  go_wp2_with fail
  refine (same14_any p2 z2 (.slice o20 k2 c20) (.slice oS k2 cS) l2 V12 D20.out DS.out).mono ?_
  rintro r V13 ⟨rfl, hb⟩
  replace R7 : Hid (V13.heap[w.heap.size]? = some (.cells #[.int .u64 (b1 : Int), .int .u64 (e1 : Int), .slice o1 N1 c1] 30 (0, 0))) := (hb.block _ (block_lt_of_row R7.out)).trans R7.out
  replace R8 : Hid (V13.heap[w.heap.size + 1]? = some (.cells #[.int .u64 (b2 : Int), .int .u64 (e2 : Int), .slice o2 N2 c2] 30 (0, 0))) := (hb.block _ (block_lt_of_row R8.out)).trans R8.out
  replace R9 : Hid (V13.heap[w.heap.size + 2]? = some (.cells (S.v8 d) 23 (0, 0))) := (hb.block _ (block_lt_of_row R9.out)).trans R9.out
  replace R15 : Hid (V13.heap[g15]? = some (.cells #[.int .u64 (b1 : Int), .int .u64 (e1 : Int), .slice (some ⟨gF, 0, none⟩) N1 KK] 30 (0, 0))) := (hb.block _ (block_lt_of_row R15.out)).trans R15.out
  replace R16 : Hid (V13.heap[g16]? = some (.cells #[.int .u64 (p1 : Int), .int .u64 (z1 : Int), .slice o16 k1 c16] 30 (0, 0))) := (hb.block _ (block_lt_of_row R16.out)).trans R16.out
  replace R18 : Hid (V13.heap[g18]? = some (.cells #[.int .u64 (p1 : Int), .int .u64 (z1 : Int), .slice oQ k1 cQ] 37 (0, 0))) := (hb.block _ (block_lt_of_row R18.out)).trans R18.out
  replace R20 : Hid (V13.heap[g20]? = some (.cells #[.int .u64 (p2 : Int), .int .u64 (z2 : Int), .slice o20 k2 c20] 30 (0, 0))) := (hb.block _ (block_lt_of_row R20.out)).trans R20.out
  replace R22 : Hid (V13.heap[g22]? = some (.cells #[.int .u64 (p2 : Int), .int .u64 (z2 : Int), .slice oS k2 cS] 37 (0, 0))) := (hb.block _ (block_lt_of_row R22.out)).trans R22.out
  replace Rg24 : Hid (V13.heap[g24]? = some (.cells (S.v8 E3) 23 (0, 0))) := (hb.block _ (block_lt_of_row Rg24.out)).trans Rg24.out
  replace Rg26 : Hid (V13.heap[g26]? = some (.cells (S.v8 E3) 23 (0, 0))) := (hb.block _ (block_lt_of_row Rg26.out)).trans Rg26.out
  replace D1 : Hid (DgAt V13 (.slice o1 N1 c1) hs1) := hide (D1.out.below hb)
  replace D2 : Hid (DgAt V13 (.slice o2 N2 c2) hs2) := hide (D2.out.below hb)
  replace FA : Hid (DgAt V13 (.slice (some ⟨gF, 0, none⟩) KK KK) (hs1 ++ List.replicate 80 S.nine)) := hide (FA.out.below hb)
  replace FT : Hid (DgAt V13 (.slice (some ⟨gF, 0, none⟩) N1 KK) hs1) := hide (FT.out.below hb)
  replace D16 : Hid (DgAt V13 (.slice o16 k1 c16) l1) := hide (D16.out.below hb)
  replace DQ : Hid (DgAt V13 (.slice oQ k1 cQ) l1) := hide (DQ.out.below hb)
  replace D20 : Hid (DgAt V13 (.slice o20 k2 c20) l2) := hide (D20.out.below hb)
  replace DS : Hid (DgAt V13 (.slice oS k2 cS) l2) := hide (DS.out.below hb)
  replace HH : Hid (HsAt V13 gh gT a) := hide (HH.out.below hb (Nat.le_refl _))
  replace BW : Hid (Below w.heap.size w V13) := hide (BW.out.trans (hb.mono BW.out.size))
  clear hb y0 y1 y2 t0 t1 t2
  have heq : ∀ w, (Op.equalIn 10000 23 (.agg (S.v8 E3)) (.agg (S.v8 E3))).run Tryd.prog w = .ok true w := fun w => equal_dig E3 E3 LE3.out LE3.out true (by simp) w
  go_wp2_with (first | (with_reducible refine at_op { dst := some 118, op := Op.load 23 (Operand.tmp 24), type := 23, pos := "law.go:64", after := #[{ on := 18, ground := Ground.guard }], guard := some (18, true) } ?_; refine load_dig_when rfl (.tmp 24) rfl g24 rfl E3 Rg24.out LE3.out ?_) | (with_reducible refine at_op { dst := some 119, op := Op.load 23 (Operand.tmp 26), type := 23, pos := "law.go:64", after := #[{ on := 18, ground := Ground.guard }], guard := some (18, true) } ?_; refine load_dig_when rfl (.tmp 26) rfl g26 rfl E3 Rg26.out LE3.out ?_))
  clear heq
  refine (blocks_any x y V13 hx hy).mono ?_
  rintro r V14 ⟨⟨vb, rfl, hv⟩, hb⟩
  obtain ⟨bo, bc, rfl⟩ := hv.form
  obtain ⟨bn, hbn⟩ : ∃ n, n = (C.blocks x y).length := ⟨_, rfl⟩
  rw [← hbn] at hv ⊢
  have NB := hide hv
  have HBN := hide hbn
  replace R7 : Hid (V14.heap[w.heap.size]? = some (.cells #[.int .u64 (b1 : Int), .int .u64 (e1 : Int), .slice o1 N1 c1] 30 (0, 0))) := (hb.block _ (block_lt_of_row R7.out)).trans R7.out
  replace R8 : Hid (V14.heap[w.heap.size + 1]? = some (.cells #[.int .u64 (b2 : Int), .int .u64 (e2 : Int), .slice o2 N2 c2] 30 (0, 0))) := (hb.block _ (block_lt_of_row R8.out)).trans R8.out
  replace R9 : Hid (V14.heap[w.heap.size + 2]? = some (.cells (S.v8 d) 23 (0, 0))) := (hb.block _ (block_lt_of_row R9.out)).trans R9.out
  replace R15 : Hid (V14.heap[g15]? = some (.cells #[.int .u64 (b1 : Int), .int .u64 (e1 : Int), .slice (some ⟨gF, 0, none⟩) N1 KK] 30 (0, 0))) := (hb.block _ (block_lt_of_row R15.out)).trans R15.out
  replace R16 : Hid (V14.heap[g16]? = some (.cells #[.int .u64 (p1 : Int), .int .u64 (z1 : Int), .slice o16 k1 c16] 30 (0, 0))) := (hb.block _ (block_lt_of_row R16.out)).trans R16.out
  replace R18 : Hid (V14.heap[g18]? = some (.cells #[.int .u64 (p1 : Int), .int .u64 (z1 : Int), .slice oQ k1 cQ] 37 (0, 0))) := (hb.block _ (block_lt_of_row R18.out)).trans R18.out
  replace R20 : Hid (V14.heap[g20]? = some (.cells #[.int .u64 (p2 : Int), .int .u64 (z2 : Int), .slice o20 k2 c20] 30 (0, 0))) := (hb.block _ (block_lt_of_row R20.out)).trans R20.out
  replace R22 : Hid (V14.heap[g22]? = some (.cells #[.int .u64 (p2 : Int), .int .u64 (z2 : Int), .slice oS k2 cS] 37 (0, 0))) := (hb.block _ (block_lt_of_row R22.out)).trans R22.out
  replace Rg24 : Hid (V14.heap[g24]? = some (.cells (S.v8 E3) 23 (0, 0))) := (hb.block _ (block_lt_of_row Rg24.out)).trans Rg24.out
  replace Rg26 : Hid (V14.heap[g26]? = some (.cells (S.v8 E3) 23 (0, 0))) := (hb.block _ (block_lt_of_row Rg26.out)).trans Rg26.out
  replace D1 : Hid (DgAt V14 (.slice o1 N1 c1) hs1) := hide (D1.out.below hb)
  replace D2 : Hid (DgAt V14 (.slice o2 N2 c2) hs2) := hide (D2.out.below hb)
  replace FA : Hid (DgAt V14 (.slice (some ⟨gF, 0, none⟩) KK KK) (hs1 ++ List.replicate 80 S.nine)) := hide (FA.out.below hb)
  replace FT : Hid (DgAt V14 (.slice (some ⟨gF, 0, none⟩) N1 KK) hs1) := hide (FT.out.below hb)
  replace D16 : Hid (DgAt V14 (.slice o16 k1 c16) l1) := hide (D16.out.below hb)
  replace DQ : Hid (DgAt V14 (.slice oQ k1 cQ) l1) := hide (DQ.out.below hb)
  replace D20 : Hid (DgAt V14 (.slice o20 k2 c20) l2) := hide (D20.out.below hb)
  replace DS : Hid (DgAt V14 (.slice oS k2 cS) l2) := hide (DS.out.below hb)
  replace HH : Hid (HsAt V14 gh gT a) := hide (HH.out.below hb (Nat.le_refl _))
  replace BW : Hid (Below w.heap.size w V14) := hide (BW.out.trans (hb.mono BW.out.size))
  clear hb hv hbn
  go_wp2_with fail
  refine (rblocks_any x y V14 hx hy).mono ?_
  rintro r V15 ⟨⟨vb, rfl, hv⟩, hb⟩
  obtain ⟨ro, rc, rfl⟩ := hv.form
  rw [← HBN.out] at hv ⊢
  have NR := hide hv
  replace NB := hide (NB.out.below hb)
  replace R7 : Hid (V15.heap[w.heap.size]? = some (.cells #[.int .u64 (b1 : Int), .int .u64 (e1 : Int), .slice o1 N1 c1] 30 (0, 0))) := (hb.block _ (block_lt_of_row R7.out)).trans R7.out
  replace R8 : Hid (V15.heap[w.heap.size + 1]? = some (.cells #[.int .u64 (b2 : Int), .int .u64 (e2 : Int), .slice o2 N2 c2] 30 (0, 0))) := (hb.block _ (block_lt_of_row R8.out)).trans R8.out
  replace R9 : Hid (V15.heap[w.heap.size + 2]? = some (.cells (S.v8 d) 23 (0, 0))) := (hb.block _ (block_lt_of_row R9.out)).trans R9.out
  replace R15 : Hid (V15.heap[g15]? = some (.cells #[.int .u64 (b1 : Int), .int .u64 (e1 : Int), .slice (some ⟨gF, 0, none⟩) N1 KK] 30 (0, 0))) := (hb.block _ (block_lt_of_row R15.out)).trans R15.out
  replace R16 : Hid (V15.heap[g16]? = some (.cells #[.int .u64 (p1 : Int), .int .u64 (z1 : Int), .slice o16 k1 c16] 30 (0, 0))) := (hb.block _ (block_lt_of_row R16.out)).trans R16.out
  replace R18 : Hid (V15.heap[g18]? = some (.cells #[.int .u64 (p1 : Int), .int .u64 (z1 : Int), .slice oQ k1 cQ] 37 (0, 0))) := (hb.block _ (block_lt_of_row R18.out)).trans R18.out
  replace R20 : Hid (V15.heap[g20]? = some (.cells #[.int .u64 (p2 : Int), .int .u64 (z2 : Int), .slice o20 k2 c20] 30 (0, 0))) := (hb.block _ (block_lt_of_row R20.out)).trans R20.out
  replace R22 : Hid (V15.heap[g22]? = some (.cells #[.int .u64 (p2 : Int), .int .u64 (z2 : Int), .slice oS k2 cS] 37 (0, 0))) := (hb.block _ (block_lt_of_row R22.out)).trans R22.out
  replace Rg24 : Hid (V15.heap[g24]? = some (.cells (S.v8 E3) 23 (0, 0))) := (hb.block _ (block_lt_of_row Rg24.out)).trans Rg24.out
  replace Rg26 : Hid (V15.heap[g26]? = some (.cells (S.v8 E3) 23 (0, 0))) := (hb.block _ (block_lt_of_row Rg26.out)).trans Rg26.out
  replace D1 : Hid (DgAt V15 (.slice o1 N1 c1) hs1) := hide (D1.out.below hb)
  replace D2 : Hid (DgAt V15 (.slice o2 N2 c2) hs2) := hide (D2.out.below hb)
  replace FA : Hid (DgAt V15 (.slice (some ⟨gF, 0, none⟩) KK KK) (hs1 ++ List.replicate 80 S.nine)) := hide (FA.out.below hb)
  replace FT : Hid (DgAt V15 (.slice (some ⟨gF, 0, none⟩) N1 KK) hs1) := hide (FT.out.below hb)
  replace D16 : Hid (DgAt V15 (.slice o16 k1 c16) l1) := hide (D16.out.below hb)
  replace DQ : Hid (DgAt V15 (.slice oQ k1 cQ) l1) := hide (DQ.out.below hb)
  replace D20 : Hid (DgAt V15 (.slice o20 k2 c20) l2) := hide (D20.out.below hb)
  replace DS : Hid (DgAt V15 (.slice oS k2 cS) l2) := hide (DS.out.below hb)
  replace HH : Hid (HsAt V15 gh gT a) := hide (HH.out.below hb (Nat.le_refl _))
  replace BW : Hid (Below w.heap.size w V15) := hide (BW.out.trans (hb.mono BW.out.size))
  clear hb hv
  go_wp2_with fail
  refine (samen_any _ _ _ _ (C.blocks x y) V15 NB.out NR.out (by have := C.blocks_len x y; omega)).mono ?_
  rintro r V16 ⟨rfl, hb⟩
  replace R7 : Hid (V16.heap[w.heap.size]? = some (.cells #[.int .u64 (b1 : Int), .int .u64 (e1 : Int), .slice o1 N1 c1] 30 (0, 0))) := (hb.block _ (block_lt_of_row R7.out)).trans R7.out
  replace R8 : Hid (V16.heap[w.heap.size + 1]? = some (.cells #[.int .u64 (b2 : Int), .int .u64 (e2 : Int), .slice o2 N2 c2] 30 (0, 0))) := (hb.block _ (block_lt_of_row R8.out)).trans R8.out
  replace R9 : Hid (V16.heap[w.heap.size + 2]? = some (.cells (S.v8 d) 23 (0, 0))) := (hb.block _ (block_lt_of_row R9.out)).trans R9.out
  replace R15 : Hid (V16.heap[g15]? = some (.cells #[.int .u64 (b1 : Int), .int .u64 (e1 : Int), .slice (some ⟨gF, 0, none⟩) N1 KK] 30 (0, 0))) := (hb.block _ (block_lt_of_row R15.out)).trans R15.out
  replace R16 : Hid (V16.heap[g16]? = some (.cells #[.int .u64 (p1 : Int), .int .u64 (z1 : Int), .slice o16 k1 c16] 30 (0, 0))) := (hb.block _ (block_lt_of_row R16.out)).trans R16.out
  replace R18 : Hid (V16.heap[g18]? = some (.cells #[.int .u64 (p1 : Int), .int .u64 (z1 : Int), .slice oQ k1 cQ] 37 (0, 0))) := (hb.block _ (block_lt_of_row R18.out)).trans R18.out
  replace R20 : Hid (V16.heap[g20]? = some (.cells #[.int .u64 (p2 : Int), .int .u64 (z2 : Int), .slice o20 k2 c20] 30 (0, 0))) := (hb.block _ (block_lt_of_row R20.out)).trans R20.out
  replace R22 : Hid (V16.heap[g22]? = some (.cells #[.int .u64 (p2 : Int), .int .u64 (z2 : Int), .slice oS k2 cS] 37 (0, 0))) := (hb.block _ (block_lt_of_row R22.out)).trans R22.out
  replace Rg24 : Hid (V16.heap[g24]? = some (.cells (S.v8 E3) 23 (0, 0))) := (hb.block _ (block_lt_of_row Rg24.out)).trans Rg24.out
  replace Rg26 : Hid (V16.heap[g26]? = some (.cells (S.v8 E3) 23 (0, 0))) := (hb.block _ (block_lt_of_row Rg26.out)).trans Rg26.out
  replace D1 : Hid (DgAt V16 (.slice o1 N1 c1) hs1) := hide (D1.out.below hb)
  replace D2 : Hid (DgAt V16 (.slice o2 N2 c2) hs2) := hide (D2.out.below hb)
  replace FA : Hid (DgAt V16 (.slice (some ⟨gF, 0, none⟩) KK KK) (hs1 ++ List.replicate 80 S.nine)) := hide (FA.out.below hb)
  replace FT : Hid (DgAt V16 (.slice (some ⟨gF, 0, none⟩) N1 KK) hs1) := hide (FT.out.below hb)
  replace D16 : Hid (DgAt V16 (.slice o16 k1 c16) l1) := hide (D16.out.below hb)
  replace DQ : Hid (DgAt V16 (.slice oQ k1 cQ) l1) := hide (DQ.out.below hb)
  replace D20 : Hid (DgAt V16 (.slice o20 k2 c20) l2) := hide (D20.out.below hb)
  replace DS : Hid (DgAt V16 (.slice oS k2 cS) l2) := hide (DS.out.below hb)
  replace HH : Hid (HsAt V16 gh gT a) := hide (HH.out.below hb (Nat.le_refl _))
  replace BW : Hid (Below w.heap.size w V16) := hide (BW.out.trans (hb.mono BW.out.size))
  clear hb NB NR
  obtain ⟨y0, y1, y2⟩ := cells3 R7.out
  go_wp2_with (with_reducible refine at_op { dst := some 140, op := Op.build 23 #[(0, Operand.const (Value.int IntKind.u8 9))], type := 23, pos := "law.go:64", after := #[{ on := 37, ground := Ground.guard }], guard := some (37, true) } ?_; refine build_when rfl 23 [(0, .const (.int .u8 9))] rfl [(0, .int .u8 9)] rfl (.agg (S.v8 S.nine)) (bmark _) ?_)
  refine (intact_dig _ _ hs1 S.nine V16 FA.out HCF.out D1.out S.nine_length (by have := HN.out.1; have := HL.out; omega)).mono ?_
  rintro r V17 ⟨rfl, hb⟩
  replace R7 : Hid (V17.heap[w.heap.size]? = some (.cells #[.int .u64 (b1 : Int), .int .u64 (e1 : Int), .slice o1 N1 c1] 30 (0, 0))) := (hb.block _ (block_lt_of_row R7.out)).trans R7.out
  replace R8 : Hid (V17.heap[w.heap.size + 1]? = some (.cells #[.int .u64 (b2 : Int), .int .u64 (e2 : Int), .slice o2 N2 c2] 30 (0, 0))) := (hb.block _ (block_lt_of_row R8.out)).trans R8.out
  replace R9 : Hid (V17.heap[w.heap.size + 2]? = some (.cells (S.v8 d) 23 (0, 0))) := (hb.block _ (block_lt_of_row R9.out)).trans R9.out
  replace R15 : Hid (V17.heap[g15]? = some (.cells #[.int .u64 (b1 : Int), .int .u64 (e1 : Int), .slice (some ⟨gF, 0, none⟩) N1 KK] 30 (0, 0))) := (hb.block _ (block_lt_of_row R15.out)).trans R15.out
  replace R16 : Hid (V17.heap[g16]? = some (.cells #[.int .u64 (p1 : Int), .int .u64 (z1 : Int), .slice o16 k1 c16] 30 (0, 0))) := (hb.block _ (block_lt_of_row R16.out)).trans R16.out
  replace R18 : Hid (V17.heap[g18]? = some (.cells #[.int .u64 (p1 : Int), .int .u64 (z1 : Int), .slice oQ k1 cQ] 37 (0, 0))) := (hb.block _ (block_lt_of_row R18.out)).trans R18.out
  replace R20 : Hid (V17.heap[g20]? = some (.cells #[.int .u64 (p2 : Int), .int .u64 (z2 : Int), .slice o20 k2 c20] 30 (0, 0))) := (hb.block _ (block_lt_of_row R20.out)).trans R20.out
  replace R22 : Hid (V17.heap[g22]? = some (.cells #[.int .u64 (p2 : Int), .int .u64 (z2 : Int), .slice oS k2 cS] 37 (0, 0))) := (hb.block _ (block_lt_of_row R22.out)).trans R22.out
  replace Rg24 : Hid (V17.heap[g24]? = some (.cells (S.v8 E3) 23 (0, 0))) := (hb.block _ (block_lt_of_row Rg24.out)).trans Rg24.out
  replace Rg26 : Hid (V17.heap[g26]? = some (.cells (S.v8 E3) 23 (0, 0))) := (hb.block _ (block_lt_of_row Rg26.out)).trans Rg26.out
  replace D1 : Hid (DgAt V17 (.slice o1 N1 c1) hs1) := hide (D1.out.below hb)
  replace D2 : Hid (DgAt V17 (.slice o2 N2 c2) hs2) := hide (D2.out.below hb)
  replace FA : Hid (DgAt V17 (.slice (some ⟨gF, 0, none⟩) KK KK) (hs1 ++ List.replicate 80 S.nine)) := hide (FA.out.below hb)
  replace FT : Hid (DgAt V17 (.slice (some ⟨gF, 0, none⟩) N1 KK) hs1) := hide (FT.out.below hb)
  replace D16 : Hid (DgAt V17 (.slice o16 k1 c16) l1) := hide (D16.out.below hb)
  replace DQ : Hid (DgAt V17 (.slice oQ k1 cQ) l1) := hide (DQ.out.below hb)
  replace D20 : Hid (DgAt V17 (.slice o20 k2 c20) l2) := hide (D20.out.below hb)
  replace DS : Hid (DgAt V17 (.slice oS k2 cS) l2) := hide (DS.out.below hb)
  replace HH : Hid (HsAt V17 gh gT a) := hide (HH.out.below hb (Nat.le_refl _))
  replace BW : Hid (Below w.heap.size w V17) := hide (BW.out.trans (hb.mono BW.out.size))
  clear hb y0 y1 y2
  go_wp2_with fail
  refine (known10_any V17 (HK.out.below BW.out h0)).mono ?_
  rintro r wk ⟨rfl, bk⟩
  have BK := hide (BW.out.trans (bk.mono BW.out.size))
  clear bk
  go_wp2_with fail
  go_ret
  exact ⟨rfl, BK.out⟩
end Go.Proofs.YtkljajfgdelfgaaDoor
