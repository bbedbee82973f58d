/- The document's numbers; append onto a constant text. -/
import Derived.Test.YtllcnppcncegpaaDoorKe
namespace Go.Proofs.YtllcnppcncegpaaDoor
open Go.RowKit
set_option maxHeartbeats 400000 in
theorem width_any (k : Int) (w : World) :
   Calls Tryd.prog 47 #[.int .i64 k] w fun e w' => e = .returned (.int .i64 (S.size k : Int)) ∧ w = w' := by
  go_enter Tryd.func47, Tryd.ntmps47
  by_cases h1 : k < 1
  · have HE : Hid ((S.size k : Int) = 1) := by show (S.size k : Int) = 1; rw [S.size_cast]; omega
    go_wp2
    go_ret
    exact ⟨by rw [HE.out]; rfl, rfl⟩
  · by_cases h8 : 8 < k
    · have HE : Hid ((S.size k : Int) = 8) := by show (S.size k : Int) = 8; rw [S.size_cast]; omega
      go_wp2
      go_ret
      exact ⟨by rw [HE.out]; rfl, rfl⟩
    · have HE : Hid ((S.size k : Int) = k) := by show (S.size k : Int) = k; rw [S.size_cast]; omega
      go_wp2
      go_ret
      exact ⟨by rw [HE.out]; rfl, rfl⟩
theorem urow_empty (w : World) : URow (w.alloc (.cells #[] 5)) (.slice (some ⟨w.heap.size, 0, none⟩) 0 0) [] := World.ownsRow_lit w #[] 0 (Nat.zero_le _) (Nat.zero_le _) rfl
set_option maxHeartbeats 1600000 in
set_option maxRecDepth 100000 in
theorem dnumber_any (v : Value) (bs : List UInt8) (n : Nat) (k : Int) (w : World) (hv : SliceAt w v bs) (hb : bs.length + 8 ≤ 140737488355328) :
   Calls Tryd.prog 38 #[v, .int .u64 (n : Int), .int .i64 k] w fun e w' => ∃ u, e = .returned u ∧ URow w' u (bs ++ S.num n (S.size k)) ∧ (∀ j, u.ownBlock = some j → w.heap.size ≤ j) ∧ Below w.heap.size w w' := by
  have NX : Hid (Below w.heap.size w (w.alloc (.cells #[] 5))) := (Below.refl _ _).alloc (Nat.le_refl _) _
  have SV := hide (hv.below NX.out (Nat.le_refl _))
  have HB := hide hb
  clear hv hb
  go_enter Tryd.func38, Tryd.ntmps38
  go_wp2_with (at_builtin; (refine wpList_append_known rfl (.tmp 9) (.tmp 10) 41 41 rfl _ _ rfl rfl (run_append_row _ _ _ [] bs 41 (urow_empty w) SV.out (by show 0 + bs.length ≤ _; have := HB.out; omega)) ?_; rintro v1 w1 ⟨hu1, hg1, ho1⟩))
  rw [List.nil_append] at hu1
  have hb1 := NX.out.grown hg1 NX.out.size (fun j hj => by have hj2 : some w.heap.size = some j := hj; have := Option.some.inj hj2; omega)
  have U1 := hide hu1
  have B1 := hide hb1
  have O1 : Hid (∀ j, v1.ownBlock = some j → w.heap.size ≤ j) := fun j hj => by
    rcases ho1 j hj with h | h
    · have hj2 : some w.heap.size = some j := h
      have := Option.some.inj hj2
      omega
    · have := NX.out.size
      omega
  clear hu1 hg1 ho1 hb1 SV NX
  refine (width_any k w1).mono ?_
  rintro e w2 ⟨rfl, rfl⟩
  obtain ⟨sz, hsz⟩ : ∃ sz, sz = S.size k := ⟨_, rfl⟩
  have hs8 : sz ≤ 8 := by rw [hsz]; exact S.size_le k
  have hs1 : 1 ≤ sz := by rw [hsz]; exact S.size_ge k
  rw [← hsz]
  have HSZ := hide hsz
  clear hsz
  go_wp2_with fail
  go_loopw [7, 8] (fun v i wr => ∃ (left : Nat) (acc : List UInt8), left ≤ sz ∧ i = .int .i64 ((left : Int) - 1) ∧ acc ++ S.num n left = bs ++ S.num n sz ∧ acc.length + left ≤ bs.length + 8 ∧ URow wr v acc ∧ (∀ j, v.ownBlock = some j → w.heap.size ≤ j) ∧ Below w.heap.size w wr) (fun _ i _ => (intOf i + 1).toNat)
  case atStart => exact ⟨sz, bs, Nat.le_refl _, rfl, rfl, by omega, U1.out, O1.out, B1.out⟩
  case round =>
    obtain ⟨left, acc, hl, rfl, hacc, hal, hu, ho, hb⟩ := hrel
    clear U1 O1 B1
    by_cases h0 : 0 < left
    · obtain ⟨m, rfl⟩ : ∃ m, left = m + 1 := ⟨left - 1, by omega⟩
      have e1 : ((m + 1 : Nat) : Int) - 1 = (m : Int) := by omega
      rw [e1]
      have q1 : (0 : Int) ≤ (m : Int) := by omega
      obtain ⟨ao, c, hv1⟩ := hu.shape
      obtain ⟨an, han⟩ : ∃ an, an = acc.length := ⟨_, rfl⟩
      rw [← han] at hv1
      subst hv1
      obtain ⟨x, hx⟩ : ∃ x : UInt8, x = UInt8.ofNat (n / 256 ^ m) := ⟨_, rfl⟩
      have s1 := shr_byte n m (by omega)
      rw [← hx, show (8 * (m : Int)).toNat = 8 * m from by omega] at s1
      have s2 : (n : Int) / 2 ^ (8 * m) % 256 = (x.toNat : Int) := by rw [← s1, IntKind.wrap_u8']
      have HACC : Hid (acc ++ [x] ++ S.num n m = bs ++ S.num n sz) := by show acc ++ [x] ++ S.num n m = bs ++ S.num n sz; rw [← hacc, hx, List.append_assoc]; rfl
      have w1 : IntKind.i64.wrap (8 * (m : Int)) = 8 * (m : Int) := by rw [IntKind.wrap_i64]; omega
      have w2 : IntKind.u64.wrap (8 * (m : Int)) = 8 * (m : Int) := by rw [IntKind.wrap_u64]; omega
      have UR := hide hu
      have OO := hide ho
      have BB := hide hb
      have HAN := hide han
      clear hx hacc hu ho hb han
      go_wp2_with (at_builtin; (refine wpList_append_known rfl (.tmp 19) (.tmp 26) 41 41 rfl _ _ rfl rfl (run_append_row _ _ _ acc [x] 41 (UR.out.kept fun j hj => heap_alloc_old _ _ (UR.out.lt hj)) (one_new wr x) (by show acc.length + 1 ≤ _; have := HB.out; omega)) ?_; rintro v2 w3 ⟨hu2, hg2, ho2⟩; obtain ⟨ao2, c2, hv2⟩ := hu2.shape; simp only [List.length_append, List.length_singleton, ← HAN.out] at hv2; subst hv2))
      go_roundw
      case rel =>
        refine ⟨m, acc ++ [x], by omega, by go_num, HACC.out, by rw [List.length_append]; show acc.length + 1 + m ≤ _; omega, hu2, fun j hj => ?_, ?_⟩
        · rcases ho2 j hj with h | h
          · exact OO.out j h
          · have := BB.out.size
            have h3 : wr.heap.size ≤ (wr.alloc (.cells #[.int .u8 (x.toNat : Int)] 5)).heap.size := by simp
            omega
        · exact (BB.out.alloc BB.out.size _).grown hg2 (by have := BB.out.size; simp; omega) (fun j hj => OO.out j hj)
      case measure => simp [intOf]
    · obtain rfl : left = 0 := by omega
      have q1 : ¬ ((0 : Int) ≤ ((0 : Nat) : Int) - 1) := by omega
      have FU : Hid (URow wr u7 (bs ++ S.num n (S.size k))) := by
        rw [← HSZ.out, ← hacc, show S.num n 0 = [] from rfl, List.append_nil]
        exact hu
      have OO := hide ho
      have BB := hide hb
      clear hacc hu ho hb
      go_wp2_with fail
      go_ret
      exact ⟨_, rfl, FU.out, OO.out, BB.out⟩

/-- append onto a text that fills its room: in new memory, or (nothing appended) the text itself. -/
theorem run_append_lit (w : World) (g o n : Nat) (u : Value) (bs xs : List UInt8) (ty : TypeId) (hv : SliceAt w (.slice (some ⟨g, o, none⟩) n n) bs) (hn : n = bs.length) (hp : 0 < n) (hu : SliceAt w u xs) (hb : bs.length + xs.length ≤ 140737488355328) :
    ∃ v' w', (Builtin.append_ #[41, 41] ty #[.slice (some ⟨g, o, none⟩) n n, u]).run Tryd.prog w = .ok v' w' ∧ SliceAt w' v' (bs ++ xs) ∧ Below w.heap.size w w' := by
  obtain ⟨i, hi, hz0, hz1, hz2⟩ := info_parts infoB
  have none_ : ∀ x, (x = .slice none 0 0 ∨ ∃ a c, x = .slice (some a) 0 c) → (Builtin.append_ #[41, 41] ty #[.slice (some ⟨g, o, none⟩) n n, x]).run Tryd.prog w = .ok (.slice (some ⟨g, o, none⟩) n n) w := fun x hx => by
    rcases hx with rfl | ⟨a, c, rfl⟩
    · simp [Builtin.append_, run_underlying Tryd.underlying41, sizeOf, typeInfo, hi, Builtin.lenOf, run_firstCells_none, storeCells]
    · have hf := run_firstCells_some (P := Tryd.prog) w i.size 0 a 0 c [] (by simp) (fun j v h => by simp at h)
      simp [Builtin.append_, run_underlying Tryd.underlying41, sizeOf, typeInfo, hi, Builtin.lenOf, hf, storeCells]
  rcases hu with ⟨rfl, rfl⟩ | ⟨a, cap, rfl, _, rfl⟩ | ⟨b, off, cap, rfl, h1, h2, h3, h4⟩
  · exact ⟨_, w, none_ _ (Or.inl rfl), by rw [List.append_nil]; exact hv, Below.refl _ _⟩
  · exact ⟨_, w, none_ _ (Or.inr ⟨_, _, rfl⟩), by rw [List.append_nil]; exact hv, Below.refl _ _⟩
  · by_cases hx : xs.length = 0
    · obtain rfl := List.eq_nil_of_length_eq_zero hx
      exact ⟨_, w, none_ _ (Or.inr ⟨_, _, rfl⟩), by rw [List.append_nil]; exact hv, Below.refl _ _⟩
    · obtain ⟨b0, off0, e0, hl0, hn0, hc0⟩ := hv.src (by omega)
      simp only [Option.some.injEq, Addr.mk.injEq, and_true] at e0
      obtain ⟨rfl, rfl⟩ := e0
      have olds : ∀ j v, (S.v8l bs)[j]? = some v → w.cell? ((⟨g, o, none⟩ : Addr).add j) = some v := fun j v hv => by
        obtain ⟨rfl, hj⟩ := S.v8l_at bs j v hv
        rw [Addr.add_mid]; exact hc0 j hj
      have news : ∀ j v, (S.v8l xs)[j]? = some v → w.cell? ((⟨b, off, none⟩ : Addr).add j) = some v := fun j v hv => by
        obtain ⟨rfl, hj⟩ := S.v8l_at xs j v hv
        rw [Addr.add_mid]; exact h4 j hj
      have hr := run_append_grow (P := Tryd.prog) w 41 ty 5 i (.int .u8 0) Tryd.underlying41 hi hz0 ⟨g, o, none⟩ n n (S.v8l bs) (by rw [S.v8l_length, hz1]; omega) olds ⟨b, off, none⟩ xs.length cap (S.v8l xs) (by rw [S.v8l_length, hz1]; omega) news (by omega) (by omega) (growslice_fits (by omega) (by rw [hz2]; omega))
      have hge := grownCap_ge w (n + xs.length) n 5
      refine ⟨_, _, hr, ?_, ((Below.refl _ _).drew).alloc (Nat.le_refl _) _⟩
      have hlen : n + xs.length = (bs ++ xs).length := by rw [List.length_append, hn]
      rw [hlen] at hge ⊢
      refine Room.sliceAt (g := w.heap.size) ⟨_, heap_alloc_new w.drew _, ?_, hge, ?_⟩ (by rw [List.length_append]; exact hb)
      · simp only [Array.size_append, List.size_toArray, size_zeroCells, S.v8l_length, Value.cells]
        rw [List.length_append] at hge ⊢
        simp
        omega
      · simp only [Array.toList_append]
        rw [← v8l_append, List.take_left' (by rw [S.v8l_length])]
end Go.Proofs.YtllcnppcncegpaaDoor
namespace Go.Proofs.YtllcnppcncegpaaDoor
open Go.RowKit

theorem u8_tree (t : Int) : ∃ x : UInt8, S.num (S.u64 t) 1 = [x] ∧ t % 256 = (x.toNat : Int) := by
  refine ⟨UInt8.ofNat (S.u64 t), ?_, ?_⟩
  · simp [S.num]
  · rw [UInt8.toNat_ofNat', S.u64]; omega

set_option maxHeartbeats 8000000 in
set_option maxRecDepth 10000 in
theorem rkey_any (gT : Nat) (sv : Value) (ks : List UInt8) (tree epoch : Int) (draw : Nat) (w : World) (hT : w.heap[gT]? = some (.cells (S.v32 (S.K ++ S.H0)) 77 (0, 0))) (hd : draw < 4294967296) (hs : SliceAt w sv ks) (hl : ks.length ≤ 140737488355000) :
   Calls Tryd.prog 18 #[.pointer (some ⟨gT, 0, none⟩), sv, .int .i64 tree, .int .i64 epoch, .int .u32 (draw : Int)] w fun e w' => e = .returned (.agg (S.v8 (S.key ks tree epoch draw))) ∧ Below w.heap.size w w' := by
  have q2 := S.u64_wrap epoch
  have q3 : IntKind.u64.wrap (draw : Int) = (draw : Int) := wrap_u64_lt draw (by omega)
  obtain ⟨so, sn, sc, rfl, hsn, hsm⟩ := hs.form
  have HS := hide hs
  have HT := hide hT
  have HLK := hide hl
  clear hs hT hsn hsm hd hl
  go_enter Tryd.func18, Tryd.ntmps18
  go_upto_region 1 with fail
  generalize hW0 : w.alloc _ = w0
  have R0 : Hid (w0.heap[w.heap.size]? = some (.cells (S.v8 (S.zeros 32)) 30 (0, 0))) := by rw [← hW0]; exact heap_alloc_new _ _
  have B0 : Hid (Below w.heap.size w w0) := by rw [← hW0]; exact (Below.refl _ _).alloc (Nat.le_refl _) _
  have L0 := hide (block_lt_of_row R0.out)
  clear hW0
  obtain ⟨x, hx1, q0⟩ := u8_tree tree
  have q0' : IntKind.u8.wrap tree = (x.toNat : Int) := by rw [IntKind.wrap_u8', q0]
  have HX := hide hx1
  have kc := convK w0 #[.int .u8 107, .int .u8 101, .int .u8 121] 3 3
  obtain ⟨A, hA⟩ : ∃ A, A = w0.alloc (.cells #[.int .u8 107, .int .u8 101, .int .u8 121] 5 ((#[.int .u8 107, .int .u8 101, .int .u8 121] : Array Value).size, (#[.int .u8 107, .int .u8 101, .int .u8 121] : Array Value).size + 1)) := ⟨_, rfl⟩
  obtain ⟨bA, sA⟩ := lit_new w0 [107, 101, 121] #[.int .u8 107, .int .u8 101, .int .u8 121] 3 rfl rfl (by simp) ((#[.int .u8 107, .int .u8 101, .int .u8 121] : Array Value).size, (#[.int .u8 107, .int .u8 101, .int .u8 121] : Array Value).size + 1)
  rw [← hA] at kc bA sA
  have bA2 : Below A.heap.size A (A.alloc (.cells #[.int .u8 (x.toNat : Int)] 5)) := (Below.refl _ _).alloc (Nat.le_refl _) _
  have sA2 : SliceAt (A.alloc (.cells #[.int .u8 (x.toNat : Int)] 5)) (.slice (some ⟨A.heap.size, 0, none⟩) 1 1) [x] := one_new A x
  have RA := hide (run_append_lit (A.alloc (.cells #[.int .u8 (x.toNat : Int)] 5)) w0.heap.size 0 3 (.slice (some ⟨A.heap.size, 0, none⟩) 1 1) [107, 101, 121] [x] 41 (sA.below bA2 (Nat.le_refl _)) rfl (by omega) sA2 (by simp))
  have BA := hide (bA.trans (bA2.mono bA.size))
  clear hA bA sA bA2 sA2 hx1
  go_upto_region 2 with (at_builtin; (refine wpList_append_known rfl (.tmp 13) (.tmp 16) 41 41 rfl _ _ rfl rfl RA.out ?_; rintro v1 w1 ⟨hs1, hb1⟩))
  obtain ⟨o1, n1, c1, rfl, hn1, hm1⟩ := hs1.form
  have S1 := hide hs1
  have B1 := hide (BA.out.trans (hb1.mono BA.out.size))
  clear hs1 hb1 RA BA hn1 hm1 q0 q0' kc
  go_wp2_with fail
  refine (dnumber_any (.slice o1 n1 c1) _ (S.u64 epoch) 4 w1 S1.out (by simp)).mono ?_
  rintro e w2 ⟨v2, rfl, hu2, ho2, hb2⟩
  obtain ⟨o2, c2, rfl⟩ := hu2.shape
  obtain ⟨n2, hn2⟩ : ∃ n, n = (([107, 101, 121] ++ [x]) ++ S.num (S.u64 epoch) (S.size 4)).length := ⟨_, rfl⟩
  rw [← hn2] at hu2 ⊢
  have S2 := hide (hu2.sliceAt (by simp [S.num_length, size_4]))
  have B2 := hide (B1.out.trans (hb2.mono B1.out.size))
  clear hu2 ho2 hb2 B1 S1 hn2
  go_wp2_with fail
  refine (dnumber_any (.slice o2 n2 c2) _ draw 4 w2 S2.out (by simp [S.num_length, size_4])).mono ?_
  rintro e w3 ⟨v3, rfl, hu3, ho3, hb3⟩
  have eT : ((([107, 101, 121] ++ [x]) ++ S.num (S.u64 epoch) (S.size 4)) ++ S.num draw (S.size 4)) = S.keyText tree epoch draw := by rw [S.keyText, HX.out]; simp [size_4]
  rw [eT] at hu3
  obtain ⟨o3, c3, rfl⟩ := hu3.shape
  obtain ⟨n3, hn3⟩ : ∃ n, n = (S.keyText tree epoch draw).length := ⟨_, rfl⟩
  rw [← hn3] at hu3 ⊢
  have S3 := hide (hu3.sliceAt (by rw [S.keyText_length]; omega))
  have B3 := hide (B2.out.trans (hb3.mono B2.out.size))
  have BW := hide (B0.out.trans (B3.out.mono (Nat.le_of_lt L0.out)))
  clear hu3 ho3 hb3 B2 S2 eT hn3
  go_wp2_with fail
  refine (rmac_any gT (.slice so sn sc) ks (.slice o3 n3 c3) (S.keyText tree epoch draw) w3 ((BW.out.block gT (block_lt_of_row HT.out)).trans HT.out) (HS.out.below BW.out (Nat.le_refl _)) S3.out HLK.out (by rw [S.keyText_length]; omega)).mono ?_
  rintro e G ⟨rfl, hbG⟩
  have RF : Hid (w3.heap[w.heap.size]? = some (.cells (S.v8 (S.zeros 32)) 30 (0, 0))) := (B3.out.block _ L0.out).trans R0.out
  rw [show S.mac ks (S.keyText tree epoch draw) = S.key ks tree epoch draw by rw [S.key]]
  obtain ⟨Dg, hDg⟩ : ∃ D, D = S.key ks tree epoch draw := ⟨_, rfl⟩
  have HL := hide (show Dg.length = 32 by rw [hDg, S.key_length])
  rw [← hDg]
  have HDg := hide hDg
  have B4 := hide (BW.out.trans (hbG.mono BW.out.size))
  have R4 : Hid (G.heap[w.heap.size]? = some (.cells (S.v8 (S.zeros 32)) 30 (0, 0))) := (hbG.block _ (block_lt_of_row RF.out)).trans RF.out
  clear hDg hbG RF R0
  go_wp2_with (refine wpList_store_row rfl 30 _ _ rfl w.heap.size (S.v8 Dg) rfl rfl 30 _ R4.out (size_dig Dg HL.out) (zeros_dig Dg HL.out) (S.v8_one _) ?_)
  exact bodyPost_ret (v := .agg (S.v8 Dg)) (results_cell_row (g := w.heap.size) (t := 30) (fr := (0, 0)) Tryd.results18 _ _ _ _ rfl (setRow_heap _ _ _ _ _ _ R4.out) Tryd.underlying30 rfl (size_dig Dg HL.out)) rfl ⟨by rw [HDg.out], below_setRow B4.out (Nat.le_refl _) _⟩

set_option maxHeartbeats 8000000 in
set_option maxRecDepth 10000 in
theorem rbytes_any (h : S.Hd) (w : World) (hok : h.Ok) :
   Calls Tryd.prog 20 #[.agg (encH h).toArray] w fun e w' => ∃ ao c, e = .returned (.slice ao 57 c) ∧ SliceAt w' (.slice ao 57 c) (S.hb h) ∧ Below w.heap.size w w' := by
  have q2 := S.u64_wrap h.epoch
  have HR := hide hok.r
  clear hok
  go_enter Tryd.func20, Tryd.ntmps20
  go_upto_region 1 with fail
  generalize hW0 : w.alloc _ = w0
  have R0 : Hid (w0.heap[w.heap.size]? = some (.cells (encH h).toArray 32 (0, 0))) := by rw [← hW0]; exact heap_alloc_new _ _
  have B0 : Hid (Below w.heap.size w w0) := by rw [← hW0]; exact (Below.refl _ _).alloc (Nat.le_refl _) _
  have L0 := hide (block_lt_of_row R0.out)
  clear hW0
  obtain ⟨x, hx1, q0⟩ := u8_tree h.tree
  have q0' : IntKind.u8.wrap h.tree = (x.toNat : Int) := by rw [IntKind.wrap_u8', q0]
  have HX := hide hx1
  have kc := convK w0 #[.int .u8 104, .int .u8 101, .int .u8 97, .int .u8 100] 4 4
  obtain ⟨A, hA⟩ : ∃ A, A = w0.alloc (.cells #[.int .u8 104, .int .u8 101, .int .u8 97, .int .u8 100] 5 ((#[.int .u8 104, .int .u8 101, .int .u8 97, .int .u8 100] : Array Value).size, (#[.int .u8 104, .int .u8 101, .int .u8 97, .int .u8 100] : Array Value).size + 1)) := ⟨_, rfl⟩
  obtain ⟨bA, sA⟩ := lit_new w0 [104, 101, 97, 100] #[.int .u8 104, .int .u8 101, .int .u8 97, .int .u8 100] 4 rfl rfl (by simp) ((#[.int .u8 104, .int .u8 101, .int .u8 97, .int .u8 100] : Array Value).size, (#[.int .u8 104, .int .u8 101, .int .u8 97, .int .u8 100] : Array Value).size + 1)
  rw [← hA] at kc bA sA
  have bA2 : Below A.heap.size A (A.alloc (.cells #[.int .u8 (x.toNat : Int)] 5)) := (Below.refl _ _).alloc (Nat.le_refl _) _
  have sA2 : SliceAt (A.alloc (.cells #[.int .u8 (x.toNat : Int)] 5)) (.slice (some ⟨A.heap.size, 0, none⟩) 1 1) [x] := one_new A x
  have RA := hide (run_append_lit (A.alloc (.cells #[.int .u8 (x.toNat : Int)] 5)) w0.heap.size 0 4 (.slice (some ⟨A.heap.size, 0, none⟩) 1 1) [104, 101, 97, 100] [x] 41 (sA.below bA2 (Nat.le_refl _)) rfl (by omega) sA2 (by simp))
  have BA := hide (bA.trans (bA2.mono bA.size))
  have RA0 := hide ((bA.block _ L0.out).trans R0.out)
  clear hA bA sA bA2 sA2 hx1
  obtain ⟨c0, c1, c2, c3⟩ := h_cells RA0.out
  go_upto_region 2 with (at_builtin; (refine wpList_append_known rfl (.tmp 5) (.tmp 9) 41 41 rfl _ _ rfl rfl RA.out ?_; rintro v1 w1 ⟨hs1, hb1⟩))
  obtain ⟨o1, n1, cc1, rfl, hn1, hm1⟩ := hs1.form
  have S1 := hide hs1
  have B1 := hide (BA.out.trans (hb1.mono BA.out.size))
  clear hs1 hb1 RA BA hn1 hm1 q0 q0' kc c0 c1 c2 c3 RA0
  obtain ⟨c0, c1, c2, c3⟩ := h_cells ((B1.out.block _ L0.out).trans R0.out)
  go_wp2_with fail
  refine (dnumber_any (.slice o1 n1 cc1) ([104, 101, 97, 100] ++ [x]) (S.u64 h.epoch) 4 w1 S1.out (by simp)).mono ?_
  rintro e w2 ⟨v2, rfl, hu, ho, hb⟩
  replace hu : URow w2 v2 (([104, 101, 97, 100] ++ [x]) ++ S.num (S.u64 h.epoch) 4) := hu
  obtain ⟨o2, cc2, rfl⟩ := hu.shape
  obtain ⟨n2, hn2⟩ : ∃ n, n = ((([104, 101, 97, 100] ++ [x]) ++ S.num (S.u64 h.epoch) 4)).length := ⟨_, rfl⟩
  rw [← hn2] at hu ho ⊢
  have S2 := hide (hu.sliceAt (by simp [S.num_length]))
  have U2 := hide hu
  have B2 := hide (B1.out.trans (hb.mono B1.out.size))
  have O2 := hide ho
  clear hu ho hb B1 S1 c0 c1 c2 c3 hn2 U2 O2
  obtain ⟨c0, c1, c2, c3⟩ := h_cells ((B2.out.block _ L0.out).trans R0.out)
  go_wp2_with fail
  refine (dnumber_any (.slice o2 n2 cc2) (([104, 101, 97, 100] ++ [x]) ++ S.num (S.u64 h.epoch) 4) h.size 8 w2 S2.out (by simp [S.num_length])).mono ?_
  rintro e w3 ⟨v3, rfl, hu, ho, hb⟩
  replace hu : URow w3 v3 ((([104, 101, 97, 100] ++ [x]) ++ S.num (S.u64 h.epoch) 4) ++ S.num h.size 8) := hu
  obtain ⟨o3, cc3, rfl⟩ := hu.shape
  obtain ⟨n3, hn3⟩ : ∃ n, n = (((([104, 101, 97, 100] ++ [x]) ++ S.num (S.u64 h.epoch) 4) ++ S.num h.size 8)).length := ⟨_, rfl⟩
  rw [← hn3] at hu ho ⊢
  have S3 := hide (hu.sliceAt (by simp [S.num_length]))
  have U3 := hide hu
  have B3 := hide (B2.out.trans (hb.mono B2.out.size))
  have O3 := hide ho
  clear hu ho hb B2 S2 c0 c1 c2 c3 hn3 U3 O3
  obtain ⟨c0, c1, c2, c3⟩ := h_cells ((B3.out.block _ L0.out).trans R0.out)
  go_wp2_with fail
  refine (dnumber_any (.slice o3 n3 cc3) ((([104, 101, 97, 100] ++ [x]) ++ S.num (S.u64 h.epoch) 4) ++ S.num h.size 8) h.clock 8 w3 S3.out (by simp [S.num_length])).mono ?_
  have B3s := hide B3.out.size
  rintro e w4 ⟨v4, rfl, hu, ho, hb⟩
  replace hu : URow w4 v4 (((([104, 101, 97, 100] ++ [x]) ++ S.num (S.u64 h.epoch) 4) ++ S.num h.size 8) ++ S.num h.clock 8) := hu
  obtain ⟨o4, cc4, rfl⟩ := hu.shape
  obtain ⟨n4, hn4⟩ : ∃ n, n = ((((([104, 101, 97, 100] ++ [x]) ++ S.num (S.u64 h.epoch) 4) ++ S.num h.size 8) ++ S.num h.clock 8)).length := ⟨_, rfl⟩
  rw [← hn4] at hu ho ⊢
  have S4 := hide (hu.sliceAt (by simp [S.num_length]))
  have U4 := hide hu
  have B4 := hide (B3.out.trans (hb.mono B3.out.size))
  have O4 := hide ho
  clear hu ho hb B3 S3 c0 c1 c2 c3 hn4
  have rr := mid_part (c := 32) (h_root ((B4.out.block _ L0.out).trans R0.out)) HR.out (Nat.lt_of_lt_of_le L0.out B4.out.size) (by omega)
  have SR := hide rr
  have AP := hide (run_append_row w4 (.slice o4 n4 cc4) (.slice (some ⟨w.heap.size, 4, none⟩) 32 32) _ h.root 41 U4.out SR.out (by simp [S.num_length, HR.out]))
  clear rr
  have hbl : Hid (∀ k, (Value.slice o4 n4 cc4).ownBlock = some k → w0.heap.size ≤ k) := fun k hk => Nat.le_trans B3s.out (O4.out k hk)
  go_wp2_with (at_builtin; (refine wpList_append_known rfl (.tmp 24) (.tmp 26) 41 41 rfl _ _ rfl rfl AP.out ?_; rintro v5 w5 ⟨hu5, hg5, ho5⟩))
  have eT : ((((([104, 101, 97, 100] ++ [x]) ++ S.num (S.u64 h.epoch) 4) ++ S.num h.size 8) ++ S.num h.clock 8) ++ h.root) = S.hb h := by rw [S.hb, HX.out]; simp
  rw [eT] at hu5
  obtain ⟨o5, c5, rfl⟩ := hu5.shape
  have l5 := S.hb_length h HR.out
  have S5 := hide (hu5.sliceAt (by rw [l5]; omega))
  rw [l5] at S5 ⊢
  have B5 := hide (B0.out.trans ((B4.out.grown hg5 B4.out.size (fun k hk => hbl.out k hk)).mono (Nat.le_of_lt L0.out)))
  clear hu5 hg5 ho5 eT
  go_wp2_with fail
  go_ret
  exact ⟨o5, c5, rfl, S5.out, B5.out⟩

end Go.Proofs.YtllcnppcncegpaaDoor
namespace Go.Proofs.YtllcnppcncegpaaDoor
open Go.RowKit

set_option maxHeartbeats 8000000 in
set_option maxRecDepth 10000 in
theorem rsign_any (gT : Nat) (k : List UInt8) (h : S.Hd) (w : World) (hT : w.heap[gT]? = some (.cells (S.v32 (S.K ++ S.H0)) 77 (0, 0))) (hk : k.length = 32) (hok : h.Ok) :
   Calls Tryd.prog 21 #[.pointer (some ⟨gT, 0, none⟩), .agg (S.v8 k), .agg (encH h).toArray] w fun e w' => e = .returned (.agg (encG (S.sign k h)).toArray) ∧ Below w.heap.size w w' := by
  have HT := hide hT
  have LT := hide (block_lt_of_row hT)
  have HOK := hide hok
  have HR := hide hok.r
  have HKL := hide hk
  clear hT hok hk
  go_enter Tryd.func21, Tryd.ntmps21
  go_upto_region 1 with (refine wpList_alloc_known rfl 34 rfl _ _ (alloc34 _) ?_)
  generalize hW0 : w.alloc _ = W0
  generalize hW1 : W0.alloc _ = W1
  generalize hW2 : W1.alloc _ = W2
  have B0 : Below w.heap.size w W0 := by rw [← hW0]; exact (Below.refl _ _).alloc (Nat.le_refl _) _
  have s0 : W0.heap.size = w.heap.size + 1 := by rw [← hW0]; simp
  have r0 : W0.heap[w.heap.size]? = some (.cells (S.v8 k) 30 (0, 0)) := by rw [← hW0]; exact heap_alloc_new _ _
  have B1 : Below W0.heap.size W0 W1 := by rw [← hW1]; exact (Below.refl _ _).alloc (Nat.le_refl _) _
  have s1 : W1.heap.size = w.heap.size + 2 := by rw [← hW1]; simp [s0]
  have r1 : W1.heap[w.heap.size + 1]? = some (.cells (encH h).toArray 32 (0, 0)) := by rw [← hW1, ← s0]; exact heap_alloc_new _ _
  have B2 : Below W1.heap.size W1 W2 := by rw [← hW2]; exact (Below.refl _ _).alloc (Nat.le_refl _) _
  have s2 : W2.heap.size = w.heap.size + 3 := by rw [← hW2]; simp [s1]
  have r2 : W2.heap[w.heap.size + 2]? = some (.cells (encG S.g0).toArray 34 (0, 0)) := by rw [← hW2, ← s1]; exact heap_alloc_new _ _
  have BB : Hid (Below w.heap.size w W2) := ((B0.trans (B1.mono (by omega))).trans (B2.mono (by omega)))
  have Q0 : Hid (W2.heap[w.heap.size]? = some (.cells (S.v8 k) 30 (0, 0))) := ((B2.block _ (by omega)).trans ((B1.block _ (by omega)).trans r0))
  have Q1 : Hid (W2.heap[w.heap.size + 1]? = some (.cells (encH h).toArray 32 (0, 0))) := ((B2.block _ (by omega)).trans r1)
  have Q2 : Hid (W2.heap[w.heap.size + 2]? = some (.cells (encG S.g0).toArray 34 (0, 0))) := r2
  rw [s1]
  clear hW0 B0 s0 r0 hW1 B1 s1 r1 hW2 B2 s2 r2
  refine wp_region_noPanic ?_
  refine wp_region_held_drew (S := (fun W => Chg (fun k => k = w.heap.size + 2) W2 W)) follows ((Chg.refl _ _).drew) (fun hHeld => ?_)
  clear hHeld
  have hHeld : Chg (fun k => k = w.heap.size + 2) W2 W2.drew := (Chg.refl _ _).drew
  have CZ0 := hide hHeld
  have Q0' : Hid (W2.drew.heap[w.heap.size]? = some (.cells (S.v8 k) 30 (0, 0))) := Q0.out
  have Q1' : Hid (W2.drew.heap[(w.heap.size + 1)]? = some (.cells (encH h).toArray 32 (0, 0))) := Q1.out
  have Q2' : Hid (W2.drew.heap[(w.heap.size + 2)]? = some (.cells (encG S.g0).toArray 34 (0, 0))) := Q2.out
  generalize W2.drew = Z0 at CZ0 hHeld Q0' Q1' Q2' ⊢
  refine wpAnyH_take (i := 0) (oi := { dst := some 7, op := Op.load 32 (Operand.tmp 5), type := 32, pos := "ref.go:26", after := #[], guard := none }) (v := .agg (encH h).toArray) rfl (by kernel_rfl) (by kernel_rfl) (by kernel_rfl) (fun _ _ _ h => h) (yieldsIf_load_mid (by rfl) _ _ rfl (w.heap.size + 1) 0 rfl (encH h) _ (fun _ hSw => rangeAt_row (hSw.row Q1.out (by omega))) Tryd.underlying32 rfl (by rw [size_h _ HR.out, List.size_toArray])) (by assumption) ?_
  simp only [Act.put, List.setIfInBounds_toArray, List.set_cons_zero, List.set_cons_succ]
  refine wpAnyH_take (i := 1) (oi := { dst := some 8, op := Op.move (Operand.tmp 0), type := 42, pos := "ref.go:26", after := #[], guard := none }) (v := ?_) rfl (by kernel_rfl) (by kernel_rfl) (by kernel_rfl) (fun _ _ _ h => h) (Or.inl ⟨by rfl, ?_⟩) (by assumption) ?_
  rotate_left
  · intro w hSw
    clear hSw
    go_simp
    all_goals with_reducible rfl
  simp only [Act.put, List.setIfInBounds_toArray, List.set_cons_zero, List.set_cons_succ]
  refine wpAnyH_take (i := 2) (oi := { dst := some 9, op := Op.slice 30 (Operand.tmp 4) none none none, type := 41, pos := "ref.go:26", after := #[], guard := none }) (v := ?_) rfl (by kernel_rfl) (by kernel_rfl) (by kernel_rfl) (fun _ _ _ h => h) (Or.inl ⟨by rfl, ?_⟩) (by assumption) ?_
  rotate_left
  · intro w hSw
    clear hSw
    go_simp
    all_goals with_reducible rfl
  simp only [Act.put, List.setIfInBounds_toArray, List.set_cons_zero, List.set_cons_succ]
  refine wpAnyH_take (i := 3) (oi := { dst := some 10, op := Op.load 32 (Operand.tmp 5), type := 32, pos := "ref.go:26", after := #[], guard := none }) (v := .agg (encH h).toArray) rfl (by kernel_rfl) (by kernel_rfl) (by kernel_rfl) (fun _ _ _ h => h) (yieldsIf_load_mid (by rfl) _ _ rfl (w.heap.size + 1) 0 rfl (encH h) _ (fun _ hSw => rangeAt_row (hSw.row Q1.out (by omega))) Tryd.underlying32 rfl (by rw [size_h _ HR.out, List.size_toArray])) (by assumption) ?_
  simp only [Act.put, List.setIfInBounds_toArray, List.set_cons_zero, List.set_cons_succ]
  refine wpAnyH_ready (rs := [4]) (by kernel_rfl) (by simp) ?_
  refine AllReadyH.cons (o := { dst := some 11, op := Op.call { callee := Callee.value (Operand.func 20), args := #[Operand.tmp 10], argTypes := #[32] }, type := 41, pos := "ref.go:26", after := #[{ on := 3, ground := Ground.data }], guard := none }) rfl (fun K hK => ?_) AllReadyH.nil
  go_simp
  refine (rbytes_any h Z0 HOK.out).mono ?_
  rintro e Z1 ⟨bo, bc, rfl, hsb, hb2⟩
  have SB := hide hsb
  clear hsb
  replace Q0' : Hid (Z1.heap[w.heap.size]? = some (.cells (S.v8 k) 30 (0, 0))) := (hb2.block _ (block_lt_of_row Q0'.out)).trans Q0'.out
  replace Q1' : Hid (Z1.heap[(w.heap.size + 1)]? = some (.cells (encH h).toArray 32 (0, 0))) := (hb2.block _ (block_lt_of_row Q1'.out)).trans Q1'.out
  replace Q2' : Hid (Z1.heap[(w.heap.size + 2)]? = some (.cells (encG S.g0).toArray 34 (0, 0))) := (hb2.block _ (block_lt_of_row Q2'.out)).trans Q2'.out
  have CZ1 : Hid (Chg (fun k => k = w.heap.size + 2) W2 Z1) := CZ0.out.then hb2
  clear hb2 CZ0
  clear hHeld
  refine hK.out _ _ CZ1.out (fun hHeld => ?_)
  clear hK K
  try simp only [Act.put, List.setIfInBounds_toArray, List.set_cons_zero, List.set_cons_succ]
  refine wpAnyH_ready (rs := [5]) (by kernel_rfl) (by simp) ?_
  refine AllReadyH.cons (o := { dst := some 12, op := Op.call { callee := Callee.value (Operand.func 39), args := #[Operand.tmp 8, Operand.tmp 9, Operand.tmp 11], argTypes := #[42, 41, 41] }, type := 30, pos := "ref.go:26", after := #[{ on := 1, ground := Ground.data }, { on := 2, ground := Ground.data }, { on := 4, ground := Ground.data }, { on := 4, ground := Ground.chain }], guard := none }) rfl (fun K hK => ?_) AllReadyH.nil
  go_simp
  refine (rmac_any gT _ k _ (S.hb h) Z1 (((BB.out.trans (CZ1.out.below w.heap.size BB.out.size (fun k hk e => by omega))).block gT LT.out).trans HT.out) (dig_all Q0'.out HKL.out) SB.out (by rw [HKL.out]; omega) (by rw [S.hb_length _ HR.out]; omega)).mono ?_
  rintro e Z2 ⟨rfl, hb2⟩
  obtain ⟨D, hD⟩ : ∃ DD, DD = S.mac k (S.hb h) := ⟨_, rfl⟩
  rw [← hD]
  have LD := hide (show D.length = 32 by rw [hD]; exact S.mac_length _ _)
  have ED := hide hD
  clear hD
  replace Q0' : Hid (Z2.heap[w.heap.size]? = some (.cells (S.v8 k) 30 (0, 0))) := (hb2.block _ (block_lt_of_row Q0'.out)).trans Q0'.out
  replace Q1' : Hid (Z2.heap[(w.heap.size + 1)]? = some (.cells (encH h).toArray 32 (0, 0))) := (hb2.block _ (block_lt_of_row Q1'.out)).trans Q1'.out
  replace Q2' : Hid (Z2.heap[(w.heap.size + 2)]? = some (.cells (encG S.g0).toArray 34 (0, 0))) := (hb2.block _ (block_lt_of_row Q2'.out)).trans Q2'.out
  replace SB : Hid (SliceAt Z2 (.slice bo 57 bc) (S.hb h)) := SB.out.below hb2 (Nat.le_refl _)
  have CZ2 : Hid (Chg (fun k => k = w.heap.size + 2) W2 Z2) := CZ1.out.then hb2
  clear hb2 CZ1
  clear hHeld
  refine hK.out _ _ CZ2.out (fun hHeld => ?_)
  clear hK K
  try simp only [Act.put, List.setIfInBounds_toArray, List.set_cons_zero, List.set_cons_succ]
  refine wpAnyH_ready (rs := [6]) (by kernel_rfl) (by simp) ?_
  refine step_build_as (o := { dst := some 13, op := Op.build 34 #[(0, Operand.tmp 7), (1, Operand.tmp 12)], type := 34, pos := "ref.go:26", after := #[{ on := 0, ground := Ground.data }, { on := 5, ground := Ground.data }], guard := none }) rfl rfl 34 [(0, .tmp 7), (1, .tmp 12)] rfl [(0, .agg (encH h).toArray), (1, .agg (S.v8 D))] rfl (.agg (encG ⟨h, D⟩).toArray) (build34 h HR.out D LD.out Z2) AllReadyH.nil ⟨CZ2.out, fun hHeld => ?_⟩
  simp only [Act.put, List.setIfInBounds_toArray, List.set_cons_zero, List.set_cons_succ]
  refine wpAnyH_ready (rs := [7]) (by kernel_rfl) (by simp) ?_
  obtain ⟨Z3, hst, r6, C6, s6⟩ := store_g (x := ⟨h, D⟩) Q2'.out (by rw [List.size_toArray, encG_length _ (S.zeros_length 32) (S.zeros_length 32)]) HR.out LD.out
  refine step_store_as (o := { dst := none, op := Op.store 34 (Operand.tmp 6) (Operand.tmp 13), type := 0, pos := "ref.go:26", after := #[{ on := 6, ground := Ground.data }, { on := 5, ground := Ground.chain }, { on := 0, ground := Ground.phase }, { on := 1, ground := Ground.phase }, { on := 2, ground := Ground.phase }, { on := 3, ground := Ground.phase }, { on := 4, ground := Ground.phase }, { on := 5, ground := Ground.phase }, { on := 6, ground := Ground.phase }], guard := none }) rfl rfl 34 (.tmp 6) (.tmp 13) rfl _ _ rfl rfl Z3 hst AllReadyH.nil ⟨CZ2.out.trans C6 (fun k hk e => by first | exact e | exact Or.inl e | exact Or.inr e | omega), fun hHeld => ?_⟩
  replace Q0' : Hid (Z3.heap[w.heap.size]? = some (.cells (S.v8 k) 30 (0, 0))) := C6.row Q0'.out (by omega)
  replace Q1' : Hid (Z3.heap[(w.heap.size + 1)]? = some (.cells (encH h).toArray 32 (0, 0))) := C6.row Q1'.out (by omega)
  replace Q2' : Hid (Z3.heap[(w.heap.size + 2)]? = some (.cells (encG ⟨h, D⟩).toArray 34 (0, 0))) := r6
  have CZ3 : Hid (Chg (fun k => k = w.heap.size + 2) W2 Z3) := CZ2.out.trans C6 (fun k hk e => by first | exact e | exact Or.inl e | exact Or.inr e | omega)
  clear hst r6 C6 s6 CZ2
  simp only [Act.put]
  refine wpAnyH_done (by kernel_rfl) ?_ _
  refine NoPanic.normal ?_
  have BF := hide (BB.out.trans (CZ3.out.below w.heap.size BB.out.size (fun k hk e => by omega)))
  clear hHeld
  generalize Z3 = Y at BF Q2' ⊢
  go_wp2_with fail
  exact bodyPost_ret (v := .agg (encG ⟨h, D⟩).toArray) (results_cell_row (g := w.heap.size + 2) (t := 34) (fr := (0, 0)) Tryd.results21 _ _ _ _ rfl Q2'.out Tryd.underlying34 rfl (size_g ⟨h, D⟩ HR.out LD.out)) rfl ⟨by rw [S.sign, ← ED.out], BF.out⟩

set_option maxHeartbeats 8000000 in
set_option maxRecDepth 10000 in
theorem rholds_any (gT : Nat) (k : List UInt8) (x : S.Sg) (w : World) (hT : w.heap[gT]? = some (.cells (S.v32 (S.K ++ S.H0)) 77 (0, 0))) (hk : k.length = 32) (hok : x.h.Ok) (ht : x.tag.length = 32) :
   Calls Tryd.prog 23 #[.pointer (some ⟨gT, 0, none⟩), .agg (S.v8 k), .agg (encG x).toArray] w fun e w' => e = .returned (.bool (S.mac k (S.hb x.h) == x.tag)) ∧ Below w.heap.size w w' := by
  have HT := hide hT
  have LT := hide (block_lt_of_row hT)
  have HOK := hide hok
  have HR := hide hok.r
  have HKL := hide hk
  have HTL := hide ht
  clear hT hok hk ht
  go_enter Tryd.func23, Tryd.ntmps23
  go_upto_region 1 with fail
  generalize hW0 : w.alloc _ = W0
  generalize hW1 : W0.alloc _ = W1
  have B0 : Below w.heap.size w W0 := by rw [← hW0]; exact (Below.refl _ _).alloc (Nat.le_refl _) _
  have s0 : W0.heap.size = w.heap.size + 1 := by rw [← hW0]; simp
  have r0 : W0.heap[w.heap.size]? = some (.cells (S.v8 k) 30 (0, 0)) := by rw [← hW0]; exact heap_alloc_new _ _
  have B1 : Below W0.heap.size W0 W1 := by rw [← hW1]; exact (Below.refl _ _).alloc (Nat.le_refl _) _
  have s1 : W1.heap.size = w.heap.size + 2 := by rw [← hW1]; simp [s0]
  have r1 : W1.heap[w.heap.size + 1]? = some (.cells (encG x).toArray 34 (0, 0)) := by rw [← hW1, ← s0]; exact heap_alloc_new _ _
  have BB : Hid (Below w.heap.size w W1) := (B0.trans (B1.mono (by omega)))
  have Q0 : Hid (W1.heap[w.heap.size]? = some (.cells (S.v8 k) 30 (0, 0))) := ((B1.block _ (by omega)).trans r0)
  have Q1 : Hid (W1.heap[w.heap.size + 1]? = some (.cells (encG x).toArray 34 (0, 0))) := r1
  clear hW0 B0 s0 r0 hW1 B1 s1 r1
  refine wp_region_noPanic ?_
  refine wp_region_held_drew (S := (fun W => Chg (fun _ => False) W1 W)) follows ((Chg.refl _ _).drew) (fun hHeld => ?_)
  clear hHeld
  have hHeld : Chg (fun _ => False) W1 W1.drew := (Chg.refl _ _).drew
  have CZ0 := hide hHeld
  have Q0' : Hid (W1.drew.heap[w.heap.size]? = some (.cells (S.v8 k) 30 (0, 0))) := Q0.out
  have Q1' : Hid (W1.drew.heap[(w.heap.size + 1)]? = some (.cells (encG x).toArray 34 (0, 0))) := Q1.out
  generalize W1.drew = Z0 at CZ0 hHeld Q0' Q1' ⊢
  refine wpAnyH_take (i := 0) (oi := { dst := some 7, op := Op.move (Operand.tmp 0), type := 42, pos := "ref.go:30", after := #[], guard := none }) (v := ?_) rfl (by kernel_rfl) (by kernel_rfl) (by kernel_rfl) (fun _ _ _ h => h) (Or.inl ⟨by rfl, ?_⟩) (by assumption) ?_
  rotate_left
  · intro w hSw
    clear hSw
    go_simp
    all_goals with_reducible rfl
  simp only [Act.put, List.setIfInBounds_toArray, List.set_cons_zero, List.set_cons_succ]
  refine wpAnyH_take (i := 1) (oi := { dst := some 8, op := Op.slice 30 (Operand.tmp 4) none none none, type := 41, pos := "ref.go:30", after := #[], guard := none }) (v := ?_) rfl (by kernel_rfl) (by kernel_rfl) (by kernel_rfl) (fun _ _ _ h => h) (Or.inl ⟨by rfl, ?_⟩) (by assumption) ?_
  rotate_left
  · intro w hSw
    clear hSw
    go_simp
    all_goals with_reducible rfl
  simp only [Act.put, List.setIfInBounds_toArray, List.set_cons_zero, List.set_cons_succ]
  refine wpAnyH_take (i := 2) (oi := { dst := some 9, op := Op.fieldAddr 34 (Operand.tmp 5) 0, type := 0, pos := "ref.go:30", after := #[], guard := none }) (v := ?_) rfl (by kernel_rfl) (by kernel_rfl) (by kernel_rfl) (fun _ _ _ h => h) (Or.inl ⟨by rfl, ?_⟩) (by assumption) ?_
  rotate_left
  · intro w hSw
    clear hSw
    go_simp
    all_goals with_reducible rfl
  simp only [Act.put, List.setIfInBounds_toArray, List.set_cons_zero, List.set_cons_succ]
  refine wpAnyH_take (i := 3) (oi := { dst := some 10, op := Op.load 32 (Operand.tmp 9), type := 32, pos := "ref.go:30", after := #[{ on := 2, ground := Ground.data }], guard := none }) (v := .agg (encH x.h).toArray) rfl (by kernel_rfl) (by kernel_rfl) (by kernel_rfl) (fun _ _ _ h => h) (yieldsIf_load_mid (by rfl) _ _ rfl (w.heap.size + 1) 0 rfl (encH x.h) _ (fun _ hSw => g_head (hSw.row Q1.out (fun e => e))) Tryd.underlying32 rfl (by rw [size_h _ HR.out, List.size_toArray])) (by assumption) ?_
  simp only [Act.put, List.setIfInBounds_toArray, List.set_cons_zero, List.set_cons_succ]
  refine wpAnyH_take (i := 6) (oi := { dst := some 13, op := Op.fieldAddr 34 (Operand.tmp 5) 1, type := 0, pos := "ref.go:30", after := #[], guard := none }) (v := ?_) rfl (by kernel_rfl) (by kernel_rfl) (by kernel_rfl) (fun _ _ _ h => h) (Or.inl ⟨by rfl, ?_⟩) (by assumption) ?_
  rotate_left
  · intro w hSw
    clear hSw
    go_simp
    all_goals with_reducible rfl
  simp only [Act.put, List.setIfInBounds_toArray, List.set_cons_zero, List.set_cons_succ]
  refine wpAnyH_take (i := 7) (oi := { dst := some 14, op := Op.load 30 (Operand.tmp 13), type := 30, pos := "ref.go:30", after := #[{ on := 6, ground := Ground.data }], guard := none }) (v := .agg (S.v8l x.tag).toArray) rfl (by kernel_rfl) (by kernel_rfl) (by kernel_rfl) (fun _ _ _ h => h) (yieldsIf_load_mid (by rfl) _ _ rfl (w.heap.size + 1) 36 rfl (S.v8l x.tag) _ (fun _ hSw => g_tag (hSw.row Q1.out (fun e => e)) HR.out) Tryd.underlying30 rfl (by rw [size_dig _ HTL.out, S.v8_size, S.v8l_length])) (by assumption) ?_
  simp only [Act.put, List.setIfInBounds_toArray, List.set_cons_zero, List.set_cons_succ]
  refine wpAnyH_ready (rs := [4]) (by kernel_rfl) (by simp) ?_
  refine AllReadyH.cons (o := { dst := some 11, op := Op.call { callee := Callee.value (Operand.func 20), args := #[Operand.tmp 10], argTypes := #[32] }, type := 41, pos := "ref.go:30", after := #[{ on := 3, ground := Ground.data }], guard := none }) rfl (fun K hK => ?_) AllReadyH.nil
  go_simp
  refine (rbytes_any x.h Z0 HOK.out).mono ?_
  rintro e Z1 ⟨bo, bc, rfl, hsb, hb2⟩
  have SB := hide hsb
  clear hsb
  replace Q0' : Hid (Z1.heap[w.heap.size]? = some (.cells (S.v8 k) 30 (0, 0))) := (hb2.block _ (block_lt_of_row Q0'.out)).trans Q0'.out
  replace Q1' : Hid (Z1.heap[(w.heap.size + 1)]? = some (.cells (encG x).toArray 34 (0, 0))) := (hb2.block _ (block_lt_of_row Q1'.out)).trans Q1'.out
  have CZ1 : Hid (Chg (fun _ => False) W1 Z1) := CZ0.out.then hb2
  clear hb2 CZ0
  clear hHeld
  refine hK.out _ _ CZ1.out (fun hHeld => ?_)
  clear hK K
  try simp only [Act.put, List.setIfInBounds_toArray, List.set_cons_zero, List.set_cons_succ]
  refine wpAnyH_ready (rs := [5]) (by kernel_rfl) (by simp) ?_
  refine AllReadyH.cons (o := { dst := some 12, op := Op.call { callee := Callee.value (Operand.func 39), args := #[Operand.tmp 7, Operand.tmp 8, Operand.tmp 11], argTypes := #[42, 41, 41] }, type := 30, pos := "ref.go:30", after := #[{ on := 0, ground := Ground.data }, { on := 1, ground := Ground.data }, { on := 4, ground := Ground.data }, { on := 4, ground := Ground.chain }], guard := none }) rfl (fun K hK => ?_) AllReadyH.nil
  go_simp
  refine (rmac_any gT _ k _ (S.hb x.h) Z1 (((BB.out.trans (CZ1.out.below w.heap.size BB.out.size (fun k hk e => by omega))).block gT LT.out).trans HT.out) (dig_all Q0'.out HKL.out) SB.out (by rw [HKL.out]; omega) (by rw [S.hb_length _ HR.out]; omega)).mono ?_
  rintro e Z2 ⟨rfl, hb2⟩
  obtain ⟨D, hD⟩ : ∃ DD, DD = S.mac k (S.hb x.h) := ⟨_, rfl⟩
  rw [← hD]
  have LD := hide (show D.length = 32 by rw [hD]; exact S.mac_length _ _)
  have ED := hide hD
  clear hD
  have EQ := fun W => equal_digests D x.tag LD.out HTL.out W
  rw [S.v8_eq x.tag] at EQ
  obtain ⟨b, hb⟩ : ∃ b, b = (D == x.tag) := ⟨_, rfl⟩
  rw [← hb] at EQ
  have EB := hide hb
  clear hb
  replace Q0' : Hid (Z2.heap[w.heap.size]? = some (.cells (S.v8 k) 30 (0, 0))) := (hb2.block _ (block_lt_of_row Q0'.out)).trans Q0'.out
  replace Q1' : Hid (Z2.heap[(w.heap.size + 1)]? = some (.cells (encG x).toArray 34 (0, 0))) := (hb2.block _ (block_lt_of_row Q1'.out)).trans Q1'.out
  replace SB : Hid (SliceAt Z2 (.slice bo 57 bc) (S.hb x.h)) := SB.out.below hb2 (Nat.le_refl _)
  have CZ2 : Hid (Chg (fun _ => False) W1 Z2) := CZ1.out.then hb2
  clear hb2 CZ1
  clear hHeld
  refine hK.out _ _ CZ2.out (fun hHeld => ?_)
  clear hK K
  try simp only [Act.put, List.setIfInBounds_toArray, List.set_cons_zero, List.set_cons_succ]
  refine wpAnyH_take (i := 8) (oi := { dst := some 15, op := Op.binOp BinOp.eql 30 (Operand.tmp 12) (Operand.tmp 14) 30, type := 4, pos := "ref.go:30", after := #[{ on := 5, ground := Ground.data }, { on := 7, ground := Ground.data }], guard := none }) (v := ?_) rfl (by kernel_rfl) (by kernel_rfl) (by kernel_rfl) (fun _ _ _ h => h) (Or.inl ⟨by rfl, ?_⟩) (by assumption) ?_
  rotate_left
  · intro w hSw
    clear hSw
    go_simp
    all_goals with_reducible rfl
  simp only [Act.put, List.setIfInBounds_toArray, List.set_cons_zero, List.set_cons_succ]
  refine wpAnyH_take (i := 9) (oi := { dst := some 6, op := Op.assign (Operand.tmp 15), type := 4, pos := "ref.go:30", after := #[{ on := 8, ground := Ground.data }, { on := 5, ground := Ground.chain }, { on := 0, ground := Ground.phase }, { on := 1, ground := Ground.phase }, { on := 2, ground := Ground.phase }, { on := 3, ground := Ground.phase }, { on := 4, ground := Ground.phase }, { on := 5, ground := Ground.phase }, { on := 6, ground := Ground.phase }, { on := 7, ground := Ground.phase }, { on := 8, ground := Ground.phase }], guard := none }) (v := ?_) rfl (by kernel_rfl) (by kernel_rfl) (by kernel_rfl) (fun _ _ _ h => h) (Or.inl ⟨by rfl, ?_⟩) (by assumption) ?_
  rotate_left
  · intro w hSw
    clear hSw
    go_simp
    all_goals with_reducible rfl
  simp only [Act.put, List.setIfInBounds_toArray, List.set_cons_zero, List.set_cons_succ]
  refine wpAnyH_done (by kernel_rfl) ?_ _
  refine NoPanic.normal ?_
  have BF := hide (BB.out.trans (CZ2.out.below w.heap.size BB.out.size (fun k hk e => by omega)))
  clear hHeld EQ
  generalize Z2 = Y at BF ⊢
  go_wp2_with fail
  go_ret
  exact ⟨by rw [← ED.out, ← EB.out]; rfl, BF.out⟩
end Go.Proofs.YtllcnppcncegpaaDoor
