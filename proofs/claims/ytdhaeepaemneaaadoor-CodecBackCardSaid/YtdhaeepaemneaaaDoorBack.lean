/- The walk of CodecBack: for every number, size, text, digest and byte the call returns true and nothing that was there changes. -/
import Derived.Test.YtdhaeepaemneaaaDoorPure
import Derived.Test.YtdhaeepaemneaaaDoorWithin
import Derived.Stop.BytesEq
import Derived.Deep.DeepCutAuto
namespace Go.Proofs.YtdhaeepaemneaaaDoor
open Go.RowKit
theorem wdigest_is {bs bs' d : List UInt8} (g : Nat) (v : Value) (w : World) (h : bs ++ d = bs') (hd : d.length = 32) (hw : WrIs w g v bs) (hb : bs.length + 32 ≤ 140737488355328) :
   Calls Tryd.prog 23 #[.pointer (some ⟨g, 0, none⟩), .agg (S.v8 d)] w fun e w' => e = .returned (.tuple #[]) ∧ ∃ v', WrIs w' g v' bs' ∧ WrTo g v w v' w' := by
  rw [← h]
  exact wdigest_any g v bs d w hd hw hb
theorem load_dig_when {ops : Array Oper} {rest : List Oper} {o : Oper} {a : Act} {w : World} {Q : Exit → Act → World → Prop} (hw : Region.wanted o (yielded ops a.tmps) = true) (x : Operand) (ho : o.op = .load 40 x)
    (g : Nat) (hx : a.eval x = .pointer (some ⟨g, 0, none⟩)) (t : TypeId) (cs : Array Value) (fr : Nat × Nat) (hg : w.heap[g]? = some (.cells cs t fr)) (hi : (Tryd.prog.info? 40).map (·.size) = some cs.size)
    (h : wpList Tryd.prog ops Q rest (a.put o.dst (.agg cs)) w) : wpList Tryd.prog ops Q (o :: rest) a w :=
  wpList_step fun _ hK => by rw [if_pos hw]; exact wp_load_row 40 x ho g hx t cs fr _ hg Tryd.underlying40 rfl hi (hK _ _ h)
theorem URow.cap {w : World} {ao : Option Addr} {n c : Nat} {bs : List UInt8} (h : URow w (.slice ao n c) bs) : n ≤ c := by
  rcases h.2 with ⟨h1, _⟩ | ⟨g, cap, cur, h1, _, _, h2, _⟩
  · simp only [Value.slice.injEq] at h1; omega
  · simp only [Value.slice.injEq] at h1; omega
theorem rdigest_is {r r' : S.Rd} {d : List UInt8} (g t : Nat) (w : World) (h : r.digest = (r', d)) (hr : RdIs w g t r) :
   Calls Tryd.prog 28 #[.pointer (some ⟨g, 0, none⟩)] w fun e w' => e = .returned (.agg (S.v8 d)) ∧ RdIs w' g t r' ∧ Chg (fun k => k = g) w w' := by
  have := rdigest_any g t r w hr
  rw [h] at this
  exact this
theorem fin_short (A B : List UInt8) (p : Nat) : (S.Rd.mk (A ++ B) p ((A ++ B).length : Nat) 10).fin = ((((A ++ B).length : Nat) : Int), 10) := by rfl
theorem fin_whole (A d : List UInt8) (hd : d.length = 32) : (S.Rd.mk (A ++ d) (A.length + 32) 0 0).fin = (0, 0) := by
  unfold S.Rd.fin
  rw [if_pos rfl, if_neg (by simp only [List.length_append]; omega)]
theorem fin_more (A d : List UInt8) (x : UInt8) (hd : d.length = 32) : (S.Rd.mk (A ++ (d ++ [x])) (A.length + 32) 0 0).fin = (((A.length + 32 : Nat) : Int), 11) := by
  unfold S.Rd.fin
  rw [if_pos rfl, if_pos (by simp only [List.length_append, List.length_singleton]; omega)]
theorem pow_small (a : Nat) (h : a ≤ 7) : 256 ^ (a + 1) ≤ 18446744073709551616 := by
  have h1 : 256 ^ (a + 1) ≤ 256 ^ 8 := Nat.pow_le_pow_right (by decide) (by omega)
  rw [show (256 : Nat) ^ 8 = 18446744073709551616 from by decide] at h1
  exact h1
theorem urow_empty (w : World) : URow (w.alloc (.cells #[] 5)) (.slice (some ⟨w.heap.size, 0, none⟩) 0 0) [] := World.ownsRow_lit w #[] 0 (Nat.zero_le _) (Nat.zero_le _) rfl
/-- What is read of a number and a text, whatever stands behind them. -/
theorem back_number (n a : Nat) (xs T : List UInt8) (ha : a ≤ 7) : (S.Rd.mk ((S.num n (a + 1) ++ (S.num xs.length 2 ++ xs)) ++ T) 0 0 0).number ((a : Int) + 1) = (⟨(S.num n (a + 1) ++ (S.num xs.length 2 ++ xs)) ++ T, a + 1, 0, 0⟩, n % 256 ^ (a + 1)) := by
  have h := S.Rd.number_app [] (S.num n (a + 1)) ((S.num xs.length 2 ++ xs) ++ T) 0 ((a : Int) + 1) (by rw [S.num_length, S.size_nat a ha])
  rw [List.nil_append, List.length_nil, Nat.zero_add, S.num_length, S.val_num] at h
  rw [List.append_assoc]
  exact h
theorem back_bytes (n a : Nat) (xs T : List UInt8) (hx : xs.length < 65536) : (S.Rd.mk ((S.num n (a + 1) ++ (S.num xs.length 2 ++ xs)) ++ T) (a + 1) 0 0).bytes (xs.length : Int) = (⟨(S.num n (a + 1) ++ (S.num xs.length 2 ++ xs)) ++ T, (S.num n (a + 1) ++ (S.num xs.length 2 ++ xs)).length, 0, 0⟩, xs) := by
  have h := S.Rd.bytes_app (S.num n (a + 1)) xs T 0 (xs.length : Int) hx (Int.le_refl _)
  rw [S.num_length] at h
  have e : (S.num n (a + 1) ++ (S.num xs.length 2 ++ xs)) ++ T = S.num n (a + 1) ++ (S.num xs.length 2 ++ (xs ++ T)) := by rw [List.append_assoc, List.append_assoc]
  have e2 : (S.num n (a + 1) ++ (S.num xs.length 2 ++ xs)).length = a + 1 + 2 + xs.length := by rw [List.length_append, List.length_append, S.num_length, S.num_length]; omega
  rw [e, e2]
  exact h
/-- The number, cut to its bytes. -/
theorem cut_num (m a : Nat) (h : a + 1 < 8) : ∃ P : Nat, IntKind.u64.wrap ((2 : Int) ^ (8 * (a + 1))) = (P : Int) ∧ 0 < P ∧ (m : Int) % (P : Int) = ((m % 256 ^ (a + 1) : Nat) : Int) := by
  have hp : 256 ^ (a + 1) ≤ 256 ^ 7 := Nat.pow_le_pow_right (by decide) (by omega)
  have h7 : (256 : Nat) ^ 7 = 72057594037927936 := by decide
  have h0 : 0 < 256 ^ (a + 1) := Nat.pow_pos (by decide)
  rw [h7] at hp
  rw [show (2 : Int) ^ (8 * (a + 1)) = ((256 ^ (a + 1) : Nat) : Int) from by rw [Int.pow_mul]; norm_cast]
  generalize 256 ^ (a + 1) = q at hp h0
  exact ⟨q, by rw [IntKind.wrap_u64]; omega, h0, by omega⟩
set_option maxHeartbeats 8000000 in
set_option maxRecDepth 100000 in
theorem codecBack_walk (n : Nat) (k : Int) (v0 : Value) (bs0 d : List UInt8) (x : UInt8) (w : World) (hn : n < 18446744073709551616) (hk1 : -9223372036854775808 ≤ k) (hk2 : k ≤ 9223372036854775807) (hv : SliceAt w v0 bs0) (hd : d.length = 32) (hP : PowAt w) :
   Calls Tryd.prog 6 #[.int .u64 (n : Int), .int .i64 k, v0, .agg (S.v8 d), .int .u8 (x.toNat : Int)] w fun e w' => e = .returned (.bool true) ∧ Below w.heap.size w w' := by
  obtain ⟨a0, l0, c0, rfl, hl0, hm0⟩ := hv.form
  have p0 := hv.le_cap
  have HV := hide hv
  have HP := hide hP
  have HL0 := hide hl0
  have HD := hide hd
  clear hv hP hl0 hd
  go_enter Tryd.func6, Tryd.ntmps6
  go_upto_if 22 with fail
  generalize hW0 : w.alloc _ = w0
  have rd0 : w0.heap[w.heap.size]? = some (.cells (S.v8 d) 40 (0, 0)) := by rw [← hW0]; exact heap_alloc_new _ _
  have hb0 : Below w.heap.size w w0 := by rw [← hW0]; exact (Below.refl _ _).alloc (Nat.le_refl _) _
  have D0 := hide rd0
  have B0 := hide hb0
  clear hW0 rd0 hb0
  obtain ⟨gd, hgd⟩ : ∃ gd, gd = w.heap.size := ⟨_, rfl⟩
  rw [← hgd] at D0 ⊢
  have HGD := hide hgd
  clear hgd
  go_cut [2] (fun y wc => w0 = wc ∧ ∃ (a : Option Addr) (l c : Nat) (bs : List UInt8), y = .slice a l c ∧ l = bs.length ∧ l ≤ 60000 ∧ SliceAt w (.slice a l c) bs)
  case first =>
    by_cases h : 60000 < l0
    · have q1 : (60000 : Int) < (l0 : Int) := by omega
      have q2 : (60000 : Int) ≤ (c0 : Int) := by omega
      have Z := hide (part_to HV.out 60000 (by omega))
      have ZL : Hid (60000 = (bs0.take 60000).length) := by show 60000 = (bs0.take 60000).length; rw [List.length_take, ← HL0.out]; omega
      go_wp2_with fail
      go_meet
      exact ⟨rfl, a0, 60000, c0, bs0.take 60000, rfl, ZL.out, Nat.le_refl _, Z.out⟩
    · have q1 : ¬ ((60000 : Int) < (l0 : Int)) := by omega
      go_wp2_with fail
      go_meet
      exact ⟨rfl, a0, l0, c0, bs0, rfl, HL0.out, by omega, HV.out⟩
  case rest =>
  obtain ⟨rfl, a1, l1, c1, xs, rfl, hxl, hx6, hvx⟩ := hcut
  have SV := hide hvx
  have LX := hide hxl
  clear hvx hxl HV HL0 hm0 p0
  clear a0 l0 c0 bs0
  go_wp2_with fail
  refine (within_any k 7 w0 hk1 hk2 (by decide) (by decide)).mono ?_
  rintro e w1 ⟨rfl, rfl⟩
  obtain ⟨a, ha⟩ : ∃ a, a = S.within k 7 := ⟨_, rfl⟩
  have ha7 : a ≤ 7 := by have := S.within_le k 7 (by decide); rw [← ha] at this; omega
  rw [← ha]
  clear ha hk1 hk2
  have qa : IntKind.i64.wrap ((a : Int) + 1) = (a : Int) + 1 := by rw [IntKind.wrap_i64]; omega
  go_wp2_with fail
  refine (newWriter_any w0).mono ?_
  rintro e w1 ⟨rfl, hw1, hb1⟩
  have D1 := hide ((hb1.block gd (block_lt_of_row D0.out)).trans D0.out)
  have W1 := hide hw1
  have B1 := hide (B0.out.trans (hb1.mono B0.out.size))
  have gl1 : gd < w0.heap.size := block_lt_of_row D0.out
  clear hw1 hb1 D0 B0
  obtain ⟨gw, hgw⟩ : ∃ gw, gw = w0.heap.size := ⟨_, rfl⟩
  rw [← hgw] at W1 gl1 ⊢
  clear hgw
  have hwg : w.heap.size ≤ gw := by have := HGD.out; omega
  go_wp2_with fail
  refine (wnumber_is n gw _ w1 rfl rfl W1.out (by decide)).mono ?_
  rintro e w2 ⟨rfl, v2, hw2, ht2⟩
  rw [S.size_nat a ha7, List.nil_append] at hw2
  have hx := ht2.base B1.out.size hwg (nil_base _)
  have W2 := hide hw2
  have D2 := hide (ht2.chg.row D1.out (fun h => by rcases h with h | h; omega; cases h))
  have B2 := hide (B1.out.trans hx.1)
  have O2 : Hid (∀ k, v2.ownBlock = some k → gd < k ∧ w.heap.size ≤ k) := fun k hk => ⟨by rcases ht2.own k hk with h | h; cases h; have := block_lt_of_row D1.out; omega, hx.2 k hk⟩
  have n2 : (S.num n (a + 1)).length = a + 1 := S.num_length _ _
  have N2 := hide n2
  clear hw2 ht2 W1 D1 B1 hx n2
  go_wp2_with fail
  refine (wbytes_is gw v2 _ w2 rfl W2.out (stays_old SV.out B2.out (fun k hk h => by rcases h with h | h; omega; have := (O2.out k h).2; omega)) (by have := N2.out; omega)).mono ?_
  rintro e w3 ⟨rfl, v3, hw3, ht3⟩
  rw [S.text_short xs (by have := LX.out; omega)] at hw3
  have hx := ht3.base B2.out.size hwg (fun k hk => (O2.out k hk).2)
  have W3 := hide hw3
  have D3 := hide (ht3.chg.row D2.out (fun h => by rcases h with h | h; omega; have := (O2.out gd h).1; omega))
  have B3 := hide (B2.out.trans hx.1)
  have O3 : Hid (∀ k, v3.ownBlock = some k → gd < k ∧ w.heap.size ≤ k) := fun k hk => ⟨by rcases ht3.own k hk with h | h; exact (O2.out k h).1; have := block_lt_of_row D2.out; omega, hx.2 k hk⟩
  clear hw3 ht3 W2 D2 B2 O2 hx
  obtain ⟨M, hM⟩ : ∃ M, M = S.num n (a + 1) ++ (S.num xs.length 2 ++ xs) := ⟨_, rfl⟩
  have hMl : M.length = a + 1 + 2 + l1 := by rw [hM, List.length_append, List.length_append, N2.out, S.num_length, ← LX.out]; omega
  rw [← hM] at W3
  have HM := hide hM
  have HML := hide hMl
  clear hM hMl
  go_wp2_with (first | refine wpList_load_row rfl 40 _ rfl gd rfl 40 _ _ _ D3.out Tryd.underlying40 rfl (size_dig _ HD.out) ?_ | fail)
  refine (wdigest_is gw v3 w3 rfl HD.out W3.out (by have := HML.out; omega)).mono ?_
  rintro e w4 ⟨rfl, v4, hw4, ht4⟩
  have hx := ht4.base B3.out.size hwg (fun k hk => (O3.out k hk).2)
  have W4 := hide hw4
  have D4 := hide (ht4.chg.row D3.out (fun h => by rcases h with h | h; omega; have := (O3.out gd h).1; omega))
  have B4 := hide (B3.out.trans hx.1)
  clear hw4 ht4 W3 D3 B3 O3 hx
  have XL : Hid ((M ++ d).length = a + 1 + 2 + l1 + 32) := by show (M ++ d).length = _; rw [List.length_append, HML.out, HD.out]
  go_wp2_with fail
  refine (done_any gw v4 _ w4 W4.out (by rw [XL.out]; omega)).mono ?_
  rintro e w5 ⟨rfl, hr5, hb5⟩
  rw [XL.out]
  have D5 := hide ((hb5.block gd (block_lt_of_row D4.out)).trans D4.out)
  have X5 := hide hr5
  have B5 := hide (B4.out.trans (hb5.mono B4.out.size))
  have glx : gd < w4.heap.size := block_lt_of_row D4.out
  clear hr5 hb5 W4 D4 B4
  obtain ⟨gx, hgx⟩ : ∃ gx, gx = w4.heap.size := ⟨_, rfl⟩
  rw [← hgx] at X5 glx ⊢
  clear hgx
  clear w1 w2 w3 w4 v2 v3 v4
  go_wp2_with fail
  obtain ⟨N, hN⟩ : ∃ N, N = a + 1 + 2 + l1 + 32 := ⟨_, rfl⟩
  rw [← hN] at XL ⊢
  have HNE := hide hN
  have hNl : N ≤ 70000 := by omega
  have hN0 : 32 < N := by omega
  have SXL : Hid (xs.length < 65536) := by show xs.length < 65536; have := LX.out; omega
  clear hN
  go_loopw [0, 13] (fun nv i wr => ∃ t m : Nat, t ≤ 3 ∧ i = .int .i64 (t : Int) ∧ nv = .int .u64 (m : Int) ∧ m % 256 ^ (a + 1) = n % 256 ^ (a + 1) ∧ m < 18446744073709551616 ∧ wr.heap[gd]? = some (.cells (S.v8 d) 40 (0, 0)) ∧ wr.heap[gx]? = some (.cells (S.v8 (M ++ d)) 5 (0, 0)) ∧ Below w.heap.size w wr) (fun _ i _ => 3 - (intOf i).toNat)
  case atStart => exact ⟨0, n, by omega, rfl, rfl, rfl, hn, D5.out, X5.out, B5.out⟩
  case round =>
    obtain ⟨t, m, ht, rfl, rfl, hm, hm64, hD, hX, hB⟩ := hrel
    have DD := hide hD
    have XX := hide hX
    have BB := hide hB
    have HMM := hide hm
    clear hD hX hB hm D5 X5 B5 hn
    have A0 : Hid (SliceAt (wr.alloc (.cells #[] 5)) (.slice (some ⟨gx, 0, none⟩) N N) (M ++ d)) := by
      have hh : (wr.alloc (.cells #[] 5)).heap[gx]? = some (.cells (S.v8 (M ++ d)) 5 (0, 0)) := (heap_alloc_old _ _ (block_lt_of_row XX.out)).trans XX.out
      have := (stays_row (p := fun _ => False) hh (fun e => e) (by rw [XL.out]; omega)).now
      rw [XL.out] at this
      exact this
    rcases (by omega : t = 0 ∨ t = 1 ∨ t = 2 ∨ t = 3) with rfl | rfl | rfl | rfl
    · have NX : Hid (Below wr.heap.size wr (wr.alloc (.cells #[] 5))) := (Below.refl _ _).alloc (Nat.le_refl _) _
      go_wp2_with (at_builtin; first | (refine wpList_append_known rfl (.tmp 56) (.tmp 57) 24 24 rfl _ _ rfl rfl (run_append_row _ _ _ [] (M ++ d) 24 (urow_empty wr) A0.out (by rw [XL.out]; show 0 + N ≤ 140737488355328; omega)) ?_; rintro v1 W1 ⟨hu1, hg1, ho1⟩; obtain ⟨ao1, cc1, hv1⟩ := hu1.shape; rw [List.nil_append, XL.out] at hv1; subst hv1) | (refine wpList_append_known rfl (.tmp 58) (.tmp 60) 24 24 rfl _ _ rfl rfl (run_append_row _ _ _ ([] ++ (M ++ d)) [x] 24 (hu1.kept fun k hk => heap_alloc_old _ _ (hu1.lt hk)) (one_new W1 x) (by rw [List.nil_append, XL.out]; show N + 1 ≤ 140737488355328; omega)) ?_; rintro v2 W2 ⟨hu2, hg2, ho2⟩; obtain ⟨ao2, cc2, hv2⟩ := hu2.shape; rw [List.nil_append, List.length_append, XL.out, List.length_singleton] at hv2; subst hv2; have hcc : (N : Int) + 1 ≤ (cc2 : Int) := by have := hu2.cap; omega))
      have hs1 := hg1.size
      have hs2 := hg2.size
      have hz : W1.heap.size ≤ (W1.alloc (.cells #[.int .u8 (x.toNat : Int)] 5)).heap.size := by simp
      have hz0 := NX.out.size
      have bw1 := NX.out.grown hg1 hz0 (fun k hk => by have hk2 : some wr.heap.size = some k := hk; have := Option.some.inj hk2; omega)
      have bw2 := bw1.alloc (Nat.le_trans hz0 hs1) (.cells #[.int .u8 (x.toNat : Int)] 5)
      have bw := bw2.grown hg2 (by omega) (fun k hk => by
        rcases ho1 k hk with h' | h'
        · have hk2 : some wr.heap.size = some k := h'
          have := Option.some.inj hk2
          omega
        · omega)
      clear bw1 bw2 hz hz0
      obtain ⟨T, hT⟩ : ∃ T, T = (d.take 31) := ⟨_, rfl⟩
      have HT := hide hT
      have SY : Hid (SliceAt W2 (.slice ao2 (N - 1) cc2) (M ++ T)) := by
        have e : ([] ++ (M ++ d) ++ [x]).take (N - 1) = M ++ T := by rw [hT, List.nil_append, List.append_assoc, List.take_append, List.take_of_length_le (by have := HML.out; have := HNE.out; omega), show N - 1 - M.length = 31 from (by have := HML.out; have := HNE.out; omega), List.take_append_of_le_length (by rw [HD.out]; omega)]
        rw [← e]; exact part_to (hu2.sliceAt (by rw [List.nil_append, List.length_append, XL.out]; show N + 1 ≤ _; omega)) (N - 1) (by omega)
      have hTl : T.length = 31 := by rw [hT, List.length_take, HD.out]; rfl
      have YL : Hid ((M ++ T).length = N - 1) := by show (M ++ T).length = _; rw [List.length_append, hTl]; have := HML.out; have := HNE.out; omega
      have DD2 := hide ((bw.block gd (block_lt_of_row DD.out)).trans DD.out)
      have XX2 := hide ((bw.block gx (block_lt_of_row XX.out)).trans XX.out)
      have BB2 := hide (BB.out.trans (bw.mono BB.out.size))
      obtain ⟨V, hV⟩ : ∃ V, V = n % 256 ^ (a + 1) := ⟨_, rfl⟩
      have NUM : Hid ((S.Rd.mk (M ++ T) 0 0 0).number ((a : Int) + 1) = (⟨M ++ T, a + 1, 0, 0⟩, V)) := by rw [hV, HM.out]; exact back_number n a xs T ha7
      have BYT : Hid ((S.Rd.mk (M ++ T) (a + 1) 0 0).bytes (l1 : Int) = (⟨M ++ T, M.length, 0, 0⟩, xs)) := by rw [HM.out, LX.out]; exact back_bytes n a xs T SXL.out
      obtain ⟨E, r3, DIG, FIN⟩ : ∃ E r3, Hid ((S.Rd.mk (M ++ T) M.length 0 0).digest = (r3, E)) ∧ Hid (r3.fin = ((N : Int) - 1, 10)) := ⟨_, _, S.Rd.digest_end M T 0 (by omega), by show S.Rd.fin _ = _; rw [fin_short, YL.out]; congr 1; omega⟩
      have EL : Hid (E.length = 32) := by have h := S.Rd.digest_length (S.Rd.mk (M ++ T) M.length 0 0); rw [DIG.out] at h; exact h
      have VN : Hid (V % 256 ^ (a + 1) = n % 256 ^ (a + 1)) := by rw [hV]; exact Nat.mod_mod _ _
      have VL : Hid (V < 18446744073709551616) := by rw [hV]; exact Nat.lt_of_lt_of_le (Nat.mod_lt _ (Nat.pow_pos (by decide))) (pow_small a ha7)
      have MV : Hid (m % 256 ^ (a + 1) = V) := by rw [hV]; exact HMM.out
      clear hu1 hu2 hg1 hg2 ho1 ho2 hs1 hs2 bw hT hTl hV A0 NX DD XX BB HMM
      have YL2 : Hid ((M ++ T).length ≤ 140737488355328) := by show (M ++ T).length ≤ _; rw [YL.out]; omega
      generalize hYY : M ++ T = Y at *
      clear hYY YL HT T
      refine (newReader_any _ Y W2 SY.out YL2.out).mono ?_
      rintro e w3 ⟨g, tt, rfl, hg3, ht3, hr3, hb3⟩
      have R3 := hide hr3
      have DD3 := hide ((hb3.block gd (block_lt_of_row DD2.out)).trans DD2.out)
      have XX3 := hide ((hb3.block gx (block_lt_of_row XX2.out)).trans XX2.out)
      have BB3 := hide (BB2.out.trans (hb3.mono BB2.out.size))
      have lgd : gd < g := Nat.lt_of_lt_of_le (block_lt_of_row DD2.out) hg3
      have lgx : gx < g := Nat.lt_of_lt_of_le (block_lt_of_row XX2.out) hg3
      have lgw : w.heap.size ≤ g := Nat.le_trans BB2.out.size hg3
      clear hr3 hb3 DD2 XX2 BB2 SY hg3 ht3 YL2
      go_wp2_with fail
      refine (rnumber_is g tt w3 NUM.out R3.out).mono ?_
      rintro e w4 ⟨rfl, hr, hc⟩
      have R4 := hide hr
      have DD4 := hide (hc.row DD3.out (by omega))
      have XX4 := hide (hc.row XX3.out (by omega))
      have BB4 := hide (BB3.out.trans (hc.base BB3.out.size lgw))
      clear hr hc R3 DD3 XX3 BB3
      go_wp2_with fail
      refine (rbytes_is g tt w4 BYT.out R4.out).mono ?_
      rintro e w5 ⟨q, rfl, hq, hrow, hr, hc⟩
      have R5 := hide hr
      have DD5 := hide (hc.row DD4.out (by omega))
      have XX5 := hide (hc.row XX4.out (by omega))
      have BB5 := hide (BB4.out.trans (hc.base BB4.out.size lgw))
      have QQ5 := hide hrow
      have lq : q < w5.heap.size := block_lt_of_row hrow
      have lqg : g < q := by have := R4.out.lt; omega
      clear hrow hq
      clear hr hc R4 DD4 XX4 BB4
      go_wp2_with fail
      refine (rdigest_is g tt w5 DIG.out R5.out).mono ?_
      rintro e w6 ⟨rfl, hr, hc⟩
      have R6 := hide hr
      have DD6 := hide (hc.row DD5.out (by omega))
      have XX6 := hide (hc.row XX5.out (by omega))
      have QQ6 := hide (hc.row QQ5.out (by omega))
      have BB6 := hide (BB5.out.trans (hc.base BB5.out.size lgw))
      clear hr hc R5 DD5 XX5 QQ5 BB5
      go_wp2_with (first | refine wpList_store_row rfl 40 _ _ rfl w6.heap.size (S.v8 E) rfl rfl 40 (S.v8 (S.zeros 32)) (heap_alloc_new _ _) (size_dig _ EL.out) (zeros_dig _ EL.out) (S.v8_one _) ?_ | fail)
      generalize hW7 : World.setRow _ w6.heap.size (S.v8 E) = w7
      have rE : w7.heap[w6.heap.size]? = some (.cells (S.v8 E) 40 (0, 0)) := by rw [← hW7]; exact setRow_heap _ _ _ _ _ _ (heap_alloc_new _ _)
      have hb7 : Below w6.heap.size w6 w7 := by rw [← hW7]; exact below_setRow ((Below.refl _ _).alloc (Nat.le_refl _) _) (Nat.le_refl _) _
      have R7 := hide (R6.out.below hb7)
      have DD7 := hide ((hb7.block gd (block_lt_of_row DD6.out)).trans DD6.out)
      have XX7 := hide ((hb7.block gx (block_lt_of_row XX6.out)).trans XX6.out)
      have QQ7 := hide ((hb7.block q (block_lt_of_row QQ6.out)).trans QQ6.out)
      have BB7 := hide (BB6.out.trans (hb7.mono BB6.out.size))
      have EE7 := hide rE
      clear hW7 hb7 rE R6 DD6 XX6 QQ6 BB6
      generalize w6.heap.size = ge at *
      refine (rend_yes g tt w7 FIN.out (by decide) R7.out).mono ?_
      rintro e w8 ⟨qr, rfl, hf, hb⟩
      have FR := hide hf
      have DD8 := hide ((hb.block gd (block_lt_of_row DD7.out)).trans DD7.out)
      have XX8 := hide ((hb.block gx (block_lt_of_row XX7.out)).trans XX7.out)
      have QQ8 := hide ((hb.block q (block_lt_of_row QQ7.out)).trans QQ7.out)
      have EE8 := hide ((hb.block ge (block_lt_of_row EE7.out)).trans EE7.out)
      have BB8 := hide (BB7.out.trans (hb.mono BB7.out.size))
      clear hf hb R7 DD7 XX7 QQ7 EE7 BB7
      go_wp2_with fail
      refine (refused_yes qr ((N : Int) - 1) 10 w8 FR.out (HP.out.below BB8.out) (word_ok (by constructor <;> omega)) (word_ok (by decide)) (by decide)).mono ?_
      rintro e w9 ⟨rfl, hb⟩
      have DD9 := hide ((hb.block gd (block_lt_of_row DD8.out)).trans DD8.out)
      have XX9 := hide ((hb.block gx (block_lt_of_row XX8.out)).trans XX8.out)
      have QQ9 := hide ((hb.block q (block_lt_of_row QQ8.out)).trans QQ8.out)
      have EE9 := hide ((hb.block ge (block_lt_of_row EE8.out)).trans EE8.out)
      have BB9 := hide (BB8.out.trans (hb.mono BB8.out.size))
      clear hb FR DD8 XX8 QQ8 EE8 BB8
      obtain ⟨st, hst⟩ : ∃ st : ByteArray, st = ⟨xs.toArray⟩ := ⟨_, rfl⟩
      have CVc := conv_slice (stays_row (p := fun _ => False) QQ9.out (fun e => e) (by have := SXL.out; omega)).now
      have CVb := conv_slice (SV.out.below BB9.out (Nat.le_refl _))
      rw [← hst] at CVc CVb
      clear hst
      by_cases h8 : a + 1 < 8
      · have s1 : (a : Int) + 1 < 8 := by omega
        obtain ⟨P, s2, hP0, s4⟩ := cut_num m a h8
        rw [MV.out] at s4
        have s3 : ¬ ((P : Int) = 0) := by omega
        have s5 : ((P : Int) == 0) = false := by simp; omega
        go_wp2_with fail
        go_roundw
        case rel => exact ⟨1, V, by omega, by go_num, by first | rfl | rw [s4], VN.out, VL.out, DD9.out, XX9.out, BB9.out⟩
        case measure => simp [intOf]
      · have s1 : ¬ ((a : Int) + 1 < 8) := by omega
        have mv : m = V := by rw [← MV.out, show a + 1 = 8 from by omega, show (256 : Nat) ^ 8 = 18446744073709551616 from by decide]; exact (Nat.mod_eq_of_lt hm64).symm
        subst mv
        go_wp2_with fail
        go_roundw
        case rel => exact ⟨1, m, by omega, by go_num, rfl, VN.out, VL.out, DD9.out, XX9.out, BB9.out⟩
        case measure => simp [intOf]
    · have NX : Hid (Below wr.heap.size wr (wr.alloc (.cells #[] 5))) := (Below.refl _ _).alloc (Nat.le_refl _) _
      go_wp2_with (at_builtin; first | (refine wpList_append_known rfl (.tmp 56) (.tmp 57) 24 24 rfl _ _ rfl rfl (run_append_row _ _ _ [] (M ++ d) 24 (urow_empty wr) A0.out (by rw [XL.out]; show 0 + N ≤ 140737488355328; omega)) ?_; rintro v1 W1 ⟨hu1, hg1, ho1⟩; obtain ⟨ao1, cc1, hv1⟩ := hu1.shape; rw [List.nil_append, XL.out] at hv1; subst hv1) | (refine wpList_append_known rfl (.tmp 58) (.tmp 60) 24 24 rfl _ _ rfl rfl (run_append_row _ _ _ ([] ++ (M ++ d)) [x] 24 (hu1.kept fun k hk => heap_alloc_old _ _ (hu1.lt hk)) (one_new W1 x) (by rw [List.nil_append, XL.out]; show N + 1 ≤ 140737488355328; omega)) ?_; rintro v2 W2 ⟨hu2, hg2, ho2⟩; obtain ⟨ao2, cc2, hv2⟩ := hu2.shape; rw [List.nil_append, List.length_append, XL.out, List.length_singleton] at hv2; subst hv2; have hcc : (N : Int) + 1 ≤ (cc2 : Int) := by have := hu2.cap; omega))
      have hs1 := hg1.size
      have hs2 := hg2.size
      have hz : W1.heap.size ≤ (W1.alloc (.cells #[.int .u8 (x.toNat : Int)] 5)).heap.size := by simp
      have hz0 := NX.out.size
      have bw1 := NX.out.grown hg1 hz0 (fun k hk => by have hk2 : some wr.heap.size = some k := hk; have := Option.some.inj hk2; omega)
      have bw2 := bw1.alloc (Nat.le_trans hz0 hs1) (.cells #[.int .u8 (x.toNat : Int)] 5)
      have bw := bw2.grown hg2 (by omega) (fun k hk => by
        rcases ho1 k hk with h' | h'
        · have hk2 : some wr.heap.size = some k := h'
          have := Option.some.inj hk2
          omega
        · omega)
      clear bw1 bw2 hz hz0
      obtain ⟨T, hT⟩ : ∃ T, T = d := ⟨_, rfl⟩
      have HT := hide hT
      have SY : Hid (SliceAt W2 (.slice ao2 (N) cc2) (M ++ T)) := by
        have e : ([] ++ (M ++ d) ++ [x]).take N = M ++ T := by rw [hT, List.nil_append, ← XL.out, List.take_left]
        rw [← e]; exact part_to (hu2.sliceAt (by rw [List.nil_append, List.length_append, XL.out]; show N + 1 ≤ _; omega)) N (by omega)
      have hTl : T.length = 32 := by rw [hT, HD.out]
      have YL : Hid ((M ++ T).length = N) := by show (M ++ T).length = _; rw [List.length_append, hTl]; have := HML.out; have := HNE.out; omega
      have DD2 := hide ((bw.block gd (block_lt_of_row DD.out)).trans DD.out)
      have XX2 := hide ((bw.block gx (block_lt_of_row XX.out)).trans XX.out)
      have BB2 := hide (BB.out.trans (bw.mono BB.out.size))
      obtain ⟨V, hV⟩ : ∃ V, V = n % 256 ^ (a + 1) := ⟨_, rfl⟩
      have NUM : Hid ((S.Rd.mk (M ++ T) 0 0 0).number ((a : Int) + 1) = (⟨M ++ T, a + 1, 0, 0⟩, V)) := by rw [hV, HM.out]; exact back_number n a xs T ha7
      have BYT : Hid ((S.Rd.mk (M ++ T) (a + 1) 0 0).bytes (l1 : Int) = (⟨M ++ T, M.length, 0, 0⟩, xs)) := by rw [HM.out, LX.out]; exact back_bytes n a xs T SXL.out
      obtain ⟨r3, DIG, FIN⟩ : ∃ r3, Hid ((S.Rd.mk (M ++ T) M.length 0 0).digest = (r3, d)) ∧ Hid (r3.fin = (0, 0)) := ⟨⟨M ++ d, M.length + 32, 0, 0⟩, by have h := S.Rd.digest_app M d [] 0 HD.out; rw [List.append_nil] at h; rw [hT]; exact h, fin_whole M d HD.out⟩
      have EL := HD
      have VN : Hid (V % 256 ^ (a + 1) = n % 256 ^ (a + 1)) := by rw [hV]; exact Nat.mod_mod _ _
      have VL : Hid (V < 18446744073709551616) := by rw [hV]; exact Nat.lt_of_lt_of_le (Nat.mod_lt _ (Nat.pow_pos (by decide))) (pow_small a ha7)
      have MV : Hid (m % 256 ^ (a + 1) = V) := by rw [hV]; exact HMM.out
      clear hu1 hu2 hg1 hg2 ho1 ho2 hs1 hs2 bw hT hTl hV A0 NX DD XX BB HMM
      have YL2 : Hid ((M ++ T).length ≤ 140737488355328) := by show (M ++ T).length ≤ _; rw [YL.out]; omega
      generalize hYY : M ++ T = Y at *
      clear hYY YL HT T
      refine (newReader_any _ Y W2 SY.out YL2.out).mono ?_
      rintro e w3 ⟨g, tt, rfl, hg3, ht3, hr3, hb3⟩
      have R3 := hide hr3
      have DD3 := hide ((hb3.block gd (block_lt_of_row DD2.out)).trans DD2.out)
      have XX3 := hide ((hb3.block gx (block_lt_of_row XX2.out)).trans XX2.out)
      have BB3 := hide (BB2.out.trans (hb3.mono BB2.out.size))
      have lgd : gd < g := Nat.lt_of_lt_of_le (block_lt_of_row DD2.out) hg3
      have lgx : gx < g := Nat.lt_of_lt_of_le (block_lt_of_row XX2.out) hg3
      have lgw : w.heap.size ≤ g := Nat.le_trans BB2.out.size hg3
      clear hr3 hb3 DD2 XX2 BB2 SY hg3 ht3 YL2
      go_wp2_with fail
      refine (rnumber_is g tt w3 NUM.out R3.out).mono ?_
      rintro e w4 ⟨rfl, hr, hc⟩
      have R4 := hide hr
      have DD4 := hide (hc.row DD3.out (by omega))
      have XX4 := hide (hc.row XX3.out (by omega))
      have BB4 := hide (BB3.out.trans (hc.base BB3.out.size lgw))
      clear hr hc R3 DD3 XX3 BB3
      go_wp2_with fail
      refine (rbytes_is g tt w4 BYT.out R4.out).mono ?_
      rintro e w5 ⟨q, rfl, hq, hrow, hr, hc⟩
      have R5 := hide hr
      have DD5 := hide (hc.row DD4.out (by omega))
      have XX5 := hide (hc.row XX4.out (by omega))
      have BB5 := hide (BB4.out.trans (hc.base BB4.out.size lgw))
      have QQ5 := hide hrow
      have lq : q < w5.heap.size := block_lt_of_row hrow
      have lqg : g < q := by have := R4.out.lt; omega
      clear hrow hq
      clear hr hc R4 DD4 XX4 BB4
      go_wp2_with fail
      refine (rdigest_is g tt w5 DIG.out R5.out).mono ?_
      rintro e w6 ⟨rfl, hr, hc⟩
      have R6 := hide hr
      have DD6 := hide (hc.row DD5.out (by omega))
      have XX6 := hide (hc.row XX5.out (by omega))
      have QQ6 := hide (hc.row QQ5.out (by omega))
      have BB6 := hide (BB5.out.trans (hc.base BB5.out.size lgw))
      clear hr hc R5 DD5 XX5 QQ5 BB5
      go_wp2_with (first | refine wpList_store_row rfl 40 _ _ rfl w6.heap.size (S.v8 d) rfl rfl 40 (S.v8 (S.zeros 32)) (heap_alloc_new _ _) (size_dig _ EL.out) (zeros_dig _ EL.out) (S.v8_one _) ?_ | fail)
      generalize hW7 : World.setRow _ w6.heap.size (S.v8 d) = w7
      have rE : w7.heap[w6.heap.size]? = some (.cells (S.v8 d) 40 (0, 0)) := by rw [← hW7]; exact setRow_heap _ _ _ _ _ _ (heap_alloc_new _ _)
      have hb7 : Below w6.heap.size w6 w7 := by rw [← hW7]; exact below_setRow ((Below.refl _ _).alloc (Nat.le_refl _) _) (Nat.le_refl _) _
      have R7 := hide (R6.out.below hb7)
      have DD7 := hide ((hb7.block gd (block_lt_of_row DD6.out)).trans DD6.out)
      have XX7 := hide ((hb7.block gx (block_lt_of_row XX6.out)).trans XX6.out)
      have QQ7 := hide ((hb7.block q (block_lt_of_row QQ6.out)).trans QQ6.out)
      have BB7 := hide (BB6.out.trans (hb7.mono BB6.out.size))
      have EE7 := hide rE
      clear hW7 hb7 rE R6 DD6 XX6 QQ6 BB6
      generalize w6.heap.size = ge at *
      refine (rend_no g tt w7 FIN.out R7.out).mono ?_
      rintro e w8 ⟨rfl, hb⟩
      have DD8 := hide ((hb.block gd (block_lt_of_row DD7.out)).trans DD7.out)
      have XX8 := hide ((hb.block gx (block_lt_of_row XX7.out)).trans XX7.out)
      have QQ8 := hide ((hb.block q (block_lt_of_row QQ7.out)).trans QQ7.out)
      have EE8 := hide ((hb.block ge (block_lt_of_row EE7.out)).trans EE7.out)
      have BB8 := hide (BB7.out.trans (hb.mono BB7.out.size))
      clear hb R7 DD7 XX7 QQ7 EE7 BB7
      obtain ⟨st, hst⟩ : ∃ st : ByteArray, st = ⟨xs.toArray⟩ := ⟨_, rfl⟩
      have CVc := conv_slice (stays_row (p := fun _ => False) QQ8.out (fun e => e) (by have := SXL.out; omega)).now
      have CVb := conv_slice (SV.out.below BB8.out (Nat.le_refl _))
      rw [← hst] at CVc CVb
      clear hst
      have eqd : ∀ w, (Op.equalIn 10000 40 (.agg (S.v8 d)) (.agg (S.v8 d))).run Tryd.prog w = .ok true w := fun w => by rw [equal_digests _ _ HD.out HD.out w]; simp
      by_cases h8 : a + 1 < 8
      · have s1 : (a : Int) + 1 < 8 := by omega
        obtain ⟨P, s2, hP0, s4⟩ := cut_num m a h8
        rw [MV.out] at s4
        have s3 : ¬ ((P : Int) = 0) := by omega
        have s5 : ((P : Int) == 0) = false := by simp; omega
        go_wp2_with (first | refine load_dig_when rfl (.tmp 18) rfl ge rfl 40 _ _ EE8.out (size_dig _ EL.out) ?_ | refine load_dig_when rfl (.tmp 8) rfl gd rfl 40 _ _ DD8.out (size_dig _ HD.out) ?_ | fail)
        go_roundw
        case rel => exact ⟨2, V, by omega, by go_num, by first | rfl | rw [s4], VN.out, VL.out, DD8.out, XX8.out, BB8.out⟩
        case measure => simp [intOf]
      · have s1 : ¬ ((a : Int) + 1 < 8) := by omega
        have mv : m = V := by rw [← MV.out, show a + 1 = 8 from by omega, show (256 : Nat) ^ 8 = 18446744073709551616 from by decide]; exact (Nat.mod_eq_of_lt hm64).symm
        subst mv
        go_wp2_with (first | refine load_dig_when rfl (.tmp 18) rfl ge rfl 40 _ _ EE8.out (size_dig _ EL.out) ?_ | refine load_dig_when rfl (.tmp 8) rfl gd rfl 40 _ _ DD8.out (size_dig _ HD.out) ?_ | fail)
        go_roundw
        case rel => exact ⟨2, m, by omega, by go_num, rfl, VN.out, VL.out, DD8.out, XX8.out, BB8.out⟩
        case measure => simp [intOf]
    · have NX : Hid (Below wr.heap.size wr (wr.alloc (.cells #[] 5))) := (Below.refl _ _).alloc (Nat.le_refl _) _
      go_wp2_with (at_builtin; first | (refine wpList_append_known rfl (.tmp 56) (.tmp 57) 24 24 rfl _ _ rfl rfl (run_append_row _ _ _ [] (M ++ d) 24 (urow_empty wr) A0.out (by rw [XL.out]; show 0 + N ≤ 140737488355328; omega)) ?_; rintro v1 W1 ⟨hu1, hg1, ho1⟩; obtain ⟨ao1, cc1, hv1⟩ := hu1.shape; rw [List.nil_append, XL.out] at hv1; subst hv1) | (refine wpList_append_known rfl (.tmp 58) (.tmp 60) 24 24 rfl _ _ rfl rfl (run_append_row _ _ _ ([] ++ (M ++ d)) [x] 24 (hu1.kept fun k hk => heap_alloc_old _ _ (hu1.lt hk)) (one_new W1 x) (by rw [List.nil_append, XL.out]; show N + 1 ≤ 140737488355328; omega)) ?_; rintro v2 W2 ⟨hu2, hg2, ho2⟩; obtain ⟨ao2, cc2, hv2⟩ := hu2.shape; rw [List.nil_append, List.length_append, XL.out, List.length_singleton] at hv2; subst hv2; have hcc : (N : Int) + 1 ≤ (cc2 : Int) := by have := hu2.cap; omega))
      have hs1 := hg1.size
      have hs2 := hg2.size
      have hz : W1.heap.size ≤ (W1.alloc (.cells #[.int .u8 (x.toNat : Int)] 5)).heap.size := by simp
      have hz0 := NX.out.size
      have bw1 := NX.out.grown hg1 hz0 (fun k hk => by have hk2 : some wr.heap.size = some k := hk; have := Option.some.inj hk2; omega)
      have bw2 := bw1.alloc (Nat.le_trans hz0 hs1) (.cells #[.int .u8 (x.toNat : Int)] 5)
      have bw := bw2.grown hg2 (by omega) (fun k hk => by
        rcases ho1 k hk with h' | h'
        · have hk2 : some wr.heap.size = some k := h'
          have := Option.some.inj hk2
          omega
        · omega)
      clear bw1 bw2 hz hz0
      obtain ⟨T, hT⟩ : ∃ T, T = (d ++ [x]) := ⟨_, rfl⟩
      have HT := hide hT
      have SY : Hid (SliceAt W2 (.slice ao2 (N + 1) cc2) (M ++ T)) := by
        have e : [] ++ (M ++ d) ++ [x] = M ++ T := by rw [hT, List.nil_append, List.append_assoc]
        rw [← e]; exact hu2.sliceAt (by rw [List.nil_append, List.length_append, XL.out]; show N + 1 ≤ _; omega)
      have hTl : T.length = 33 := by rw [hT, List.length_append, HD.out]; rfl
      have YL : Hid ((M ++ T).length = N + 1) := by show (M ++ T).length = _; rw [List.length_append, hTl]; have := HML.out; have := HNE.out; omega
      have DD2 := hide ((bw.block gd (block_lt_of_row DD.out)).trans DD.out)
      have XX2 := hide ((bw.block gx (block_lt_of_row XX.out)).trans XX.out)
      have BB2 := hide (BB.out.trans (bw.mono BB.out.size))
      obtain ⟨V, hV⟩ : ∃ V, V = n % 256 ^ (a + 1) := ⟨_, rfl⟩
      have NUM : Hid ((S.Rd.mk (M ++ T) 0 0 0).number ((a : Int) + 1) = (⟨M ++ T, a + 1, 0, 0⟩, V)) := by rw [hV, HM.out]; exact back_number n a xs T ha7
      have BYT : Hid ((S.Rd.mk (M ++ T) (a + 1) 0 0).bytes (l1 : Int) = (⟨M ++ T, M.length, 0, 0⟩, xs)) := by rw [HM.out, LX.out]; exact back_bytes n a xs T SXL.out
      obtain ⟨r3, DIG, FIN⟩ : ∃ r3, Hid ((S.Rd.mk (M ++ T) M.length 0 0).digest = (r3, d)) ∧ Hid (r3.fin = ((N : Int), 11)) := ⟨⟨M ++ (d ++ [x]), M.length + 32, 0, 0⟩, by rw [hT]; exact S.Rd.digest_app M d [x] 0 HD.out, by show S.Rd.fin _ = _; rw [fin_more M d x HD.out]; congr 1; have := HML.out; have := HNE.out; omega⟩
      have EL := HD
      have VN : Hid (V % 256 ^ (a + 1) = n % 256 ^ (a + 1)) := by rw [hV]; exact Nat.mod_mod _ _
      have VL : Hid (V < 18446744073709551616) := by rw [hV]; exact Nat.lt_of_lt_of_le (Nat.mod_lt _ (Nat.pow_pos (by decide))) (pow_small a ha7)
      have MV : Hid (m % 256 ^ (a + 1) = V) := by rw [hV]; exact HMM.out
      clear hu1 hu2 hg1 hg2 ho1 ho2 hs1 hs2 bw hT hTl hV A0 NX DD XX BB HMM
      have YL2 : Hid ((M ++ T).length ≤ 140737488355328) := by show (M ++ T).length ≤ _; rw [YL.out]; omega
      generalize hYY : M ++ T = Y at *
      clear hYY YL HT T
      refine (newReader_any _ Y W2 SY.out YL2.out).mono ?_
      rintro e w3 ⟨g, tt, rfl, hg3, ht3, hr3, hb3⟩
      have R3 := hide hr3
      have DD3 := hide ((hb3.block gd (block_lt_of_row DD2.out)).trans DD2.out)
      have XX3 := hide ((hb3.block gx (block_lt_of_row XX2.out)).trans XX2.out)
      have BB3 := hide (BB2.out.trans (hb3.mono BB2.out.size))
      have lgd : gd < g := Nat.lt_of_lt_of_le (block_lt_of_row DD2.out) hg3
      have lgx : gx < g := Nat.lt_of_lt_of_le (block_lt_of_row XX2.out) hg3
      have lgw : w.heap.size ≤ g := Nat.le_trans BB2.out.size hg3
      clear hr3 hb3 DD2 XX2 BB2 SY hg3 ht3 YL2
      go_wp2_with fail
      refine (rnumber_is g tt w3 NUM.out R3.out).mono ?_
      rintro e w4 ⟨rfl, hr, hc⟩
      have R4 := hide hr
      have DD4 := hide (hc.row DD3.out (by omega))
      have XX4 := hide (hc.row XX3.out (by omega))
      have BB4 := hide (BB3.out.trans (hc.base BB3.out.size lgw))
      clear hr hc R3 DD3 XX3 BB3
      go_wp2_with fail
      refine (rbytes_is g tt w4 BYT.out R4.out).mono ?_
      rintro e w5 ⟨q, rfl, hq, hrow, hr, hc⟩
      have R5 := hide hr
      have DD5 := hide (hc.row DD4.out (by omega))
      have XX5 := hide (hc.row XX4.out (by omega))
      have BB5 := hide (BB4.out.trans (hc.base BB4.out.size lgw))
      have QQ5 := hide hrow
      have lq : q < w5.heap.size := block_lt_of_row hrow
      have lqg : g < q := by have := R4.out.lt; omega
      clear hrow hq
      clear hr hc R4 DD4 XX4 BB4
      go_wp2_with fail
      refine (rdigest_is g tt w5 DIG.out R5.out).mono ?_
      rintro e w6 ⟨rfl, hr, hc⟩
      have R6 := hide hr
      have DD6 := hide (hc.row DD5.out (by omega))
      have XX6 := hide (hc.row XX5.out (by omega))
      have QQ6 := hide (hc.row QQ5.out (by omega))
      have BB6 := hide (BB5.out.trans (hc.base BB5.out.size lgw))
      clear hr hc R5 DD5 XX5 QQ5 BB5
      go_wp2_with (first | refine wpList_store_row rfl 40 _ _ rfl w6.heap.size (S.v8 d) rfl rfl 40 (S.v8 (S.zeros 32)) (heap_alloc_new _ _) (size_dig _ EL.out) (zeros_dig _ EL.out) (S.v8_one _) ?_ | fail)
      generalize hW7 : World.setRow _ w6.heap.size (S.v8 d) = w7
      have rE : w7.heap[w6.heap.size]? = some (.cells (S.v8 d) 40 (0, 0)) := by rw [← hW7]; exact setRow_heap _ _ _ _ _ _ (heap_alloc_new _ _)
      have hb7 : Below w6.heap.size w6 w7 := by rw [← hW7]; exact below_setRow ((Below.refl _ _).alloc (Nat.le_refl _) _) (Nat.le_refl _) _
      have R7 := hide (R6.out.below hb7)
      have DD7 := hide ((hb7.block gd (block_lt_of_row DD6.out)).trans DD6.out)
      have XX7 := hide ((hb7.block gx (block_lt_of_row XX6.out)).trans XX6.out)
      have QQ7 := hide ((hb7.block q (block_lt_of_row QQ6.out)).trans QQ6.out)
      have BB7 := hide (BB6.out.trans (hb7.mono BB6.out.size))
      have EE7 := hide rE
      clear hW7 hb7 rE R6 DD6 XX6 QQ6 BB6
      generalize w6.heap.size = ge at *
      refine (rend_yes g tt w7 FIN.out (by decide) R7.out).mono ?_
      rintro e w8 ⟨qr, rfl, hf, hb⟩
      have FR := hide hf
      have DD8 := hide ((hb.block gd (block_lt_of_row DD7.out)).trans DD7.out)
      have XX8 := hide ((hb.block gx (block_lt_of_row XX7.out)).trans XX7.out)
      have QQ8 := hide ((hb.block q (block_lt_of_row QQ7.out)).trans QQ7.out)
      have EE8 := hide ((hb.block ge (block_lt_of_row EE7.out)).trans EE7.out)
      have BB8 := hide (BB7.out.trans (hb.mono BB7.out.size))
      clear hf hb R7 DD7 XX7 QQ7 EE7 BB7
      go_wp2_with fail
      refine (refused_yes qr (N : Int) 11 w8 FR.out (HP.out.below BB8.out) (word_ok (by constructor <;> omega)) (word_ok (by decide)) (by decide)).mono ?_
      rintro e w9 ⟨rfl, hb⟩
      have DD9 := hide ((hb.block gd (block_lt_of_row DD8.out)).trans DD8.out)
      have XX9 := hide ((hb.block gx (block_lt_of_row XX8.out)).trans XX8.out)
      have QQ9 := hide ((hb.block q (block_lt_of_row QQ8.out)).trans QQ8.out)
      have EE9 := hide ((hb.block ge (block_lt_of_row EE8.out)).trans EE8.out)
      have BB9 := hide (BB8.out.trans (hb.mono BB8.out.size))
      clear hb FR DD8 XX8 QQ8 EE8 BB8
      obtain ⟨st, hst⟩ : ∃ st : ByteArray, st = ⟨xs.toArray⟩ := ⟨_, rfl⟩
      have CVc := conv_slice (stays_row (p := fun _ => False) QQ9.out (fun e => e) (by have := SXL.out; omega)).now
      have CVb := conv_slice (SV.out.below BB9.out (Nat.le_refl _))
      rw [← hst] at CVc CVb
      clear hst
      have eqd : ∀ w, (Op.equalIn 10000 40 (.agg (S.v8 d)) (.agg (S.v8 d))).run Tryd.prog w = .ok true w := fun w => by rw [equal_digests _ _ HD.out HD.out w]; simp
      by_cases h8 : a + 1 < 8
      · have s1 : (a : Int) + 1 < 8 := by omega
        obtain ⟨P, s2, hP0, s4⟩ := cut_num m a h8
        rw [MV.out] at s4
        have s3 : ¬ ((P : Int) = 0) := by omega
        have s5 : ((P : Int) == 0) = false := by simp; omega
        go_wp2_with (first | refine load_dig_when rfl (.tmp 18) rfl ge rfl 40 _ _ EE9.out (size_dig _ EL.out) ?_ | refine load_dig_when rfl (.tmp 8) rfl gd rfl 40 _ _ DD9.out (size_dig _ HD.out) ?_ | fail)
        go_roundw
        case rel => exact ⟨3, V, by omega, by go_num, by first | rfl | rw [s4], VN.out, VL.out, DD9.out, XX9.out, BB9.out⟩
        case measure => simp [intOf]
      · have s1 : ¬ ((a : Int) + 1 < 8) := by omega
        have mv : m = V := by rw [← MV.out, show a + 1 = 8 from by omega, show (256 : Nat) ^ 8 = 18446744073709551616 from by decide]; exact (Nat.mod_eq_of_lt hm64).symm
        subst mv
        go_wp2_with (first | refine load_dig_when rfl (.tmp 18) rfl ge rfl 40 _ _ EE9.out (size_dig _ EL.out) ?_ | refine load_dig_when rfl (.tmp 8) rfl gd rfl 40 _ _ DD9.out (size_dig _ HD.out) ?_ | fail)
        go_roundw
        case rel => exact ⟨3, m, by omega, by go_num, rfl, VN.out, VL.out, DD9.out, XX9.out, BB9.out⟩
        case measure => simp [intOf]
    · go_wp2_with fail
      refine (known_any wr (HP.out.below BB.out)).mono ?_
      rintro e w2 ⟨rfl, hb⟩
      have Z := BB.out.trans (hb.mono BB.out.size)
      clear hb
      go_wp2_with fail
      go_ret
      exact ⟨rfl, Z⟩
end Go.Proofs.YtdhaeepaemneaaaDoor
