/- FairWaits' walk. -/
import Derived.Test.YtnplijgdklnipaaFo
namespace Go.Proofs.Ytnplijgdklnipaa
open Go.RowKit
namespace S
/-- What is left ahead of a leaf. -/
def Left (L : List Ln) (t j i : Nat) (ah ex sh : Int) (left b : Int) : Prop := left ≤ 0 ∨ 0 < left ∧ b = left + ex ∧ left ≤ ah + 1 - (had (all L) (plc L t j) i : Int) * sh
theorem Left.start (L : List Ln) (t j : Nat) (ah ex sh : Int) (h : 0 ≤ ah) : Left L t j 0 ah ex sh (ah + 1) (ah + 1 + ex) := Or.inr ⟨by omega, rfl, by rw [had_zero]; simp⟩
theorem Left.mine {L : List Ln} {t j i : Nat} {ah ex sh left b : Int} (h : Left L t j i ah ex sh left b) (hl : 0 < left) (hex : 0 ≤ ex) (hj : on L j) (hr : rk L j = (t + i) % all L) (hp : 0 < all L) : Left L t j (i + 1) ah ex sh (left - min sh b) (b - min sh b) := by
  rcases h with h | ⟨_, h2, h3⟩
  · omega
  · have e : (had (all L) (plc L t j) (i + 1) : Int) * sh = (had (all L) (plc L t j) i : Int) * sh + sh := by
      rw [had_more (plc_lt t j hp), if_pos ((plc_turn hj hj hr hp).2 rfl), Int.natCast_add, Int.add_mul]
      simp
    by_cases c : sh ≤ b
    · rw [Int.min_eq_left c]
      by_cases d : left - sh ≤ 0
      · exact Or.inl d
      · exact Or.inr ⟨by omega, by omega, by rw [e]; omega⟩
    · rw [Int.min_eq_right (by omega)]
      exact Or.inl (by omega)
theorem Left.other {L : List Ln} {t j k i : Nat} {ah ex sh left b : Int} (h : Left L t j i ah ex sh left b) (hj : on L j) (hk : on L k) (hne : j ≠ k) (hr : rk L k = (t + i) % all L) (hp : 0 < all L) : Left L t j (i + 1) ah ex sh left b := by
  rcases h with h | ⟨h1, h2, h3⟩
  · exact Or.inl h
  · refine Or.inr ⟨h1, h2, ?_⟩
    rw [had_more (plc_lt t j hp), if_neg (fun c => hne ((plc_turn hj hk hr hp).1 c))]
    exact h3
theorem Left.done {L : List Ln} {t j : Nat} {ah ex sh left b : Int} (T : Nat) (h : Left L t j (T * all L) ah ex sh left b) (hp : 0 < all L) (hT : ah + 1 ≤ (T : Int) * sh) : left ≤ 0 := by
  rcases h with h | ⟨h1, h2, h3⟩
  · exact h
  · rw [had_all _ _ hp] at h3
    omega
/-- How many turns Wait says. -/
theorem wait_is {ah x q : Int} {n : Nat} (h0 : 0 ≤ ah) (h1 : ah ≤ 50) (hn : 1 ≤ n) (hn2 : n ≤ 12) : ∃ T : Nat, wait ah x q (n : Int) = ((T * n : Nat) : Int) ∧ ah + 1 ≤ (T : Int) * sh x q ∧ T * n ≤ 12000 := by
  have hs := sh_bounds x q
  have e1 : cl ah 0 1048576 = ah := by unfold cl; omega
  have e2 : cl (n : Int) 1 1048576 = (n : Int) := by unfold cl; omega
  obtain ⟨s, hss⟩ : ∃ s, s = sh x q := ⟨_, rfl⟩
  have hw : wait ah x q (n : Int) = (ah + s).tdiv s * (n : Int) := by unfold wait; rw [e1, e2, hss]
  have e3 : (ah + s).tdiv s = (ah + s) / s := Int.tdiv_eq_ediv_of_nonneg (by omega)
  rw [← hss] at hs ⊢
  have hd := Int.emod_add_mul_ediv (ah + s) s
  have hm := Int.emod_lt_of_pos (ah + s) (show 0 < s by omega)
  obtain ⟨d, hdd⟩ : ∃ d, d = (ah + s) / s := ⟨_, rfl⟩
  have hd0 : 0 ≤ d := by rw [hdd]; exact Int.ediv_nonneg (by omega) (by omega)
  have hd1 : d ≤ 58 := by
    rw [hdd]
    have := Int.ediv_le_self s (show 0 ≤ ah + s by omega)
    omega
  rw [← hdd] at hd
  refine ⟨d.toNat, ?_, ?_, ?_⟩
  · rw [hw, e3, ← hdd, Int.natCast_mul, Int.toNat_of_nonneg hd0]
  · rw [Int.toNat_of_nonneg hd0, Int.mul_comm]
    omega
  · have h2 : d.toNat ≤ 58 := by omega
    have := Nat.mul_le_mul h2 hn2
    omega
/-- How far it is to the next one that takes part. -/
theorem find_step {l : List Ln} {a : Nat} (ha : a < l.length) (hw : (l.getD a l0).w < 1) : find l a = find l ((a + 1) % l.length) := by
  have hn : ∀ {x : Nat} {r : Option Nat}, find l x = r → find l x = r := fun h => h
  cases h : find l a with
  | none =>
    have := find_no (Nat.le_of_lt ha) h
    exact (find_none (Nat.le_of_lt (Nat.mod_lt _ (by omega))) this).symm
  | some k =>
    obtain ⟨h1, h2, h3⟩ := find_yes (Nat.le_of_lt ha) h
    have hne : k ≠ a := fun e => by rw [e] at h2; omega
    symm
    by_cases e : a + 1 = l.length
    · rw [e, Nat.mod_self]
      rcases h3 with ⟨h4, h5⟩ | ⟨h4, h5, h6⟩
      · omega
      · exact find_here (Nat.zero_le _) h1 h2 (fun j _ hj => h6 j hj)
    · rw [Nat.mod_eq_of_lt (by omega)]
      rcases h3 with ⟨h4, h5⟩ | ⟨h4, h5, h6⟩
      · exact find_here (by omega) h1 h2 (fun j hj hk => h5 j (by omega) hk)
      · exact find_round (by omega) (fun j hj hk => h5 j (by omega) hk) (by omega) h2 h6
/-- The steps that are left. -/
def far (n k a : Nat) : Nat := (k + n - a) % n
theorem far_step {n k a : Nat} (ha : a < n) (hk : k < n) (hne : k ≠ a) : far n k ((a + 1) % n) < far n k a := by
  unfold far
  by_cases e : a + 1 = n
  · rw [e, Nat.mod_self]
    have h1 : (k + n - 0) % n = k := by rw [Nat.sub_zero, Nat.add_mod_right, Nat.mod_eq_of_lt hk]
    have h2 : (k + n - a) % n = k + 1 := by rw [show k + n - a = k + 1 by omega, Nat.mod_eq_of_lt (by omega)]
    omega
  · rw [Nat.mod_eq_of_lt (show a + 1 < n by omega)]
    by_cases c : a ≤ k
    · have h1 : (k + n - (a + 1)) % n = k - (a + 1) := by rw [show k + n - (a + 1) = (k - (a + 1)) + n by omega, Nat.add_mod_right, Nat.mod_eq_of_lt (by omega)]
      have h2 : (k + n - a) % n = k - a := by rw [show k + n - a = (k - a) + n by omega, Nat.add_mod_right, Nat.mod_eq_of_lt (by omega)]
      omega
    · rw [Nat.mod_eq_of_lt (show k + n - (a + 1) < n by omega), Nat.mod_eq_of_lt (show k + n - a < n by omega)]
      omega
end S
set_option maxHeartbeats 25600000 in
set_option maxRecDepth 100000 in
theorem fairWaits_walk (a0 b0 : Option Addr) (n m ca cb : Nat) (f g : Nat → Int) (n2 n3 n4 n5 : Int) (w : World) (hf : InI w a0 n f) (hg : InI w b0 m g) :
   Calls Try.prog 5 #[.slice a0 n ca, .slice b0 m cb, .int .i64 n2, .int .i64 n3, .int .i64 n4, .int .i64 n5] w fun e w' => e = .returned (.bool true) ∧ Below w.heap.size w w' := by
  have HF := hide hf
  have HG := hide hg
  clear hf hg
  go_enter Try.func5, Try.ntmps5
  go_wp2_with fail
  go_at_call 18
  refine (fresh_any a0 b0 n m ca cb f g w HF.out HG.out).mono ?_
  rintro e W1 ⟨u, rfl, hu, hb⟩
  obtain ⟨k, hk⟩ : ∃ k, k = min n 12 := ⟨_, rfl⟩
  rw [← hk] at hu ⊢
  obtain ⟨L, hL⟩ : ∃ L, L = S.fr m f g k := ⟨_, rfl⟩
  have HFR : Hid ((∀ x ∈ L, S.Fr 60 x) ∧ L.length = k ∧ k ≤ 12) := by rw [hL]; exact ⟨S.fr_fr m f g k, S.fr_length m f g k, by omega⟩
  rw [← hL] at hu ⊢
  obtain ⟨c, hc⟩ : ∃ c, c = S.cnt L := ⟨_, rfl⟩
  rw [← hc]
  have HC : Hid (c = S.all L ∧ c ≤ k) := by
    rw [hc]
    exact ⟨(S.all_cnt L).symm, by have := S.cnt_le L; have := HFR.out.2.1; omega⟩
  have B1 := hide hb
  have U1 := hide hu
  clear hc hL hk hu hb HF HG
  by_cases h0 : c = 0
  · subst h0
    go_wp2_with fail
    go_at_call 11
    refine (known_any W1).mono ?_
    rintro e W2 ⟨rfl, hb⟩
    have B2 := hide (B1.out.trans (hb.mono B1.out.size))
    clear hb
    go_wp2
    go_ret
    exact ⟨rfl, B2.out⟩
  · have e0 : ((c : Int) == 0) = false := by simp; omega
    have HP : Hid (0 < S.all L) := by show 0 < S.all L; rw [← HC.out.1]; omega
    have hkp : 1 ≤ k := by have := HC.out.2; omega
    have HK1 := hide hkp
    obtain ⟨gu, cu, e1, -, hgB, cur, hcur⟩ := Rw.blk0 U1.out (by rw [HFR.out.2.1]; exact hkp)
    rw [HFR.out.2.1] at e1
    subst e1
    have GU := hide hgB
    obtain ⟨kp, hkp2⟩ : ∃ kp, k = kp + 1 := ⟨k - 1, by omega⟩
    have q1 : IntKind.i64.wrap ((k : Int) - 1) = (kp : Int) := by rw [hkp2]; rw [show (((kp + 1 : Nat) : Int) - 1) = (kp : Int) by omega]; exact wrap_small (by omega) (by have := HFR.out; omega)
    have HK := hide hkp2
    clear h0 hkp hkp2 hgB hcur
    go_wp2_with fail
    go_at_call 19
    refine (within_any n4 (kp : Int) W1 (by omega) (by have := HK.out; have := HFR.out; omega)).mono ?_
    rintro e w1 ⟨rfl, rfl⟩
    obtain ⟨j0, hj0⟩ : ∃ j0, j0 = S.within n4 (kp : Int) := ⟨_, rfl⟩
    have HJ0 : Hid (j0 < k) := by show j0 < k; have := S.within_le n4 (kp : Int) (by omega); have := HK.out; omega
    rw [← hj0]
    clear hj0 q1
    obtain ⟨jt, hjt⟩ := S.find_ex (l := L) (a := j0) (by have := HJ0.out; have := HFR.out; omega) HP.out
    have HJT : Hid (S.find L j0 = some jt) := hjt
    have ONT : Hid (S.on L jt ∧ jt < k) := by
      have := S.find_yes (by have := HJ0.out; have := HFR.out; omega) hjt
      exact ⟨⟨this.1, this.2.1⟩, by have := this.1; have := HFR.out.2.1; omega⟩
    clear hjt
    go_wp2_with fail
    go_loopw [4] (fun s4 wr => ∃ j : Nat, j < k ∧ s4 = .int .i64 (j : Int) ∧ Hid (S.find L j = some jt) ∧ Hid (Rw 28 3 encL w.heap.size wr (.slice (some ⟨gu, 0, none⟩) k cu) L) ∧ Hid (Below w.heap.size w wr)) (fun s4 _ => S.far k jt (intOf s4).toNat)
    case atStart => exact ⟨j0, HJ0.out, rfl, HJT, U1, B1⟩
    case round =>
      obtain ⟨j, hjk, rfl, FJ, R, B⟩ := hrel
      have hjL : j < L.length := by rw [HFR.out.2.1]; exact hjk
      have hc0 := (lane_cells (R.out.cells j hjL)).1
      obtain ⟨wj, hwj⟩ : ∃ wj, wj = (L.getD j S.l0).w := ⟨_, rfl⟩
      rw [← hwj] at hc0
      have hF : S.Fr 60 (L.getD j S.l0) := by
        rw [List.getD_eq_getElem?_getD, List.getElem?_eq_getElem hjL]
        exact HFR.out.1 _ (List.getElem_mem hjL)
      have hw04 : 0 ≤ wj ∧ wj ≤ 4 := by rw [hwj]; exact ⟨hF.1, hF.2.1⟩
      have p1 : (0 : Int) ≤ (j : Int) := by omega
      have p2 : (j : Int) < (k : Int) := by omega
      clear U1 B1
      by_cases hw : wj = 0
      · have hstep := S.find_step hjL (by rw [← hwj]; omega)
        rw [FJ.out, HFR.out.2.1] at hstep
        have FS := hide hstep.symm
        have hne : jt ≠ j := fun e => by have := ONT.out.1.2; rw [e, ← hwj] at this; omega
        have FA := hide (S.far_step hjk ONT.out.2 hne)
        obtain ⟨nx, hnx⟩ : ∃ nx, nx = (j + 1) % k := ⟨_, rfl⟩
        rw [← hnx] at FS FA
        have hnk : nx < k := by rw [hnx]; exact Nat.mod_lt _ (by omega)
        have p6 : IntKind.i64.wrap ((j : Int) + 1) = (j : Int) + 1 := wrap_small (by omega) (by have := HFR.out; omega)
        have p7 : Int.tmod ((j : Int) + 1) (k : Int) = (nx : Int) := by rw [Int.tmod_eq_emod_of_nonneg (by omega), hnx]; simp
        have p8 : ¬ (k : Int) = 0 := by omega
        have p9 : IntKind.i64.wrap (nx : Int) = (nx : Int) := wrap_small (by omega) (by have := HFR.out; omega)
        rw [hw] at hc0
        clear hstep hne hnx hwj hF hw04 hw hjL
        go_wp2
        refine ⟨⟨nx, hnk, rfl, FS, R, B⟩, ?_⟩
        have h := FA.out
        simp only [intOf, Int.toNat_natCast]
        exact h
      · have ew : (wj == 0) = false := by simp [hw]
        have HWJ := hide hwj
        obtain rfl : j = jt := by
          have h := FJ.out
          rw [S.find_here (Nat.le_refl _) hjL (by rw [← hwj]; omega) (fun x h1 h2 => by omega)] at h
          exact Option.some.inj h
        clear hw FJ HJT hwj hF
        have hw04' := hide hw04
        clear hw04
        go_upto_region 8 with (go_at_call 19; refine (within_any n5 50 wr (by omega) (by omega)).mono ?_; rintro e w1 ⟨rfl, rfl⟩)
        obtain ⟨ah, hah⟩ : ∃ ah, ah = S.within n5 50 := ⟨_, rfl⟩
        rw [← hah]
        have HAH : Hid (ah ≤ 50) := by show ah ≤ 50; have := S.within_le n5 50 (by omega); omega
        clear hah
        obtain ⟨d0, d1, d2⟩ := lane_cells (R.out.cells j hjL)
        obtain ⟨cur, hcur⟩ : ∃ cur, wr.heap[gu]? = some (.cells cur 28 (0, 0)) := (R.out.blk (j := gu) rfl).2.2
        have f1 := frozen_of_row _ _ (j * 3 + 1) _ _ hcur
        have hF : S.Fr 60 (L.getD j S.l0) := by
          rw [List.getD_eq_getElem?_getD, List.getElem?_eq_getElem hjL]
          exact HFR.out.1 _ (List.getElem_mem hjL)
        obtain ⟨bj, hbj⟩ : ∃ bj, bj = (L.getD j S.l0).b := ⟨_, rfl⟩
        rw [← hbj] at d1
        obtain ⟨ex, hex⟩ : ∃ ex, ex = Int.tmod bj 5 := ⟨_, rfl⟩
        have hex2 : 0 ≤ ex ∧ ex ≤ 4 := by
          have h0 : 0 ≤ bj := by rw [hbj]; exact hF.2.2.1
          rw [hex, Int.tmod_eq_emod_of_nonneg h0]
          omega
        have HEX := hide hex2
        have s1 : IntKind.i64.wrap ((ah : Int) + 1) = (ah : Int) + 1 := wrap_small (by omega) (by have := HAH.out; omega)
        have s2 : IntKind.i64.wrap (Int.tmod bj 5) = ex := by rw [← hex]; exact wrap_small (by omega) (by omega)
        have s2b : Int.tmod bj 5 = ex := hex.symm
        have s2c : IntKind.i64.wrap ex = ex := wrap_small (by omega) (by omega)
        have s3 : IntKind.i64.wrap ((ah : Int) + 1 + ex) = (ah : Int) + 1 + ex := wrap_small (by omega) (by have := HAH.out; omega)
        have P0 := hide (R.out.put1 j ((ah : Int) + 1 + ex) hjL)
        obtain ⟨L1, hL1⟩ : ∃ L1, L1 = L.set j ⟨(L.getD j S.l0).w, (ah : Int) + 1 + ex, (L.getD j S.l0).d⟩ := ⟨_, rfl⟩
        rw [← hL1] at P0
        have g1 : ∀ x, L1.getD x S.l0 = if x = j then ⟨(L.getD j S.l0).w, (ah : Int) + 1 + ex, (L.getD j S.l0).d⟩ else L.getD x S.l0 := fun x => by
          rw [hL1, List.getD_eq_getElem?_getD]
          by_cases e : j = x
          · subst e; rw [List.getElem?_set_self hjL, if_pos rfl]; rfl
          · rw [List.getElem?_set_ne e, if_neg (fun c => e c.symm), List.getD_eq_getElem?_getD]
        have HL1 : Hid (L1.map (·.w) = L.map (·.w) ∧ (∀ x ∈ L1, S.Fr 60 x) ∧ L1.length = k ∧ (L1.getD j S.l0).b = (ah : Int) + 1 + ex ∧ (L1.getD j S.l0).w = (L.getD j S.l0).w) := by
          refine ⟨?_, ?_, by rw [hL1, List.length_set]; exact HFR.out.2.1, by rw [g1 j, if_pos rfl], by rw [g1 j, if_pos rfl]⟩
          · apply List.ext_getElem?
            intro x
            rw [hL1, List.map_set]
            by_cases e : j = x
            · subst e
              rw [List.getElem?_set_self (by simpa using hjL), List.getElem?_map, List.getD_eq_getElem?_getD, List.getElem?_eq_getElem hjL]; rfl
            · rw [List.getElem?_set_ne e]
          · intro x hx
            rw [hL1] at hx
            rcases List.mem_or_eq_of_mem_set hx with h1 | h1
            · exact HFR.out.1 x h1
            · rw [h1]
              have := HAH.out
              exact ⟨hF.1, hF.2.1, by show 0 ≤ (ah : Int) + 1 + ex; omega, by show (ah : Int) + 1 + ex ≤ 60; omega, hF.2.2.2.2⟩
        have B2 := hide (B.out.setCell (p := ⟨gu, j * 3 + 1, none⟩) GU.out (.int .i64 ((ah : Int) + 1 + ex)))
        have HJK := hide hjk
        clear hF hbj hex hex2 hL1 g1 hcur hjL d0 d2 hc0 R B
        go_upto_region 9 with fail
        obtain ⟨X, hX⟩ : ∃ X, X = wr.setCell ⟨gu, j * 3 + 1, none⟩ (.int .i64 ((ah : Int) + 1 + ex)) := ⟨_, rfl⟩
        rw [← hX] at P0 B2 ⊢
        clear hX d1 f1 s2 s2b s2c s3
        go_wp2_with fail
        go_at_call 19
        refine (within_any n3 1 X (by omega) (by omega)).mono ?_
        rintro e w1 ⟨rfl, rfl⟩
        obtain ⟨qn, hqn⟩ : ∃ qn, qn = S.within n3 1 := ⟨_, rfl⟩
        have hqle : qn ≤ 1 := by have := S.within_le n3 1 (by omega); omega
        rw [← hqn]
        obtain ⟨q, hq⟩ : ∃ q : Int, q = 1 + (qn : Int) := ⟨_, rfl⟩
        have qq : IntKind.i64.wrap (1 + (qn : Int)) = q := by rw [hq]; exact wrap_small (by omega) (by omega)
        clear hqn hqle hq
        go_upto_region 10 with fail
        clear qq
        obtain ⟨left0, hleft0⟩ : ∃ left0 : Int, left0 = (ah : Int) + 1 := ⟨_, rfl⟩
        have s1b : IntKind.i64.wrap ((ah : Int) + 1) = left0 := by rw [hleft0]; exact s1
        have HLF0 := hide hleft0
        clear hleft0 s1
        have e0' := (lane_cells (P0.out.cells j (by rw [HL1.out.2.2.1]; exact hjk))).1
        obtain ⟨wv, hwv⟩ : ∃ wv, wv = (L1.getD j S.l0).w := ⟨_, rfl⟩
        rw [← hwv] at e0'
        have HWV : Hid (wv = (L.getD j S.l0).w) := by show wv = _; rw [hwv]; exact HL1.out.2.2.2.2
        clear hwv
        go_upto_region 12 with (go_at_call 10; refine (wait_any (ah : Int) wv q (c : Int) X).mono ?_; rintro e w1 ⟨rfl, rfl⟩)
        clear s1b e0'
        obtain ⟨T, hT1, hT2, hT3⟩ := S.wait_is (x := wv) (q := q) (n := c) (ah := (ah : Int)) (by omega) (by have := HAH.out; omega) (by have := HP.out; have := HC.out; omega) (by have := HC.out; have := HFR.out; omega)
        try rw [hT1]
        obtain ⟨M, hM⟩ : ∃ M, M = T * c := ⟨_, rfl⟩
        try rw [← hM]
        have HM : Hid (M = T * S.all L ∧ M ≤ 12000) := ⟨by rw [hM, HC.out.1], by rw [hM]; exact hT3⟩
        have HT2 := hide hT2
        clear hT1 hT2 hT3 hM
        obtain ⟨st, hst⟩ : ∃ st, st = S.pos n2 k := ⟨_, rfl⟩
        have HST : Hid (st ≤ k ∧ S.pos n2 k = st) := ⟨by rw [hst]; exact S.pos_le _ _, hst.symm⟩
        clear hst
        obtain ⟨t, ht⟩ : ∃ t, t = S.rk L st := ⟨_, rfl⟩
        have X0 : Hid (Tn w L 60 t k X (.slice (some ⟨gu, 0, none⟩) k cu) L1 0 st) := ⟨P0.out, B2.out, HL1.out.1, HL1.out.2.1, HL1.out.2.2.1, by rw [ht]; exact S.At.start L st (by have := HST.out; have := HFR.out; omega)⟩
        have LF0 : Hid (S.Left L t j 0 (ah : Int) ex (S.sh wv q) left0 (L1.getD j S.l0).b) := by
          show S.Left _ _ _ _ _ _ _ _ _
          rw [HL1.out.2.2.2.1, HLF0.out]
          exact S.Left.start L t j (ah : Int) ex _ (by omega)
        have LB0 : Hid (-8 ≤ left0 ∧ left0 ≤ 51) := by show _ ∧ _; rw [HLF0.out]; have := HAH.out; omega
        clear ht P0 B2
        go_wp2_with fail
        go_loopw [2, 13, 15, 17] (fun s2 s13 s15 s17 wr => ∃ (i a : Nat) (at_ left : Int) (l : List S.Ln), i ≤ M ∧ s17 = .int .i64 (i : Int) ∧ s2 = .int .i64 at_ ∧ Hid (S.pos at_ k = a) ∧ s15 = .int .i64 left ∧ Hid (Tn w L 60 t k wr s13 l i a) ∧ Hid (S.Left L t j i (ah : Int) ex (S.sh wv q) left (l.getD j S.l0).b) ∧ Hid (-8 ≤ left ∧ left ≤ 51)) (fun _ _ _ s17 _ => M - (intOf s17).toNat)
        case atStart => exact ⟨0, st, n2, left0, L1, by omega, rfl, rfl, HST.out.2, rfl, X0, LF0, LB0⟩
        case round =>
          obtain ⟨i, a, at_, left, l, hi, rfl, rfl, PA, rfl, TN, LF, LB⟩ := hrel
          obtain ⟨av, cv, hfv⟩ := TN.out.r.form
          rw [TN.out.len] at hfv
          subst hfv
          clear X0 LF0 LB0
          by_cases hin : i < M ∧ 0 < left
          · obtain ⟨h1, h2⟩ := hin
            have p1 : (i : Int) < (M : Int) := by omega
            have p2 : left > 0 := h2
            have HI := hide (And.intro h1 h2)
            clear hi h1 h2
            go_wp2_with fail
            go_at_call 9
            refine (TN.out.call (q := q) (at_ := at_) HFR.out.2.1 (by have := HFR.out; omega) (by omega) HP.out PA.out).mono ?_
            rintro e W2 ⟨u2, x, nx, l2, rfl, hxk, hon, hrk, hnx, hnxk, hget, htn, hb⟩
            obtain ⟨tkn, htkn⟩ : ∃ tkn, tkn = min (S.sh (L.getD x S.l0).w q) (l.getD x S.l0).b := ⟨_, rfl⟩
            rw [← htkn] at hget ⊢
            have HTK : Hid (0 ≤ tkn ∧ tkn ≤ 8) := by
              have h8 := S.sh_bounds (L.getD x S.l0).w q
              have hxl : x < l.length := by rw [TN.out.len]; exact hxk
              have hb0 : 0 ≤ (l.getD x S.l0).b := by
                rw [List.getD_eq_getElem?_getD, List.getElem?_eq_getElem hxl]
                exact (TN.out.fr _ (List.getElem_mem hxl)).2.2.1
              show 0 ≤ tkn ∧ tkn ≤ 8
              rw [htkn]; omega
            have LF2 : Hid ((x = j → S.Left L t j (i + 1) (ah : Int) ex (S.sh wv q) (left - tkn) (l2.getD j S.l0).b) ∧ (x ≠ j → S.Left L t j (i + 1) (ah : Int) ex (S.sh wv q) left (l2.getD j S.l0).b)) := by
              refine ⟨fun e => ?_, fun e => ?_⟩
              · subst e
                rw [hget x, if_pos rfl, htkn, ← HWV.out]
                exact LF.out.mine HI.out.2 HEX.out.1 hon hrk HP.out
              · rw [hget j, if_neg (fun c => e c.symm)]
                exact LF.out.other ONT.out.1 hon (fun c => e c.symm) hrk HP.out
            have TN2 := hide htn
            obtain ⟨a2, c2, hf2⟩ := htn.r.form
            rw [htn.len] at hf2
            subst hf2
            have HJ := hide (And.intro hxk hnxk)
            clear htkn htn hb hxk hon hrk hnx hnxk hget TN LF
            go_upto_region 16 with fail
            generalize hX : World.alloc _ _ = Y
            have bX : Below W2.heap.size W2 Y := by rw [← hX]; exact one_below _ _
            have C3 : Hid (Cel Y W2.heap.size 23 (.int .i64 (x : Int)) (.int .i64 tkn) (.int .i64 (nx : Int))) := by
              show Cel _ _ _ _ _ _
              rw [← hX]; exact Cel.new _ _ _ _ _
            have TN3 := hide (TN2.out.below bX)
            generalize W2.heap.size = gt at C3 ⊢
            clear hX bX TN2
            have hxk := HJ.out.1
            obtain ⟨c0, c1, c22⟩ := C3.out.c
            have p3 : ¬ (x : Int) < 0 := by omega
            have p5 : ¬ (x : Int) ≥ (k : Int) := by omega
            have q1 : IntKind.i64.wrap ((i : Int) + 1) = (i : Int) + 1 := wrap_small (by omega) (by have := HI.out; have := HM.out; omega)
            have q2 : IntKind.i64.wrap (left - tkn) = left - tkn := wrap_small (by have := LB.out; have := HTK.out; omega) (by have := LB.out; have := HTK.out; omega)
            have PN := hide (S.pos_nat HJ.out.2)
            by_cases hxj : x = j
            · subst hxj
              have LF3 := hide (LF2.out.1 rfl)
              have LB3 : Hid (-8 ≤ left - tkn ∧ left - tkn ≤ 51) := by show _ ∧ _; have := LB.out; have := HTK.out; have := HI.out; omega
              go_wp2_with fail
              go_roundw
              case rel => exact ⟨i + 1, nx, (nx : Int), left - tkn, l2, by have := HI.out; omega, by simp, rfl, PN, rfl, TN3, LF3, LB3⟩
              case measure => simp [intOf]; have := HI.out; omega
            · have en : ((x : Int) == (j : Int)) = false := by simp; omega
              have LF3 := hide (LF2.out.2 hxj)
              clear hxj
              go_wp2_with fail
              go_roundw
              case rel => exact ⟨i + 1, nx, (nx : Int), left, l2, by have := HI.out; omega, by simp, rfl, PN, rfl, TN3, LF3, LB⟩
              case measure => simp [intOf]; have := HI.out; omega
          · have hle : left ≤ 0 := by
              by_cases h : i < M
              · have : ¬ 0 < left := fun c => hin ⟨h, c⟩
                omega
              · have e : i = T * S.all L := by have := HM.out; omega
                have h3 := LF.out
                rw [e] at h3
                exact h3.done T HP.out HT2.out
            have hng : ¬ left > 0 := by omega
            by_cases h : i < M
            · have p1 : (i : Int) < (M : Int) := by omega
              clear hin hi h
              go_wp2_with fail
              go_at_call 11
              refine (known_any wr).mono ?_
              rintro e W9 ⟨rfl, hb⟩
              have B9 := hide (TN.out.u.trans (hb.mono TN.out.u.size))
              clear hb
              go_wp2
              go_ret
              exact ⟨rfl, B9.out⟩
            · have p1 : ¬ (i : Int) < (M : Int) := by omega
              clear hin hi h
              go_wp2_with fail
              go_at_call 11
              refine (known_any wr).mono ?_
              rintro e W9 ⟨rfl, hb⟩
              have B9 := hide (TN.out.u.trans (hb.mono TN.out.u.size))
              clear hb
              go_wp2
              go_ret
              exact ⟨rfl, B9.out⟩
end Go.Proofs.Ytnplijgdklnipaa
