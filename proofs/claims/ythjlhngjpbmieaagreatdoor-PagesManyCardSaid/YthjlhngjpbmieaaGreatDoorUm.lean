/- PagesMany: as many pages as may be put at once are put at once, again and again. -/
import Derived.Test.YthjlhngjpbmieaaGreatDoorUe
import Derived.Test.YthjlhngjpbmieaaGreatDoorJg
namespace Go.Proofs.YthjlhngjpbmieaaGreatDoor
open Go.RowKit

namespace S
/-- The k-th page that the statement puts. -/
def manyAt (F k : Nat) : Nat := (F + 3 * k) % 512
/-- What the u-th Put makes of page m. -/
def manyX (F : Nat) (C : UInt8) (u m : Nat) : List UInt8 := pgOf (C + UInt8.ofNat (u + (m + 512 - F) % 512 / 3))
theorem manyX_at (F : Nat) (C : UInt8) (u k : Nat) (hF : F ≤ 511) (hk : k ≤ 40) : manyX F C u (manyAt F k) = pgOf (C + UInt8.ofNat (u + k)) := by
  unfold manyX manyAt
  rw [show ((F + 3 * k) % 512 + 512 - F) % 512 / 3 = k by omega]
def manyL (F N : Nat) : List Nat := (List.range N).map (manyAt F)
/-- The pages behind u Puts. -/
def manyPg (F N : Nat) (C : UInt8) : Nat → Nat → List UInt8
  | 0, _ => zeros 1024
  | u + 1, m => if m ∈ manyL F N then manyX F C u m else zeros 1024
theorem manyPg_off (F N : Nat) (C : UInt8) (u m : Nat) (h : m ∉ manyL F N) : manyPg F N C u m = zeros 1024 := by
  cases u with
  | zero => rfl
  | succ u => exact if_neg h
theorem manyPg_succ (F N : Nat) (C : UInt8) (u : Nat) : (fun m => if m ∈ manyL F N then manyX F C u m else manyPg F N C u m) = manyPg F N C (u + 1) := by
  funext m
  by_cases h : m ∈ manyL F N
  · rw [if_pos h]; exact (if_pos h).symm
  · rw [if_neg h, manyPg_off F N C u m h, manyPg_off F N C (u + 1) m h]
theorem manyPg_at (F N : Nat) (C : UInt8) (u k : Nat) (hF : F ≤ 511) (hN : N ≤ 41) (hk : k < N) : manyPg F N C (u + 1) (manyAt F k) = pgOf (C + UInt8.ofNat (u + k)) := by
  have h : manyAt F k ∈ manyL F N := List.mem_map.2 ⟨k, List.mem_range.2 hk, rfl⟩
  exact (if_pos h).trans (manyX_at F C u k hF (by omega))
theorem manyPg_next (F N : Nat) (C : UInt8) (u : Nat) (hN : N ≤ 41) : manyPg F N C u ((F + 1) % 512) = zeros 1024 := by
  refine manyPg_off F N C u _ (fun h => ?_)
  obtain ⟨k, hk, e⟩ := List.mem_map.1 h
  have := List.mem_range.1 hk
  unfold manyAt at e
  omega
theorem many_byte (C : UInt8) (a b : Nat) : ((C.toNat : Int) + ((a : Int) + (b : Int))) % 256 = ((C + UInt8.ofNat (a + b)).toNat : Int) := by
  rw [UInt8.toNat_add, UInt8.toNat_ofNat']
  omega
end S
/-- append of one sheet onto a row of the call's own. -/
theorem run_append_sh (w : World) (base gx : Nat) (x : ShV) (ty : TypeId) (v : Value) (m : Nat) (xs : List Value) (hown : w.ownsRow base 37 2 v m xs) (hm : m ≤ 1000) (hb : base ≤ w.heap.size) (hx : w.heap[gx]? = some (.cells #[.int .i64 x.1, x.list] 37 (0, 0))) :
    ∃ v' w', (Builtin.append_ #[38, 38] ty #[v, .slice (some ⟨gx, 0, none⟩) 1 1]).run Tryz.prog w = .ok v' w' ∧ (w'.ownsRow base 37 2 v' (m + 1) (xs ++ encSh x) ∧ w.grownBy w' v.ownBlock) := by
  obtain ⟨i, hi, hz0, hz1, hz2⟩ := info_parts info37
  obtain ⟨v', w', hr, ho, hg, hn⟩ := run_append_own (P := Tryz.prog) w base 38 ty 37 i (.agg #[.int .i64 0, .slice none 0 0]) 2 32 Tryz.underlying38 hi hz0 hz1 hz2 rfl (by omega) v m xs hown ⟨gx, 0, none⟩ 1 1 (encSh x) rfl (fun j u hu => by
    rw [Addr.add_lit, Nat.zero_add, cell_of_row w gx j _ 37 (0, 0) hx]
    simpa [encSh] using hu) (fun u hu => by simp [encSh, ShV.list] at hu; rcases hu with rfl | rfl <;> rfl) (by simp [maxLen]; omega) (by omega) hb
  exact ⟨v', w', hr, ho, hg⟩
/-- The sheets that the statement has made so far. -/
structure Shs (w : World) (base : Nat) (v : Value) (F u : Nat) (C : UInt8) (k : Nat) (L : List ShV) : Prop where
  len : L.length = k
  row : w.ownsRow base 37 2 v k (L.flatMap encSh)
  at_ : ∀ i y, L[i]? = some y → y.1 = ((S.manyAt F i : Nat) : Int) ∧ ∃ bk, y.2 = (some ⟨bk, 0, none⟩, 1024, 1024) ∧ base ≤ bk ∧ w.heap[bk]? = some (.cells (S.v8 (S.pgOf (C + UInt8.ofNat (u + i)))) 5 (0, 0))
theorem Shs.nil (w : World) (base F u : Nat) (C : UInt8) : Shs w base (.slice none 0 0) F u C 0 [] := ⟨rfl, World.ownsRow_nil _ _ _ _, fun i y h => by simp at h⟩
theorem Shs.below {w W : World} {base : Nat} {v : Value} {F u : Nat} {C : UInt8} {k : Nat} {L : List ShV} (h : Shs w base v F u C k L) (hb : Below w.heap.size w W) : Shs W base v F u C k L :=
  ⟨h.len, ownsRow_below h.row hb, fun i y hy => by
    obtain ⟨h1, bk, h2, h3, h4⟩ := h.at_ i y hy
    exact ⟨h1, bk, h2, h3, (hb.block bk (block_lt_of_row h4)).trans h4⟩⟩
theorem owns_type {w : World} {base : Nat} {e : TypeId} {size : Nat} {v : Value} {n : Nat} {xs : List Value} (h : w.ownsRow base e size v n xs) {k : Nat} (hk : v.ownBlock = some k) : ∃ cur, w.heap[k]? = some (.cells cur e (0, 0)) := by
  rcases h.2 with ⟨h1, _⟩ | ⟨g, cap, cur, h1, h2, h3, h4⟩
  · rw [h1] at hk
    cases hk
  · rw [h1] at hk
    simp only [Value.ownBlock, Option.some.injEq] at hk
    subst hk
    exact ⟨cur, h3⟩
theorem Shs.snoc {w W : World} {base : Nat} {v v' : Value} {F u : Nat} {C : UInt8} {k g : Nat} {L : List ShV} (h : Shs w base v F u C k L) (ho : W.ownsRow base 37 2 v' (k + 1) (L.flatMap encSh ++ encSh (((S.manyAt F k : Nat) : Int), some ⟨g, 0, none⟩, 1024, 1024))) (hg : w.grownBy W v.ownBlock) (hb : base ≤ g) (hr : w.heap[g]? = some (.cells (S.v8 (S.pgOf (C + UInt8.ofNat (u + k)))) 5 (0, 0))) : Shs W base v' F u C (k + 1) (L ++ [(((S.manyAt F k : Nat) : Int), some ⟨g, 0, none⟩, 1024, 1024)]) := by
  have keep : ∀ (j : Nat) (cur : Array Value), w.heap[j]? = some (.cells cur 5 (0, 0)) → W.heap[j]? = some (.cells cur 5 (0, 0)) := fun j cur hj => by
    refine (hg.block j (block_lt_of_row hj) (fun e => ?_)).trans hj
    obtain ⟨cc, hc⟩ := owns_type h.row e.symm
    rw [hj] at hc
    injection hc with hc
    injection hc with _ hty
    exact absurd hty (by decide)
  refine ⟨by rw [List.length_append, h.len]; rfl, by rw [List.flatMap_append]; simpa using ho, fun i y hy => ?_⟩
  by_cases hi : i < L.length
  · rw [List.getElem?_append_left hi] at hy
    obtain ⟨h1, bk, h2, h3, h4⟩ := h.at_ i y hy
    exact ⟨h1, bk, h2, h3, keep bk _ h4⟩
  · rw [List.getElem?_append_right (by omega)] at hy
    have hi0 : i - L.length = 0 := by
      cases e : i - L.length with
      | zero => rfl
      | succ n => rw [e] at hy; simp at hy
    rw [hi0] at hy
    have hik : i = k := by have := h.len; omega
    simp at hy
    subst hy hik
    exact ⟨rfl, g, rfl, hb, keep g _ hr⟩
theorem Shs.pgs {w : World} {base : Nat} {v : Value} {F u : Nat} {C : UInt8} {k : Nat} {L : List ShV} (h : Shs w base v F u C k L) : S.pgs L = S.manyL F k := by
  unfold S.pgs S.manyL
  refine List.ext_getElem? (fun i => ?_)
  rw [List.getElem?_map, List.getElem?_map]
  by_cases hi : i < L.length
  · have hy := List.getElem?_eq_getElem hi
    rw [hy, List.getElem?_range (by have := h.len; omega)]
    show some (L[i].1.toNat) = some (S.manyAt F i)
    rw [(h.at_ i _ hy).1]
    rfl
  · rw [List.getElem?_eq_none (by omega), List.getElem?_eq_none (by rw [List.length_range]; have := h.len; omega)]
    rfl
theorem many_nodup (F k : Nat) (hk : k ≤ 41) : (S.manyL F k).Nodup := by
  unfold S.manyL
  rw [List.nodup_iff_pairwise_ne, List.pairwise_map]
  refine List.Pairwise.imp_of_mem (R := (· < ·)) ?_ List.pairwise_lt_range
  intro a b ha hb hab e
  have := List.mem_range.1 ha
  have := List.mem_range.1 hb
  unfold S.manyAt at e
  omega
theorem Shs.nodup {w : World} {base : Nat} {v : Value} {F u : Nat} {C : UInt8} {k : Nat} {L : List ShV} (h : Shs w base v F u C k L) (hk : k ≤ 41) : (L.map (·.1)).Nodup := by
  have e : L.map (·.1) = (S.manyL F k).map (fun n : Nat => (n : Int)) := by
    rw [← h.pgs]
    unfold S.pgs
    rw [List.map_map]
    refine List.map_congr_left (fun x hx => ?_)
    obtain ⟨i, hi⟩ := List.getElem?_of_mem hx
    have := (h.at_ i x hi).1
    show x.1 = ((x.1.toNat : Nat) : Int)
    rw [this]
    rfl
  rw [e, List.nodup_iff_pairwise_ne, List.pairwise_map]
  exact (many_nodup F k hk).imp (fun hab e => hab (by omega))
theorem Shs.ok {w : World} {base : Nat} {v : Value} {F u : Nat} {C : UInt8} {k : Nat} {L : List ShV} (h : Shs w base v F u C k L) (hF : F ≤ 511) (hk : k ≤ 41) {o : Ow} (ho : ∀ j, o.has j → j < base) : ∀ x ∈ L, ShOk w o (S.manyX F C u) x := fun x hx => by
  obtain ⟨i, hi⟩ := List.getElem?_of_mem hx
  have hil : i < L.length := (List.getElem?_eq_some_iff.1 hi).1
  obtain ⟨h1, bk, h2, h3, h4⟩ := h.at_ i x hi
  have hlen := h.len
  obtain ⟨x1, x2⟩ := x
  simp only at h1 h2
  subst h1 h2
  refine ⟨by simp only; omega, by simp only [S.manyAt]; omega, rfl, ⟨bk, 0, rfl, fun e => by have := ho bk e; omega, block_lt_of_row h4⟩, ?_⟩
  rw [show S.manyX F C u (Int.toNat ((S.manyAt F i : Nat) : Int)) = S.pgOf (C + UInt8.ofNat (u + i)) from S.manyX_at F C u i hF (by omega)]
  exact slice_row h4 (S.pgOf_length _).symm (by rw [S.pgOf_length]; omega)
theorem Shs.cells {w : World} {base : Nat} {v : Value} {F u : Nat} {C : UInt8} {k : Nat} {L : List ShV} (h : Shs w base v F u C k L) (hk : 0 < k) : ∃ g c, v = .slice (some ⟨g, 0, none⟩) L.length c ∧ ∀ j x, (L.flatMap encSh)[j]? = some x → w.cell? ⟨g, 0 + j, none⟩ = some x := by
  rcases h.row.2 with ⟨_, h2⟩ | ⟨g, cap, cur, h1, h2, h3, h4, h5, h6, h7⟩
  · omega
  · refine ⟨g, cap, by rw [h1, h.len], fun j x hx => ?_⟩
    have hj : j < (L.flatMap encSh).length := (List.getElem?_eq_some_iff.1 hx).1
    rw [← h7] at hx hj
    rw [List.length_take] at hj
    rw [List.getElem?_take_of_lt (by omega), Array.getElem?_toList] at hx
    rw [Nat.zero_add, cell_of_row w g j _ 37 _ h3]
    exact hx
set_option maxHeartbeats 16000000 in
set_option maxRecDepth 10000 in
theorem pagesMany_walk (a b c : Int) (C : UInt8) (w : World) (ha1 : -9223372036854775808 ≤ a) (ha2 : a ≤ 9223372036854775807) (hb1 : -9223372036854775808 ≤ b) (hb2 : b ≤ 9223372036854775807) (hc1 : -9223372036854775808 ≤ c) (hc2 : c ≤ 9223372036854775807) (hK : KAt w) :
   Calls Tryz.prog 7 #[.int .i64 a, .int .i64 b, .int .i64 c, .int .u8 (C.toNat : Int)] w fun e w' => e = .returned (.bool true) ∧ Below w.heap.size w w' := by
  have HK := hide hK
  have HP : Hid (0 < w.heap.size) := hK.pos
  clear hK
  go_enter Tryz.func7, Tryz.ntmps7
  go_wp2_with fail
  refine (pbegun_go w HK.out).mono ?_
  rintro e w1 ⟨o, gs, rfl, hp1, hst1, hng, hgs⟩
  have P1 := hide hp1
  have ST1 := hide hst1
  have NG := hide hng
  clear hp1 hst1 hng hgs
  go_wp2_with fail
  refine (within_any a 40 w1 ha1 ha2 (by omega) (by omega)).mono ?_
  rintro e w2 ⟨rfl, rfl⟩
  obtain ⟨N, hN⟩ : ∃ N : Nat, N = S.within a 40 + 1 := ⟨_, rfl⟩
  have hNb : 1 ≤ N ∧ N ≤ 41 := by have := S.within_le a 40 (by omega); omega
  have q0 : ((S.within a 40 : Nat) : Int) + 1 = (N : Int) := by omega
  clear hN ha1 ha2
  go_wp2_with fail
  refine (within_any b 511 w1 hb1 hb2 (by omega) (by omega)).mono ?_
  rintro e w2 ⟨rfl, rfl⟩
  obtain ⟨F, hF⟩ : ∃ F : Nat, F = S.within b 511 := ⟨_, rfl⟩
  have hFb : F ≤ 511 := by have := S.within_le b 511 (by omega); omega
  rw [← hF]
  clear hF hb1 hb2 q0
  go_wp2_with fail
  refine (within_any c 4 w1 hc1 hc2 (by omega) (by omega)).mono ?_
  rintro e w2 ⟨rfl, rfl⟩
  obtain ⟨T, hT⟩ : ∃ T : Nat, T = S.within c 4 := ⟨_, rfl⟩
  have hTb : T ≤ 4 := by have := S.within_le c 4 (by omega); omega
  rw [← hT]
  clear hT hc1 hc2
  go_wp2_with fail
  go_loopw [12] (fun i wr => ∃ u : Nat, u ≤ T + 1 ∧ i = .int .i64 (u : Int) ∧ ∃ o1 d1, o1.g = o.g ∧ Pg w wr o1 d1 0 (2 * u) (S.manyPg F N C u) ∧ StAt wr gs o1 ∧ ¬ o1.has gs) (fun i _ => T + 1 - (intOf i).toNat)
  case atStart => exact ⟨0, by omega, rfl, o, _, rfl, P1.out, ST1.out, NG.out⟩
  case round =>
  obtain ⟨u, hu, rfl, o1, d1, hog, hp1, hst1, hng1⟩ := hrel
  have OG := hide hog
  have P2 := hide hp1
  have ST2 := hide hst1
  have NG1 := hide hng1
  clear hog hp1 hst1 hng1 P1 ST1 NG
  by_cases huT : u ≤ T
  · have q1 : (u : Int) ≤ (T : Int) := by omega
    obtain ⟨B, hB⟩ : ∃ B, B = wr.heap.size := ⟨_, rfl⟩
    have OB : Hid (∀ j, o1.has j → j < B) := fun j hj => by rw [hB]; exact P2.out.dk.dk.lt j hj
    have BB : Hid (B ≤ wr.heap.size) := by rw [hB]; exact Nat.le_refl _
    have WB : Hid (w.heap.size ≤ B) := by rw [hB]; exact P2.out.below.size
    have GSB : Hid (gs < B) := by rw [hB]; exact block_lt_of_row ST2.out
    clear hB
    go_wp2_with fail
    go_loopw [13, 14] (fun lv i wq => ∃ k : Nat, k ≤ N ∧ i = .int .i64 (k : Int) ∧ B ≤ wq.heap.size ∧ Pg w wq o1 d1 0 (2 * u) (S.manyPg F N C u) ∧ StAt wq gs o1 ∧ ∃ L, Shs wq B lv F u C k L) (fun _ i _ => N - (intOf i).toNat)
    case atStart => exact ⟨0, by omega, rfl, BB.out, P2.out, ST2.out, [], Shs.nil _ _ _ _ _⟩
    case round =>
    obtain ⟨k, hk, rfl, hbq, hpq, hstq, L, hsh⟩ := hrel
    have BQ := hide hbq
    have PQ := hide hpq
    have STQ := hide hstq
    have SQ := hide hsh
    clear hbq hpq hstq hsh P2 ST2 BB
    by_cases hkN : k < N
    · have q2 : (k : Int) < (N : Int) := by omega
      obtain ⟨n, hn⟩ : ∃ n : Nat, n = S.manyAt F k := ⟨_, rfl⟩
      have q3 : ((F : Int) + 3 * (k : Int)).tmod 512 = (n : Int) := by rw [hn, Int.tmod_eq_emod_of_nonneg (by omega)]; unfold S.manyAt; omega
      obtain ⟨CC, hCC⟩ : ∃ CC : UInt8, CC = C + UInt8.ofNat (u + k) := ⟨_, rfl⟩
      have q4 : ((C.toNat : Int) + ((u : Int) + (k : Int))) % 256 = (CC.toNat : Int) := by rw [hCC]; exact S.many_byte C u k
      have HN := hide hn
      have HCC := hide hCC
      clear hn hCC
      go_wp2_with fail
      clear q3 q4
      refine (page_any CC wr).mono ?_
      rintro e w3 ⟨gp, rfl, hgp, hrp, b3⟩
      have P3 := hide (PQ.out.then b3)
      have ST3 : Hid (StAt w3 gs o1) := (b3.block gs (block_lt_of_row STQ.out)).trans STQ.out
      have S3 := hide (SQ.out.below b3)
      have RP3 := hide hrp
      have GPB : Hid (B ≤ gp) := Nat.le_trans BQ.out hgp
      have B3 : Hid (B ≤ w3.heap.size) := Nat.le_trans BQ.out b3.size
      obtain ⟨w4, hw4⟩ : ∃ w4, w4 = w3.alloc (.cells #[.int .i64 (n : Int), .slice (some ⟨gp, 0, none⟩) 1024 1024] 37) := ⟨_, rfl⟩
      have b4 : Below w3.heap.size w3 w4 := by rw [hw4]; exact (Below.refl _ _).alloc (Nat.le_refl _) _
      have r4 : w4.heap[w3.heap.size]? = some (.cells #[.int .i64 (n : Int), .slice (some ⟨gp, 0, none⟩) 1024 1024] 37 (0, 0)) := by rw [hw4]; exact heap_alloc_new _ _
      have P4 := hide (P3.out.then b4)
      have ST4 : Hid (StAt w4 gs o1) := (b4.block gs (block_lt_of_row ST3.out)).trans ST3.out
      have S4 := hide (S3.out.below b4)
      have RP4 : Hid (w4.heap[gp]? = some (.cells (S.v8 (S.pgOf CC)) 5 (0, 0))) := (b4.block gp (block_lt_of_row RP3.out)).trans RP3.out
      have B4 : Hid (B ≤ w4.heap.size) := Nat.le_trans B3.out b4.size
      have APP := hide (run_append_sh w4 B w3.heap.size (((n : Nat) : Int), some ⟨gp, 0, none⟩, 1024, 1024) 38 u13 _ _ S4.out.row (by omega) B4.out r4)
      have HW4 := hide hw4
      clear b3 b4 r4 hw4 hgp hrp PQ STQ SQ BQ P3 ST3 S3 RP3 B3
      go_wp2_with (at_builtin; (rw [← HW4.out]; refine wpList_append_known rfl (.tmp 48) (.tmp 62) 38 38 rfl _ _ rfl rfl APP.out ?_; rintro v5 w5 ⟨ho5, hg5⟩; have O5 := hide ho5; have G5 := hide hg5; clear ho5 hg5))
      have LT4 := S4.out.row.lt
      have C5 : Hid (Chg (fun j => u13.ownBlock = some j) w4 w5) := grown_chg G5.out
      have P5 : Hid (Pg w w5 o1 d1 0 (2 * u) (S.manyPg F N C u)) := P4.out.chgd C5.out (fun j hj e => by
        have h1 := (LT4 j e).1
        rcases hj with hj | hj
        · have := OB.out j hj; omega
        · have := WB.out; omega)
      have ST5 : Hid (StAt w5 gs o1) := C5.out.row ST4.out (fun e => by have := (LT4 gs e).1; have := GSB.out; omega)
      have B5 : Hid (B ≤ w5.heap.size) := Nat.le_trans B4.out C5.out.size
      have S5 : Hid (Shs w5 B v5 F u C (k + 1) (L ++ [(((S.manyAt F k : Nat) : Int), some ⟨gp, 0, none⟩, 1024, 1024)])) := S4.out.snoc (by have := O5.out; rw [HN.out] at this; exact this) G5.out GPB.out (by have := RP4.out; rw [HCC.out] at this; exact this)
      clear APP LT4 O5 G5 C5 P4 ST4 S4 RP4 B4 GPB HW4
      go_roundw
      case rel => exact ⟨k + 1, by omega, by go_num, B5.out, P5.out, ST5.out, _, S5.out⟩
      case measure => simp [intOf]; omega
    · obtain rfl : k = N := by omega
      have q2 : ¬ ((k : Int) < (k : Int)) := by omega
      obtain ⟨g, cp, hv, hc⟩ := SQ.out.cells (by omega)
      subst hv
      have HC := hide hc
      have LNE : Hid (L ≠ []) := fun e => by have := SQ.out.len; rw [e] at this; simp at this; omega
      clear hc
      go_wp2_with fail
      refine (pput_go w wr o1 d1 0 (2 * u) gs g 0 cp L _ (S.manyX F C u) PQ.out STQ.out HC.out LNE.out (by have := SQ.out.len; omega) (SQ.out.ok hFb hNb.2 OB.out) (SQ.out.nodup hNb.2) NG1.out (by omega)).mono ?_
      rintro e w5 ⟨rfl, o5, d5, hg5, hp5, hst5, hc5, ho5⟩
      rw [SQ.out.pgs, S.manyPg_succ, show 2 * u + 2 = 2 * (u + 1) by omega] at hp5
      have P5 := hide hp5
      have ST5 := hide hst5
      have OG5 : Hid (o5.g = o.g) := hg5.trans OG.out
      have NG5 : Hid (¬ o5.has gs) := fun e => by
        rcases ho5 _ e with e | e
        · exact NG1.out e
        · have := block_lt_of_row STQ.out; omega
      clear hg5 hp5 hst5 hc5 ho5 PQ STQ SQ HC LNE
      go_wp2_with fail
      go_roundw
      case rel => exact ⟨u + 1, by omega, by go_num, o5, d5, OG5.out, P5.out, ST5.out, NG5.out⟩
      case measure => simp [intOf]; omega
  · obtain rfl : u = T + 1 := by omega
    have q1 : ¬ (((T + 1 : Nat) : Int) ≤ (T : Int)) := by omega
    have hpt : o1.ptr = o.ptr := by unfold Ow.ptr; rw [OG.out]
    rw [← hpt]
    clear hpt
    go_wp2_with fail
    refine (popen_go w wr o1 d1 0 (2 * (T + 1)) _ P2.out).mono ?_
    rintro e w3 ⟨gt, rfl, hst3, hgt, hp3, b3⟩
    have P3 := hide hp3
    have TT3 := hide hst3
    have ST3 : Hid (StAt w3 gs o1) := (b3.block gs (block_lt_of_row ST2.out)).trans ST2.out
    clear hst3 hgt hp3 b3 P2 ST2
    obtain ⟨o4, ho4⟩ : ∃ o4, o4 = o1 := ⟨_, rfl⟩
    rw [← ho4] at P3 TT3 ST3
    clear ho4 NG1 OG
    go_wp2_with fail
    go_loopw [17] (fun i wq => ∃ k : Nat, k ≤ N ∧ i = .int .i64 (k : Int) ∧ Pg w wq o4 d1 0 (2 * (T + 1)) (S.manyPg F N C (T + 1)) ∧ StAt wq gs o4 ∧ StAt wq gt o4) (fun i _ => N - (intOf i).toNat)
    case atStart => exact ⟨0, by omega, rfl, P3.out, ST3.out, TT3.out⟩
    case round =>
    obtain ⟨k, hk, rfl, hpq, hstq, httq⟩ := hrel
    have PQ := hide hpq
    have STQ := hide hstq
    have TTQ := hide httq
    clear hpq hstq httq P3 ST3 TT3
    by_cases hkN : k < N
    · have q2 : (k : Int) < (N : Int) := by omega
      obtain ⟨n, hn⟩ : ∃ n : Nat, n = S.manyAt F k := ⟨_, rfl⟩
      have hn5 : n < 512 := by rw [hn]; unfold S.manyAt; omega
      have q3 : ((F : Int) + 3 * (k : Int)).tmod 512 = (n : Int) := by rw [hn, Int.tmod_eq_emod_of_nonneg (by omega)]; unfold S.manyAt; omega
      obtain ⟨CC, hCC⟩ : ∃ CC : UInt8, CC = C + UInt8.ofNat (T + k) := ⟨_, rfl⟩
      have HCC : Hid ((CC.toNat : Int) = IntKind.u8.wrap ((C.toNat : Int) + IntKind.u8.wrap (IntKind.i64.wrap ((T : Int) + (k : Int))))) := by
        show (CC.toNat : Int) = _
        rw [hCC, ← S.many_byte C T k, show IntKind.i64.wrap ((T : Int) + (k : Int)) = (T : Int) + (k : Int) by rw [IntKind.wrap_i64]; omega, IntKind.wrap_u8, IntKind.wrap_u8]
        omega
      obtain ⟨X, hX⟩ : ∃ X, X = S.pgOf CC := ⟨_, rfl⟩
      have HX := hide hX
      have HPX : Hid (S.manyPg F N C (T + 1) n = X) := by rw [hX, hCC, hn]; exact S.manyPg_at F N C T k hFb hNb.2 hkN
      clear hn hCC
      go_wp2_with fail
      refine (pread_go w wr o4 d1 0 (2 * (T + 1)) gs n _ PQ.out STQ.out hn5).mono ?_
      rintro e w6 ⟨ga, rfl, hga, hra, hp6, hst6, b6⟩
      rw [HPX.out] at hra
      have P6 := hide hp6
      have ST6 := hide hst6
      have TT6 : Hid (StAt w6 gt o4) := (b6.block gt (block_lt_of_row TTQ.out)).trans TTQ.out
      have XL : Hid (X.length = 1024) := by rw [hX]; exact S.pgOf_length CC
      have SA6 : Hid (SliceAt w6 (.slice (some ⟨ga, 0, none⟩) 1024 1024) X) := by
        have h1 := hra.sliceAt (by rw [XL.out]; omega)
        rw [XL.out] at h1
        exact h1
      clear hga hra hp6 hst6 b6 PQ STQ TTQ hX
      go_wp2_with fail
      refine (pread_go w w6 o4 d1 0 (2 * (T + 1)) gt n _ P6.out TT6.out hn5).mono ?_
      rintro e w7 ⟨gc, rfl, hgc, hrc, hp7, hst7, b7⟩
      rw [HPX.out] at hrc
      have P7 := hide hp7
      have TT7 := hide hst7
      have ST7 : Hid (StAt w7 gs o4) := (b7.block gs (block_lt_of_row ST6.out)).trans ST6.out
      have SA := hide (SA6.out.below b7 (Nat.le_refl _))
      have SC : Hid (SliceAt w7 (.slice (some ⟨gc, 0, none⟩) 1024 1024) X) := by
        have h1 := hrc.sliceAt (by rw [XL.out]; omega)
        rw [XL.out] at h1
        exact h1
      clear hgc hrc hp7 hst7 b7 P6 ST6 TT6 SA6 q3
      go_upto_region 25 with fail
      refine wp_region_noPanic ?_
      refine wp_region_held_drew (S := (fun W => SliceAt W (.slice (some ⟨ga, 0, none⟩) 1024 1024) X ∧ SliceAt W (.slice (some ⟨gc, 0, none⟩) 1024 1024) X)) follows ⟨SA.out, SC.out⟩ (fun hHeld => ?_)
      have Pd := hide (P7.out.then (Below.refl w7.heap.size w7).drew)
      have STd : Hid (StAt w7.drew gs o4) := ST7.out
      have TTd : Hid (StAt w7.drew gt o4) := TT7.out
      clear P7 SA SC ST7 TT7
      generalize w7.drew = Z1 at Pd STd TTd hHeld ⊢
      refine wpAnyH_take (i := 0) (oi := { dst := some 104, op := Op.move (Operand.tmp 18), type := 31, pos := "law.go:255", after := #[], guard := none }) (v := ?_) rfl (by kernel_rfl) (by kernel_rfl) (by kernel_rfl) (fun _ _ _ h => h) (Or.inl ⟨by rfl, ?_⟩) (by assumption) ?_
      rotate_left
      · intro w hSw
        clear hSw
        go_simp
        all_goals with_reducible rfl
      simp only [Act.put, List.setIfInBounds_toArray, List.set_cons_zero, List.set_cons_succ]
      refine wpAnyH_take (i := 1) (oi := { dst := some 105, op := Op.convert 31 9 (Operand.tmp 104), type := 9, pos := "law.go:255", after := #[{ on := 0, ground := Ground.data }], guard := none }) (v := .string ⟨(X).toArray⟩) rfl (by kernel_rfl) (by kernel_rfl) (by kernel_rfl) (fun _ _ _ h => h) (yieldsIf_conv (by kernel_rfl) (.tmp 104) rfl (.slice (some ⟨ga, 0, none⟩) 1024 1024) rfl (X) (fun W hW => hW.1)) (by assumption) ?_
      simp only [Act.put, List.setIfInBounds_toArray, List.set_cons_zero, List.set_cons_succ]
      refine wpAnyH_take (i := 2) (oi := { dst := some 106, op := Op.move (Operand.tmp 3), type := 5, pos := "law.go:255", after := #[], guard := none }) (v := ?_) rfl (by kernel_rfl) (by kernel_rfl) (by kernel_rfl) (fun _ _ _ h => h) (Or.inl ⟨by rfl, ?_⟩) (by assumption) ?_
      rotate_left
      · intro w hSw
        clear hSw
        go_simp
        all_goals with_reducible rfl
      simp only [Act.put, List.setIfInBounds_toArray, List.set_cons_zero, List.set_cons_succ]
      refine wpAnyH_take (i := 3) (oi := { dst := some 107, op := Op.move (Operand.tmp 2), type := 3, pos := "law.go:255", after := #[], guard := none }) (v := ?_) rfl (by kernel_rfl) (by kernel_rfl) (by kernel_rfl) (fun _ _ _ h => h) (Or.inl ⟨by rfl, ?_⟩) (by assumption) ?_
      rotate_left
      · intro w hSw
        clear hSw
        go_simp
        all_goals with_reducible rfl
      simp only [Act.put, List.setIfInBounds_toArray, List.set_cons_zero, List.set_cons_succ]
      refine wpAnyH_take (i := 4) (oi := { dst := some 108, op := Op.move (Operand.tmp 17), type := 3, pos := "law.go:255", after := #[], guard := none }) (v := ?_) rfl (by kernel_rfl) (by kernel_rfl) (by kernel_rfl) (fun _ _ _ h => h) (Or.inl ⟨by rfl, ?_⟩) (by assumption) ?_
      rotate_left
      · intro w hSw
        clear hSw
        go_simp
        all_goals with_reducible rfl
      simp only [Act.put, List.setIfInBounds_toArray, List.set_cons_zero, List.set_cons_succ]
      refine wpAnyH_take (i := 5) (oi := { dst := some 109, op := Op.binOp BinOp.add 3 (Operand.tmp 107) (Operand.tmp 108) 3, type := 3, pos := "law.go:255", after := #[{ on := 3, ground := Ground.data }, { on := 4, ground := Ground.data }], guard := none }) (v := ?_) rfl (by kernel_rfl) (by kernel_rfl) (by kernel_rfl) (fun _ _ _ h => h) (Or.inl ⟨by rfl, ?_⟩) (by assumption) ?_
      rotate_left
      · intro w hSw
        clear hSw
        go_simp
        all_goals with_reducible rfl
      simp only [Act.put, List.setIfInBounds_toArray, List.set_cons_zero, List.set_cons_succ]
      refine wpAnyH_take (i := 6) (oi := { dst := some 110, op := Op.convert 3 5 (Operand.tmp 109), type := 5, pos := "law.go:255", after := #[{ on := 5, ground := Ground.data }], guard := none }) (v := ?_) rfl (by kernel_rfl) (by kernel_rfl) (by kernel_rfl) (fun _ _ _ h => h) (Or.inl ⟨by rfl, ?_⟩) (by assumption) ?_
      rotate_left
      · intro w hSw
        clear hSw
        go_simp
        all_goals with_reducible rfl
      simp only [Act.put, List.setIfInBounds_toArray, List.set_cons_zero, List.set_cons_succ]
      refine wpAnyH_take (i := 7) (oi := { dst := some 111, op := Op.binOp BinOp.add 5 (Operand.tmp 106) (Operand.tmp 110) 5, type := 5, pos := "law.go:255", after := #[{ on := 2, ground := Ground.data }, { on := 6, ground := Ground.data }], guard := none }) (v := ?_) rfl (by kernel_rfl) (by kernel_rfl) (by kernel_rfl) (fun _ _ _ h => h) (Or.inl ⟨by rfl, ?_⟩) (by assumption) ?_
      rotate_left
      · intro w hSw
        clear hSw
        go_simp
        all_goals with_reducible rfl
      simp only [Act.put, List.setIfInBounds_toArray, List.set_cons_zero, List.set_cons_succ]
      refine wpAnyH_ready (rs := [8]) (by kernel_rfl) (by simp) ?_
      refine AllReadyH.cons (o := { dst := some 112, op := Op.call { callee := Callee.value (Operand.func 13), args := #[Operand.tmp 111], argTypes := #[5] }, type := 31, pos := "law.go:255", after := #[{ on := 7, ground := Ground.data }], guard := none }) rfl (fun K hK => ?_) AllReadyH.nil
      go_simp
      rw [← HCC.out]
      refine (page_any CC Z1).mono ?_
      rintro e Z2 ⟨g9, rfl, hg9, hr9, b9⟩
      have a2 : SliceAt Z2 (.slice (some ⟨ga, 0, none⟩) 1024 1024) X ∧ SliceAt Z2 (.slice (some ⟨gc, 0, none⟩) 1024 1024) X := ⟨hHeld.1.below b9 (Nat.le_refl _), hHeld.2.below b9 (Nat.le_refl _)⟩
      have P2 := hide (Pd.out.then b9)
      have ST2 : Hid (StAt Z2 gs o4) := (b9.block gs (block_lt_of_row STd.out)).trans STd.out
      have TT2 : Hid (StAt Z2 gt o4) := (b9.block gt (block_lt_of_row TTd.out)).trans TTd.out
      have hs9 : SliceAt Z2 (.slice (some ⟨g9, 0, none⟩) 1024 1024) (S.pgOf CC) := slice_row hr9 (S.pgOf_length CC).symm (by rw [S.pgOf_length]; omega)
      rw [← HX.out] at hs9
      have hcv := conv_slice hs9
      clear hHeld hr9 b9 hg9 Pd STd TTd hs9
      refine hK.out _ _ a2 (fun hHeld => ?_)
      clear hK K
      try simp only [Act.put, List.setIfInBounds_toArray, List.set_cons_zero, List.set_cons_succ]
      clear a2
      refine wpAnyH_ready (rs := [9]) (by kernel_rfl) (by simp) ?_
      refine AllReadyH.cons (o := { dst := some 113, op := Op.convert 31 9 (Operand.tmp 112), type := 9, pos := "law.go:255", after := #[{ on := 8, ground := Ground.data }], guard := none }) rfl (fun K hK => ?_) AllReadyH.nil
      go_simp
      clear hcv
      refine hK.out _ _ hHeld (fun hHeld => ?_)
      clear hK K
      try simp only [Act.put, List.setIfInBounds_toArray, List.set_cons_zero, List.set_cons_succ]
      refine wpAnyH_take (i := 10) (oi := { dst := some 114, op := Op.binOp BinOp.neq 9 (Operand.tmp 105) (Operand.tmp 113) 9, type := 4, pos := "law.go:255", after := #[{ on := 1, ground := Ground.data }, { on := 9, ground := Ground.data }], guard := none }) (v := ?_) rfl (by kernel_rfl) (by kernel_rfl) (by kernel_rfl) (fun _ _ _ h => h) (Or.inl ⟨by rfl, ?_⟩) (by assumption) ?_
      rotate_left
      · intro w hSw
        clear hSw
        go_simp
        all_goals with_reducible rfl
      simp only [Act.put, List.setIfInBounds_toArray, List.set_cons_zero, List.set_cons_succ]
      refine wpAnyH_take (i := 11) (oi := { dst := some 115, op := Op.move (Operand.tmp 114), type := 4, pos := "law.go:255", after := #[{ on := 10, ground := Ground.data }, { on := 8, ground := Ground.chain }], guard := none }) (v := ?_) rfl (by kernel_rfl) (by kernel_rfl) (by kernel_rfl) (fun _ _ _ h => h) (Or.inl ⟨by rfl, ?_⟩) (by assumption) ?_
      rotate_left
      · intro w hSw
        clear hSw
        go_simp
        all_goals with_reducible rfl
      simp only [Act.put, List.setIfInBounds_toArray, List.set_cons_zero, List.set_cons_succ]
      refine wpAnyH_take (i := 12) (oi := { dst := some 116, op := Op.move (Operand.tmp 18), type := 31, pos := "law.go:255", after := #[{ on := 11, ground := Ground.guard }], guard := some (11, false) }) (v := ?_) rfl (by kernel_rfl) (by kernel_rfl) (by kernel_rfl) (fun _ _ _ h => h) (Or.inl ⟨by rfl, ?_⟩) (by assumption) ?_
      rotate_left
      · intro w hSw
        clear hSw
        go_simp
        all_goals with_reducible rfl
      simp only [Act.put, List.setIfInBounds_toArray, List.set_cons_zero, List.set_cons_succ]
      refine wpAnyH_take (i := 13) (oi := { dst := some 117, op := Op.convert 31 9 (Operand.tmp 116), type := 9, pos := "law.go:255", after := #[{ on := 12, ground := Ground.data }, { on := 11, ground := Ground.guard }], guard := some (11, false) }) (v := .string ⟨(X).toArray⟩) rfl (by kernel_rfl) (by kernel_rfl) (by kernel_rfl) (fun _ _ _ h => h) (yieldsIf_conv (by kernel_rfl) (.tmp 116) rfl (.slice (some ⟨ga, 0, none⟩) 1024 1024) rfl (X) (fun W hW => hW.1)) (by assumption) ?_
      simp only [Act.put, List.setIfInBounds_toArray, List.set_cons_zero, List.set_cons_succ]
      refine wpAnyH_take (i := 14) (oi := { dst := some 118, op := Op.move (Operand.tmp 20), type := 31, pos := "law.go:255", after := #[{ on := 11, ground := Ground.guard }], guard := some (11, false) }) (v := ?_) rfl (by kernel_rfl) (by kernel_rfl) (by kernel_rfl) (fun _ _ _ h => h) (Or.inl ⟨by rfl, ?_⟩) (by assumption) ?_
      rotate_left
      · intro w hSw
        clear hSw
        go_simp
        all_goals with_reducible rfl
      simp only [Act.put, List.setIfInBounds_toArray, List.set_cons_zero, List.set_cons_succ]
      refine wpAnyH_take (i := 15) (oi := { dst := some 119, op := Op.convert 31 9 (Operand.tmp 118), type := 9, pos := "law.go:255", after := #[{ on := 14, ground := Ground.data }, { on := 11, ground := Ground.guard }], guard := some (11, false) }) (v := .string ⟨(X).toArray⟩) rfl (by kernel_rfl) (by kernel_rfl) (by kernel_rfl) (fun _ _ _ h => h) (yieldsIf_conv (by kernel_rfl) (.tmp 118) rfl (.slice (some ⟨gc, 0, none⟩) 1024 1024) rfl (X) (fun W hW => hW.2)) (by assumption) ?_
      simp only [Act.put, List.setIfInBounds_toArray, List.set_cons_zero, List.set_cons_succ]
      refine wpAnyH_take (i := 16) (oi := { dst := some 120, op := Op.binOp BinOp.neq 9 (Operand.tmp 117) (Operand.tmp 119) 9, type := 4, pos := "law.go:255", after := #[{ on := 13, ground := Ground.data }, { on := 15, ground := Ground.data }, { on := 11, ground := Ground.guard }], guard := some (11, false) }) (v := ?_) rfl (by kernel_rfl) (by kernel_rfl) (by kernel_rfl) (fun _ _ _ h => h) (Or.inl ⟨by rfl, ?_⟩) (by assumption) ?_
      rotate_left
      · intro w hSw
        clear hSw
        go_simp
        all_goals with_reducible rfl
      simp only [Act.put, List.setIfInBounds_toArray, List.set_cons_zero, List.set_cons_succ]
      refine wpAnyH_take (i := 17) (oi := { dst := some 121, op := Op.pick (Operand.tmp 115) (Operand.const (Value.bool true)) (Operand.tmp 120), type := 4, pos := "law.go:255", after := #[{ on := 11, ground := Ground.data }, { on := 16, ground := Ground.data }], guard := none }) (v := ?_) rfl (by kernel_rfl) (by kernel_rfl) (by kernel_rfl) (fun _ _ _ h => h) (Or.inl ⟨by rfl, ?_⟩) (by assumption) ?_
      rotate_left
      · intro w hSw
        clear hSw
        go_simp
        all_goals with_reducible rfl
      simp only [Act.put, List.setIfInBounds_toArray, List.set_cons_zero, List.set_cons_succ]
      refine wpAnyH_done (by kernel_rfl) ?_ _
      refine NoPanic.normal ?_
      clear hHeld
      go_wp2_with fail
      go_roundw
      case rel => exact ⟨k + 1, by omega, by go_num, P2.out, ST2.out, TT2.out⟩
      case measure => simp [intOf]; omega
    · obtain rfl : k = N := by omega
      have q2 : ¬ ((k : Int) < (k : Int)) := by omega
      obtain ⟨n, hn⟩ : ∃ n : Nat, n = (F + 1) % 512 := ⟨_, rfl⟩
      have hn5 : n < 512 := by omega
      have q3 : ((F : Int) + 1).tmod 512 = (n : Int) := by rw [Int.tmod_eq_emod_of_nonneg (by omega)]; omega
      obtain ⟨Y, hY⟩ : ∃ Y, Y = S.zeros 1024 := ⟨_, rfl⟩
      have HY := hide hY
      have YL : Hid (Y.length = 1024) := by rw [hY]; exact S.zeros_length _
      have HPY : Hid (S.manyPg F k C (T + 1) n = Y) := by rw [hY, hn]; exact S.manyPg_next F k C (T + 1) hNb.2
      clear hn hY
      go_wp2_with fail
      refine (pread_go w wr o4 d1 0 (2 * (T + 1)) gt n _ PQ.out TTQ.out hn5).mono ?_
      rintro e w9 ⟨ga, rfl, hga, hra, hp9, hst9, b9⟩
      rw [HPY.out] at hra
      have SY : Hid (SliceAt w9 (.slice (some ⟨ga, 0, none⟩) 1024 1024) Y) := by
        have h1 := hra.sliceAt (by rw [YL.out]; omega)
        rw [YL.out] at h1
        exact h1
      have B9 : Hid (Below w.heap.size w w9) := hp9.below
      clear hga hra hp9 hst9 b9 PQ STQ TTQ q3
      go_upto_region 28 with fail
      refine wp_region_noPanic ?_
      refine wp_region_held_drew (S := (fun W => SliceAt W (.slice (some ⟨ga, 0, none⟩) 1024 1024) Y)) follows SY.out (fun hHeld => ?_)
      have Bd : Hid (Below w.heap.size w w9.drew) := B9.out.drew
      clear B9 SY
      generalize w9.drew = Z1 at Bd hHeld ⊢
      refine wpAnyH_take (i := 0) (oi := { dst := some 130, op := Op.move (Operand.tmp 23), type := 26, pos := "law.go:260", after := #[], guard := none }) (v := ?_) rfl (by kernel_rfl) (by kernel_rfl) (by kernel_rfl) (fun _ _ _ h => h) (Or.inl ⟨by rfl, ?_⟩) (by assumption) ?_
      rotate_left
      · intro w hSw
        clear hSw
        go_simp
        all_goals with_reducible rfl
      simp only [Act.put, List.setIfInBounds_toArray, List.set_cons_zero, List.set_cons_succ]
      refine wpAnyH_take (i := 1) (oi := { dst := some 131, op := Op.binOp BinOp.eql 26 (Operand.tmp 130) (Operand.const (Value.int IntKind.i64 0)) 26, type := 4, pos := "law.go:260", after := #[{ on := 0, ground := Ground.data }], guard := none }) (v := ?_) rfl (by kernel_rfl) (by kernel_rfl) (by kernel_rfl) (fun _ _ _ h => h) (Or.inl ⟨by rfl, ?_⟩) (by assumption) ?_
      rotate_left
      · intro w hSw
        clear hSw
        go_simp
        all_goals with_reducible rfl
      simp only [Act.put, List.setIfInBounds_toArray, List.set_cons_zero, List.set_cons_succ]
      refine wpAnyH_take (i := 2) (oi := { dst := some 132, op := Op.move (Operand.tmp 131), type := 4, pos := "law.go:260", after := #[{ on := 1, ground := Ground.data }], guard := none }) (v := ?_) rfl (by kernel_rfl) (by kernel_rfl) (by kernel_rfl) (fun _ _ _ h => h) (Or.inl ⟨by rfl, ?_⟩) (by assumption) ?_
      rotate_left
      · intro w hSw
        clear hSw
        go_simp
        all_goals with_reducible rfl
      simp only [Act.put, List.setIfInBounds_toArray, List.set_cons_zero, List.set_cons_succ]
      refine wpAnyH_take (i := 3) (oi := { dst := some 133, op := Op.move (Operand.tmp 22), type := 31, pos := "law.go:260", after := #[{ on := 2, ground := Ground.guard }], guard := some (2, true) }) (v := ?_) rfl (by kernel_rfl) (by kernel_rfl) (by kernel_rfl) (fun _ _ _ h => h) (Or.inl ⟨by rfl, ?_⟩) (by assumption) ?_
      rotate_left
      · intro w hSw
        clear hSw
        go_simp
        all_goals with_reducible rfl
      simp only [Act.put, List.setIfInBounds_toArray, List.set_cons_zero, List.set_cons_succ]
      refine wpAnyH_take (i := 4) (oi := { dst := some 134, op := Op.convert 31 9 (Operand.tmp 133), type := 9, pos := "law.go:260", after := #[{ on := 3, ground := Ground.data }, { on := 2, ground := Ground.guard }], guard := some (2, true) }) (v := .string ⟨(Y).toArray⟩) rfl (by kernel_rfl) (by kernel_rfl) (by kernel_rfl) (fun _ _ _ h => h) (yieldsIf_conv (by kernel_rfl) (.tmp 133) rfl (.slice (some ⟨ga, 0, none⟩) 1024 1024) rfl (Y) (fun W hW => hW)) (by assumption) ?_
      simp only [Act.put, List.setIfInBounds_toArray, List.set_cons_zero, List.set_cons_succ]
      refine wpAnyH_ready (rs := [5]) (by kernel_rfl) (by simp) ?_
      refine AllReadyH.cons (o := { dst := some 135, op := Op.makeSlice 31 (Operand.const (Value.int IntKind.i64 1024)) (Operand.const (Value.int IntKind.i64 1024)), type := 31, pos := "law.go:260", after := #[{ on := 2, ground := Ground.guard }], guard := some (2, true) }) rfl (fun K hK => ?_) AllReadyH.nil
      have hmk : (Instr.makeSlice 31 (.int .i64 1024) (.int .i64 1024)).run Tryz.prog Z1 = .ok (.slice (some ⟨Z1.heap.size, 0, none⟩) 1024 1024) (Z1.alloc (.cells (S.v8 (S.zeros 1024)) 5)) := make_bytes_big 1024 (by omega) Z1
      go_simp
      obtain ⟨Z3, hZ3⟩ : ∃ Z3, Z3 = Z1.alloc (.cells (S.v8 (S.zeros 1024)) 5) := ⟨_, rfl⟩
      have b3 : Below Z1.heap.size Z1 Z3 := by rw [hZ3]; exact (Below.refl _ _).alloc (Nat.le_refl _) _
      have r3 : Z3.heap[Z1.heap.size]? = some (.cells (S.v8 (S.zeros 1024)) 5 (0, 0)) := by rw [hZ3]; exact heap_alloc_new _ _
      have a3 : SliceAt Z3 (.slice (some ⟨ga, 0, none⟩) 1024 1024) Y := hHeld.below b3 (Nat.le_refl _)
      have B3 := hide (Bd.out.trans (b3.mono Bd.out.size))
      have hs3 : SliceAt Z3 (.slice (some ⟨Z1.heap.size, 0, none⟩) 1024 1024) (S.zeros 1024) := slice_row r3 (S.zeros_length _).symm (by rw [S.zeros_length]; omega)
      rw [← HY.out] at hs3
      have hcv := conv_slice hs3
      rw [← hZ3]
      clear hHeld r3 b3 hs3 Bd hmk hZ3
      refine hK.out _ _ a3 (fun hHeld => ?_)
      clear hK K
      try simp only [Act.put, List.setIfInBounds_toArray, List.set_cons_zero, List.set_cons_succ]
      clear a3
      refine wpAnyH_ready (rs := [6]) (by kernel_rfl) (by simp) ?_
      refine AllReadyH.cons (o := { dst := some 136, op := Op.convert 31 9 (Operand.tmp 135), type := 9, pos := "law.go:260", after := #[{ on := 5, ground := Ground.data }, { on := 2, ground := Ground.guard }], guard := some (2, true) }) rfl (fun K hK => ?_) AllReadyH.nil
      go_simp
      clear hcv
      refine hK.out _ _ hHeld (fun hHeld => ?_)
      clear hK K
      try simp only [Act.put, List.setIfInBounds_toArray, List.set_cons_zero, List.set_cons_succ]
      refine wpAnyH_take (i := 7) (oi := { dst := some 137, op := Op.binOp BinOp.eql 9 (Operand.tmp 134) (Operand.tmp 136) 9, type := 4, pos := "law.go:260", after := #[{ on := 4, ground := Ground.data }, { on := 6, ground := Ground.data }, { on := 2, ground := Ground.guard }], guard := some (2, true) }) (v := ?_) rfl (by kernel_rfl) (by kernel_rfl) (by kernel_rfl) (fun _ _ _ h => h) (Or.inl ⟨by rfl, ?_⟩) (by assumption) ?_
      rotate_left
      · intro w hSw
        clear hSw
        go_simp
        all_goals with_reducible rfl
      simp only [Act.put, List.setIfInBounds_toArray, List.set_cons_zero, List.set_cons_succ]
      refine wpAnyH_take (i := 8) (oi := { dst := some 138, op := Op.pick (Operand.tmp 132) (Operand.tmp 137) (Operand.const (Value.bool false)), type := 4, pos := "law.go:260", after := #[{ on := 2, ground := Ground.data }, { on := 7, ground := Ground.data }], guard := none }) (v := ?_) rfl (by kernel_rfl) (by kernel_rfl) (by kernel_rfl) (fun _ _ _ h => h) (Or.inl ⟨by rfl, ?_⟩) (by assumption) ?_
      rotate_left
      · intro w hSw
        clear hSw
        go_simp
        all_goals with_reducible rfl
      simp only [Act.put, List.setIfInBounds_toArray, List.set_cons_zero, List.set_cons_succ]
      refine wpAnyH_take (i := 9) (oi := { dst := some 139, op := Op.move (Operand.tmp 138), type := 4, pos := "law.go:260", after := #[{ on := 8, ground := Ground.data }, { on := 2, ground := Ground.chain }], guard := none }) (v := ?_) rfl (by kernel_rfl) (by kernel_rfl) (by kernel_rfl) (fun _ _ _ h => h) (Or.inl ⟨by rfl, ?_⟩) (by assumption) ?_
      rotate_left
      · intro w hSw
        clear hSw
        go_simp
        all_goals with_reducible rfl
      simp only [Act.put, List.setIfInBounds_toArray, List.set_cons_zero, List.set_cons_succ]
      refine wpAnyH_ready (rs := [10]) (by kernel_rfl) (by simp) ?_
      refine AllReadyH.cons (o := { dst := some 140, op := Op.call { callee := Callee.value (Operand.func 15), args := #[], argTypes := #[] }, type := 4, pos := "law.go:260", after := #[{ on := 9, ground := Ground.chain }, { on := 9, ground := Ground.guard }], guard := some (9, true) }) rfl (fun K hK => ?_) AllReadyH.nil
      go_simp
      refine (pknown_go Z3 (HK.out.below B3.out HP.out)).mono ?_
      rintro e Z4 ⟨rfl, b4⟩
      have a4 : SliceAt Z4 (.slice (some ⟨ga, 0, none⟩) 1024 1024) Y := hHeld.below b4 (Nat.le_refl _)
      have BF := hide (B3.out.trans (b4.mono B3.out.size))
      clear hHeld b4 B3
      refine hK.out _ _ a4 (fun hHeld => ?_)
      clear hK K
      try simp only [Act.put, List.setIfInBounds_toArray, List.set_cons_zero, List.set_cons_succ]
      clear a4
      refine wpAnyH_take (i := 11) (oi := { dst := some 141, op := Op.pick (Operand.tmp 139) (Operand.tmp 140) (Operand.const (Value.bool false)), type := 4, pos := "law.go:260", after := #[{ on := 9, ground := Ground.data }, { on := 10, ground := Ground.data }], guard := none }) (v := ?_) rfl (by kernel_rfl) (by kernel_rfl) (by kernel_rfl) (fun _ _ _ h => h) (Or.inl ⟨by rfl, ?_⟩) (by assumption) ?_
      rotate_left
      · intro w hSw
        clear hSw
        go_simp
        all_goals with_reducible rfl
      simp only [Act.put, List.setIfInBounds_toArray, List.set_cons_zero, List.set_cons_succ]
      refine wpAnyH_take (i := 12) (oi := { dst := some 8, op := Op.assign (Operand.tmp 141), type := 4, pos := "law.go:260", after := #[{ on := 11, ground := Ground.data }, { on := 10, ground := Ground.chain }, { on := 0, ground := Ground.phase }, { on := 1, ground := Ground.phase }, { on := 2, ground := Ground.phase }, { on := 3, ground := Ground.phase }, { on := 4, ground := Ground.phase }, { on := 5, ground := Ground.phase }, { on := 6, ground := Ground.phase }, { on := 7, ground := Ground.phase }, { on := 8, ground := Ground.phase }, { on := 9, ground := Ground.phase }, { on := 10, ground := Ground.phase }, { on := 11, ground := Ground.phase }], guard := none }) (v := ?_) rfl (by kernel_rfl) (by kernel_rfl) (by kernel_rfl) (fun _ _ _ h => h) (Or.inl ⟨by rfl, ?_⟩) (by assumption) ?_
      rotate_left
      · intro w hSw
        clear hSw
        go_simp
        all_goals with_reducible rfl
      simp only [Act.put, List.setIfInBounds_toArray, List.set_cons_zero, List.set_cons_succ]
      refine wpAnyH_done (by kernel_rfl) ?_ _
      refine NoPanic.normal ?_
      clear hHeld
      go_wp2_with fail
      go_ret
      exact ⟨rfl, BF.out⟩
end Go.Proofs.YthjlhngjpbmieaaGreatDoor
