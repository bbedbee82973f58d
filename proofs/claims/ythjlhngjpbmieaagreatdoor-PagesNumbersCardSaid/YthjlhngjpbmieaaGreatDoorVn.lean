/- PagesNumbers: chapter 5's runs. -/
import Derived.Test.YthjlhngjpbmieaaGreatDoorVb
import Derived.Test.YthjlhngjpbmieaaGreatDoorUm
namespace Go.Proofs.YthjlhngjpbmieaaGreatDoor
open Go.RowKit

/-- The store, and a disk that is too small for one. -/
structure Nst (w0 w : World) (o : Ow) (d : S.Dk) (t : Nat) (pg : Nat → List UInt8) (gs : Nat) (o2 : Ow) : Prop where
  p : Pg w0 w o d 0 t pg
  st : StAt w gs o
  ng : ¬ o.has gs
  sm : DkIs w o2 (S.Dk.new 7679)
  far : ∀ k, o2.has k → ¬ o.has k
theorem Nst.then {w0 w W : World} {o : Ow} {d : S.Dk} {t : Nat} {pg : Nat → List UInt8} {gs : Nat} {o2 : Ow} (h : Nst w0 w o d t pg gs o2) (hb : Below w.heap.size w W) : Nst w0 W o d t pg gs o2 :=
  ⟨h.p.then hb, (hb.block gs (block_lt_of_row h.st)).trans h.st, h.ng, h.sm.below hb, h.far⟩
theorem Nst.chg {q : Nat → Prop} {w0 w W : World} {o : Ow} {d : S.Dk} {t : Nat} {pg : Nat → List UInt8} {gs : Nat} {o2 : Ow} (h : Nst w0 w o d t pg gs o2) (hc : Chg q w W) (hq : ∀ k, (k < w0.heap.size ∨ o.has k ∨ o2.has k ∨ k = gs) → ¬ q k) : Nst w0 W o d t pg gs o2 :=
  ⟨h.p.chgd hc (fun k hk => hq k (by rcases hk with e | e; exact Or.inr (Or.inl e); exact Or.inl e)), hc.row h.st (hq gs (Or.inr (Or.inr (Or.inr rfl)))), h.ng, h.sm.chg hc (fun k hk => hq k (Or.inr (Or.inr (Or.inl hk)))), h.far⟩
/-- The sheets that the statement has made so far. -/
structure Shn (w : World) (base : Nat) (v : Value) (k : Nat) (L : List ShV) : Prop where
  len : L.length = k
  row : w.ownsRow base 37 2 v k (L.flatMap encSh)
  at_ : ∀ i y, L[i]? = some y → y.1 = ((2 * i : Nat) : Int) ∧ ∃ bk, y.2 = (some ⟨bk, 0, none⟩, 1024, 1024) ∧ base ≤ bk ∧ w.heap[bk]? = some (.cells (S.v8 (S.pgOf (UInt8.ofNat i))) 5 (0, 0))
theorem Shn.nil (w : World) (base : Nat) : Shn w base (.slice none 0 0) 0 [] := ⟨rfl, World.ownsRow_nil _ _ _ _, fun i y h => by simp at h⟩
theorem Shn.below {w W : World} {base : Nat} {v : Value} {k : Nat} {L : List ShV} (h : Shn w base v k L) (hb : Below w.heap.size w W) : Shn W base v k L :=
  ⟨h.len, ownsRow_below h.row hb, fun i y hy => by
    obtain ⟨h1, bk, h2, h3, h4⟩ := h.at_ i y hy
    exact ⟨h1, bk, h2, h3, (hb.block bk (block_lt_of_row h4)).trans h4⟩⟩
theorem Shn.snoc {w W : World} {base : Nat} {v v' : Value} {k g : Nat} {L : List ShV} (h : Shn w base v k L) (ho : W.ownsRow base 37 2 v' (k + 1) (L.flatMap encSh ++ encSh (((2 * k : Nat) : Int), some ⟨g, 0, none⟩, 1024, 1024))) (hg : w.grownBy W v.ownBlock) (hb : base ≤ g) (hr : w.heap[g]? = some (.cells (S.v8 (S.pgOf (UInt8.ofNat k))) 5 (0, 0))) : Shn W base v' (k + 1) (L ++ [(((2 * k : Nat) : Int), some ⟨g, 0, none⟩, 1024, 1024)]) := by
  have keep : ∀ (j : Nat) (cur : Array Value), w.heap[j]? = some (.cells cur 5 (0, 0)) → W.heap[j]? = some (.cells cur 5 (0, 0)) := fun j cur hj => by
    refine (hg.block j (block_lt_of_row hj) (fun e => ?_)).trans hj
    obtain ⟨cc, hc⟩ := owns_type h.row e.symm
    rw [hj] at hc
    injection hc with hc
    injection hc with _ hty
    exact absurd hty (by decide)
  refine ⟨by rw [List.length_append, h.len]; rfl, by rw [List.flatMap_append]; simpa using ho, fun i y hy => ?_⟩
  by_cases hi : i < L.length
  · rw [List.getElem?_append_left hi] at hy
    obtain ⟨h1, bk, h2, h3, h4⟩ := h.at_ i y hy
    exact ⟨h1, bk, h2, h3, keep bk _ h4⟩
  · rw [List.getElem?_append_right (by omega)] at hy
    have hi0 : i - L.length = 0 := by
      cases e : i - L.length with
      | zero => rfl
      | succ n => rw [e] at hy; simp at hy
    rw [hi0] at hy
    have hik : i = k := by have := h.len; omega
    simp at hy
    subst hy hik
    exact ⟨rfl, g, rfl, hb, keep g _ hr⟩
def S.numX (m : Nat) : List UInt8 := S.pgOf (UInt8.ofNat (m / 2))
theorem Shn.nodup {w : World} {base : Nat} {v : Value} {k : Nat} {L : List ShV} (h : Shn w base v k L) : (L.map (·.1)).Nodup := by
  rw [List.Nodup, List.pairwise_map, List.pairwise_iff_getElem]
  intro i j hi hj hij e
  have e1 := (h.at_ i _ (List.getElem?_eq_getElem hi)).1
  have e2 := (h.at_ j _ (List.getElem?_eq_getElem hj)).1
  omega
theorem Shn.ok {w : World} {base : Nat} {v : Value} {k : Nat} {L : List ShV} (h : Shn w base v k L) (hk : k ≤ 256) {o : Ow} (ho : ∀ j, o.has j → j < base) : ∀ x ∈ L, ShOk w o S.numX x := fun x hx => by
  obtain ⟨i, hi⟩ := List.getElem?_of_mem hx
  have hil : i < L.length := (List.getElem?_eq_some_iff.1 hi).1
  obtain ⟨h1, bk, h2, h3, h4⟩ := h.at_ i x hi
  have hlen := h.len
  obtain ⟨x1, x2⟩ := x
  simp only at h1 h2
  subst h1 h2
  refine ⟨by simp only; omega, by simp only; omega, rfl, ⟨bk, 0, rfl, fun e => by have := ho bk e; omega, block_lt_of_row h4⟩, ?_⟩
  have e : S.numX (Int.toNat ((2 * i : Nat) : Int)) = S.pgOf (UInt8.ofNat i) := by
    show S.pgOf (UInt8.ofNat (2 * i / 2)) = _
    rw [show 2 * i / 2 = i by omega]
  rw [e]
  exact slice_row h4 (S.pgOf_length _).symm (by rw [S.pgOf_length]; omega)
theorem Shn.mem {w : World} {base : Nat} {v : Value} {k : Nat} {L : List ShV} (h : Shn w base v k L) (i : Nat) (hi : i < k) : 2 * i ∈ S.pgs L := by
  have hil : i < L.length := by have := h.len; omega
  refine List.mem_map.2 ⟨L[i], List.getElem_mem hil, ?_⟩
  rw [(h.at_ i _ (List.getElem?_eq_getElem hil)).1]
  rfl
/-- The sheets' row, read again later. -/
structure Shl (w : World) (g : Nat) : Prop where
  at_ : ∀ i, i < 256 → w.cell? ⟨g, i * 2, none⟩ = some (.int .i64 ((2 * i : Nat) : Int)) ∧ ∃ bk, w.cell? ⟨g, i * 2 + 1, none⟩ = some (.slice (some ⟨bk, 0, none⟩) 1024 1024) ∧ w.heap[bk]? = some (.cells (S.v8 (S.pgOf (UInt8.ofNat i))) 5 (0, 0))
  lt : g < w.heap.size
theorem Shl.then {w W : World} {g : Nat} (h : Shl w g) (hb : Below w.heap.size w W) : Shl W g :=
  ⟨fun i hi => by
    obtain ⟨h1, bk, h2, h3⟩ := h.at_ i hi
    exact ⟨(hb.cell (p := ⟨g, i * 2, none⟩) h.lt).trans h1, bk, (hb.cell (p := ⟨g, i * 2 + 1, none⟩) h.lt).trans h2, (hb.block bk (block_lt_of_row h3)).trans h3⟩, Nat.lt_of_lt_of_le h.lt hb.size⟩
theorem Shn.later {w W : World} {base : Nat} {v : Value} {L : List ShV} {q : Nat → Prop} (h : Shn w base v 256 L) (hc : Chg q w W) (hq : ∀ j, base ≤ j → j < w.heap.size → ¬ q j) : ∃ g c, v = .slice (some ⟨g, 0, none⟩) 256 c ∧ Shl W g := by
  rcases h.row.2 with ⟨_, h2⟩ | ⟨g, cap, cur, h1, h2, h3, h4, h5, h6, h7⟩
  · omega
  · have hgl := block_lt_of_row h3
    refine ⟨g, cap, h1, ⟨fun i hi => ?_, Nat.lt_of_lt_of_le hgl hc.size⟩⟩
    have hil : i < L.length := by have := h.len; omega
    have hy := List.getElem?_eq_getElem hil
    obtain ⟨e1, bk, e2, e3, e4⟩ := h.at_ i _ hy
    obtain ⟨f0, f1⟩ := flatSh_get L i _ hy
    rw [← h7, List.getElem?_take_of_lt (by omega), Array.getElem?_toList] at f0 f1
    have hrow := hc.row h3 (hq g h2 hgl)
    have hl : (L[i] : ShV).list = .slice (some ⟨bk, 0, none⟩) 1024 1024 := by unfold ShV.list; rw [e2]
    refine ⟨by rw [cell_of_row W g _ _ 37 _ hrow, f0, e1], bk, by rw [cell_of_row W g _ _ 37 _ hrow, f1, hl], hc.row e4 (hq bk e3 (block_lt_of_row e4))⟩
theorem make_sheets (w : World) : ∃ c, (Instr.makeSlice 38 (.int .i64 257) (.int .i64 257)).run Tryz.prog w = .ok (.slice (some ⟨w.heap.size, 0, none⟩) 257 257) (w.alloc (.cells c 37)) := by
  obtain ⟨i, hi, hz0, hz1, hz2⟩ := info_parts info37
  have h := run_make (P := Tryz.prog) w 38 37 i _ Tryz.underlying38 hi hz0 .i64 .i64 257 257 (by omega) (Int.le_refl _) (by rw [hz2]; decide) (by omega)
  exact ⟨_, h⟩
set_option maxHeartbeats 32000000 in
set_option maxRecDepth 10000 in
theorem pagesNumbers_walk (w : World) (hK : KAt w) : Calls Tryz.prog 3 #[] w fun e w' => e = .returned (.bool true) ∧ Below w.heap.size w w' := by
  have HK := hide hK
  have HP : Hid (0 < w.heap.size) := hK.pos
  clear hK
  go_enter Tryz.func3, Tryz.ntmps3
  go_wp2_with fail
  refine (pbegun_go w HK.out).mono ?_
  rintro e w1 ⟨o, gs, rfl, hp1, hst1, hng, hgs⟩
  obtain ⟨d0, hd0⟩ : ∃ d0, d0 = S.madeDk 8192 := ⟨_, rfl⟩
  obtain ⟨pg0, hpg0⟩ : ∃ pg0 : Nat → List UInt8, pg0 = fun _ => S.zeros 1024 := ⟨_, rfl⟩
  rw [← hd0, ← hpg0] at hp1
  have P1 := hide hp1
  have ST1 := hide hst1
  have NG := hide hng
  have GSW : Hid (w.heap.size ≤ gs) := hgs
  clear hp1 hst1 hng hgs hd0 hpg0
  go_wp2_with fail
  refine (new_any 7679 w1 (by omega) (by omega)).mono ?_
  rintro e w2 ⟨o2, rfl, hd2, ho2, b2⟩
  have N2 : Hid (Nst w w2 o d0 0 pg0 gs o2) := ⟨P1.out.then b2, (b2.block gs (block_lt_of_row ST1.out)).trans ST1.out, NG.out, hd2, fun k h1 h2 => by have := ho2 k h1; have := P1.out.dk.dk.lt k h2; omega⟩
  have O2W : Hid (∀ k, o2.has k → w.heap.size ≤ k) := fun k hk => Nat.le_trans P1.out.below.size (ho2 k hk)
  clear hd2 ho2 b2 P1 ST1 NG
  go_wp2_with fail
  refine (new_any 7680 w2 (by omega) (by omega)).mono ?_
  rintro e w3 ⟨o3, rfl, hd3, ho3, b3⟩
  have N3 := hide (N2.out.then b3)
  have D3 := hide hd3
  clear hd3 ho3 b3 N2
  go_wp2_with fail
  refine (popen_bare w3 o3 (S.Dk.new 7680) D3.out rfl (by show 7680 ≤ (List.replicate 7680 (S.zeros 128)).length; rw [List.length_replicate]; exact Nat.le_refl _) (S.new_at 7680 0 (by omega))).mono ?_
  rintro e w4 ⟨rfl, b4⟩
  have N4 := hide (N3.out.then b4)
  clear b4 N3 D3
  go_wp2_with fail
  refine (pread_no gs (-1) w4 (by omega)).mono ?_
  rintro e w5 ⟨rfl, rfl⟩
  go_wp2_with fail
  refine (pread_no gs 512 w4 (by omega)).mono ?_
  rintro e w5 ⟨rfl, rfl⟩
  go_wp2_with fail
  refine (page_any 1 w4).mono ?_
  rintro e w5 ⟨g5, rfl, hg5, hr5, b5⟩
  have N5 := hide (N4.out.then b5)
  clear hg5 hr5 b5 N4
  go_wp2_with fail
  refine (page_any 2 w5).mono ?_
  rintro e w6 ⟨g6, rfl, hg6, hr6, b6⟩
  have N6 := hide (N5.out.then b6)
  clear hg6 hr6 b6 N5
  obtain ⟨w7, hw7⟩ : ∃ w7, w7 = w6.alloc (.cells #[.int .i64 3, .slice (some ⟨g5, 0, none⟩) 1024 1024, .int .i64 3, .slice (some ⟨g6, 0, none⟩) 1024 1024] 37) := ⟨_, rfl⟩
  have b7 : Below w6.heap.size w6 w7 := by rw [hw7]; exact (Below.refl _ _).alloc (Nat.le_refl _) _
  have R7 : Hid (w7.heap[w6.heap.size]? = some (.cells (([((3 : Int), some ⟨g5, 0, none⟩, 1024, 1024), ((3 : Int), some ⟨g6, 0, none⟩, 1024, 1024)] : List ShV).flatMap encSh).toArray 37 (0, 0))) := by rw [hw7]; exact heap_alloc_new _ _
  have N7 := hide (N6.out.then b7)
  clear b7 N6
  go_wp2_with fail
  rw [← hw7]
  clear hw7
  refine (pput_no gs w6.heap.size 0 2 [((3 : Int), some ⟨g5, 0, none⟩, 1024, 1024), ((3 : Int), some ⟨g6, 0, none⟩, 1024, 1024)] w7 (row_cells R7.out) (by simp) (by simp) (fun h => by have := h.2; simp at this)).mono ?_
  rintro e w8 ⟨rfl, b8⟩
  have N8 := hide (N7.out.then b8)
  clear b8 N7 R7
  have hmk : ∀ w : World, (Instr.makeSlice 31 (.int .i64 5) (.int .i64 5)).run Tryz.prog w = .ok (.slice (some ⟨w.heap.size, 0, none⟩) 5 5) (w.alloc (.cells (S.v8 (S.zeros 5)) 5)) := fun w => make_bytes_big 5 (by omega) w
  obtain ⟨w9, hw9⟩ : ∃ w9, w9 = w8.alloc (.cells (S.v8 (S.zeros 5)) 5) := ⟨_, rfl⟩
  have b9 : Below w8.heap.size w8 w9 := by rw [hw9]; exact (Below.refl _ _).alloc (Nat.le_refl _) _
  have N9 := hide (N8.out.then b9)
  obtain ⟨g9, hg9⟩ : ∃ g9, g9 = w8.heap.size := ⟨_, rfl⟩
  obtain ⟨wa, hwa⟩ : ∃ wa, wa = w9.alloc (.cells #[.int .i64 3, .slice (some ⟨g9, 0, none⟩) 5 5] 37) := ⟨_, rfl⟩
  have ba : Below w9.heap.size w9 wa := by rw [hwa]; exact (Below.refl _ _).alloc (Nat.le_refl _) _
  have Ra : Hid (wa.heap[w9.heap.size]? = some (.cells (([((3 : Int), some ⟨g9, 0, none⟩, 5, 5)] : List ShV).flatMap encSh).toArray 37 (0, 0))) := by rw [hwa]; exact heap_alloc_new _ _
  have hs9 : w9.heap.size = g9 + 1 := by rw [hw9, hg9]; exact Array.size_push ..
  rw [hs9] at Ra
  have NA := hide (N9.out.then ba)
  have HW9 := hide hw9
  have HG9 := hide hg9
  have HWA := hide hwa
  clear b9 ba N8 N9 hw9 hg9 hwa hs9
  go_wp2_with fail
  rw [← HW9.out, ← HG9.out, ← HWA.out]
  clear hmk HW9 HG9 HWA
  refine (pput_no gs (g9 + 1) 0 1 [((3 : Int), some ⟨g9, 0, none⟩, 5, 5)] wa (row_cells Ra.out) (by simp) (by simp) (fun h => absurd (h.1 _ List.mem_cons_self).2.2 (show ¬ ((5 : Nat) = 1024) by decide))).mono ?_
  rintro e wb ⟨rfl, bb⟩
  have NB := hide (NA.out.then bb)
  clear bb NA Ra
  go_wp2_with fail
  refine (page_any 1 wb).mono ?_
  rintro e wc ⟨gc, rfl, hgc, hrc, bc⟩
  have NC := hide (NB.out.then bc)
  clear hgc hrc bc NB
  obtain ⟨wd, hwd⟩ : ∃ wd, wd = wc.alloc (.cells #[.int .i64 512, .slice (some ⟨gc, 0, none⟩) 1024 1024] 37) := ⟨_, rfl⟩
  have bd : Below wc.heap.size wc wd := by rw [hwd]; exact (Below.refl _ _).alloc (Nat.le_refl _) _
  have Rd : Hid (wd.heap[wc.heap.size]? = some (.cells (([((512 : Int), some ⟨gc, 0, none⟩, 1024, 1024)] : List ShV).flatMap encSh).toArray 37 (0, 0))) := by rw [hwd]; exact heap_alloc_new _ _
  have ND := hide (NC.out.then bd)
  clear bd NC
  go_wp2_with fail
  rw [← hwd]
  clear hwd
  refine (pput_no gs wc.heap.size 0 1 [((512 : Int), some ⟨gc, 0, none⟩, 1024, 1024)] wd (row_cells Rd.out) (by simp) (by simp) (fun h => absurd (h.1 _ List.mem_cons_self).2.1 (show ¬ ((512 : Int) < 512) by decide))).mono ?_
  rintro e we ⟨rfl, be⟩
  have NE := hide (ND.out.then be)
  clear be ND Rd
  obtain ⟨cc, hms⟩ := make_sheets we
  obtain ⟨wf, hwf⟩ : ∃ wf, wf = we.alloc (.cells cc 37) := ⟨_, rfl⟩
  have bf : Below we.heap.size we wf := by rw [hwf]; exact (Below.refl _ _).alloc (Nat.le_refl _) _
  have NF := hide (NE.out.then bf)
  rw [← hwf] at hms
  clear bf hwf NE
  go_wp2_with (with_reducible refine at_op { dst := some 74, op := Op.makeSlice 38 (Operand.const (Value.int IntKind.i64 257)) (Operand.const (Value.int IntKind.i64 257)), type := 38, pos := "law.go:66", after := #[], guard := none } ?_; refine wpList_makeSlice_known rfl 38 _ _ rfl _ _ rfl rfl _ _ hms ?_)
  clear hms
  refine (pput_many gs _ 257 257 wf (by omega)).mono ?_
  rintro e wg ⟨rfl, rfl⟩
  obtain ⟨B, hB⟩ : ∃ B, B = wf.heap.size := ⟨_, rfl⟩
  have BB : Hid (B ≤ wf.heap.size) := by rw [hB]; exact Nat.le_refl _
  have OB : Hid (∀ j, (j < w.heap.size ∨ o.has j ∨ o2.has j ∨ j = gs) → j < B) := fun j hj => by
    rw [hB]
    rcases hj with e | e | e | e
    · exact Nat.lt_of_lt_of_le e NF.out.p.below.size
    · exact NF.out.p.dk.dk.lt j e
    · exact NF.out.sm.lt j e
    · rw [e]; exact block_lt_of_row NF.out.st
  clear hB
  go_wp2_with fail
  go_loopw [18, 19] (fun lv i wr => ∃ k : Nat, k ≤ 256 ∧ i = .int .i64 (k : Int) ∧ B ≤ wr.heap.size ∧ Nst w wr o d0 0 pg0 gs o2 ∧ ∃ L, Shn wr B lv k L) (fun _ i _ => 256 - (intOf i).toNat)
  case atStart => exact ⟨0, by omega, rfl, BB.out, NF.out, [], Shn.nil _ _⟩
  case round =>
  obtain ⟨k, hk, rfl, hbq, hnq, L, hsh⟩ := hrel
  have BQ := hide hbq
  have NQ := hide hnq
  have SQ := hide hsh
  clear hbq hnq hsh NF BB
  by_cases hkN : k < 256
  · have q2 : (k : Int) < 256 := by omega
    obtain ⟨n, hn⟩ : ∃ n : Nat, n = 2 * k := ⟨_, rfl⟩
    have q3 : (2 * (k : Int)).tmod 512 = (n : Int) := by rw [hn, Int.tmod_eq_emod_of_nonneg (by omega)]; omega
    obtain ⟨CC, hCC⟩ : ∃ CC : UInt8, CC = UInt8.ofNat k := ⟨_, rfl⟩
    have HN := hide hn
    have HCC := hide hCC
    clear hn hCC
    go_wp2_with fail
    have PA := page_any CC wr
    rw [show ((CC.toNat : Nat) : Int) = (k : Int) by rw [HCC.out, UInt8.toNat_ofNat']; omega] at PA
    refine PA.mono ?_
    clear PA
    rintro e w3 ⟨gp, rfl, hgp, hrp, b3⟩
    have N3 := hide (NQ.out.then b3)
    have S3 := hide (SQ.out.below b3)
    have RP3 := hide hrp
    have GPB : Hid (B ≤ gp) := Nat.le_trans BQ.out hgp
    have B3 : Hid (B ≤ w3.heap.size) := Nat.le_trans BQ.out b3.size
    obtain ⟨w4, hw4⟩ : ∃ w4, w4 = w3.alloc (.cells #[.int .i64 (n : Int), .slice (some ⟨gp, 0, none⟩) 1024 1024] 37) := ⟨_, rfl⟩
    have b4 : Below w3.heap.size w3 w4 := by rw [hw4]; exact (Below.refl _ _).alloc (Nat.le_refl _) _
    have r4 : w4.heap[w3.heap.size]? = some (.cells #[.int .i64 (n : Int), .slice (some ⟨gp, 0, none⟩) 1024 1024] 37 (0, 0)) := by rw [hw4]; exact heap_alloc_new _ _
    have N4 := hide (N3.out.then b4)
    have S4 := hide (S3.out.below b4)
    have RP4 : Hid (w4.heap[gp]? = some (.cells (S.v8 (S.pgOf CC)) 5 (0, 0))) := (b4.block gp (block_lt_of_row RP3.out)).trans RP3.out
    have B4 : Hid (B ≤ w4.heap.size) := Nat.le_trans B3.out b4.size
    have APP := hide (run_append_sh w4 B w3.heap.size (((n : Nat) : Int), some ⟨gp, 0, none⟩, 1024, 1024) 38 u18 _ _ S4.out.row (by omega) B4.out r4)
    have HW4 := hide hw4
    clear b3 b4 r4 hw4 hgp hrp NQ SQ BQ N3 S3 RP3 B3 q3
    go_wp2_with (at_builtin; (rw [← HW4.out]; refine wpList_append_known rfl (.tmp 80) (.tmp 88) 38 38 rfl _ _ rfl rfl APP.out ?_; rintro v5 w5 ⟨ho5, hg5⟩; have O5 := hide ho5; have G5 := hide hg5; clear ho5 hg5))
    have LT4 := S4.out.row.lt
    have C5 : Hid (Chg (fun j => u18.ownBlock = some j) w4 w5) := grown_chg G5.out
    have N5 : Hid (Nst w w5 o d0 0 pg0 gs o2) := N4.out.chg C5.out (fun j hj e => by have := (LT4 j e).1; have := OB.out j hj; omega)
    have B5 : Hid (B ≤ w5.heap.size) := Nat.le_trans B4.out C5.out.size
    have S5 : Hid (Shn w5 B v5 (k + 1) (L ++ [(((2 * k : Nat) : Int), some ⟨gp, 0, none⟩, 1024, 1024)])) := S4.out.snoc (by have := O5.out; rw [HN.out] at this; exact this) G5.out GPB.out (by have := RP4.out; rw [HCC.out] at this; exact this)
    clear APP LT4 O5 G5 C5 N4 S4 RP4 B4 GPB HW4
    go_roundw
    case rel => exact ⟨k + 1, by omega, by go_num, B5.out, N5.out, _, S5.out⟩
    case measure => simp [intOf]; omega
  · obtain rfl : k = 256 := by omega
    have hrow := SQ.out.row.2
    obtain ⟨gx, cp, hv, hc⟩ : ∃ g c, u18 = .slice (some ⟨g, 0, none⟩) L.length c ∧ ∀ j x, (L.flatMap encSh)[j]? = some x → wr.cell? ⟨g, 0 + j, none⟩ = some x := by
      rcases hrow with ⟨_, h2⟩ | ⟨g, cap, cur, h1, h2, h3, h4, h5, h6, h7⟩
      · omega
      · refine ⟨g, cap, by rw [h1, SQ.out.len], fun j x hx => ?_⟩
        have hj : j < (L.flatMap encSh).length := (List.getElem?_eq_some_iff.1 hx).1
        rw [← h7] at hx hj
        rw [List.length_take] at hj
        rw [List.getElem?_take_of_lt (by omega), Array.getElem?_toList] at hx
        rw [Nat.zero_add, cell_of_row wr g j _ 37 _ h3]
        exact hx
    subst hv
    have HC := hide hc
    have LNE : Hid (L ≠ []) := fun e => by have := SQ.out.len; rw [e] at this; simp at this
    have LEN : Hid (L.length = 256) := SQ.out.len
    clear hc hrow
    go_wp2_with fail
    refine (pput_go w wr o d0 0 0 gs gx 0 cp L _ S.numX NQ.out.p NQ.out.st HC.out LNE.out (by rw [LEN.out]; exact Nat.le_refl _) (SQ.out.ok (Nat.le_refl _) (fun j hj => OB.out j (Or.inr (Or.inl hj)))) SQ.out.nodup NQ.out.ng (by omega)).mono ?_
    rintro e w5 ⟨rfl, o5, d5, hg5, hp5, hst5, hc5, ho5⟩
    obtain ⟨pg, hpg⟩ : ∃ pg : Nat → List UInt8, pg = fun m => if m ∈ S.pgs L then S.numX m else pg0 m := ⟨_, rfl⟩
    have PG : Hid (∀ i, i < 256 → pg (2 * i) = S.pgOf (UInt8.ofNat i)) := fun i hi => by
      rw [hpg]
      show (if 2 * i ∈ S.pgs L then S.numX (2 * i) else _) = _
      rw [if_pos (SQ.out.mem i hi)]
      show S.pgOf (UInt8.ofNat (2 * i / 2)) = _
      rw [show 2 * i / 2 = i by omega]
    have N5 : Hid (Nst w w5 o5 d5 (0 + 2) pg gs o2) := ⟨by rw [hpg]; exact hp5, hst5, fun e => by
      rcases ho5 _ e with e | e
      · exact NQ.out.ng e
      · have := block_lt_of_row NQ.out.st; omega, NQ.out.sm.chg hc5 NQ.out.far, fun k h1 h2 => by
      rcases ho5 _ h2 with e | e
      · exact NQ.out.far k h1 e
      · have := NQ.out.sm.lt k h1; omega⟩
    obtain ⟨ga, ca, hva, hla⟩ := SQ.out.later hc5 (fun j h1 h2 e => by have := OB.out j (Or.inr (Or.inl e)); omega)
    simp only [Value.slice.injEq] at hva
    obtain ⟨hga, hl256, rfl⟩ := hva
    have hgx : gx = ga := by simpa using hga
    subst hgx
    have L5 := hide hla
    have hpt : o5.ptr = o.ptr := by unfold Ow.ptr; rw [hg5]
    rw [← hpt, LEN.out]
    clear hg5 hp5 hst5 hc5 ho5 hpg hla hga hl256 hpt NQ SQ HC LNE
    go_wp2_with fail
    refine (popen_go w w5 o5 d5 0 (0 + 2) _ N5.out.p).mono ?_
    rintro e w6 ⟨gt, rfl, hst6, hgt, hp6, b6⟩
    have N6 := hide (N5.out.then b6)
    have L6 := hide (L5.out.then b6)
    have T6 := hide hst6
    clear hst6 hgt hp6 b6 N5 L5
    go_wp2_with fail
    go_loopw [23] (fun i wq => ∃ k : Nat, k ≤ 272 ∧ i = .int .i64 (k : Int) ∧ Nst w wq o5 d5 (0 + 2) pg gs o2 ∧ Shl wq gx ∧ StAt wq gt o5) (fun i _ => 272 - (intOf i).toNat)
    case atStart => exact ⟨0, by omega, rfl, N6.out, L6.out, T6.out⟩
    case round =>
    obtain ⟨k, hk, rfl, hnq, hlq, htq⟩ := hrel
    have NQ := hide hnq
    have LQ := hide hlq
    have TQ := hide htq
    clear hnq hlq htq N6 L6 T6
    by_cases hkN : k < 256
    · have q2 : (k : Int) < 256 := by omega
      have q5 : (0 : Int) ≤ (k : Int) := by omega
      have q6 : IntKind.i64.wrap ((k : Int) + 17) = (k : Int) + 17 := by rw [IntKind.wrap_i64]; omega
      obtain ⟨c0, bk, c1, rb⟩ := LQ.out.at_ k hkN
      obtain ⟨n, hn⟩ : ∃ n : Nat, n = 2 * k := ⟨_, rfl⟩
      rw [← hn] at c0
      obtain ⟨X, hX⟩ : ∃ X, X = S.pgOf (UInt8.ofNat k) := ⟨_, rfl⟩
      rw [← hX] at rb
      have XL : Hid (X.length = 1024) := by rw [hX]; exact S.pgOf_length _
      have HPX : Hid (pg n = X) := by rw [hX, hn]; exact PG.out k hkN
      have hn5 : n < 512 := by omega
      have C1 := hide c1
      have RB := hide rb
      clear hn hX c1 rb
      go_wp2_with fail
      refine (pread_go w _ o5 d5 0 (0 + 2) gt n pg NQ.out.p TQ.out hn5).mono ?_
      rintro e w7 ⟨gx2, rfl, hgx, hrx, hp7, hst7, b7⟩
      rw [HPX.out] at hrx
      have N7 := hide (NQ.out.then b7)
      have L7 := hide (LQ.out.then b7)
      have T7 := hide hst7
      have SX : Hid (SliceAt w7 (.slice (some ⟨gx2, 0, none⟩) 1024 1024) X) := by
        have h1 := hrx.sliceAt (by rw [XL.out]; omega)
        rw [XL.out] at h1
        exact h1
      have CB : Hid (w7.cell? ⟨gx, k * 2 + 1, none⟩ = some (.slice (some ⟨bk, 0, none⟩) 1024 1024)) := (b7.cell (p := ⟨gx, k * 2 + 1, none⟩) LQ.out.lt).trans C1.out
      have SB : Hid (SliceAt w7 (.slice (some ⟨bk, 0, none⟩) 1024 1024) X) := slice_row ((b7.block bk (block_lt_of_row RB.out)).trans RB.out) XL.out.symm (by rw [XL.out]; omega)
      clear hgx hrx hp7 hst7 b7 NQ LQ TQ c0 C1 RB
      go_upto_region 26 with fail
      refine wp_region_noPanic ?_
      refine wp_region_held_drew (S := (fun W => SliceAt W (.slice (some ⟨gx2, 0, none⟩) 1024 1024) X ∧ W.cell? ⟨gx, k * 2 + 1, none⟩ = some (.slice (some ⟨bk, 0, none⟩) 1024 1024) ∧ SliceAt W (.slice (some ⟨bk, 0, none⟩) 1024 1024) X)) follows ⟨SX.out, CB.out, SB.out⟩ (fun hHeld => ?_)
      have Nd := hide (N7.out.then (Below.refl w7.heap.size w7).drew)
      have Ld := hide (L7.out.then (Below.refl w7.heap.size w7).drew)
      have Td : Hid (StAt w7.drew gt o5) := T7.out
      clear N7 L7 T7 SX CB SB
      generalize w7.drew = Z1 at Nd Ld Td hHeld ⊢
      refine wpAnyH_take (i := 0) (oi := { dst := some 120, op := Op.move (Operand.tmp 24), type := 31, pos := "law.go:78", after := #[], guard := none }) (v := ?_) rfl (by kernel_rfl) (by kernel_rfl) (by kernel_rfl) (fun _ _ _ h => h) (Or.inl ⟨by rfl, ?_⟩) (by assumption) ?_
      rotate_left
      · intro w hSw
        clear hSw
        go_simp
        all_goals with_reducible rfl
      simp only [Act.put, List.setIfInBounds_toArray, List.set_cons_zero, List.set_cons_succ]
      refine wpAnyH_take (i := 1) (oi := { dst := some 121, op := Op.convert 31 9 (Operand.tmp 120), type := 9, pos := "law.go:78", after := #[⟨0, .data⟩], guard := none }) (v := .string ⟨(X).toArray⟩) rfl (by kernel_rfl) (by kernel_rfl) (by kernel_rfl) (fun _ _ _ h => h) (yieldsIf_conv (by kernel_rfl) (.tmp 120) rfl (.slice (some ⟨gx2, 0, none⟩) 1024 1024) rfl (X) (fun W hW => hW.1)) (by assumption) ?_
      simp only [Act.put, List.setIfInBounds_toArray, List.set_cons_zero, List.set_cons_succ]
      refine wpAnyH_take (i := 2) (oi := { dst := some 122, op := Op.move (Operand.tmp 18), type := 38, pos := "law.go:78", after := #[], guard := none }) (v := ?_) rfl (by kernel_rfl) (by kernel_rfl) (by kernel_rfl) (fun _ _ _ h => h) (Or.inl ⟨by rfl, ?_⟩) (by assumption) ?_
      rotate_left
      · intro w hSw
        clear hSw
        go_simp
        all_goals with_reducible rfl
      simp only [Act.put, List.setIfInBounds_toArray, List.set_cons_zero, List.set_cons_succ]
      refine wpAnyH_take (i := 3) (oi := { dst := some 123, op := Op.move (Operand.tmp 23), type := 3, pos := "law.go:78", after := #[], guard := none }) (v := ?_) rfl (by kernel_rfl) (by kernel_rfl) (by kernel_rfl) (fun _ _ _ h => h) (Or.inl ⟨by rfl, ?_⟩) (by assumption) ?_
      rotate_left
      · intro w hSw
        clear hSw
        go_simp
        all_goals with_reducible rfl
      simp only [Act.put, List.setIfInBounds_toArray, List.set_cons_zero, List.set_cons_succ]
      refine wpAnyH_take (i := 4) (oi := { dst := some 124, op := Op.indexAddr 38 (Operand.tmp 122) (Operand.tmp 123), type := 0, pos := "law.go:78", after := #[⟨2, .data⟩, ⟨3, .data⟩], guard := none }) (v := ?_) rfl (by kernel_rfl) (by kernel_rfl) (by kernel_rfl) (fun _ _ _ h => h) (Or.inl ⟨by rfl, ?_⟩) (by assumption) ?_
      rotate_left
      · intro w hSw
        clear hSw
        go_simp
        all_goals with_reducible rfl
      simp only [Act.put, List.setIfInBounds_toArray, List.set_cons_zero, List.set_cons_succ]
      refine wpAnyH_take (i := 5) (oi := { dst := some 125, op := Op.fieldAddr 37 (Operand.tmp 124) 1, type := 0, pos := "law.go:78", after := #[⟨4, .data⟩], guard := none }) (v := ?_) rfl (by kernel_rfl) (by kernel_rfl) (by kernel_rfl) (fun _ _ _ h => h) (Or.inl ⟨by rfl, ?_⟩) (by assumption) ?_
      rotate_left
      · intro w hSw
        clear hSw
        go_simp
        all_goals with_reducible rfl
      simp only [Act.put, List.setIfInBounds_toArray, List.set_cons_zero, List.set_cons_succ]
      refine wpAnyH_take (i := 6) (oi := { dst := some 126, op := Op.load 31 (Operand.tmp 125), type := 31, pos := "law.go:78", after := #[⟨5, .data⟩], guard := none }) (v := ?_) rfl (by kernel_rfl) (by kernel_rfl) (by kernel_rfl) (fun _ _ _ h => h) (Or.inl ⟨by rfl, ?_⟩) (by assumption) ?_
      rotate_left
      · intro w hSw
        have c1 := hSw.2.1
        clear hSw
        go_simp
        all_goals with_reducible rfl
      simp only [Act.put, List.setIfInBounds_toArray, List.set_cons_zero, List.set_cons_succ]
      refine wpAnyH_take (i := 7) (oi := { dst := some 127, op := Op.convert 31 9 (Operand.tmp 126), type := 9, pos := "law.go:78", after := #[⟨6, .data⟩], guard := none }) (v := .string ⟨(X).toArray⟩) rfl (by kernel_rfl) (by kernel_rfl) (by kernel_rfl) (fun _ _ _ h => h) (yieldsIf_conv (by kernel_rfl) (.tmp 126) rfl (.slice (some ⟨bk, 0, none⟩) 1024 1024) rfl (X) (fun W hW => hW.2.2)) (by assumption) ?_
      simp only [Act.put, List.setIfInBounds_toArray, List.set_cons_zero, List.set_cons_succ]
      refine wpAnyH_take (i := 8) (oi := { dst := some 128, op := Op.binOp BinOp.neq 9 (Operand.tmp 121) (Operand.tmp 127) 9, type := 4, pos := "law.go:78", after := #[⟨1, .data⟩, ⟨7, .data⟩], guard := none }) (v := ?_) rfl (by kernel_rfl) (by kernel_rfl) (by kernel_rfl) (fun _ _ _ h => h) (Or.inl ⟨by rfl, ?_⟩) (by assumption) ?_
      rotate_left
      · intro w hSw
        clear hSw
        go_simp
        all_goals with_reducible rfl
      simp only [Act.put, List.setIfInBounds_toArray, List.set_cons_zero, List.set_cons_succ]
      refine wpAnyH_done (by kernel_rfl) ?_ _
      refine NoPanic.normal ?_
      clear hHeld
      go_wp2_with fail
      go_roundw
      case rel => exact ⟨k + 17, by omega, by go_num, Nd.out, Ld.out, Td.out⟩
      case measure => simp [intOf]; omega
    · have q2 : ¬ ((k : Int) < 256) := by omega
      go_wp2_with fail
      refine (pformat_nil _).mono ?_
      rintro e w8 ⟨rfl, rfl⟩
      go_wp2_with fail
      refine (pformat_no o2 _ _ NQ.out.sm (by show (List.replicate 7679 (S.zeros 128)).length < 7680; rw [List.length_replicate]; omega)).mono ?_
      rintro e w8 ⟨rfl, rfl⟩
      go_wp2_with fail
      refine (pput_none gs _).mono ?_
      rintro e w8 ⟨rfl, rfl⟩
      go_wp2_with fail
      refine (pknown_go _ (HK.out.below NQ.out.p.below HP.out)).mono ?_
      rintro e w8 ⟨rfl, b8⟩
      have BF := hide (NQ.out.p.below.trans (b8.mono NQ.out.p.below.size))
      clear b8
      go_wp2_with fail
      go_ret
      exact ⟨rfl, BF.out⟩
end Go.Proofs.YthjlhngjpbmieaaGreatDoor
