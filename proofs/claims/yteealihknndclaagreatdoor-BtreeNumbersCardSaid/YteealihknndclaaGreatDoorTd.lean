/- inOrder of any sheets that can be put together. -/
import Derived.Test.YteealihknndclaaGreatDoorJc
namespace Go.Proofs.YteealihknndclaaGreatDoor
open Go.RowKit

set_option maxHeartbeats 4000000 in
set_option maxRecDepth 10000 in
theorem inOrder_any (b off cap : Nat) (d : List ShV) (w : World) (h0 : ∀ j u, (d.flatMap encSh)[j]? = some u → w.cell? ⟨b, off + j, none⟩ = some u) (hd : d ≠ []) (hl : d.length ≤ 256) (hp : ∀ x ∈ d, 0 ≤ x.1 ∧ x.1 < 512 ∧ x.2.2.1 = 1024) (hn : (d.map (·.1)).Nodup) :
  Calls Tryz.prog 81 #[.slice (some ⟨b, off, none⟩) d.length cap] w fun e w' => ∃ g c, ∃ d' : List ShV, e = .returned (.tuple #[.slice (some ⟨g, 0, none⟩) d.length c, .bool true]) ∧ w.heap.size ≤ g ∧ d'.Perm d ∧ d'.Pairwise (fun x y => x.1 < y.1) ∧ ShR w' g d' ∧ Below w.heap.size w w' := by
 have H0 := hide h0
 have HD := hide hd
 have HL := hide hl
 have HP := hide hp
 have HN := hide hn
 have hgt : ¬ ((256 : Int) < (d.length : Int)) := by omega
 clear h0 hd hl hp hn
 go_enter Tryz.func81, Tryz.ntmps81
 go_wp2_with fail
 refine (pclone_any b off cap d w H0.out HD.out (Nat.le_trans HL.out (by omega))).mono ?_
 rintro e w1 ⟨g, c, rfl, hg, hs, b1⟩
 have S1 := hide hs
 have B1 := hide b1
 have HG : Hid (w.heap.size ≤ g) := hg
 clear hs b1 hg H0
 go_wp2_with fail
 refine (sort_rows g c d w1 S1.out (Nat.le_trans HL.out (by omega))).mono ?_
 rintro e w2 ⟨rfl, d', hpm, hpw, hs2, hb2⟩
 have S2 := hide hs2
 have B2 := hide (B1.out.trans (hb2 _ HG.out))
 have PM := hide hpm
 have PW : Hid (d'.Pairwise (fun x y => x.1 < y.1)) := by
  have hnd : (d'.map (·.1)).Nodup := (hpm.map _).nodup_iff.2 HN.out
  rw [List.Nodup, List.pairwise_map] at hnd
  exact (hpw.and hnd).imp (fun ⟨h1, h2⟩ => by omega)
 have LE : Hid (d'.length = d.length) := hpm.length_eq
 have HQ : Hid (∀ x ∈ d', 0 ≤ x.1 ∧ x.1 < 512 ∧ x.2.2.1 = 1024) := fun x hx => HP.out x (hpm.mem_iff.1 hx)
 clear hpm hpw hs2 hb2 S1 B1 HP HN
 go_wp2_with fail
 go_loopw [15] (fun i wr => ∃ k : Nat, k ≤ d.length ∧ i = .int .i64 (k : Int) ∧ ShR wr g d' ∧ Below w.heap.size w wr) (fun i _ => d.length - (intOf i).toNat)
 case atStart => exact ⟨0, Nat.zero_le _, rfl, S2.out, B2.out⟩
 case round =>
 obtain ⟨k, hk, rfl, hs, hb⟩ := hrel
 have S6 := hide hs
 have B6 := hide hb
 have KL := hide hk
 clear hs hb hk S2 B2
 by_cases hkl : k < d.length
 ·obtain ⟨x, hx⟩ : ∃ x, d'[k]? = some x := ⟨d'[k]'(by rw [LE.out]; exact hkl), List.getElem?_eq_getElem _⟩
  obtain ⟨c0, c1⟩ := S6.out.cells k x hx
  obtain ⟨q1, q2, q3⟩ := HQ.out x (List.mem_of_getElem? hx)
  obtain ⟨xn, ab, xl, cb⟩ := x
  simp only at q1 q2 q3
  subst q3
  obtain ⟨n, rfl⟩ : ∃ n : Nat, xn = (n : Int) := ⟨xn.toNat, by omega⟩
  have NN := hide (show n < 512 by omega)
  have hkI : (k : Int) < (d.length : Int) := by omega
  have hk0 : (0 : Int) ≤ (k : Int) := by omega
  have XK := hide hx
  have KK := hide hkl
  simp only [ShV.list] at c1
  clear hx q1 q2 hkl
  obtain ⟨w5, hw5⟩ : ∃ w5, w5 = wr.alloc (.cells #[.int .i64 (n : Int), .slice ab 1024 cb] 144) := ⟨_, rfl⟩
  have b5 : Below wr.heap.size wr w5 := by rw [hw5]; exact (Below.refl _ _).alloc (Nat.le_refl _) _
  have R5 : Hid (w5.heap[wr.heap.size]? = some (.cells #[.int .i64 (n : Int), .slice ab 1024 cb] 144 (0, 0))) := by rw [hw5]; exact heap_alloc_new _ _
  have S5 := hide (S6.out.below b5)
  have B5 := hide (B6.out.trans (b5.mono B6.out.size))
  obtain ⟨g5, hg5⟩ : ∃ g5, g5 = wr.heap.size := ⟨_, rfl⟩
  rw [← hg5] at R5
  have P5 : Hid (∀ u, 0 < k → d'[k - 1]? = some u → w5.cell? ⟨g, (k - 1) * 2, none⟩ = some (.int .i64 u.1)) := fun u _ hu => (S5.out.cells (k - 1) u hu).1
  clear b5 S6 B6
  go_upto_region 8 with fail
  rw [← hw5, ← hg5]
  clear hw5 hg5 c0 c1
  rcases Nat.eq_zero_or_pos k with hz | hz
  focus
   have hkp : ¬ ((0 : Int) < (k : Int)) := by omega
   refine wp_region_noPanic ?_
   refine wp_region_held_drew (S := (fun W => W.heap[g5]? = some (.cells #[.int .i64 (n : Int), .slice ab 1024 cb] 144 (0, 0)) ∧ (∀ u, 0 < k → d'[k - 1]? = some u → W.cell? ⟨g, (k - 1) * 2, none⟩ = some (.int .i64 u.1)))) follows ⟨R5.out, P5.out⟩ (fun hHeld => ?_)
   have S5d := hide (S5.out.below (Below.refl w5.heap.size w5).drew)
   have B5d : Hid (Below w.heap.size w w5.drew) := B5.out.drew
   clear S5 B5 R5 P5
   generalize w5.drew = Z1 at S5d B5d hHeld ⊢
   refine tq 0 ?_
   simp only [Act.put, uB, uC, uD]
   refine tk 1 ?_ rfl (Or.inl ⟨by rfl, ?_⟩) ?_
   rotate_left
   ·intro w hSw
    have c0 := (sh_cells hSw.1).1
    clear hSw
    go_simp
    all_goals with_reducible rfl
   simp only [Act.put, uB, uC, uD]
   refine r1 2 fun K hK => ?_
   go_simp
   refine (isPage_yes n NN.out Z1).mono ?_
   rintro e Z2 ⟨rfl, rfl⟩
   refine hK.out _ _ hHeld (fun hHeld => ?_)
   clear hK K
   try simp only [Act.put, uB, uC, uD]
   refine tq 3 ?_
   simp only [Act.put, uB, uC, uD]
   refine tq 4 ?_
   simp only [Act.put, uB, uC, uD]
   refine tq 5 ?_
   simp only [Act.put, uB, uC, uD]
   refine tk 6 ?_ rfl (Or.inl ⟨by rfl, ?_⟩) ?_
   rotate_left
   ·intro w hSw
    have c1 := (sh_cells hSw.1).2
    clear hSw
    go_simp
    all_goals with_reducible rfl
   simp only [Act.put, uB, uC, uD]
   refine tq 7 ?_
   simp only [Act.put, uB, uC, uD]
   refine tq 8 ?_
   simp only [Act.put, uB, uC, uD]
   refine tq 9 ?_
   simp only [Act.put, uB, uC, uD]
   refine tq 10 ?_
   simp only [Act.put, uB, uC, uD]
   refine tq 11 ?_
   simp only [Act.put, uB, uC, uD]
   refine tq 12 ?_
   simp only [Act.put, uB, uC, uD]
   refine tq 13 ?_
   simp only [Act.put, uB, uC, uD]
   refine tk 14 undef rfl (Or.inr ⟨by rfl, rfl⟩) ?_
   simp only [Act.put, uB, uC, uD]
   refine tk 15 undef rfl (Or.inr ⟨by rfl, rfl⟩) ?_
   simp only [Act.put, uB, uC, uD]
   refine tk 16 undef rfl (Or.inr ⟨by rfl, rfl⟩) ?_
   simp only [Act.put, uB, uC, uD]
   refine tk 17 undef rfl (Or.inr ⟨by rfl, rfl⟩) ?_
   simp only [Act.put, uB, uC, uD]
   refine tk 18 undef rfl (Or.inr ⟨by rfl, rfl⟩) ?_
   simp only [Act.put, uB, uC, uD]
   refine tk 19 undef rfl (Or.inr ⟨by rfl, rfl⟩) ?_
   simp only [Act.put, uB, uC, uD]
   refine tk 20 undef rfl (Or.inr ⟨by rfl, rfl⟩) ?_
   simp only [Act.put, uB, uC, uD]
   refine tk 21 undef rfl (Or.inr ⟨by rfl, rfl⟩) ?_
   simp only [Act.put, uB, uC, uD]
   refine tk 22 undef rfl (Or.inr ⟨by rfl, rfl⟩) ?_
   simp only [Act.put, uB, uC, uD]
  rotate_left
  focus
   obtain ⟨m, hm⟩ : ∃ m, k = m + 1 := ⟨k - 1, by omega⟩
   have hkp : (0 : Int) < (k : Int) := by omega
   have hmI : (m : Int) < (d.length : Int) := by have := KK.out; omega
   have hm0 : (0 : Int) ≤ (m : Int) := by omega
   have hm1 : (k : Int) - 1 = (m : Int) := by omega
   have hmw : IntKind.i64.wrap (m : Int) = (m : Int) := by have := KK.out; have := HL.out; simp [IntKind.wrap, IntKind.bits, IntKind.signed]; omega
   obtain ⟨u, hu⟩ : ∃ u, d'[m]? = some u := ⟨d'[m]'(by have := LE.out; have := KK.out; omega), List.getElem?_eq_getElem _⟩
   have hne : ¬ (u.1 = (n : Int)) := by
    have hkk := LE.out
    have hkl := KK.out
    have h3 := List.pairwise_iff_getElem.1 PW.out m k (by omega) (by omega) (by omega)
    have e1 := (List.getElem?_eq_some_iff.1 hu).2
    have e2 := (List.getElem?_eq_some_iff.1 XK.out).2
    rw [e1, e2] at h3
    simp only at h3
    omega
   have PU := hide hu
   have K0 := hide (show 0 < k by omega)
   have KM := hide (show k - 1 = m by omega)
   clear hu hm
   refine wp_region_noPanic ?_
   refine wp_region_held_drew (S := (fun W => W.heap[g5]? = some (.cells #[.int .i64 (n : Int), .slice ab 1024 cb] 144 (0, 0)) ∧ (∀ u, 0 < k → d'[k - 1]? = some u → W.cell? ⟨g, (k - 1) * 2, none⟩ = some (.int .i64 u.1)))) follows ⟨R5.out, P5.out⟩ (fun hHeld => ?_)
   have S5d := hide (S5.out.below (Below.refl w5.heap.size w5).drew)
   have B5d : Hid (Below w.heap.size w w5.drew) := B5.out.drew
   clear S5 B5 R5 P5
   generalize w5.drew = Z1 at S5d B5d hHeld ⊢
   refine tq 0 ?_
   simp only [Act.put, uB, uC, uD]
   refine tk 1 ?_ rfl (Or.inl ⟨by rfl, ?_⟩) ?_
   rotate_left
   ·intro w hSw
    have c0 := (sh_cells hSw.1).1
    clear hSw
    go_simp
    all_goals with_reducible rfl
   simp only [Act.put, uB, uC, uD]
   refine r1 2 fun K hK => ?_
   go_simp
   refine (isPage_yes n NN.out Z1).mono ?_
   rintro e Z2 ⟨rfl, rfl⟩
   refine hK.out _ _ hHeld (fun hHeld => ?_)
   clear hK K
   try simp only [Act.put, uB, uC, uD]
   refine tq 3 ?_
   simp only [Act.put, uB, uC, uD]
   refine tq 4 ?_
   simp only [Act.put, uB, uC, uD]
   refine tq 5 ?_
   simp only [Act.put, uB, uC, uD]
   refine tk 6 ?_ rfl (Or.inl ⟨by rfl, ?_⟩) ?_
   rotate_left
   ·intro w hSw
    have c1 := (sh_cells hSw.1).2
    clear hSw
    go_simp
    all_goals with_reducible rfl
   simp only [Act.put, uB, uC, uD]
   refine tq 7 ?_
   simp only [Act.put, uB, uC, uD]
   refine tq 8 ?_
   simp only [Act.put, uB, uC, uD]
   refine tq 9 ?_
   simp only [Act.put, uB, uC, uD]
   refine tq 10 ?_
   simp only [Act.put, uB, uC, uD]
   refine tq 11 ?_
   simp only [Act.put, uB, uC, uD]
   refine tq 12 ?_
   simp only [Act.put, uB, uC, uD]
   refine tq 13 ?_
   simp only [Act.put, uB, uC, uD]
   refine tq 14 ?_
   simp only [Act.put, uB, uC, uD]
   refine tq 15 ?_
   simp only [Act.put, uB, uC, uD]
   refine tq 16 ?_
   simp only [Act.put, uB, uC, uD]
   refine tq 17 ?_
   simp only [Act.put, uB, uC, uD]
   refine tq 18 ?_
   simp only [Act.put, uB, uC, uD]
   refine tk 19 ?_ rfl (Or.inl ⟨by rfl, ?_⟩) ?_
   rotate_left
   ·intro w hSw
    have c2 := hSw.2 _ K0.out (by rw [KM.out]; exact PU.out)
    rw [KM.out] at c2
    clear hSw
    go_simp
    all_goals with_reducible rfl
   simp only [Act.put, uB, uC, uD]
   refine tq 20 ?_
   simp only [Act.put, uB, uC, uD]
   refine tk 21 ?_ rfl (Or.inl ⟨by rfl, ?_⟩) ?_
   rotate_left
   ·intro w hSw
    have c0 := (sh_cells hSw.1).1
    clear hSw
    go_simp
    all_goals with_reducible rfl
   simp only [Act.put, uB, uC, uD]
   refine tq 22 ?_
   simp only [Act.put, uB, uC, uD]
  all_goals
   refine tq 23 ?_
   simp only [Act.put, uB, uC, uD]
   refine tq 24 ?_
   simp only [Act.put, uB, uC, uD]
   refine wpAnyH_done (by kernel_rfl) ?_ _
   refine NoPanic.normal ?_
   clear hHeld
   go_wp2_with fail
   go_roundw
   case rel => exact ⟨k + 1, KK.out, by go_num, S5d.out, B5d.out⟩
   case measure => have := KK.out; simp [intOf]; omega
 ·have hkI : ¬ ((k : Int) < (d.length : Int)) := by omega
  go_wp2_with fail
  go_ret2
  exact ⟨g, ⟨c, rfl⟩, HG.out, d', PM.out, PW.out, S6.out, B6.out⟩
namespace S
end S
end Go.Proofs.YteealihknndclaaGreatDoor
namespace Go.Proofs.YteealihknndclaaGreatDoor
open Go.RowKit

theorem info3 : (Tryz.prog.info? 3).map (fun i => (i.zero, i.size, i.bytes)) = some (some (.int .i64 0), 1, 8) := by kernel_rfl
end Go.Proofs.YteealihknndclaaGreatDoor
namespace Go.Proofs.YteealihknndclaaGreatDoor
open Go.RowKit

namespace S
def put (ss : List (List UInt8)) (f : Nat) (x : List UInt8) : Nat → List (List UInt8)
 | 0 => ss
 | i + 1 => (put ss f x i).set (f + i) ((x.drop (i * 128)).take 128)
theorem put_length (ss : List (List UInt8)) (f : Nat) (x : List UInt8) (i : Nat) : (put ss f x i).length = ss.length := by
 induction i with
 | zero => rfl
 | succ i ih => rw [put, List.length_set, ih]
theorem put_off (ss : List (List UInt8)) (f : Nat) (x : List UInt8) (i j : Nat) (h : j < f ∨ f + i ≤ j) : (put ss f x i).getD j [] = ss.getD j [] := by
 induction i with
 | zero => rfl
 | succ i ih => rw [put, List.getD_eq_getElem?_getD, List.getElem?_set_ne (by omega), ← List.getD_eq_getElem?_getD, ih (by omega)]
theorem put_at (ss : List (List UInt8)) (f : Nat) (x : List UInt8) (i j : Nat) (hf : f + i ≤ ss.length) (h : j < i) : (put ss f x i).getD (f + j) [] = (x.drop (j * 128)).take 128 := by
 induction i with
 | zero => omega
 | succ i ih =>
  by_cases e : j = i
  ·subst e
   rw [put, List.getD_eq_getElem?_getD, List.getElem?_set_self (by rw [put_length]; omega)]
   rfl
  ·rw [put, List.getD_eq_getElem?_getD, List.getElem?_set_ne (by omega), ← List.getD_eq_getElem?_getD, ih (by omega) (by omega)]
theorem secs_cong {ss tt : List (List UInt8)} {f i : Nat} (h : ∀ j, f ≤ j → j < f + i → ss.getD j [] = tt.getD j []) : secs ss f i = secs tt f i := by
 induction i with
 | zero => rfl
 | succ i ih => rw [secs, secs, ih (fun j h1 h2 => h j h1 (by omega)), h (f + i) (by omega) (by omega)]
theorem put_page (ss : List (List UInt8)) (f : Nat) (x : List UInt8) (hx : x.length = 1024) (hf : f + 8 ≤ ss.length) : pageAt (put ss f x 8) f = x := by
 have key : ∀ i, i ≤ 8 → secs (put ss f x 8) f i = x.take (i * 128) := fun i => by
  induction i with
  | zero => intro _; simp [secs]
  | succ i ih =>
   intro hi
   rw [secs, ih (by omega), put_at ss f x 8 i hf (by omega), Nat.add_mul, Nat.one_mul, List.take_add]
 unfold pageAt
 rw [key 8 (by omega), List.take_of_length_le (by omega)]
theorem put_other (ss : List (List UInt8)) (f f' : Nat) (x : List UInt8) (h : f' + 8 ≤ f ∨ f + 8 ≤ f') : pageAt (put ss f x 8) f' = pageAt ss f' :=
 secs_cong (fun j h1 h2 => put_off ss f x 8 j (by omega))
end S
theorem Lo.beside {w0 w w2 : World} {o o2 : Ow} {d d2 : S.Dk} {g f c p t : Nat} {rs : List (List UInt8)} {tv : Value} (h : Lo w0 w o d g f c p t rs tv) (hd : DkIs w2 o2 d2) (hm : DkTo o w o2 w2) (hp : d2.pend = []) (hl : d2.safe.length = d.safe.length) (hs : ∀ j, f ≤ j → j < f + c → d2.safe.getD j [] = d.safe.getD j []) : Lo w0 w2 o2 d2 g f c p t rs tv := by
 have hg : g < w.heap.size := block_lt_of_row h.log.lg.row
 have ht : ∀ k, tv.ownBlock = some k → k < w.heap.size := fun k hk => h.log.lg.text.lt hk
 have hpt : o2.ptr = o.ptr := by unfold Ow.ptr; rw [hm.g]
 refine ⟨⟨h.log.dk.to hd hm, hp, h.log.good.stay hl hs, by rw [hpt]; exact h.log.lg.chg hm.chg h.log.no h.log.far, fun e => ?_, h.log.pos, fun k hk e => ?_, h.log.tpos⟩, fun k e => ?_, h.gb, h.tb, h.below.trans (hm.chg.below _ h.below.size (fun k hk e => by have := h.ob k e; omega)), h.pos⟩
 ·rcases hm.own g e with e | e
  ·exact h.log.no e
  ·omega
 ·rcases hm.own k e with e | e
  ·exact h.log.far k hk e
  ·have := ht k hk; omega
 ·rcases hm.own k e with e | e
  ·exact h.ob k e
  ·exact Nat.le_trans h.below.size e
namespace S
def orBit (s : List UInt8) (n : Nat) : List UInt8 := s.set (n / 8) (s.getD (n / 8) 0 ||| UInt8.ofNat (2 ^ (n % 8)))
theorem orBit_length (s : List UInt8) (n : Nat) : (orBit s n).length = s.length := by unfold orBit; rw [List.length_set]
def setL (ns : List Nat) : List UInt8 := ns.foldl orBit (zeros 64)
theorem foldl_orBit_length (ns : List Nat) (s : List UInt8) : (ns.foldl orBit s).length = s.length := by
 induction ns generalizing s with
 | nil => rfl
 | cons n r ih => rw [List.foldl_cons, ih, orBit_length]
theorem setL_length (ns : List Nat) : (setL ns).length = 64 := by unfold setL; rw [foldl_orBit_length, zeros_length]
theorem or_bits (r : Nat) (x : UInt8) (h : r < 8) : bits BinOp.or IntKind.u8 (x.toNat : Int) (IntKind.u8.wrap (2 ^ r)) = ((x ||| UInt8.ofNat (2 ^ r)).toNat : Int) := by
 have e : IntKind.u8.wrap (2 ^ r) = (((UInt8.ofNat (2 ^ r)).toNat : Nat) : Int) := by
  match r, h with
  | 0, _ => rfl
  | 1, _ => rfl
  | 2, _ => rfl
  | 3, _ => rfl
  | 4, _ => rfl
  | 5, _ => rfl
  | 6, _ => rfl
  | 7, _ => rfl
 rw [e, u8_or_nat _ _ (UInt8.toNat_lt x) (UInt8.toNat_lt _), UInt8.toNat_or]
def pgs (d : List ShV) : List Nat := d.map (fun x => x.1.toNat)
theorem setL_take (d : List ShV) (k : Nat) (x : ShV) (h : d[k]? = some x) : setL (pgs (d.take (k + 1))) = orBit (setL (pgs (d.take k))) x.1.toNat := by
 unfold setL pgs
 rw [List.take_add_one, h, List.map_append, List.foldl_append]
 rfl
end S
set_option maxHeartbeats 4000000 in
set_option maxRecDepth 10000 in
theorem setOf_any (g c : Nat) (d : List ShV) (w : World) (hs : ShR w g d) (hp : ∀ x ∈ d, 0 ≤ x.1 ∧ x.1 < 512 ∧ x.2.2.1 = 1024) (hl : d.length ≤ 256) :
  Calls Tryz.prog 84 #[.slice (some ⟨g, 0, none⟩) d.length c] w fun e w' => e = .returned (.agg (S.v8 (S.setL (S.pgs d)))) ∧ Below w.heap.size w w' := by
 have hal1 := alloc57 w
 obtain ⟨w1, hw1⟩ : ∃ w1, w1 = w.alloc (.cells (S.v8 (S.zeros 64)) 149) := ⟨_, rfl⟩
 have hal2 := alloc57 w1
 obtain ⟨w2, hw2⟩ : ∃ w2, w2 = w1.alloc (.cells (S.v8 (S.zeros 64)) 149) := ⟨_, rfl⟩
 have b1 : Below w.heap.size w w1 := by rw [hw1]; exact (Below.refl _ _).alloc (Nat.le_refl _) _
 have b2 : Below w1.heap.size w1 w2 := by rw [hw2]; exact (Below.refl _ _).alloc (Nat.le_refl _) _
 have r1 : w1.heap[w.heap.size]? = some (.cells (S.v8 (S.zeros 64)) 149 (0, 0)) := by rw [hw1]; exact heap_alloc_new _ _
 have r2 : w2.heap[w1.heap.size]? = some (.cells (S.v8 (S.zeros 64)) 149 (0, 0)) := by rw [hw2]; exact heap_alloc_new _ _
 have R2 : Hid (w2.heap[w.heap.size]? = some (.cells (S.v8 (S.zeros 64)) 149 (0, 0))) := (b2.block _ (block_lt_of_row r1)).trans r1
 have R3 := hide r2
 have B2 : Hid (Below w.heap.size w w2) := b1.trans (b2.mono b1.size)
 have S2 : Hid (ShR w2 g d) := (hs.below b1).below b2
 have HQ := hide hp
 have HL := hide hl
 have hgl := hs.lt
 have NG3 : Hid (¬ g = w1.heap.size) := fun e => by have := b1.size; omega
 have h12 := block_lt_of_row r1
 rw [← hw1] at hal1
 rw [← hw2] at hal2
 obtain ⟨g2, hg2⟩ : ∃ g2, g2 = w.heap.size := ⟨_, rfl⟩
 obtain ⟨g3, hg3⟩ : ∃ g3, g3 = w1.heap.size := ⟨_, rfl⟩
 rw [← hg2] at hal1 R2
 rw [← hg3] at hal2 R3 NG3
 have N23 : Hid (¬ g2 = g3) := fun e => by omega
 have HG3 : Hid (w.heap.size ≤ g3) := by show w.heap.size ≤ g3; omega
 have HG2 : Hid (w.heap.size ≤ g2) := by show w.heap.size ≤ g2; omega
 clear b1 b2 r1 r2 hw1 hw2 hg2 hg3 hs h12 hp hl hgl
 go_enter Tryz.func84, Tryz.ntmps84
 go_wp2_with (first | (with_reducible refine at_op ⟨some 2, .alloc 149, 0, "set.go:14", #[], none⟩ ?_; refine wpList_alloc_known rfl 149 rfl (.pointer (some ⟨g2, 0, none⟩)) w1 hal1 ?_) | (with_reducible refine at_op ⟨some 3, .alloc 149, 0, "set.go:15", #[], none⟩ ?_; refine wpList_alloc_known rfl 149 rfl (.pointer (some ⟨g3, 0, none⟩)) w2 hal2 ?_))
 clear hal1 hal2
 go_loopw [8] (fun i wr => ∃ k : Nat, k ≤ d.length ∧ i = .int .i64 (k : Int) ∧ wr.heap[g2]? = some (.cells (S.v8 (S.zeros 64)) 149 (0, 0)) ∧ wr.heap[g3]? = some (.cells (S.v8 (S.setL (S.pgs (d.take k)))) 149 (0, 0)) ∧ ShR wr g d ∧ Below w.heap.size w wr) (fun i _ => d.length - (intOf i).toNat)
 case atStart => exact ⟨0, Nat.zero_le _, rfl, R2.out, R3.out, S2.out, B2.out⟩
 case round =>
 obtain ⟨k, hk, rfl, h2, h3, hs, hb⟩ := hrel
 clear R2 R3 S2 B2
 by_cases hkl : k < d.length
 ·obtain ⟨x, hx⟩ : ∃ x, d[k]? = some x := ⟨d[k], List.getElem?_eq_getElem hkl⟩
  obtain ⟨c0, c1⟩ := hs.cells k x hx
  obtain ⟨p1, p2, p3⟩ := HQ.out x (List.mem_of_getElem? hx)
  obtain ⟨xn, ab, xl, cb⟩ := x
  simp only at p1 p2 p3
  subst p3
  obtain ⟨n, rfl⟩ : ∃ n : Nat, xn = (n : Int) := ⟨xn.toNat, by omega⟩
  have hn : n < 512 := by omega
  have hkI : (k : Int) < (d.length : Int) := by omega
  have hk0 : (0 : Int) ≤ (k : Int) := by omega
  have hgt : (d.length : Int) ≤ 256 := by have := HL.out; omega
  have KK := hide hkl
  simp only [ShV.list] at c1
  obtain ⟨q, hq⟩ : ∃ q : Nat, q = n / 8 := ⟨_, rfl⟩
  obtain ⟨r, hr⟩ : ∃ r : Nat, r = n % 8 := ⟨_, rfl⟩
  obtain ⟨s0, hs0⟩ : ∃ s0, s0 = S.setL (S.pgs (d.take k)) := ⟨_, rfl⟩
  have HONE : Hid (S.setL (S.pgs (d.take (k + 1))) = s0.set q (s0[q]?.getD 0 ||| UInt8.ofNat (2 ^ r))) := by
   show S.setL (S.pgs (d.take (k + 1))) = s0.set q (s0[q]?.getD 0 ||| UInt8.ofNat (2 ^ r))
   rw [S.setL_take d k _ hx, hq, hr, hs0]; rfl
  have SL : Hid (s0.length = 64) := by rw [hs0]; exact S.setL_length _
  have hr8 : r < 8 := by omega
  have hq64 : q < 64 := by omega
  have q1 : (n : Int) / 8 = (q : Int) := by omega
  have q2 : (n : Int) % 8 = (r : Int) := by omega
  have q3 : (0 : Int) ≤ (q : Int) := by omega
  have q4 : (q : Int) < 64 := by omega
  have q5 : (0 : Int) ≤ (r : Int) := by omega
  have q6 : (r : Int) < 8 := by omega
  have q7 : (0 : Int) ≤ (n : Int) := by omega
  have q8 : IntKind.i64.wrap (q : Int) = (q : Int) := by rw [IntKind.wrap_i64]; omega
  have q9 : IntKind.i64.wrap (r : Int) = (r : Int) := by rw [IntKind.wrap_i64]; omega
  have q10 : (n : Int).tmod 8 = (r : Int) := by rw [Int.tmod_eq_emod_of_nonneg q7]; exact q2
  rw [← hs0] at h3
  have R3 := hide h3
  have R2 := hide h2
  have S2 := hide hs
  have B2 := hide hb
  clear hx p1 p2 hkl hq hr hn hs0 h2 h3 hs hb hk
  obtain ⟨bv, hbv⟩ : ∃ bv, bv = Value.slice ab 1024 cb := ⟨_, rfl⟩
  obtain ⟨w5, hw5⟩ : ∃ w5, w5 = wr.alloc (.cells #[.int .i64 (n : Int), .slice ab 1024 cb] 144) := ⟨_, rfl⟩
  have b5 : Below wr.heap.size wr w5 := by rw [hw5]; exact (Below.refl _ _).alloc (Nat.le_refl _) _
  have R5 : Hid (w5.heap[wr.heap.size]? = some (.cells #[.int .i64 (n : Int), bv] 144 (0, 0))) := by rw [hw5, hbv]; exact heap_alloc_new _ _
  have R35 : Hid (w5.heap[g3]? = some (.cells (S.v8 s0) 149 (0, 0))) := (b5.block g3 (block_lt_of_row R3.out)).trans R3.out
  have R25 : Hid (w5.heap[g2]? = some (.cells (S.v8 (S.zeros 64)) 149 (0, 0))) := (b5.block g2 (block_lt_of_row R2.out)).trans R2.out
  have N53 : Hid (¬ wr.heap.size = g3) := fun e => by have := block_lt_of_row R3.out; omega
  have S5 := hide (S2.out.below b5)
  have B5 := hide (B2.out.trans (b5.mono B2.out.size))
  obtain ⟨g5, hg5⟩ : ∃ g5, g5 = wr.heap.size := ⟨_, rfl⟩
  rw [← hg5] at R5 N53
  clear b5 S2 R2 R3 B2
  go_upto_region 5 with fail
  rw [← hw5, ← hg5]
  clear hw5 hg5 c0 c1
  refine wp_region_noPanic ?_
  refine wp_region_held_drew (S := (fun W => W.heap[g5]? = some (.cells #[.int .i64 (n : Int), bv] 144 (0, 0)))) follows R5.out (fun hHeld => ?_)
  have R3d : Hid (w5.drew.heap[g3]? = some (.cells (S.v8 s0) 149 (0, 0))) := R35.out
  have R2d : Hid (w5.drew.heap[g2]? = some (.cells (S.v8 (S.zeros 64)) 149 (0, 0))) := R25.out
  have B5d : Hid (Below w.heap.size w w5.drew) := B5.out.drew
  have S5d := hide (S5.out.below (Below.refl w5.heap.size w5).drew)
  clear R35 R25 B5 R5 S5
  generalize w5.drew = Z1 at R3d R2d B5d S5d hHeld ⊢
  refine tq 0 ?_
  simp only [Act.put, uB, uC, uD]
  refine tk 1 ?_ rfl (Or.inl ⟨by rfl, ?_⟩) ?_
  rotate_left
  ·intro w hSw
   have c0 := (sh_cells hSw).1
   clear hSw
   go_simp
   all_goals with_reducible rfl
  simp only [Act.put, uB, uC, uD]
  refine tq 2 ?_
  simp only [Act.put, uB, uC, uD]
  refine tq 3 ?_
  simp only [Act.put, uB, uC, uD]
  refine tq 5 ?_
  simp only [Act.put, uB, uC, uD]
  refine tk 6 ?_ rfl (Or.inl ⟨by rfl, ?_⟩) ?_
  rotate_left
  ·intro w hSw
   have c0 := (sh_cells hSw).1
   clear hSw
   go_simp
   all_goals with_reducible rfl
  simp only [Act.put, uB, uC, uD]
  refine tq 7 ?_
  simp only [Act.put, uB, uC, uD]
  refine tq 8 ?_
  simp only [Act.put, uB, uC, uD]
  refine r1 4 fun K hK => ?_
  have c4 := v8_cell R3d.out q (by rw [SL.out]; omega)
  go_simp
  clear c4
  refine hK.out _ _ hHeld (fun hHeld => ?_)
  clear hK K
  try simp only [Act.put, uB, uC, uD]
  refine tq 9 ?_
  simp only [Act.put, uB, uC, uD]
  refine tq 10 ?_
  simp only [Act.put, uB, uC, uD]
  refine r1 11 fun K hK => ?_
  have c4 := v8_cell R3d.out q (by rw [SL.out]; omega)
  have f4 := frozen_of_row _ _ q _ _ R3d.out
  go_simp
  rw [S.or_bits r _ hr8]
  have V3 := hide (v8_set R3d.out q (s0[q]?.getD 0 ||| UInt8.ofNat (2 ^ r)))
  have a2 : (Z1.setCell ⟨g3, q, none⟩ (.int .u8 ((s0[q]?.getD 0 ||| UInt8.ofNat (2 ^ r)).toNat : Int))).heap[g5]? = some (.cells #[.int .i64 (n : Int), bv] 144 (0, 0)) := (heap_setCell_other _ ⟨g3, q, none⟩ g5 _ (fun e => N53.out e)).trans hHeld
  have R2s : Hid ((Z1.setCell ⟨g3, q, none⟩ (.int .u8 ((s0[q]?.getD 0 ||| UInt8.ofNat (2 ^ r)).toNat : Int))).heap[g2]? = some (.cells (S.v8 (S.zeros 64)) 149 (0, 0))) := (heap_setCell_other _ ⟨g3, q, none⟩ g2 _ (fun e => N23.out e)).trans R2d.out
  have S6 : Hid (ShR (Z1.setCell ⟨g3, q, none⟩ (.int .u8 ((s0[q]?.getD 0 ||| UInt8.ofNat (2 ^ r)).toNat : Int))) g d) := by
   obtain ⟨cur, x1, x2⟩ := S5d.out.row
   exact ⟨cur, (heap_setCell_other _ ⟨g3, q, none⟩ g _ (fun e => NG3.out e)).trans x1, x2⟩
  have B6 : Hid (Below w.heap.size w (Z1.setCell ⟨g3, q, none⟩ (.int .u8 ((s0[q]?.getD 0 ||| UInt8.ofNat (2 ^ r)).toNat : Int)))) := B5d.out.setCell (p := ⟨g3, q, none⟩) HG3.out _
  obtain ⟨Z2, hZ2⟩ : ∃ Z2, Z2 = Z1.setCell ⟨g3, q, none⟩ (.int .u8 ((s0[q]?.getD 0 ||| UInt8.ofNat (2 ^ r)).toNat : Int)) := ⟨_, rfl⟩
  rw [← hZ2] at V3 a2 R2s S6 B6 ⊢
  refine hK.out _ _ a2 (fun hHeld => ?_)
  clear hK K a2 hZ2 c4 f4 R3d R2d B5d S5d
  try simp only [Act.put, uB, uC, uD]
  refine wpAnyH_done (by kernel_rfl) ?_ _
  refine NoPanic.normal ?_
  clear hHeld
  go_wp2_with fail
  go_roundw
  case rel => exact ⟨k + 1, KK.out, by go_num, R2s.out, by rw [HONE.out]; exact V3.out, S6.out, B6.out⟩
  case measure => have := KK.out; simp [intOf]; omega

 ·have hkI : ¬ ((k : Int) < (d.length : Int)) := by omega
  rw [List.take_of_length_le (by omega)] at h3
  have ld := load57 h3 (S.setL_length _)
  obtain ⟨w6, hst, r6, c6⟩ := store57 (ys := S.setL (S.pgs d)) h2 (S.zeros_length _) (S.setL_length _)
  have R6 := hide r6
  have B6 : Hid (Below w.heap.size w w6) := hb.trans (c6.base hb.size HG2.out)
  obtain ⟨Z, hZ⟩ : ∃ Z, Z = S.v8 (S.setL (S.pgs d)) := ⟨_, rfl⟩
  rw [← hZ] at ld hst
  have HZ := hide hZ
  clear r6 c6 h2 h3 hb hZ hs hk hkl
  go_wp2_with (first | (with_reducible refine at_op ⟨some 24, .load 149 (.tmp 3), 149, "set.go:19", #[], none⟩ ?_; refine wpList_load_as rfl 149 (.tmp 3) rfl (.pointer (some ⟨g3, 0, none⟩)) rfl (.agg Z) ld ?_) | (with_reducible refine at_op ⟨none, .store 149 (.tmp 2) (.tmp 24), 0, "set.go:19", #[{ on := 0, ground := Ground.data }, { on := 0, ground := Ground.phase }], none⟩ ?_; refine wpList_store_as rfl 149 (.tmp 2) (.tmp 24) rfl (.pointer (some ⟨g2, 0, none⟩)) (.agg Z) rfl rfl w6 hst ?_))
  refine bodyPost_ret (results_row_one Tryz.results84 _ _ g2 (.agg (S.v8 (S.setL (S.pgs d)))) rfl (loadVar57 R6.out (S.setL_length _))) rfl ⟨rfl, B6.out⟩
theorem ownsRow_below {w W : World} {base : Nat} {e : TypeId} {size : Nat} {v : Value} {n : Nat} {xs : List Value} (h : w.ownsRow base e size v n xs) (hb : Below w.heap.size w W) : W.ownsRow base e size v n xs := by
 refine ⟨h.1, ?_⟩
 rcases h.2 with h2 | ⟨g, cap, cur, h1, h2, h3, h4⟩
 ·exact Or.inl h2
 ·exact Or.inr ⟨g, cap, cur, h1, h2, (hb.block g (block_lt_of_row h3)).trans h3, h4⟩
namespace S
def inSet (s : List UInt8) (k : Nat) : List Nat := (List.range k).filter (bit s)
theorem inSet_succ (s : List UInt8) (k : Nat) : inSet s (k + 1) = inSet s k ++ (if bit s k then [k] else []) := by
 unfold inSet
 rw [List.range_succ, List.filter_append]
 congr 1
 by_cases h : bit s k = true
 ·rw [if_pos h, List.filter_cons_of_pos h]; rfl
 ·rw [if_neg h, List.filter_cons_of_neg h]; rfl
theorem inSet_length (s : List UInt8) (k : Nat) : (inSet s k).length ≤ k := by
 unfold inSet
 exact Nat.le_trans (List.length_filter_le _ _) (by rw [List.length_range]; exact Nat.le_refl _)
def ints (l : List Nat) : List Value := l.map (fun n : Nat => Value.int .i64 (n : Int))
end S
theorem run_append_int_on (w : World) (base gx : Nat) (n : Int) (ty : TypeId) (v : Value) (m : Nat) (xs : List Value) (hown : w.ownsRow base 3 1 v m xs) (hm : m ≤ 1000) (hb : base ≤ w.heap.size) (hx : w.heap[gx]? = some (.cells #[.int .i64 n] 3 (0, 0))) :
  ∃ v' w', (Builtin.append_ #[227, 227] ty #[v, .slice (some ⟨gx, 0, none⟩) 1 1]).run Tryz.prog w = .ok v' w' ∧ (w'.ownsRow base 3 1 v' (m + 1) (xs ++ [.int .i64 n]) ∧ w.grownBy w' v.ownBlock) := by
 obtain ⟨i, hi, hz0, hz1, hz2⟩ := info_parts info3
 obtain ⟨v', w', hr, ho, hg, hn⟩ := run_append_own (P := Tryz.prog) w base 227 ty 3 i (.int .i64 0) 1 8 Tryz.underlying227 hi hz0 hz1 hz2 rfl (by omega) v m xs hown ⟨gx, 0, none⟩ 1 1 [.int .i64 n] rfl (fun j u hu => by
  rw [Addr.add_lit, Nat.zero_add, cell_of_row w gx j _ 3 (0, 0) hx]
  simpa using hu) (fun u hu => by simp only [List.mem_singleton] at hu; rw [hu]; rfl) (by simp [maxLen]; omega) (by omega) hb
 exact ⟨v', w', hr, ho, hg⟩
set_option maxHeartbeats 4000000 in
set_option maxRecDepth 10000 in
theorem pages_any (s : List UInt8) (w : World) (hs : s.length = 64) :
  Calls Tryz.prog 136 #[.agg (S.v8 s)] w fun e w' => ∃ v, e = .returned v ∧ w'.ownsRow w.heap.size 3 1 v (S.inSet s 512).length (S.ints (S.inSet s 512)) ∧ Below w.heap.size w w' := by
 obtain ⟨Z, hZ⟩ : ∃ Z, Z = S.v8 s := ⟨_, rfl⟩
 obtain ⟨w1, hw1⟩ : ∃ w1, w1 = w.alloc (.cells Z 149) := ⟨_, rfl⟩
 have B1 : Hid (Below w.heap.size w w1) := by rw [hw1]; exact (Below.refl _ _).alloc (Nat.le_refl _) _
 have R1 : Hid (w1.heap[w.heap.size]? = some (.cells (S.v8 s) 149 (0, 0))) := by rw [hw1, hZ]; exact heap_alloc_new _ _
 obtain ⟨gs, hgs⟩ : ∃ gs, gs = w.heap.size := ⟨_, rfl⟩
 rw [← hgs] at R1
 obtain ⟨bs, hbs⟩ : ∃ bs, bs = w.heap.size + 1 := ⟨_, rfl⟩
 have NB := hide (show gs < bs by omega)
 have WB := hide (show w.heap.size ≤ bs by omega)
 have BS1 : Hid (bs ≤ w1.heap.size) := by have := block_lt_of_row R1.out; show bs ≤ w1.heap.size; omega
 rw [← hZ]
 have HZ := hide hZ
 have HS := hide hs
 clear hZ hbs hs
 go_enter Tryz.func136, Tryz.ntmps136
 go_wp2_with fail
 rw [← hw1, ← hgs]
 clear hw1 hgs
 go_loopw [3, 5] (fun l i wr => ∃ k : Nat, k ≤ 512 ∧ i = .int .i64 (k : Int) ∧ wr.heap[gs]? = some (.cells (S.v8 s) 149 (0, 0)) ∧ Below w.heap.size w wr ∧ bs ≤ wr.heap.size ∧ wr.ownsRow bs 3 1 l (S.inSet s k).length (S.ints (S.inSet s k))) (fun _ i _ => 512 - (intOf i).toNat)
 case atStart => exact ⟨0, by omega, rfl, R1.out, B1.out, BS1.out, World.ownsRow_nil _ _ _ _⟩
 case round =>
 obtain ⟨k, hk, rfl, hr, hb, hbs, hl⟩ := hrel
 have RR := hide hr
 have BB := hide hb
 have BS := hide hbs
 have HL := hide hl
 clear hr hb hl hbs R1 B1 BS1
 by_cases hlt : k < 512
 ·have q1 : (k : Int) < 512 := by omega
  have q2 : IntKind.i64.wrap ((k : Int) + 1) = (k : Int) + 1 := by rw [IntKind.wrap_i64]; omega
  have ld := load57 RR.out HS.out
  rw [← HZ.out] at ld
  go_wp2_with (with_reducible refine at_op ⟨some 8, .load 149 (.tmp 1), 149, "set.go:50", #[], none⟩ ?_; refine wpList_load_as rfl 149 (.tmp 1) rfl (.pointer (some ⟨gs, 0, none⟩)) rfl (.agg Z) ld ?_)
  clear ld
  refine (bit_any Z s k wr HZ.out HS.out hlt).mono ?_
  rintro e w2 ⟨rfl, b2⟩
  have R2 : Hid (w2.heap[gs]? = some (.cells (S.v8 s) 149 (0, 0))) := (b2.block gs (block_lt_of_row RR.out)).trans RR.out
  have B2 := hide (BB.out.trans (b2.mono BB.out.size))
  have S2 := hide (Nat.le_trans BS.out b2.size)
  have L2 := hide (ownsRow_below HL.out b2)
  have SU := hide (S.inSet_succ s k)
  have SLE := hide (S.inSet_length s k)
  clear b2 RR BB BS HL
  by_cases hkn : S.bit s k = true
  ·rw [hkn]
   obtain ⟨w3, hw3⟩ : ∃ w3, w3 = w2.alloc (.cells #[.int .i64 (k : Int)] 3) := ⟨_, rfl⟩
   have b3 : Below w2.heap.size w2 w3 := by rw [hw3]; exact (Below.refl _ _).alloc (Nat.le_refl _) _
   have r3 : w3.heap[w2.heap.size]? = some (.cells #[.int .i64 (k : Int)] 3 (0, 0)) := by rw [hw3]; exact heap_alloc_new _ _
   have S3 := hide (Nat.le_trans S2.out b3.size)
   have L3 := hide (ownsRow_below L2.out b3)
   have APP := hide (run_append_int_on w3 bs w2.heap.size (k : Int) 227 u3 _ _ L3.out (by have := SLE.out; omega) S3.out r3)
   have R3 : Hid (w3.heap[gs]? = some (.cells (S.v8 s) 149 (0, 0))) := (b3.block gs (block_lt_of_row R2.out)).trans R2.out
   have B3 := hide (B2.out.trans (b3.mono B2.out.size))
   have HW3 := hide hw3
   clear b3 r3 hw3 R2 B2 L2 S2
   go_wp2_with (at_builtin; (rw [← HW3.out]; refine wpList_append_known rfl (.tmp 11) (.tmp 13) 227 227 rfl _ _ rfl rfl APP.out ?_; rintro v4 w4 ⟨ho4, hg4⟩; have O4 := hide ho4; have G4 := hide hg4; clear ho4 hg4))
   have LT3 := L3.out.lt
   have R4 : Hid (w4.heap[gs]? = some (.cells (S.v8 s) 149 (0, 0))) := (G4.out.block gs (block_lt_of_row R3.out) (fun e => by have := (LT3 gs e.symm).1; have := NB.out; omega)).trans R3.out
   have B5 : Hid (Below w.heap.size w w4) := B3.out.grown G4.out B3.out.size (fun j e => Nat.le_trans WB.out (LT3 j e).1)
   have S5 := hide (Nat.le_trans S3.out G4.out.size)
   have L5 : Hid (w4.ownsRow bs 3 1 v4 (S.inSet s (k + 1)).length (S.ints (S.inSet s (k + 1)))) := by
    show w4.ownsRow bs 3 1 v4 (S.inSet s (k + 1)).length (S.ints (S.inSet s (k + 1)))
    rw [SU.out, if_pos hkn, List.length_append, S.ints, List.map_append]
    exact O4.out
   clear APP LT3 O4 G4 L3 R3 B3 S3
   go_roundw
   case rel => exact ⟨k + 1, by omega, by go_num, R4.out, B5.out, S5.out, L5.out⟩
   case measure => simp [intOf]; omega
  ·have hkf : S.bit s k = false := by simpa using hkn
   rw [hkf]
   have L5 : Hid (w2.ownsRow bs 3 1 u3 (S.inSet s (k + 1)).length (S.ints (S.inSet s (k + 1)))) := by
    show w2.ownsRow bs 3 1 u3 (S.inSet s (k + 1)).length (S.ints (S.inSet s (k + 1)))
    rw [SU.out, if_neg hkn, List.append_nil]
    exact L2.out
   clear L2 hkf hkn
   go_wp2_with fail
   go_roundw
   case rel => exact ⟨k + 1, by omega, by go_num, R2.out, B2.out, S2.out, L5.out⟩
   case measure => simp [intOf]; omega
 ·obtain rfl : k = 512 := by omega
  go_wp2_with fail
  go_ret
  exact ⟨_, rfl, ⟨HL.out.1, HL.out.2.imp id (fun ⟨g, cap, cur, h1, h2, h3⟩ => ⟨g, cap, cur, h1, Nat.le_trans WB.out h2, h3⟩)⟩, BB.out⟩
end Go.Proofs.YteealihknndclaaGreatDoor
namespace Go.Proofs.YteealihknndclaaGreatDoor
namespace S
theorem bit_orBit (s : List UInt8) (hs : s.length = 64) (n m : Nat) (hn : n < 512) : bit (orBit s n) m = (bit s m || decide (m = n)) := by
 rw [bit_iff, bit_iff]
 unfold orBit
 have hr : n % 8 < 8 := Nat.mod_lt _ (by omega)
 have hr' : m % 8 < 8 := Nat.mod_lt _ (by omega)
 by_cases hq : m / 8 = n / 8
 ·rw [hq, List.getD_eq_getElem?_getD, List.getElem?_set_self (by omega), Option.getD_some]
  have key : ∀ a b : Fin 8, (UInt8.ofNat (2 ^ a.val)).toNat.testBit b.val = decide (b.val = a.val) := by decide
  rw [← Nat.testBit_eq_decide_div_mod_eq, ← Nat.testBit_eq_decide_div_mod_eq, UInt8.toNat_or, Nat.testBit_or, key ⟨n % 8, hr⟩ ⟨m % 8, hr'⟩]
  congr 1
  apply decide_eq_decide.2
  constructor
  ·intro h
   have h : m % 8 = n % 8 := h
   omega
  ·rintro rfl
   rfl
 ·rw [List.getD_eq_getElem?_getD, List.getElem?_set_ne (fun e => hq e.symm), ← List.getD_eq_getElem?_getD]
  have : ¬ m = n := fun e => hq (by rw [e])
  rw [decide_eq_false this, Bool.or_false]
theorem bit_foldl (ns : List Nat) (s : List UInt8) (hs : s.length = 64) (h : ∀ n ∈ ns, n < 512) (m : Nat) : bit (ns.foldl orBit s) m = (bit s m || decide (m ∈ ns)) := by
 induction ns generalizing s with
 | nil => simp
 | cons n r ih =>
  rw [List.foldl_cons, ih _ (by rw [orBit_length]; exact hs) (fun x hx => h x (List.mem_cons_of_mem _ hx)), bit_orBit s hs n m (h n List.mem_cons_self), Bool.or_assoc]
  congr 1
  simp [List.mem_cons]
theorem bit_setL (ns : List Nat) (h : ∀ n ∈ ns, n < 512) (m : Nat) : bit (setL ns) m = decide (m ∈ ns) := by
 unfold setL
 rw [bit_foldl ns _ (zeros_length _) h, bit_zeros, Bool.false_or]
theorem inSet_setL (ns : List Nat) (h : ∀ n ∈ ns, n < 512) (hp : ns.Pairwise (· < ·)) : inSet (setL ns) 512 = ns := by
 have h1 : (inSet (setL ns) 512).Pairwise (· < ·) := List.Pairwise.filter _ List.pairwise_lt_range
 have h2 : (inSet (setL ns) 512).Perm ns := by
  refine (List.perm_ext_iff_of_nodup (h1.imp (fun h => Nat.ne_of_lt h)) (hp.imp (fun h => Nat.ne_of_lt h))).2 (fun a => ?_)
  unfold inSet
  rw [List.mem_filter, List.mem_range, bit_setL ns h, decide_eq_true_eq]
  exact ⟨fun x => x.2, fun x => ⟨h a x, x⟩⟩
 exact h2.eq_of_pairwise (fun a b _ _ x y => absurd (Nat.lt_trans x y) (Nat.lt_irrefl _)) h1 hp
end S
end Go.Proofs.YteealihknndclaaGreatDoor
namespace Go.Proofs.YteealihknndclaaGreatDoor
open Go.RowKit

namespace S
def spTo (xs : List (List UInt8)) (k : Nat) : List Act := (List.range k).flatMap (fun i => (pageWs (4101 + i * 8) (xs.getD i []) 8).acts)
theorem spTo_succ (xs : List (List UInt8)) (k : Nat) : spTo xs (k + 1) = spTo xs k ++ (pageWs (4101 + k * 8) (xs.getD k []) 8).acts := by
 unfold spTo
 rw [List.range_succ, List.flatMap_append, List.flatMap_singleton]
theorem spTo_length (xs : List (List UInt8)) (k : Nat) : (spTo xs k).length = k * 8 := by
 induction k with
 | zero => rfl
 | succ k ih => rw [spTo_succ, List.length_append, ih]; unfold Ws.acts; rw [List.length_map, pageWs_length]; omega
theorem spTo_split (xs : List (List UInt8)) (a j : Nat) : ∃ r, spTo xs (a + j) = spTo xs a ++ r := by
 induction j with
 | zero => exact ⟨[], (List.append_nil _).symm⟩
 | succ j ih =>
  obtain ⟨r, hr⟩ := ih
  exact ⟨_, by rw [← Nat.add_assoc, spTo_succ, hr, List.append_assoc]⟩
end S
set_option maxHeartbeats 4000000 in
set_option maxRecDepth 10000 in
theorem putSpares_any (o : Ow) (d : S.Dk) (g c : Nat) (l : List ShV) (xs : List (List UInt8)) (w : World) (hd : DkIs w o d) (hl : 7680 ≤ d.safe.length) (hs : ShR w g l) (hg : ¬ o.has g) (h256 : l.length ≤ 256)
  (hv : ∀ i y, l[i]? = some y → 0 ≤ y.1 ∧ ∃ bk off, y.2.1 = some ⟨bk, off, none⟩ ∧ y.2.2.1 = 1024 ∧ SliceAt w y.list (xs.getD i []) ∧ ¬ o.has bk ∧ bk < w.heap.size) (hpe : d.pend.length ≤ 1000) :
  Calls Tryz.prog 83 #[o.ptr, .slice (some ⟨g, 0, none⟩) l.length c] w (Does d (S.spTo xs l.length ++ [.flush]) o w) := by
 have HD := hide hd
 have HS := hide hs
 have HV := hide hv
 have HG := hide hg
 have HL := hide h256
 have HPE := hide hpe
 have HLEN := hide hl
 have hgt : (l.length : Int) ≤ 256 := by omega
 clear hd hs hv hg hl h256 hpe
 go_enter Tryz.func83, Tryz.ntmps83
 go_wp2_with fail
 go_loopw [10] (fun i wr => ∃ k : Nat, k ≤ l.length ∧ i = .int .i64 (k : Int) ∧ ∃ d1 o1, d.plan (S.spTo xs k) = (d1, true) ∧ DkIs wr o1 d1 ∧ DkTo o w o1 wr) (fun i _ => l.length - (intOf i).toNat)
 case atStart => exact ⟨0, Nat.zero_le _, rfl, d, o, rfl, HD.out, DkTo.refl _ _⟩
 case round =>
 obtain ⟨k, hk, rfl, d1, o1, hpl, hdk, hto⟩ := hrel
 have PL := hide hpl
 have DK := hide hdk
 have T1 := hide hto
 have HP1 : Hid (d1.pend.length ≤ 4000) := by have h9 := S.Dk.plan_pend (S.spTo xs k) d; rw [hpl, S.spTo_length] at h9; have := HPE.out; have := HL.out; exact Nat.le_trans h9 (by omega)
 have hpn : o1.ptr = o.ptr := by unfold Ow.ptr; rw [hto.g]
 have HLEN1 : Hid (7680 ≤ d1.safe.length) := by have h9 := S.Dk.plan_len (S.spTo xs k) d; rw [hpl] at h9; show 7680 ≤ d1.safe.length; exact Nat.le_trans HLEN.out (Nat.le_of_eq h9.symm)
 have KL := hide hk
 rw [← hpn]
 clear hpl hdk hto hpn HD hk
 by_cases hkl : k < l.length
 ·obtain ⟨y, hy⟩ : ∃ y, l[k]? = some y := ⟨l[k], List.getElem?_eq_getElem hkl⟩
  obtain ⟨y0, bk, off, y1, y2, y3, y4, y5⟩ := HV.out k y hy
  have sr : ShR wr g l := by
   obtain ⟨cur, x1, x2⟩ := HS.out.row
   exact ⟨cur, T1.out.chg.row x1 HG.out, x2⟩
  obtain ⟨c0, c1⟩ := sr.cells k y hy
  obtain ⟨yn, ya, yl, cb⟩ := y
  simp only at y0 y1 y2
  subst y1 y2
  obtain ⟨n, rfl⟩ : ∃ n : Nat, yn = (n : Int) := ⟨yn.toNat, by omega⟩
  simp only [ShV.list] at c1 y3
  obtain ⟨x, hx⟩ : ∃ x, x = xs.getD k [] := ⟨_, rfl⟩
  rw [← hx] at y3
  have HX := hide hx
  have V1 := hide (y3.dk T1.out (fun a e => by cases e; exact y4))
  have FAR1 : Hid (¬ o1.has bk) := fun e => by
   rcases T1.out.own _ e with h | h
   ·exact y4 h
   ·omega
  have hkI : (k : Int) < (l.length : Int) := by omega
  have hk0 : (0 : Int) ≤ (k : Int) := by omega
  have KK := hide hkl
  have NG6 : Hid (¬ o1.has wr.heap.size) := fun e => by have := DK.out.lt _ e; omega
  obtain ⟨w5, hw5⟩ : ∃ w5, w5 = wr.alloc (.cells #[.int .i64 (n : Int), .slice (some ⟨bk, off, none⟩) 1024 cb] 144) := ⟨_, rfl⟩
  have b5 : Below wr.heap.size wr w5 := by rw [hw5]; exact (Below.refl _ _).alloc (Nat.le_refl _) _
  have R5 : Hid (w5.heap[wr.heap.size]? = some (.cells #[.int .i64 (n : Int), .slice (some ⟨bk, off, none⟩) 1024 cb] 144 (0, 0))) := by rw [hw5]; exact heap_alloc_new _ _
  have D5 := hide (DK.out.below b5)
  have B5 := hide b5
  have V5 := hide (V1.out.below b5 (Nat.le_refl _))
  obtain ⟨g6, hg6⟩ : ∃ g6, g6 = wr.heap.size := ⟨_, rfl⟩
  rw [← hg6] at R5 NG6
  clear b5 sr y0 y3 y4 y5 hy hx hkl V1 DK
  go_upto_region 4 with fail
  rw [← hw5, ← hg6]
  clear hw5 hg6 c0 c1
  refine wp_region_noPanic ?_
  refine wp_region_held_drew (S := (fun W => W.heap[g6]? = some (.cells #[.int .i64 (n : Int), .slice (some ⟨bk, off, none⟩) 1024 cb] 144 (0, 0)))) follows R5.out (fun hHeld => ?_)
  have D5d := hide (D5.out.below (Below.refl w5.heap.size w5).drew)
  have B5d : Hid (Below wr.heap.size wr w5.drew) := B5.out.drew
  have V5d := hide (V5.out.below (Below.refl w5.heap.size w5).drew (Nat.le_refl _))
  clear D5 B5 V5 R5
  generalize w5.drew = Z1 at D5d B5d V5d hHeld ⊢
  refine tq 0 ?_
  simp only [Act.put, uB, uC, uD]
  refine tq 1 ?_
  simp only [Act.put, uB, uC, uD]
  refine tq 3 ?_
  simp only [Act.put, uB, uC, uD]
  refine tk 4 ?_ rfl (Or.inl ⟨by rfl, ?_⟩) ?_
  rotate_left
  ·intro w hSw
   have c1 := (sh_cells hSw).2
   clear hSw
   go_simp
   all_goals with_reducible rfl
  simp only [Act.put, uB, uC, uD]
  refine r1 2 fun K hK => ?_
  go_simp
  refine (pspare_any k (by omega) Z1).mono ?_
  rintro e Z2 ⟨rfl, rfl⟩
  refine hK.out _ _ hHeld (fun hHeld => ?_)
  clear hK K
  try simp only [Act.put, uB, uC, uD]
  refine r1 5 fun K hK => ?_
  go_simp
  refine (writePage_do o1 d1 (4101 + k * 8) bk off cb x Z1 D5d.out (by have := HLEN1.out; have := HL.out; have := KK.out; omega) V5d.out FAR1.out (by have := HP1.out; omega)).mono ?_
  intro e Z2 hdo
  obtain ⟨b, d2, o2, rfl, h1, h2, h3⟩ := hdo.start
  have a2 : Z2.heap[g6]? = some (.cells #[.int .i64 (n : Int), .slice (some ⟨bk, off, none⟩) 1024 cb] 144 (0, 0)) := h3.chg.row hHeld (fun e => NG6.out e)
  have H1 := hide h1
  have H2 := hide h2
  have H3 : Hid (DkTo o w o2 Z2) := T1.out.trans (h3.after B5d.out)
  have hpn : o2.ptr = o1.ptr := by unfold Ow.ptr; rw [h3.g]
  have HPN := hide hpn
  clear hdo h1 h2 h3 hHeld D5d B5d V5d hpn
  refine hK.out _ _ a2 (fun hHeld => ?_)
  clear hK K
  try simp only [Act.put, uB, uC, uD]
  clear a2
  refine tq 6 ?_
  simp only [Act.put, uB, uC, uD]
  refine wpAnyH_done (by kernel_rfl) ?_ _
  refine NoPanic.normal ?_
  clear hHeld
  cases b with
  | false =>
   have E : S.why false = 13 := rfl
   rw [E]
   go_wp2_with fail
   go_ret
   obtain ⟨rr, hrr⟩ := S.spTo_split xs (k + 1) (l.length - (k + 1))
   rw [show k + 1 + (l.length - (k + 1)) = l.length by have := KK.out; omega] at hrr
   rw [hrr, List.append_assoc]
   exact Does.stop (by rw [S.spTo_succ, ← HX.out, S.Dk.plan_app, PL.out, if_pos rfl]; exact H1.out) H2.out H3.out
  | true =>
   have E : S.why true = 0 := rfl
   rw [E]
   go_wp2_with fail
   go_roundw
   case rel => exact ⟨k + 1, KK.out, by go_num, d2, o2, by rw [S.spTo_succ, ← HX.out, S.Dk.plan_app, PL.out, if_pos rfl]; exact H1.out, H2.out, H3.out⟩
   case measure => have := KK.out; simp [intOf]; omega
 ·have hkI : ¬ ((k : Int) < (l.length : Int)) := by omega
  obtain rfl : k = l.length := by have := KL.out; omega
  go_wp2_with fail
  refine (flush_do o1 d1 wr DK.out (Nat.le_trans HP1.out (by omega))).mono ?_
  intro e w2 hdo
  have h4 : Does d (S.spTo xs l.length ++ [.flush]) o w e w2 := Does.on PL.out T1.out hdo
  obtain ⟨b, d2, o2, rfl, h5, h6, h7⟩ := h4.start
  have H4 := hide h4
  clear h4 h5 h6 h7 hdo
  generalize S.why b = y at H4 ⊢
  go_wp2_with fail
  go_ret
  exact H4.out
end Go.Proofs.YteealihknndclaaGreatDoor
namespace Go.Proofs.YteealihknndclaaGreatDoor
namespace S
def pagesWs (f : Nat → Nat) (xs : List (List UInt8)) (k : Nat) : Ws := (List.range k).flatMap fun i => pageWs (f i) (xs.getD i []) 8
theorem pagesWs_succ (f : Nat → Nat) (xs : List (List UInt8)) (k : Nat) : pagesWs f xs (k + 1) = pagesWs f xs k ++ pageWs (f k) (xs.getD k []) 8 := by
 unfold pagesWs
 rw [List.range_succ, List.flatMap_append, List.flatMap_singleton]
theorem pagesWs_length (f : Nat → Nat) (xs : List (List UInt8)) (k : Nat) : (pagesWs f xs k).length = k * 8 := by
 induction k with
 | zero => rfl
 | succ k ih => rw [pagesWs_succ, List.length_append, ih, pageWs_length]; omega
theorem wacts_app (p q : Ws) : Ws.acts (p ++ q) = p.acts ++ q.acts := List.map_append
theorem wacts_len (p : Ws) : p.acts.length = p.length := List.length_map ..
theorem spTo_eq (xs : List (List UInt8)) (k : Nat) : spTo xs k = (pagesWs (fun i => 4101 + i * 8) xs k).acts := by
 induction k with
 | zero => rfl
 | succ k ih => rw [spTo_succ, pagesWs_succ, wacts_app, ih]
theorem pagesWs_split (f : Nat → Nat) (xs : List (List UInt8)) (a j : Nat) : ∃ r, (pagesWs f xs (a + j)).acts = (pagesWs f xs a).acts ++ r := by
 induction j with
 | zero => exact ⟨[], (List.append_nil _).symm⟩
 | succ j ih =>
  obtain ⟨r, hr⟩ := ih
  exact ⟨r ++ (pageWs (f (a + j)) (xs.getD (a + j) []) 8).acts, by rw [← Nat.add_assoc, pagesWs_succ, wacts_app, hr, List.append_assoc]⟩
def putAll (ss : List (List UInt8)) (f : Nat → Nat) (xs : List (List UInt8)) : Nat → List (List UInt8)
 | 0 => ss
 | k + 1 => put (putAll ss f xs k) (f k) (xs.getD k []) 8
theorem putAll_length (ss : List (List UInt8)) (f : Nat → Nat) (xs : List (List UInt8)) (k : Nat) : (putAll ss f xs k).length = ss.length := by
 induction k with
 | zero => rfl
 | succ k ih => rw [putAll, put_length, ih]
theorem putAll_off (ss : List (List UInt8)) (f : Nat → Nat) (xs : List (List UInt8)) (k j : Nat) (h : ∀ i, i < k → j < f i ∨ f i + 8 ≤ j) : (putAll ss f xs k).getD j [] = ss.getD j [] := by
 induction k with
 | zero => rfl
 | succ k ih => rw [putAll, put_off _ _ _ _ _ (h k (by omega)), ih (fun i hi => h i (by omega))]
theorem putAll_other (ss : List (List UInt8)) (f : Nat → Nat) (xs : List (List UInt8)) (k f' : Nat) (h : ∀ i, i < k → f' + 8 ≤ f i ∨ f i + 8 ≤ f') : pageAt (putAll ss f xs k) f' = pageAt ss f' :=
 secs_cong (fun j h1 h2 => putAll_off ss f xs k j (fun i hi => by have := h i hi; omega))
theorem putAll_page (ss : List (List UInt8)) (f : Nat → Nat) (xs : List (List UInt8)) (k : Nat) (hf : ∀ i, i < k → f i + 8 ≤ ss.length) (hx : ∀ i, i < k → (xs.getD i []).length = 1024) (hd : ∀ i j, i < k → j < k → i ≠ j → f i + 8 ≤ f j ∨ f j + 8 ≤ f i) (i : Nat) (hi : i < k) : pageAt (putAll ss f xs k) (f i) = xs.getD i [] := by
 induction k with
 | zero => omega
 | succ k ih =>
  by_cases e : i = k
  ·subst e
   rw [putAll]
   exact put_page _ _ _ (hx i hi) (by rw [putAll_length]; exact hf i hi)
  ·rw [putAll, put_other _ _ _ _ (by have := hd i k hi (by omega) e; omega)]
   exact ih (fun j hj => hf j (by omega)) (fun j hj => hx j (by omega)) (fun a b ha hb => hd a b (by omega) (by omega)) (by omega)
theorem over_more (ss : List (List UInt8)) (p : Ws) (f : Nat) (x : List UInt8) (i : Nat) : over ss (p ++ pageWs f x i) = put (over ss p) f x i := by
 induction i with
 | zero => show over ss (p ++ []) = _; rw [List.append_nil]; rfl
 | succ i ih => rw [pageWs_succ, ← List.append_assoc, over_snoc, ih]; rfl
theorem over_pages (ss : List (List UInt8)) (f : Nat → Nat) (xs : List (List UInt8)) (k : Nat) : over ss (pagesWs f xs k) = putAll ss f xs k := by
 induction k with
 | zero => rfl
 | succ k ih => rw [pagesWs_succ, over_more, ih]; rfl
theorem pages_flushed (d : Dk) (f : Nat → Nat) (xs : List (List UInt8)) (k : Nat) (hp : d.pend = []) : d.acts ((pagesWs f xs k).acts ++ [.flush]) = { d with safe := putAll d.safe f xs k, pend := [] } := by
 rw [Dk.acts_app, Dk.acts_writes, hp, List.nil_append]
 show ({ d with safe := over d.safe (pagesWs f xs k), pend := [] } : Dk) = _
 rw [over_pages]
theorem Dk.plan_alike {d d' : Dk} {l : List Act} (h : d.plan l = (d', true)) : d'.Alike (d.acts l) := by
 obtain ⟨n, _, h1, h2, _⟩ := Dk.plan_first l d
 rw [h] at h1 h2
 have := h2 rfl
 rw [this, List.take_length] at h1
 exact h1
theorem Dk.plan_pages {d d' : Dk} {f : Nat → Nat} {xs : List (List UInt8)} {k : Nat} (hp : d.pend = []) (h : d.plan (pagesWs f xs k).acts = (d', true)) : d'.safe = d.safe ∧ d'.seen = putAll d.safe f xs k := by
 have a := Dk.plan_alike h
 rw [Dk.acts_writes, hp, List.nil_append] at a
 refine ⟨a.safe, ?_⟩
 rw [a.seen]
 exact over_pages _ _ _ _
theorem Dk.plan_flushed {d d' : Dk} {f : Nat → Nat} {xs : List (List UInt8)} {k : Nat} (hp : d.pend = []) (h : d.plan ((pagesWs f xs k).acts ++ [.flush]) = (d', true)) : d'.safe = putAll d.safe f xs k ∧ d'.pend = [] := by
 have a := Dk.plan_alike h
 rw [pages_flushed d f xs k hp] at a
 exact ⟨a.safe, a.pend⟩
theorem Dk.plan_no {d d' : Dk} {k l : List Act} (h : d.plan k = (d', false)) : d.plan (k ++ l) = (d', false) := by
 rw [Dk.plan_app, h]
 rfl
theorem Dk.plan_yes {d d' : Dk} {k l : List Act} (h : d.plan k = (d', true)) : d.plan (k ++ l) = d'.plan l := by
 rw [Dk.plan_app, h, if_pos rfl]
def homeOf (ns : List Nat) (i : Nat) : Nat := 5 + ns.getD i 0 * 8
def homeActs (d : Dk) (p t : Nat) (ns : List Nat) (xs : List (List UInt8)) : List Act := ((pagesWs (homeOf ns) xs ns.length).acts ++ [.flush]) ++ commitActs { d with safe := putAll d.safe (homeOf ns) xs ns.length, pend := [] } 1 4 p t [setL ns] []
theorem getD_lt {ns : List Nat} (h : ∀ n ∈ ns, n < 512) (i : Nat) (hi : i < ns.length) : ns.getD i 0 < 512 := by
 rw [List.getD_eq_getElem?_getD, List.getElem?_eq_getElem hi, Option.getD_some]
 exact h _ (List.getElem_mem hi)
theorem setL_ne (ns : List Nat) (h : ∀ n ∈ ns, n < 512) (hne : ns ≠ []) : (setL ns == zeros 64) = false := by
 refine beq_false_of_ne (fun e => ?_)
 cases ns with
 | nil => exact hne rfl
 | cons n r =>
  have h1 := bit_setL (n :: r) h n
  rw [e, bit_zeros] at h1
  simp at h1
theorem apart (ns : List Nat) (hp : ns.Pairwise (· < ·)) (i j : Nat) (hi : i < ns.length) (hj : j < ns.length) (h : i ≠ j) : homeOf ns i + 8 ≤ homeOf ns j ∨ homeOf ns j + 8 ≤ homeOf ns i := by
 unfold homeOf
 rw [List.getD_eq_getElem?_getD, List.getD_eq_getElem?_getD, List.getElem?_eq_getElem hi, List.getElem?_eq_getElem hj, Option.getD_some, Option.getD_some]
 rw [List.pairwise_iff_getElem] at hp
 rcases Nat.lt_or_gt_of_ne h with e | e
 ·have := hp i j hi hj e; omega
 ·have := hp j i hj hi e; omega
end S
theorem ints_row {w : World} {base : Nat} {v : Value} {ns : List Nat} (h : w.ownsRow base 3 1 v ns.length (S.ints ns)) (hne : ns ≠ []) : ∃ g c cur, v = .slice (some ⟨g, 0, none⟩) ns.length c ∧ base ≤ g ∧ w.heap[g]? = some (.cells cur 3 (0, 0)) ∧ ∀ j, j < ns.length → cur[j]? = some (.int .i64 ((ns.getD j 0 : Nat) : Int)) := by
 rcases h.2 with ⟨_, h2⟩ | ⟨g, cap, cur, h1, h2, h3, h4, h5, h6, h7⟩
 ·exact absurd (List.length_eq_zero_iff.1 h2) hne
 ·refine ⟨g, cap, cur, h1, h2, h3, fun j hj => ?_⟩
  have e : (cur.toList.take (ns.length * 1))[j]? = (S.ints ns)[j]? := by rw [h7]
  rw [List.getElem?_take_of_lt (by omega), Array.getElem?_toList] at e
  rw [e]
  unfold S.ints
  rw [List.getElem?_map, List.getD_eq_getElem?_getD, List.getElem?_eq_getElem hj]
  rfl
end Go.Proofs.YteealihknndclaaGreatDoor
namespace Go.Proofs.YteealihknndclaaGreatDoor
open Go.RowKit

end Go.Proofs.YteealihknndclaaGreatDoor
namespace Go.Proofs.YteealihknndclaaGreatDoor
open Go.RowKit

theorem set_row {w : World} {g : Nat} {xs : List UInt8} {t : TypeId} (h : w.heap[g]? = some (.cells (S.v8 xs) t (0, 0))) (hl : xs.length = 64) : SliceAt w (.slice (some ⟨g, 0, none⟩) 64 64) xs :=
 Or.inr (Or.inr ⟨g, 0, 64, by rw [hl], by omega, by omega, block_lt_of_row h, fun j hj => by rw [Nat.zero_add]; exact v8_cell h j hj⟩)
end Go.Proofs.YteealihknndclaaGreatDoor
