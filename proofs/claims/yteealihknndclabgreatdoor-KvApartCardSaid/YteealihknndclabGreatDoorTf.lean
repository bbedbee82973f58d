/- The pages of any set. -/
import Derived.Test.YteealihknndclabGreatDoorBf
import Derived.Test.YteealihknndclabGreatDoorJa
namespace Go.Proofs.YteealihknndclabGreatDoor
open Go.RowKit

theorem ownsRow_below {w W : World} {base : Nat} {e : TypeId} {size : Nat} {v : Value} {n : Nat} {xs : List Value} (h : w.ownsRow base e size v n xs) (hb : Below w.heap.size w W) : W.ownsRow base e size v n xs := by
 refine ⟨h.1, ?_⟩
 rcases h.2 with h2 | ⟨g, cap, cur, h1, h2, h3, h4⟩
 ·exact Or.inl h2
 ·exact Or.inr ⟨g, cap, cur, h1, h2, (hb.block g (aa h3)).trans h3, h4⟩
namespace S
def fG (s : List UInt8) (k : Nat) : List Nat := (List.range k).filter (bit s)
theorem zy (s : List UInt8) (k : Nat) : fG s (k + 1) = fG s k ++ (if bit s k then [k] else []) := by
 unfold fG
 rw [List.range_succ, List.filter_append]
 congr 1
 by_cases h : bit s k = true
 ·rw [if_pos h, List.filter_cons_of_pos h]; rfl
 ·rw [if_neg h, List.filter_cons_of_neg h]; rfl
theorem nZ (s : List UInt8) (k : Nat) : (fG s k).length <= k := by
 unfold fG
 exact ltr (List.length_filter_le _ _) (by rw [List.length_range]; exact lr _)
def ints (l : List Nat) : List Value := l.map (fun n : Nat => Value.int .i64 (n : Int))
end S
theorem nN (w : World) (base gx : Nat) (n : Int) (ty : TypeId) (v : Value) (m : Nat) (xs : List Value) (hown : w.ownsRow base 3 1 v m xs) (hm : m <= 1000) (hb : base <= w.heap.size) (hx : w.heap[gx]? = some (.cells #[.int .i64 n] 3 (0, 0))) :
  ∃ v' w', (Builtin.append_ #[192, 192] ty #[v, .slice (some ⟨gx, 0, none⟩) 1 1]).run Tryz.prog w = .ok v' w' /\ (w'.ownsRow base 3 1 v' (m + 1) (xs ++ [.int .i64 n]) /\ w.grownBy w' v.ownBlock) := by
 obtain ⟨i, hi, hz0, hz1, hz2⟩ := info_parts info3
 obtain ⟨v', w', hr, ho, hg, hn⟩ := run_append_own (P := Tryz.prog) w base 192 ty 3 i (.int .i64 0) 1 8 Tryz.underlying192 hi hz0 hz1 hz2 rfl (by omega) v m xs hown ⟨gx, 0, none⟩ 1 1 [.int .i64 n] rfl (fun j u hu => by
  rw [Addr.add_lit, Nat.zero_add, cell_of_row w gx j _ 3 (0, 0) hx]
  simpa using hu) (fun u hu => by simp only [List.mem_singleton] at hu; rw [hu]; rfl) (by simp [maxLen]; omega) (by omega) hb
 exact ⟨v', w', hr, ho, hg⟩
set_option maxHeartbeats 4000000 in
set_option maxRecDepth 10000 in
theorem uF (s : List UInt8) (w : World) (hs : s.length = 64) :
  Calls Tryz.prog 104 #[.agg (S.v8 s)] w fun e w' => ∃ v, e = .returned v /\ w'.ownsRow w.heap.size 3 1 v (S.fG s 512).length (S.ints (S.fG s 512)) /\ Below w.heap.size w w' := by
 obtain ⟨Z, hZ⟩ : ∃ Z, Z = S.v8 s := ⟨_, rfl⟩
 obtain ⟨w1, hw1⟩ : ∃ w1, w1 = w.alloc (.cells Z 135) := ⟨_, rfl⟩
 have B1 : Hid (Below w.heap.size w w1) := by rw [hw1]; exact ba ..
 have R1 : Hid (w1.heap[w.heap.size]? = some (.cells (S.v8 s) 135 (0, 0))) := by rw [hw1, hZ]; exact heap_alloc_new _ _
 obtain ⟨gs, hgs⟩ : ∃ gs, gs = w.heap.size := ⟨_, rfl⟩
 rw [<- hgs] at R1
 obtain ⟨bs, hbs⟩ : ∃ bs, bs = w.heap.size + 1 := ⟨_, rfl⟩
 have NB := hide (show gs < bs by omega)
 have WB := hide (show w.heap.size <= bs by omega)
 have BS1 : Hid (bs <= w1.heap.size) := by have := aa R1.out; show bs <= w1.heap.size; omega
 rw [<- hZ]
 have HZ := hide hZ
 have HS := hide hs
 clear hZ hbs hs
 go_enter Tryz.func104, Tryz.ntmps104
 go_wp2_with fail
 rw [<- hw1, <- hgs]
 clear hw1 hgs
 go_loopw [3, 5] (fun l i wr => ∃ k : Nat, k <= 512 /\ i = .int .i64 (k : Int) /\ wr.heap[gs]? = some (.cells (S.v8 s) 135 (0, 0)) /\ Below w.heap.size w wr /\ bs <= wr.heap.size /\ wr.ownsRow bs 3 1 l (S.fG s k).length (S.ints (S.fG s k))) (fun _ i _ => 512 - (intOf i).toNat)
 case atStart => exact ⟨0, by omega, rfl, R1.out, B1.out, BS1.out, World.ownsRow_nil _ _ _ _⟩
 case round =>
 obtain ⟨k, hk, rfl, hr, hb, hbs, hl⟩ := hrel
 have RR := hide hr
 have BB := hide hb
 have BS := hide hbs
 have HL := hide hl
 clear hr hb hl hbs R1 B1 BS1
 by_cases hlt : k < 512
 ·have q1 : (k : Int) < 512 := by omega
  have q2 : IntKind.i64.wrap ((k : Int) + 1) = (k : Int) + 1 := by rw [IntKind.wrap_i64]; omega
  have ld := iM RR.out HS.out
  rw [<- HZ.out] at ld
  go_wp2_with (with_reducible refine au ⟨some 8, .load 135 (.tmp 1), 135, "set.go:50", #[], none⟩ ?_; refine ay rfl 135 (.tmp 1) rfl (.pointer (some ⟨gs, 0, none⟩)) rfl (.agg Z) ld ?_)
  clear ld
  refine (wH Z s k wr HZ.out HS.out hlt).mono ?_
  rintro e w2 ⟨rfl, b2⟩
  have R2 : Hid (w2.heap[gs]? = some (.cells (S.v8 s) 135 (0, 0))) := (b2.block gs (aa RR.out)).trans RR.out
  have B2 := hide (BB.out.trans (b2.mono BB.out.size))
  have S2 := hide (ltr BS.out b2.size)
  have L2 := hide (ownsRow_below HL.out b2)
  have SU := hide (S.zy s k)
  have SLE := hide (S.nZ s k)
  clear b2 RR BB BS HL
  by_cases hkn : S.bit s k = true
  ·rw [hkn]
   obtain ⟨w3, hw3⟩ : ∃ w3, w3 = w2.alloc (.cells #[.int .i64 (k : Int)] 3) := ⟨_, rfl⟩
   have b3 : Below w2.heap.size w2 w3 := by rw [hw3]; exact ba ..
   have r3 : w3.heap[w2.heap.size]? = some (.cells #[.int .i64 (k : Int)] 3 (0, 0)) := by rw [hw3]; exact heap_alloc_new _ _
   have S3 := hide (ltr S2.out b3.size)
   have L3 := hide (ownsRow_below L2.out b3)
   have APP := hide (nN w3 bs w2.heap.size (k : Int) 192 u3 _ _ L3.out (by have := SLE.out; omega) S3.out r3)
   have R3 : Hid (w3.heap[gs]? = some (.cells (S.v8 s) 135 (0, 0))) := (b3.block gs (aa R2.out)).trans R2.out
   have B3 := hide (B2.out.trans (b3.mono B2.out.size))
   have HW3 := hide hw3
   clear b3 r3 hw3 R2 B2 L2 S2
   go_wp2_with (at_builtin; (rw [<- HW3.out]; refine aA rfl (.tmp 11) (.tmp 13) 192 192 rfl _ _ rfl rfl APP.out ?_; rintro v4 w4 ⟨ho4, hg4⟩; have O4 := hide ho4; have G4 := hide hg4; clear ho4 hg4))
   have LT3 := L3.out.lt
   have R4 : Hid (w4.heap[gs]? = some (.cells (S.v8 s) 135 (0, 0))) := (G4.out.block gs (aa R3.out) (fun e => by have := (LT3 gs e.symm).1; have := NB.out; omega)).trans R3.out
   have B5 : Hid (Below w.heap.size w w4) := B3.out.grown G4.out B3.out.size (fun j e => ltr WB.out (LT3 j e).1)
   have S5 := hide (ltr S3.out G4.out.size)
   have L5 : Hid (w4.ownsRow bs 3 1 v4 (S.fG s (k + 1)).length (S.ints (S.fG s (k + 1)))) := by
    show w4.ownsRow bs 3 1 v4 (S.fG s (k + 1)).length (S.ints (S.fG s (k + 1)))
    rw [SU.out, if_pos hkn, List.length_append, S.ints, List.map_append]
    exact O4.out
   clear APP LT3 O4 G4 L3 R3 B3 S3
   go_roundw
   case rel => exact ⟨k + 1, by omega, by go_num, R4.out, B5.out, S5.out, L5.out⟩
   case measure => simp [intOf]; omega
  ·have hkf : S.bit s k = false := by simpa using hkn
   rw [hkf]
   have L5 : Hid (w2.ownsRow bs 3 1 u3 (S.fG s (k + 1)).length (S.ints (S.fG s (k + 1)))) := by
    show w2.ownsRow bs 3 1 u3 (S.fG s (k + 1)).length (S.ints (S.fG s (k + 1)))
    rw [SU.out, if_neg hkn, List.append_nil]
    exact L2.out
   clear L2 hkf hkn
   go_wp2_with fail
   go_roundw
   case rel => exact ⟨k + 1, by omega, by go_num, R2.out, B2.out, S2.out, L5.out⟩
   case measure => simp [intOf]; omega
 ·obtain rfl : k = 512 := by omega
  go_wp2_with fail
  go_ret
  exact ⟨_, rfl, ⟨HL.out.1, HL.out.2.imp id (fun ⟨g, cap, cur, h1, h2, h3⟩ => ⟨g, cap, cur, h1, ltr WB.out h2, h3⟩)⟩, BB.out⟩
end Go.Proofs.YteealihknndclabGreatDoor
namespace Go.Proofs.YteealihknndclabGreatDoor
namespace S
theorem uW (s : List UInt8) (hs : s.length = 64) (n m : Nat) (hn : n < 512) : bit (bF s n) m = (bit s m || decide (m = n)) := by
 rw [qQ, qQ]
 unfold bF
 have hr : n % 8 < 8 := Nat.mod_lt _ (by omega)
 have hr' : m % 8 < 8 := Nat.mod_lt _ (by omega)
 by_cases hq : m / 8 = n / 8
 ·rw [hq, List.getD_eq_getElem?_getD, List.getElem?_set_self (by omega), Option.getD_some]
  have key : ∀ a b : Fin 8, (UInt8.ofNat (2 ^ a.val)).toNat.testBit b.val = decide (b.val = a.val) := by decide
  rw [<- Nat.testBit_eq_decide_div_mod_eq, <- Nat.testBit_eq_decide_div_mod_eq, UInt8.toNat_or, Nat.testBit_or, key ⟨n % 8, hr⟩ ⟨m % 8, hr'⟩]
  congr 1
  apply decide_eq_decide.2
  constructor
  ·intro h
   have h : m % 8 = n % 8 := h
   omega
  ·rintro rfl
   rfl
 ·rw [List.getD_eq_getElem?_getD, List.getElem?_set_ne (fun e => hq e.symm), <- List.getD_eq_getElem?_getD]
  have : ¬ m = n := fun e => hq (by rw [e])
  rw [decide_eq_false this, Bool.or_false]
theorem Dn (ns : List Nat) (s : List UInt8) (hs : s.length = 64) (h : ∀ n ∈ ns, n < 512) (m : Nat) : bit (ns.foldl bF s) m = (bit s m || decide (m ∈ ns)) := by
 induction ns generalizing s with
 | nil => simp
 | cons n r ih =>
  rw [List.foldl_cons, ih _ (by rw [dF]; exact hs) (fun x hx => h x (List.mem_cons_of_mem _ hx)), uW s hs n m (h n List.mem_cons_self), Bool.or_assoc]
  congr 1
  simp [List.mem_cons]
theorem sW (ns : List Nat) (h : ∀ n ∈ ns, n < 512) (m : Nat) : bit (aL ns) m = decide (m ∈ ns) := by
 unfold aL
 rw [Dn ns _ (zeros_length _) h, mE, Bool.false_or]
theorem ni (ns : List Nat) (h : ∀ n ∈ ns, n < 512) (hp : ns.Pairwise (· < ·)) : fG (aL ns) 512 = ns := by
 have h1 : (fG (aL ns) 512).Pairwise (· < ·) := List.Pairwise.filter _ List.pairwise_lt_range
 have h2 : (fG (aL ns) 512).Perm ns := by
  refine (List.perm_ext_iff_of_nodup (h1.imp (fun h => Nat.ne_of_lt h)) (hp.imp (fun h => Nat.ne_of_lt h))).2 (fun a => ?_)
  unfold fG
  rw [List.mem_filter, List.mem_range, sW ns h, decide_eq_true_eq]
  exact ⟨fun x => x.2, fun x => ⟨h a x, x⟩⟩
 exact h2.eq_of_pairwise (fun a b _ _ x y => absurd (Nat.lt_trans x y) (Nat.lt_irrefl _)) h1 hp
end S
end Go.Proofs.YteealihknndclabGreatDoor
namespace Go.Proofs.YteealihknndclabGreatDoor
open Go.RowKit

namespace S
def oN (xs : List (List UInt8)) (k : Nat) : List Act := (List.range k).flatMap (fun i => (dP (4101 + i * 8) (xs.getD i []) 8).acts)
theorem jN (xs : List (List UInt8)) (k : Nat) : oN xs (k + 1) = oN xs k ++ (dP (4101 + k * 8) (xs.getD k []) 8).acts := by
 unfold oN
 rw [List.range_succ, List.flatMap_append, List.flatMap_singleton]
theorem wU (xs : List (List UInt8)) (k : Nat) : (oN xs k).length = k * 8 := by
 induction k with
 | zero => rfl
 | succ k ih => rw [jN, List.length_append, ih]; unfold Ws.acts; rw [List.length_map, jF]; omega
theorem yN (xs : List (List UInt8)) (a j : Nat) : ∃ r, oN xs (a + j) = oN xs a ++ r := by
 induction j with
 | zero => exact ⟨[], (List.append_nil _).symm⟩
 | succ j ih =>
  obtain ⟨r, hr⟩ := ih
  exact ⟨_, by rw [<- Nat.add_assoc, jN, hr, List.append_assoc]⟩
end S
set_option maxHeartbeats 4000000 in
set_option maxRecDepth 10000 in
theorem tJ (o : Ow) (d : S.Dk) (g c : Nat) (l : List ShV) (xs : List (List UInt8)) (w : World) (hd : aZ w o d) (hl : 7680 <= d.safe.length) (hs : ShR w g l) (hg : ¬ o.has g) (h256 : l.length <= 256)
  (hv : ∀ i y, l[i]? = some y -> 0 <= y.1 /\ ∃ bk off, y.2.1 = some ⟨bk, off, none⟩ /\ y.2.2.1 = 1024 /\ SliceAt w y.list (xs.getD i []) /\ ¬ o.has bk /\ bk < w.heap.size) (hpe : d.pend.length <= 1000) :
  Calls Tryz.prog 58 #[o.ptr, .slice (some ⟨g, 0, none⟩) l.length c] w (Does d (S.oN xs l.length ++ [.flush]) o w) := by
 have HD := hide hd
 have HS := hide hs
 have HV := hide hv
 have HG := hide hg
 have HL := hide h256
 have HPE := hide hpe
 have HLEN := hide hl
 have hgt : (l.length : Int) <= 256 := by omega
 clear hd hs hv hg hl h256 hpe
 go_enter Tryz.func58, Tryz.ntmps58
 go_wp2_with fail
 go_loopw [10] (fun i wr => ∃ k : Nat, k <= l.length /\ i = .int .i64 (k : Int) /\ ∃ d1 o1, d.plan (S.oN xs k) = (d1, true) /\ aZ wr o1 d1 /\ dK o w o1 wr) (fun i _ => l.length - (intOf i).toNat)
 case atStart => exact ⟨0, Nat.zero_le _, rfl, d, o, rfl, HD.out, dK.refl _ _⟩
 case round =>
 obtain ⟨k, hk, rfl, d1, o1, hpl, hdk, hto⟩ := hrel
 have PL := hide hpl
 have DK := hide hdk
 have T1 := hide hto
 have HP1 : Hid (d1.pend.length <= 4000) := by have h9 := S.Dk.plan_pend (S.oN xs k) d; rw [hpl, S.wU] at h9; have := HPE.out; have := HL.out; exact ltr h9 (by omega)
 have hpn : o1.ptr = o.ptr := by unfold Ow.ptr; rw [hto.g]
 have AX : Hid (7680 <= d1.safe.length) := by have h9 := S.Dk.plan_len (S.oN xs k) d; rw [hpl] at h9; show 7680 <= d1.safe.length; exact ltr HLEN.out (Nat.le_of_eq h9.symm)
 have KL := hide hk
 rw [<- hpn]
 clear hpl hdk hto hpn HD hk
 by_cases hkl : k < l.length
 ·obtain ⟨y, hy⟩ : ∃ y, l[k]? = some y := ⟨l[k], List.getElem?_eq_getElem hkl⟩
  obtain ⟨y0, bk, off, y1, y2, y3, y4, y5⟩ := HV.out k y hy
  have sr : ShR wr g l := by
   obtain ⟨cur, x1, x2⟩ := HS.out.row
   exact ⟨cur, T1.out.chg.row x1 HG.out, x2⟩
  obtain ⟨c0, c1⟩ := sr.cells k y hy
  obtain ⟨yn, ya, yl, cb⟩ := y
  simp only at y0 y1 y2
  subst y1 y2
  obtain ⟨n, rfl⟩ : ∃ n : Nat, yn = (n : Int) := ⟨yn.toNat, by omega⟩
  simp only [ShV.list] at c1 y3
  obtain ⟨x, hx⟩ : ∃ x, x = xs.getD k [] := ⟨_, rfl⟩
  rw [<- hx] at y3
  have HX := hide hx
  have V1 := hide (y3.dk T1.out (fun a e => by cases e; exact y4))
  have FAR1 : Hid (¬ o1.has bk) := fun e => by
   rcases T1.out.own _ e with h | h
   ·exact y4 h
   ·omega
  have hkI : (k : Int) < (l.length : Int) := by omega
  have hk0 : (0 : Int) <= (k : Int) := by omega
  have KK := hide hkl
  have NG6 : Hid (¬ o1.has wr.heap.size) := fun e => by have := DK.out.lt _ e; omega
  obtain ⟨w5, hw5⟩ : ∃ w5, w5 = wr.alloc (.cells #[.int .i64 (n : Int), .slice (some ⟨bk, off, none⟩) 1024 cb] 109) := ⟨_, rfl⟩
  have b5 : Below wr.heap.size wr w5 := by rw [hw5]; exact ba ..
  have R5 : Hid (w5.heap[wr.heap.size]? = some (.cells #[.int .i64 (n : Int), .slice (some ⟨bk, off, none⟩) 1024 cb] 109 (0, 0))) := by rw [hw5]; exact heap_alloc_new _ _
  have D5 := hide (DK.out.below b5)
  have B5 := hide b5
  have V5 := hide (V1.out.below b5 (lr _))
  obtain ⟨g6, hg6⟩ : ∃ g6, g6 = wr.heap.size := ⟨_, rfl⟩
  rw [<- hg6] at R5 NG6
  clear b5 sr y0 y3 y4 y5 hy hx hkl V1 DK
  go_upto_region 4 with fail
  rw [<- hw5, <- hg6]
  clear hw5 hg6 c0 c1
  refine wp_region_noPanic ?_
  refine wp_region_held_drew (S := (fun W => W.heap[g6]? = some (.cells #[.int .i64 (n : Int), .slice (some ⟨bk, off, none⟩) 1024 cb] 109 (0, 0)))) follows R5.out (fun hHeld => ?_)
  have D5d := hide (D5.out.below (Below.refl w5.heap.size w5).drew)
  have B5d : Hid (Below wr.heap.size wr w5.drew) := B5.out.drew
  have V5d := hide (V5.out.below (Below.refl w5.heap.size w5).drew (lr _))
  clear D5 B5 V5 R5
  generalize w5.drew = Z1 at D5d B5d V5d hHeld ⊢
  refine tq 0 ?_
  simp only [uA]
  refine tq 1 ?_
  simp only [uA]
  refine tq 3 ?_
  simp only [uA]
  refine tk 4 ?_ rfl (Or.inl ⟨by rfl, ?_⟩) ?_
  rotate_left
  ·intro w hSw
   have c1 := (iF hSw).2
   clear hSw
   go_simp
   all_goals with_reducible rfl
  simp only [uA]
  refine r1 2 fun K hK => ?_
  go_simp
  refine (mR k (by omega) Z1).mono ?_
  rintro e Z2 ⟨rfl, rfl⟩
  refine hK.out _ _ hHeld (fun hHeld => ?_)
  clear hK K
  try simp only [uA]
  refine r1 5 fun K hK => ?_
  go_simp
  refine (nH o1 d1 (4101 + k * 8) bk off cb x Z1 D5d.out (by have := AX.out; have := HL.out; have := KK.out; omega) V5d.out FAR1.out (by have := HP1.out; omega)).mono ?_
  intro e Z2 hdo
  obtain ⟨b, d2, o2, rfl, h1, h2, h3⟩ := hdo.start
  have a2 : Z2.heap[g6]? = some (.cells #[.int .i64 (n : Int), .slice (some ⟨bk, off, none⟩) 1024 cb] 109 (0, 0)) := h3.chg.row hHeld (fun e => NG6.out e)
  have H1 := hide h1
  have H2 := hide h2
  have H3 : Hid (dK o w o2 Z2) := T1.out.trans (h3.after B5d.out)
  have hpn : o2.ptr = o1.ptr := by unfold Ow.ptr; rw [h3.g]
  have HPN := hide hpn
  clear hdo h1 h2 h3 hHeld D5d B5d V5d hpn
  refine hK.out _ _ a2 (fun hHeld => ?_)
  clear hK K
  try simp only [uA]
  clear a2
  refine tq 6 ?_
  simp only [uA]
  refine wpAnyH_done (by kernel_rfl) ?_ _
  refine NoPanic.normal ?_
  clear hHeld
  cases b with
  | false =>
   have E : S.why false = 13 := rfl
   rw [E]
   go_wp2_with fail
   go_ret
   obtain ⟨rr, hrr⟩ := S.yN xs (k + 1) (l.length - (k + 1))
   rw [show k + 1 + (l.length - (k + 1)) = l.length by have := KK.out; omega] at hrr
   rw [hrr, List.append_assoc]
   exact Does.stop (by rw [S.jN, <- HX.out, S.Dk.plan_app, PL.out, if_pos rfl]; exact H1.out) H2.out H3.out
  | true =>
   have E : S.why true = 0 := rfl
   rw [E]
   go_wp2_with fail
   go_roundw
   case rel => exact ⟨k + 1, KK.out, by go_num, d2, o2, by rw [S.jN, <- HX.out, S.Dk.plan_app, PL.out, if_pos rfl]; exact H1.out, H2.out, H3.out⟩
   case measure => have := KK.out; simp [intOf]; omega
 ·have hkI : ¬ ((k : Int) < (l.length : Int)) := by omega
  obtain rfl : k = l.length := by have := KL.out; omega
  go_wp2_with fail
  refine (lD o1 d1 wr DK.out (ltr HP1.out (by omega))).mono ?_
  intro e w2 hdo
  have h4 : Does d (S.oN xs l.length ++ [.flush]) o w e w2 := Does.on PL.out T1.out hdo
  obtain ⟨b, d2, o2, rfl, h5, h6, h7⟩ := h4.start
  have H4 := hide h4
  clear h4 h5 h6 h7 hdo
  generalize S.why b = y at H4 ⊢
  go_wp2_with fail
  go_ret
  exact H4.out
end Go.Proofs.YteealihknndclabGreatDoor
namespace Go.Proofs.YteealihknndclabGreatDoor
namespace S
def dE (f : Nat -> Nat) (xs : List (List UInt8)) (k : Nat) : Ws := (List.range k).flatMap fun i => dP (f i) (xs.getD i []) 8
theorem gN (f : Nat -> Nat) (xs : List (List UInt8)) (k : Nat) : dE f xs (k + 1) = dE f xs k ++ dP (f k) (xs.getD k []) 8 := by
 unfold dE
 rw [List.range_succ, List.flatMap_append, List.flatMap_singleton]
theorem rM (f : Nat -> Nat) (xs : List (List UInt8)) (k : Nat) : (dE f xs k).length = k * 8 := by
 induction k with
 | zero => rfl
 | succ k ih => rw [gN, List.length_append, ih, jF]; omega
theorem oI (p q : Ws) : Ws.acts (p ++ q) = p.acts ++ q.acts := List.map_append
theorem Be (p : Ws) : p.acts.length = p.length := List.length_map ..
theorem Ah (xs : List (List UInt8)) (k : Nat) : oN xs k = (dE (fun i => 4101 + i * 8) xs k).acts := by
 induction k with
 | zero => rfl
 | succ k ih => rw [jN, gN, oI, ih]
theorem tN (f : Nat -> Nat) (xs : List (List UInt8)) (a j : Nat) : ∃ r, (dE f xs (a + j)).acts = (dE f xs a).acts ++ r := by
 induction j with
 | zero => exact ⟨[], (List.append_nil _).symm⟩
 | succ j ih =>
  obtain ⟨r, hr⟩ := ih
  exact ⟨r ++ (dP (f (a + j)) (xs.getD (a + j) []) 8).acts, by rw [<- Nat.add_assoc, gN, oI, hr, List.append_assoc]⟩
def bN (ss : List (List UInt8)) (f : Nat -> Nat) (xs : List (List UInt8)) : Nat -> List (List UInt8)
 | 0 => ss
 | k + 1 => put (bN ss f xs k) (f k) (xs.getD k []) 8
theorem dZ (ss : List (List UInt8)) (f : Nat -> Nat) (xs : List (List UInt8)) (k : Nat) : (bN ss f xs k).length = ss.length := by
 induction k with
 | zero => rfl
 | succ k ih => rw [bN, rJ, ih]
theorem fT (ss : List (List UInt8)) (f : Nat -> Nat) (xs : List (List UInt8)) (k j : Nat) (h : ∀ i, i < k -> j < f i \/ f i + 8 <= j) : (bN ss f xs k).getD j [] = ss.getD j [] := by
 induction k with
 | zero => rfl
 | succ k ih => rw [bN, Ao _ _ _ _ _ (h k (by omega)), ih (fun i hi => h i (by omega))]
theorem jZ (ss : List (List UInt8)) (f : Nat -> Nat) (xs : List (List UInt8)) (k f' : Nat) (h : ∀ i, i < k -> f' + 8 <= f i \/ f i + 8 <= f') : bT (bN ss f xs k) f' = bT ss f' :=
 jO (fun j h1 h2 => fT ss f xs k j (fun i hi => by have := h i hi; omega))
theorem qh (ss : List (List UInt8)) (f : Nat -> Nat) (xs : List (List UInt8)) (k : Nat) (hf : ∀ i, i < k -> f i + 8 <= ss.length) (hx : ∀ i, i < k -> (xs.getD i []).length = 1024) (hd : ∀ i j, i < k -> j < k -> i ≠ j -> f i + 8 <= f j \/ f j + 8 <= f i) (i : Nat) (hi : i < k) : bT (bN ss f xs k) (f i) = xs.getD i [] := by
 induction k with
 | zero => omega
 | succ k ih =>
  by_cases e : i = k
  ·subst e
   rw [bN]
   exact Et _ _ _ (hx i hi) (by rw [dZ]; exact hf i hi)
  ·rw [bN, Bz _ _ _ _ (by have := hd i k hi (by omega) e; omega)]
   exact ih (fun j hj => hf j (by omega)) (fun j hj => hx j (by omega)) (fun a b ha hb => hd a b (by omega) (by omega)) (by omega)
theorem BI (ss : List (List UInt8)) (p : Ws) (f : Nat) (x : List UInt8) (i : Nat) : over ss (p ++ dP f x i) = put (over ss p) f x i := by
 induction i with
 | zero => show over ss (p ++ []) = _; rw [List.append_nil]; rfl
 | succ i ih => rw [kY, <- List.append_assoc, lX, ih]; rfl
theorem rP (ss : List (List UInt8)) (f : Nat -> Nat) (xs : List (List UInt8)) (k : Nat) : over ss (dE f xs k) = bN ss f xs k := by
 induction k with
 | zero => rfl
 | succ k ih => rw [gN, BI, ih]; rfl
theorem jE (d : Dk) (f : Nat -> Nat) (xs : List (List UInt8)) (k : Nat) (hp : d.pend = []) : d.acts ((dE f xs k).acts ++ [.flush]) = { d with safe := bN d.safe f xs k, pend := [] } := by
 rw [Dk.acts_app, Dk.acts_writes, hp, List.nil_append]
 show ({ d with safe := over d.safe (dE f xs k), pend := [] } : Dk) = _
 rw [rP]
theorem Dk.plan_alike {d d' : Dk} {l : List Act} (h : d.plan l = (d', true)) : d'.Alike (d.acts l) := by
 obtain ⟨n, _, h1, h2, _⟩ := Dk.plan_first l d
 rw [h] at h1 h2
 have := h2 rfl
 rw [this, List.take_length] at h1
 exact h1
theorem Dk.plan_pages {d d' : Dk} {f : Nat -> Nat} {xs : List (List UInt8)} {k : Nat} (hp : d.pend = []) (h : d.plan (dE f xs k).acts = (d', true)) : d'.safe = d.safe /\ d'.seen = bN d.safe f xs k := by
 have a := Dk.plan_alike h
 rw [Dk.acts_writes, hp, List.nil_append] at a
 refine ⟨a.safe, ?_⟩
 rw [a.seen]
 exact rP _ _ _ _
theorem Dk.plan_flushed {d d' : Dk} {f : Nat -> Nat} {xs : List (List UInt8)} {k : Nat} (hp : d.pend = []) (h : d.plan ((dE f xs k).acts ++ [.flush]) = (d', true)) : d'.safe = bN d.safe f xs k /\ d'.pend = [] := by
 have a := Dk.plan_alike h
 rw [jE d f xs k hp] at a
 exact ⟨a.safe, a.pend⟩
theorem Dk.plan_no {d d' : Dk} {k l : List Act} (h : d.plan k = (d', false)) : d.plan (k ++ l) = (d', false) := by
 rw [Dk.plan_app, h]
 rfl
theorem Dk.plan_yes {d d' : Dk} {k l : List Act} (h : d.plan k = (d', true)) : d.plan (k ++ l) = d'.plan l := by
 rw [Dk.plan_app, h, if_pos rfl]
def bP (ns : List Nat) (i : Nat) : Nat := 5 + ns.getD i 0 * 8
def fH (d : Dk) (p t : Nat) (ns : List Nat) (xs : List (List UInt8)) : List Act := ((dE (bP ns) xs ns.length).acts ++ [.flush]) ++ commitActs { d with safe := bN d.safe (bP ns) xs ns.length, pend := [] } 1 4 p t [aL ns] []
theorem getD_lt {ns : List Nat} (h : ∀ n ∈ ns, n < 512) (i : Nat) (hi : i < ns.length) : ns.getD i 0 < 512 := by
 rw [List.getD_eq_getElem?_getD, List.getElem?_eq_getElem hi, Option.getD_some]
 exact h _ (List.getElem_mem hi)
theorem setL_ne (ns : List Nat) (h : ∀ n ∈ ns, n < 512) (hne : ns ≠ []) : (aL ns == zeros 64) = false := by
 refine beq_false_of_ne (fun e => ?_)
 cases ns with
 | nil => exact hne rfl
 | cons n r =>
  have h1 := sW (n :: r) h n
  rw [e, mE] at h1
  simp at h1
theorem apart (ns : List Nat) (hp : ns.Pairwise (· < ·)) (i j : Nat) (hi : i < ns.length) (hj : j < ns.length) (h : i ≠ j) : bP ns i + 8 <= bP ns j \/ bP ns j + 8 <= bP ns i := by
 unfold bP
 rw [List.getD_eq_getElem?_getD, List.getD_eq_getElem?_getD, List.getElem?_eq_getElem hi, List.getElem?_eq_getElem hj, Option.getD_some, Option.getD_some]
 rw [List.pairwise_iff_getElem] at hp
 rcases Nat.lt_or_gt_of_ne h with e | e
 ·have := hp i j hi hj e; omega
 ·have := hp j i hj hi e; omega
end S
theorem xY {w : World} {base : Nat} {v : Value} {ns : List Nat} (h : w.ownsRow base 3 1 v ns.length (S.ints ns)) (hne : ns ≠ []) : ∃ g c cur, v = .slice (some ⟨g, 0, none⟩) ns.length c /\ base <= g /\ w.heap[g]? = some (.cells cur 3 (0, 0)) /\ ∀ j, j < ns.length -> cur[j]? = some (.int .i64 ((ns.getD j 0 : Nat) : Int)) := by
 rcases h.2 with ⟨_, h2⟩ | ⟨g, cap, cur, h1, h2, h3, h4, h5, h6, h7⟩
 ·exact absurd (List.length_eq_zero_iff.1 h2) hne
 ·refine ⟨g, cap, cur, h1, h2, h3, fun j hj => ?_⟩
  have e : (cur.toList.take (ns.length * 1))[j]? = (S.ints ns)[j]? := by rw [h7]
  rw [List.getElem?_take_of_lt (by omega), Array.getElem?_toList] at e
  rw [e]
  unfold S.ints
  rw [List.getElem?_map, List.getD_eq_getElem?_getD, List.getElem?_eq_getElem hj]
  rfl
end Go.Proofs.YteealihknndclabGreatDoor
namespace Go.Proofs.YteealihknndclabGreatDoor
open Go.RowKit

end Go.Proofs.YteealihknndclabGreatDoor
namespace Go.Proofs.YteealihknndclabGreatDoor
open Go.RowKit

theorem set_row {w : World} {g : Nat} {xs : List UInt8} {t : TypeId} (h : w.heap[g]? = some (.cells (S.v8 xs) t (0, 0))) (hl : xs.length = 64) : SliceAt w (.slice (some ⟨g, 0, none⟩) 64 64) xs :=
 Or.inr (Or.inr ⟨g, 0, 64, by rw [hl], by omega, by omega, aa h, fun j hj => by rw [Nat.zero_add]; exact bL h j hj⟩)
structure ve (w0 w w' : World) (g : Nat) (tv : Value) (o o' : Ow) (d d' : S.Dk) (b : Bool) (p t : Nat) (ns : List Nat) (xs : List (List UInt8)) : Prop where
 plan : d.plan (S.fH d p t ns xs) = (d', b)
 dk : Dsk w' o' d'
 ptr : o'.g = o.g
 ob : ∀ k, o'.has k -> w0.heap.size <= k
 below : Below w0.heap.size w0 w'
 chg : Chg (fun k => o.has k \/ k = g \/ tv.ownBlock = some k) w w'
 own : ∀ k, o'.has k -> o.has k \/ w.heap.size <= k
 lo : b = true -> ∃ tv', Lo w0 w' o' d' g 1 4 (1 - p) (t + 1) [] tv' /\ ∀ k, tv'.ownBlock = some k -> tv.ownBlock = some k \/ w.heap.size <= k
theorem ve.of {w0 w w3 w' : World} {g : Nat} {tv : Value} {o o' : Ow} {d d' : S.Dk} {p t : Nat} {ns : List Nat} {xs : List (List UInt8)} {rs : List (List UInt8)} (h : Lo w0 w3 o d g 1 4 p t rs tv) (hb : Below w.heap.size w w3) (hp : d.plan (S.fH d p t ns xs) = (d', false)) (hd : aZ w' o' d') (hm : dK o w3 o' w') : ve w0 w w' g tv o o' d d' false p t ns xs :=
 ⟨hp, h.log.dk.to hd hm, hm.g, fun k e => by
  rcases hm.own k e with e | e
  ·exact h.ob k e
  ·exact ltr h.below.size e, h.below.trans (hm.chg.below _ h.below.size (fun k hk e => by have := h.ob k e; omega)), (Chg.ofBelow' hb).trans (hm.chg.mono (fun k _ e => Or.inl e)) (fun _ _ e => e), fun k e => by
  rcases hm.own k e with e | e
  ·exact Or.inl e
  ·exact Or.inr (ltr hb.size e), fun e => nomatch e⟩
set_option maxHeartbeats 8000000 in
set_option maxRecDepth 10000 in
theorem uf (w0 w : World) (o : Ow) (d : S.Dk) (g p t : Nat) (tv : Value) (ns : List Nat) (xs : List (List UInt8)) (h : Lo w0 w o d g 1 4 p t [S.aL ns] tv) (hlen : 7680 <= d.safe.length) (hn : ∀ n ∈ ns, n < 512) (hpw : ns.Pairwise (· < ·)) (hne : ns ≠ []) (h256 : ns.length <= 256) (hx : ∀ i, i < ns.length -> (xs.getD i []).length = 1024 /\ S.bT d.safe (4101 + i * 8) = xs.getD i []) (ht : t + 1 < 18446744073709551616) :
  Calls Tryz.prog 61 #[o.ptr, .pointer (some ⟨g, 0, none⟩), .agg (S.v8 (S.aL ns))] w fun e w' => ∃ b d' o', e = .returned (.int .i64 (S.why b)) /\ ve w0 w w' g tv o o' d d' b p t ns xs := by
 obtain ⟨Z, hZ⟩ : ∃ Z, Z = S.v8 (S.aL ns) := ⟨_, rfl⟩
 obtain ⟨Y, hY⟩ : ∃ Y, Y = S.v8 (S.zeros 64) := ⟨_, rfl⟩
 obtain ⟨w1, hw1⟩ : ∃ w1, w1 = w.alloc (.cells Z 135) := ⟨_, rfl⟩
 have b1 : Below w.heap.size w w1 := by rw [hw1]; exact ba ..
 have r1 : w1.heap[w.heap.size]? = some (.cells (S.v8 (S.aL ns)) 135 (0, 0)) := by rw [hw1, hZ]; exact heap_alloc_new _ _
 have ld := iM r1 (S.aF ns)
 have hbd := AO w1
 rw [<- hZ] at ld ⊢
 rw [<- hY] at hbd
 have HZ := hide hZ
 have HY := hide hY
 have L1 := hide (h.then b1)
 have B1 := hide b1
 have HW := hide hw1
 have HLEN : Hid (7680 <= d.safe.length) := hlen
 have HN := hide hn
 have HPW := hide hpw
 have HX := hide hx
 have HNE := hide hne
 have H256 := hide h256
 have hqs := S.setL_ne ns hn hne
 have Gu := hide h.log.pend
 obtain ⟨gz, hgz⟩ : ∃ gz, gz = w.heap.size := ⟨_, rfl⟩
 rw [<- hgz] at ld
 have HGZ := hide hgz
 have hgt : (ns.length : Int) <= 256 := by omega
 clear b1 r1 hZ hY hw1 h hlen hx hn hpw hne h256 hgz
 go_enter Tryz.func61, Tryz.ntmps61
 go_wp2_with (first | (rw [<- HW.out, <- HGZ.out]; with_reducible refine au ⟨some 11, .load 135 (.tmp 5), 135, "place.go:97", #[], none⟩ ?_; refine ay rfl 135 (.tmp 5) rfl (.pointer (some ⟨gz, 0, none⟩)) rfl (.agg Z) ld ?_) | (with_reducible refine au ⟨some 12, .build 135 #[], 135, "place.go:97", #[], none⟩ ?_; refine aG rfl 135 [] rfl [] rfl (.agg Y) hbd ?_) | (with_reducible refine au ⟨some 13, .binOp BinOp.eql 135 (.tmp 11) (.tmp 12) 135, 4, "place.go:97", #[{ on := 0, ground := Ground.data }, { on := 1, ground := Ground.data }], none⟩ ?_; refine kR rfl (.tmp 11) (.tmp 12) rfl (S.aL ns) (S.zeros 64) Z Y HZ.out HY.out rfl rfl (S.aF ns) (S.zeros_length _) false hqs ?_) | (with_reducible refine au ⟨some 14, .load 135 (.tmp 5), 135, "place.go:100", #[], none⟩ ?_; refine ay rfl 135 (.tmp 5) rfl (.pointer (some ⟨gz, 0, none⟩)) rfl (.agg Z) ld ?_))
 clear ld hbd hqs
 rw [HZ.out]
 refine (uF (S.aL ns) w1 (S.aF ns)).mono ?_
 rintro e w3 ⟨v, rfl, hv, b3⟩
 rw [S.ni ns HN.out HPW.out] at hv
 obtain ⟨gl, cl, cur, rfl, hgl, hrow, FH⟩ := xY hv HNE.out
 have R3 := hide hrow
 have CU := hide FH
 have L3 := hide (L1.out.then b3)
 have NGL : Hid (¬ o.has gl) := fun e => by have := L1.out.log.dk.dk.lt gl e; omega
 have B3 := hide (B1.out.trans (b3.mono B1.out.size))
 clear hv hgl hrow FH b3 L1
 rw [<- HZ.out]
 go_wp2_with fail
 go_loopw [17] (fun i wr => ∃ k : Nat, k <= ns.length /\ i = .int .i64 (k : Int) /\ ∃ d1 o1, d.plan (S.dE (S.bP ns) xs k).acts = (d1, true) /\ aZ wr o1 d1 /\ dK o w3 o1 wr) (fun i _ => ns.length - (intOf i).toNat)
 case atStart => exact ⟨0, Nat.zero_le _, rfl, d, o, rfl, L3.out.log.dk.dk, dK.refl _ _⟩
 case round =>
 obtain ⟨k, hk, rfl, d1, o1, hpl, hdk, hto⟩ := hrel
 have PL := hide hpl
 have DK := hide hdk
 have T1 := hide hto
 have KL := hide hk
 have HP1 : Hid (d1.pend.length <= 4000) := by have h9 := S.Dk.plan_pend (S.dE (S.bP ns) xs k).acts d; rw [hpl, S.Be, S.rM, Gu.out] at h9; have := H256.out; exact ltr h9 (by simp; omega)
 have vg := hide (S.Dk.plan_pages Gu.out hpl)
 have hpn : o1.ptr = o.ptr := by unfold Ow.ptr; rw [hto.g]
 rw [<- hpn]
 clear hpl hdk hto hpn hk
 by_cases hkl : k < ns.length
 ·have hkI : (k : Int) < (ns.length : Int) := by omega
  have hk0 : (0 : Int) <= (k : Int) := by omega
  have KK := hide hkl
  obtain ⟨n, hnn⟩ : ∃ n : Nat, n = ns.getD k 0 := ⟨_, rfl⟩
  have hn512 : n < 512 := by rw [hnn]; exact S.getD_lt HN.out k hkl
  have HHM : Hid (S.bP ns k = 5 + n * 8) := by rw [hnn]; rfl
  have c3 : wr.cell? ⟨gl, k, none⟩ = some (.int .i64 (n : Int)) := by
   rw [cell_of_row wr gl k _ 3 _ (T1.out.chg.row R3.out NGL.out), hnn]
   exact CU.out k hkl
  obtain ⟨x, hxx⟩ : ∃ x, x = xs.getD k [] := ⟨_, rfl⟩
  have HXX := hide hxx
  have HXL : Hid (x.length = 1024) := by rw [hxx]; exact (HX.out k hkl).1
  have HSP : Hid (S.bT d1.seen (4101 + k * 8) = x) := by
   show S.bT d1.seen (4101 + k * 8) = x
   rw [vg.out.2, S.jZ _ _ _ _ _ (fun i hi => Or.inr (by have := S.getD_lt HN.out i (by omega); unfold S.bP; omega)), hxx]
   exact (HX.out k hkl).2
  have AX : Hid (7680 <= d1.safe.length) := by show 7680 <= d1.safe.length; rw [vg.out.1]; exact HLEN.out
  clear hkl hxx hnn
  go_wp2_with fail
  clear c3
  refine (pq n (by omega) wr).mono ?_
  rintro e w4 ⟨rfl, rfl⟩
  go_wp2_with fail
  refine (mR k (by have := H256.out; have := KK.out; omega) wr).mono ?_
  rintro e w4 ⟨rfl, rfl⟩
  go_wp2_with fail
  have RP := iT o1 d1 (4101 + k * 8) wr DK.out (fun i hi => DK.out.ok.seen i (by rw [S.Dk.seen_length] at hi; exact hi)) (by have := AX.out; have := H256.out; have := KK.out; omega)
  rw [HSP.out] at RP
  try rw [show ((4101 + k * 8 : Nat) : Int) = 4101 + (k : Int) * 8 by omega] at RP
  refine RP.mono ?_
  rintro e w4 ⟨gp, rfl, hgp, hrm, b4⟩
  have V4 := hrm.sliceAt (by rw [HXL.out]; omega)
  rw [HXL.out] at V4
  have SV4 := hide V4
  have B4 := hide b4
  have D4 := hide (DK.out.below b4)
  have NF4 : Hid (¬ o1.has gp) := fun e => by have := DK.out.lt gp e; omega
  clear RP hrm V4 hgp b4
  go_wp2_with fail
  have WP := nH o1 d1 (5 + n * 8) gp 0 1024 x w4 D4.out (by have := AX.out; omega) SV4.out NF4.out (by have := HP1.out; omega)
  try rw [show ((5 + n * 8 : Nat) : Int) = 5 + (n : Int) * 8 by omega] at WP
  refine WP.mono ?_
  intro e w5 hdo
  obtain ⟨b, d2, o2, rfl, h1, h2, h3⟩ := hdo.start
  have H1 : Hid (d.plan (S.dE (S.bP ns) xs (k + 1)).acts = (d2, b)) := by
   show d.plan (S.dE (S.bP ns) xs (k + 1)).acts = (d2, b)
   rw [S.gN, S.oI, HHM.out, <- HXX.out, S.Dk.plan_yes PL.out]
   exact h1
  have H2 := hide h2
  have H3 : Hid (dK o w3 o2 w5) := T1.out.trans (h3.after B4.out)
  clear hdo h1 h2 h3 WP SV4 B4 D4 NF4 DK T1 PL
  cases b with
  | false =>
   have E : S.why false = 13 := rfl
   rw [E]
   go_wp2_with fail
   go_ret
   refine ⟨false, d2, o2, rfl, ve.of L3.out B3.out ?_ H2.out H3.out⟩
   obtain ⟨rr, hrr⟩ := S.tN (S.bP ns) xs (k + 1) (ns.length - (k + 1))
   rw [show k + 1 + (ns.length - (k + 1)) = ns.length by have := KK.out; omega] at hrr
   unfold S.fH
   rw [hrr, List.append_assoc, List.append_assoc]
   exact S.Dk.plan_no H1.out
  | true =>
   have E : S.why true = 0 := rfl
   rw [E]
   go_wp2_with fail
   go_roundw
   case rel => exact ⟨k + 1, KK.out, by go_num, d2, o2, H1.out, H2.out, H3.out⟩
   case measure => have := KK.out; simp [intOf]; omega
 ·have hkI : ¬ ((k : Int) < (ns.length : Int)) := by omega
  obtain rfl : k = ns.length := by have := KL.out; omega
  clear hkl R3 CU NGL
  go_wp2_with fail
  refine (lD o1 d1 wr DK.out (ltr HP1.out (by omega))).mono ?_
  intro e w6 hdo
  obtain ⟨b, d2, o2, rfl, h1, h2, h3⟩ := hdo.start
  have H1 : Hid (d.plan ((S.dE (S.bP ns) xs ns.length).acts ++ [.flush]) = (d2, b)) := by
   show d.plan ((S.dE (S.bP ns) xs ns.length).acts ++ [.flush]) = (d2, b)
   rw [S.Dk.plan_yes PL.out]
   exact h1
  have H2 := hide h2
  have H3 := hide (T1.out.trans h3)
  clear hdo h1 h2 h3 DK T1 PL vg HP1
  cases b with
  | false =>
   have E : S.why false = 13 := rfl
   rw [E]
   go_wp2_with fail
   go_ret
   refine ⟨false, d2, o2, rfl, ve.of L3.out B3.out ?_ H2.out H3.out⟩
   unfold S.fH
   exact S.Dk.plan_no H1.out
  | true =>
   have E : S.why true = 0 := rfl
   rw [E]
   have fl := S.Dk.plan_flushed Gu.out H1.out
   have L6 : Hid (Lo w0 w6 o2 d2 g 1 4 p t [S.aL ns] tv) := L3.out.beside H2.out H3.out fl.2 (by rw [fl.1]; exact S.dZ _ _ _ _) (fun j h1 h2 => by rw [fl.1]; exact S.fT _ _ _ _ _ (fun i hi => Or.inl (by unfold S.bP; omega)))
   have FL := hide fl
   clear fl
   go_wp2_with fail
   refine (Di o2 d2 g 1 4 p t [S.aL ns] tv w6 L6.out.log ht).mono ?_
   rintro e w7 ⟨bb, d7, o7, tv7, x⟩
   have HF : Hid (ve w0 w w7 g tv o o7 d d7 bb p t ns xs) := by
    have hown : ∀ k, o7.has k -> o.has k \/ w3.heap.size <= k := fun k e => by
     rcases x.moved.own k e with e | e
     ·exact H3.out.own k e
     ·exact Or.inr (ltr H3.out.chg.size e)
    refine ⟨?_, x.dk, x.moved.ptr.trans H3.out.g, fun k e => ?_, L6.out.below.trans (x.moved.chg.below _ L6.out.below.size (fun k hk e => ?_)), ((Chg.ofBelow' B3.out).trans (H3.out.chg.mono (fun k _ e => Or.inl e)) (fun _ _ e => e)).trans x.moved.chg (fun j hj e => ?_), fun k e => ?_, fun hbb => ?_⟩
    ·unfold S.fH
     rw [S.Dk.plan_yes H1.out]
     have e : S.commitActs { d with safe := S.bN d.safe (S.bP ns) xs ns.length, pend := [] } 1 4 p t [S.aL ns] [] = S.commitActs d2 1 4 p t [S.aL ns] [] := by
      unfold S.commitActs
      rw [FL.out.1]
     rw [e]
     exact x.plan
    ·rcases hown k e with e | e
     ·exact L3.out.ob k e
     ·exact ltr L3.out.below.size e
    ·rcases e with e | e | e
     ·have := L6.out.ob k e; omega
     ·have := L6.out.gb; omega
     ·have := L6.out.tb k e; omega
    ·rcases e with e | e
     ·rcases H3.out.own j e with e | e
      ·exact Or.inl e
      ·have := B3.out.size; omega
     ·exact Or.inr e
    ·rcases hown k e with e | e
     ·exact Or.inl e
     ·exact Or.inr (ltr B3.out.size e)
    ·subst hbb
     have cm := S.sP L6.out.log.pend L6.out.log.good ht
     have al := S.Dk.plan_alike x.plan
     rw [cm.acts] at al
     refine ⟨tv7, L6.out.did x al.pend (by rw [al.safe]; exact cm.good), fun k hk => ?_⟩
     rcases x.moved.text k hk with e | e
     ·exact Or.inl e
     ·exact Or.inr (ltr B3.out.size (ltr H3.out.chg.size e))
   obtain rfl := x.ret
   clear x L6 H1 H2 H3 L3
   generalize hy : S.why bb = y
   have HY2 := hide hy
   clear hy
   go_wp2_with fail
   go_ret
   exact ⟨bb, d7, o7, by rw [HY2.out]; rfl, HF.out⟩
structure Pn (w0 w : World) (o : Ow) (d : S.Dk) (p t : Nat) (pg : Nat -> List UInt8) : Prop where
 dk : Dsk w o d
 pend : d.pend = []
 len : 7680 <= d.safe.length
 mark : d.safe.getD 0 [] = S.fC
 log : S.Good d.safe 1 4 p t []
 home : ∀ n, n < 512 -> S.bT d.safe (5 + n * 8) = pg n
 ob : ∀ k, o.has k -> w0.heap.size <= k
 below : Below w0.heap.size w0 w
 pos : 1 < w0.heap.size
theorem Pg.n {w0 w : World} {o : Ow} {d : S.Dk} {p t : Nat} {pg : Nat -> List UInt8} (h : Pg w0 w o d p t pg) : Pn w0 w o d p t pg := ⟨h.dk, h.pend, h.len, h.mark, h.log, h.home, h.ob, h.below, h.pos⟩
theorem Pn.then {w0 w W : World} {o : Ow} {d : S.Dk} {p t : Nat} {pg : Nat -> List UInt8} (h : Pn w0 w o d p t pg) (hb : Below w.heap.size w W) : Pn w0 W o d p t pg :=
 ⟨h.dk.below hb, h.pend, h.len, h.mark, h.log, h.home, h.ob, h.below.trans (hb.mono h.below.size), h.pos⟩
theorem Pn.seen {w0 w : World} {o : Ow} {d : S.Dk} {p t : Nat} {pg : Nat -> List UInt8} (h : Pn w0 w o d p t pg) : d.seen = d.safe := S.Dk.seen_flushed d h.pend
set_option maxHeartbeats 4000000 in
set_option maxRecDepth 10000 in
theorem Fp (w0 w : World) (o : Ow) (d : S.Dk) (p t : Nat) (pg : Nat -> List UInt8) (h : Pn w0 w o d p t pg) :
  Calls Tryz.prog 71 #[o.ptr] w fun e w' => ∃ g tv, e = .returned (.tuple #[.pointer (some ⟨g, 0, none⟩), .agg (S.v8 (S.zeros 64)), .int .i64 0]) /\ Lo w0 w' o d g 1 4 p t [] tv /\ w.heap.size <= g /\ (∀ k, tv.ownBlock = some k -> w.heap.size <= k) /\ Below w.heap.size w w' := by
 have gV := dV w
 obtain ⟨w1, hw1⟩ : ∃ w1, w1 = w.alloc (.cells (S.v8 (S.zeros 64)) 135) := ⟨_, rfl⟩
 have b1 : Below w.heap.size w w1 := by rw [hw1]; exact ba ..
 have r1 : w1.heap[w.heap.size]? = some (.cells (S.v8 (S.zeros 64)) 135 (0, 0)) := by rw [hw1]; exact heap_alloc_new _ _
 rw [<- hw1] at gV
 obtain ⟨g3, hg3⟩ : ∃ g3, g3 = w.heap.size := ⟨_, rfl⟩
 rw [<- hg3] at gV r1
 have R1 := hide r1
 have B1 := hide b1
 have P1 := hide (h.then b1)
 have HLT : Hid (∀ k, o.has k -> k < g3) := fun k hk => by rw [hg3]; exact h.dk.dk.lt k hk
 have HG3 : Hid (w.heap.size <= g3) := by rw [hg3]; exact lr _
 have Gv : Hid (g3 = w.heap.size) := hg3
 have HW0 : Hid (w0.heap.size <= w.heap.size) := h.below.size
 clear b1 r1 hw1 hg3 h
 go_enter Tryz.func71, Tryz.ntmps71
 go_wp2_with (with_reducible refine au ⟨some 3, .alloc 135, 0, "place.go:70", #[], none⟩ ?_; refine ah rfl 135 rfl (.pointer (some ⟨g3, 0, none⟩)) w1 gV ?_)
 clear gV
 refine (jP o d 0 w1 P1.out.dk.dk (by have := P1.out.len; omega)).mono ?_
 rintro e w2 ⟨rfl, hr2, b2⟩
 rw [P1.out.seen, P1.out.mark] at hr2
 have cv := dx (az (n := 128) hr2 S.dD.symm (by rw [S.dD]; omega))
 have P2 := hide (P1.out.then b2)
 have R2 : Hid (w2.heap[g3]? = some (.cells (S.v8 (S.zeros 64)) 135 (0, 0))) := (b2.block g3 (aa R1.out)).trans R1.out
 have B2 := hide (B1.out.trans (b2.mono B1.out.size))
 have hq : S.fC = [112, 97, 103, 101, 115, 32, 116, 104, 97, 116, 32, 97, 114, 101, 32, 112, 117, 116, 32, 116, 111, 103, 101, 116, 104, 101, 114, 32, 46, 46, 46, 32, 112, 97, 103, 101, 115, 32, 116, 104, 97, 116, 32, 97, 114, 101, 32, 112, 117, 116, 32, 116, 111, 103, 101, 116, 104, 101, 114, 32, 46, 46, 46, 32].append [112, 97, 103, 101, 115, 32, 116, 104, 97, 116, 32, 97, 114, 101, 32, 112, 117, 116, 32, 116, 111, 103, 101, 116, 104, 101, 114, 32, 46, 46, 46, 32, 112, 97, 103, 101, 115, 32, 116, 104, 97, 116, 32, 97, 114, 101, 32, 112, 117, 116, 32, 116, 111, 103, 101, 116, 104, 101, 114, 32, 46, 46, 46, 32] := rfl
 clear hr2 b2 R1 B1 P1
 go_wp2_with fail
 clear cv hq
 refine (vO w0 w2 o d 1 4 p t [] P2.out.dk P2.out.pend P2.out.log P2.out.ob P2.out.below P2.out.pos).mono ?_
 rintro e w4 ⟨g, tv, rfl, hlo, hgb, htb, b4⟩
 have LO4 := hide hlo
 have G4 : Hid (g3 < g /\ w.heap.size <= g /\ (∀ k, tv.ownBlock = some k -> g3 < k /\ w.heap.size <= k)) := by
  have h1 := aa R2.out
  have h2 := Gv.out
  exact ⟨by omega, by omega, fun k hk => by have := htb k hk; exact ⟨by omega, by omega⟩⟩
 have R4 : Hid (w4.heap[g3]? = some (.cells (S.v8 (S.zeros 64)) 135 (0, 0))) := (b4.block g3 (aa R2.out)).trans R2.out
 have B4 := hide (B2.out.trans (b4.mono B2.out.size))
 clear hlo hgb htb b4 R2 B2 P2
 go_wp2_with fail
 refine (mP w0 w4 o d g 1 4 p t [] tv LO4.out (by simp)).mono ?_
 rintro e w5 ⟨lv, us, rfl, hrec, b5⟩
 obtain ⟨al, cl, hlv⟩ := hrec.lists.shape
 subst hlv
 have hul : us.length = 0 := hrec.copies.len
 rw [hul]
 have LO5 := hide (LO4.out.then b5)
 have R5 : Hid (w5.heap[g3]? = some (.cells (S.v8 (S.zeros 64)) 135 (0, 0))) := (b5.block g3 (aa R4.out)).trans R4.out
 have B5 := hide (B4.out.trans (b5.mono B4.out.size))
 clear hrec b5 hul LO4 R4 B4
 go_wp2_with fail
 refine (uz al cl w5).mono ?_
 rintro e w6 ⟨rfl, b6⟩
 have LO6 := hide (LO5.out.then b6)
 have R6 : Hid (w6.heap[g3]? = some (.cells (S.v8 (S.zeros 64)) 135 (0, 0))) := (b6.block g3 (aa R5.out)).trans R5.out
 have B6 := hide (B5.out.trans (b6.mono B5.out.size))
 clear b6 LO5 R5 B5
 have fF := dV w6
 obtain ⟨w9, jl, r9, b9⟩ := lq w6 (S.zeros 64) (S.zeros_length _)
 have R9 := hide r9
 have LO9 := hide (LO6.out.then b9)
 have R39 : Hid (w9.heap[g3]? = some (.cells (S.v8 (S.zeros 64)) 135 (0, 0))) := (b9.block g3 (aa R6.out)).trans R6.out
 have B9 := hide (B6.out.trans (b9.mono B6.out.size))
 have h36 := aa R6.out
 have N93 : Hid (¬ w6.heap.size = g3) := fun e => by omega
 have NG3 : Hid (∀ k, (o.has k \/ k = g \/ tv.ownBlock = some k \/ k < w0.heap.size) -> ¬ k = g3) := fun k hk e => by
  subst e
  rcases hk with hk | hk | hk | hk
  ·exact absurd (HLT.out _ hk) (Nat.lt_irrefl _)
  ·have := G4.out.1; omega
  ·have := (G4.out.2.2 _ hk).1; omega
  ·have := HW0.out; have := HG3.out; omega
 obtain ⟨w7, hw7⟩ : ∃ w7, w7 = w6.alloc (.cells (S.v8 (S.zeros 64)) 135) := ⟨_, rfl⟩
 rw [<- hw7] at fF jl
 obtain ⟨g9, hg9⟩ : ∃ g9, g9 = w6.heap.size := ⟨_, rfl⟩
 rw [<- hg9] at fF jl R9 N93
 clear r9 b9 h36 LO6 R6 B6 hg9 hw7
 go_upto_region 10 with (first | (with_reducible refine au ⟨some 9, .alloc 135, 0, "place.go:78", #[], none⟩ ?_; refine ah rfl 135 rfl (.pointer (some ⟨g9, 0, none⟩)) w7 fF ?_) | (with_reducible refine au ⟨none, .store 135 (.tmp 9) (.tmp 33), 0, "place.go:78", #[{ on := 6, ground := Ground.data }, { on := 4, ground := Ground.data }, { on := 2, ground := Ground.chain }, { on := 0, ground := Ground.phase }, { on := 1, ground := Ground.phase }, { on := 2, ground := Ground.phase }, { on := 3, ground := Ground.phase }, { on := 4, ground := Ground.phase }, { on := 5, ground := Ground.textOnly Departure.lateStores }, { on := 6, ground := Ground.phase }], none⟩ ?_; refine ai rfl 135 (.tmp 9) (.tmp 33) rfl (.pointer (some ⟨g9, 0, none⟩)) (.agg (S.v8 (S.zeros 64))) rfl rfl w9 jl ?_))
 clear fF jl
 refine wp_region_noPanic ?_
 refine wp_region_held_drew (S := (fun W => W.heap[g9]? = some (.cells (S.v8 (S.zeros 64)) 135 (0, 0)))) follows R9.out (fun hHeld => ?_)
 have LOd := hide (LO9.out.then (Below.refl w9.heap.size w9).drew)
 have B9d : Hid (Below w.heap.size w w9.drew) := B9.out.drew
 have R3d : Hid (w9.drew.heap[g3]? = some (.cells (S.v8 (S.zeros 64)) 135 (0, 0))) := R39.out
 clear LO9 B9 R9 R39
 generalize w9.drew = Z1 at LOd B9d R3d hHeld ⊢
 refine tq 0 ?_
 simp only [uA]
 refine wpAnyH_take (i := 1) (oi := ⟨_, _, _, _, _, _⟩) (v := .agg (S.v8 (S.zeros 64))) rfl (by kernel_rfl) (by kernel_rfl) (by kernel_rfl) (fun _ _ _ h => h) (dQ (by kernel_rfl) (.tmp 9) rfl g9 rfl (S.zeros_length _) (fun W hW => hW)) (by assumption) ?_
 simp only [uA]
 refine tq 2 ?_
 simp only [uA]
 obtain ⟨Z2, hst, r3, c3⟩ := jW (ys := S.zeros 64) R3d.out (S.zeros_length _) (S.zeros_length _)
 have R3 := hide r3
 have LO2 : Hid (Lo w0 Z2 o d g 1 4 p t [] tv) := LOd.out.chg c3 NG3.out
 have B2 : Hid (Below w.heap.size w Z2) := B9d.out.trans (c3.base B9d.out.size HG3.out)
 have a2 : Z2.heap[g9]? = some (.cells (S.v8 (S.zeros 64)) 135 (0, 0)) := c3.row hHeld N93.out
 refine rdy [3] ?_
 refine dH (o := ⟨_, _, _, _, _, _⟩) rfl rfl 135 (.tmp 3) (.tmp 39) rfl Z2 hst AllReadyH.nil ⟨a2, fun hHeld => ?_⟩
 simp only [Act.put]
 clear hst r3 c3 LOd B9d R3d a2
 refine tq 4 ?_
 simp only [uA]
 refine wpAnyH_done (by kernel_rfl) ?_ _
 refine NoPanic.normal ?_
 clear hHeld
 go_wp2_with fail
 refine bodyPost_ret (kX Tryz.results71 _ _ g3 (.agg (S.v8 (S.zeros 64))) rfl (jd R3.out (S.zeros_length _))) rfl ⟨g, tv, rfl, LO2.out, G4.out.2.1, fun k hk => (G4.out.2.2 k hk).2, B2.out⟩
set_option maxHeartbeats 4000000 in
set_option maxRecDepth 10000 in
theorem Bp (w0 w : World) (o : Ow) (d : S.Dk) (p t gs : Nat) (pg : Nat -> List UInt8) (h : Pn w0 w o d p t pg) (hs : eD w gs o) :
  Calls Tryz.prog 57 #[.pointer (some ⟨gs, 0, none⟩)] w fun e w' => ∃ g tv, e = .returned (.tuple #[.pointer (some ⟨g, 0, none⟩), .int .i64 0]) /\ Lo w0 w' o d g 1 4 p t [] tv /\ w.heap.size <= g /\ (∀ k, tv.ownBlock = some k -> w.heap.size <= k) /\ Pn w0 w' o d p t pg /\ eD w' gs o /\ Below w.heap.size w w' := by
 have P0 := hide h
 have S0 := hide hs
 clear h hs
 have c0 := iQ S0.out
 go_enter Tryz.func57, Tryz.ntmps57
 go_wp2_with fail
 have gU : o.ptr = .pointer (some ⟨o.g, 0, none⟩) := rfl
 rw [<- gU]
 refine (kU o d w P0.out.dk.dk P0.out.pend).mono ?_
 rintro e w1 ⟨rfl, rfl⟩
 rw [gU]
 go_wp2_with fail
 rw [<- gU]
 refine (Fp w0 w o d p t pg P0.out).mono ?_
 rintro e w1 ⟨g, tv, rfl, hlo, hgb, htb, b1⟩
 have LO1 := hide hlo
 have P1 := hide (P0.out.then b1)
 have B1 := hide b1
 have S1 : Hid (eD w1 gs o) := (b1.block gs (aa S0.out)).trans S0.out
 have G1 : Hid (w.heap.size <= g /\ ∀ k, tv.ownBlock = some k -> w.heap.size <= k) := ⟨hgb, htb⟩
 clear hlo hgb htb b1 P0 S0 c0
 have hal := dV w1
 obtain ⟨w3, hst, r3, b3⟩ := lq w1 (S.zeros 64) (S.zeros_length _)
 have LO3 := hide (LO1.out.then b3)
 have P3 := hide (P1.out.then b3)
 have B3 := hide (B1.out.trans (b3.mono B1.out.size))
 have ST3 : Hid (eD w3 gs o) := (b3.block gs (aa S1.out)).trans S1.out
 have R3 := hide r3
 obtain ⟨w2, hw2⟩ : ∃ w2, w2 = w1.alloc (.cells (S.v8 (S.zeros 64)) 135) := ⟨_, rfl⟩
 rw [<- hw2] at hal hst
 obtain ⟨g6, hg6⟩ : ∃ g6, g6 = w1.heap.size := ⟨_, rfl⟩
 rw [<- hg6] at hal hst R3
 rw [gU]
 clear r3 b3 hw2 hg6 P1 B1 S1 LO1 gU
 go_upto_region 7 with (first | (with_reducible refine au ⟨some 6, .alloc 135, 0, "pages.go:98", #[], none⟩ ?_; refine ah rfl 135 rfl (.pointer (some ⟨g6, 0, none⟩)) w2 hal ?_) | (with_reducible refine au ⟨none, .store 135 (.tmp 6) (.tmp 23), 0, "pages.go:98", #[{ on := 9, ground := Ground.data }, { on := 7, ground := Ground.data }, { on := 10, ground := Ground.chain }, { on := 0, ground := Ground.phase }, { on := 1, ground := Ground.phase }, { on := 2, ground := Ground.phase }, { on := 3, ground := Ground.phase }, { on := 4, ground := Ground.phase }, { on := 5, ground := Ground.phase }, { on := 6, ground := Ground.phase }, { on := 7, ground := Ground.phase }, { on := 8, ground := Ground.textOnly Departure.lateStores }, { on := 9, ground := Ground.phase }, { on := 10, ground := Ground.phase }], none⟩ ?_; refine ai rfl 135 (.tmp 6) (.tmp 23) rfl (.pointer (some ⟨g6, 0, none⟩)) (.agg (S.v8 (S.zeros 64))) rfl rfl w3 hst ?_))
 clear hal hst
 refine wp_region_noPanic ?_
 refine wp_region_held_drew (S := (fun W => W.heap[gs]? = some (.cells #[.pointer (some ⟨o.g, 0, none⟩)] 134 (0, 0)) /\ W.heap[g6]? = some (.cells (S.v8 (S.zeros 64)) 135 (0, 0)))) follows ⟨ST3.out, R3.out⟩ (fun hHeld => ?_)
 have LOd := hide (LO3.out.then (Below.refl w3.heap.size w3).drew)
 have P3d := hide (P3.out.then (Below.refl w3.heap.size w3).drew)
 have B3d : Hid (Below w.heap.size w w3.drew) := B3.out.drew
 clear LO3 P3 B3 ST3 R3
 generalize w3.drew = Z1 at LOd P3d B3d hHeld ⊢
 refine tq 0 ?_
 simp only [uA]
 refine tq 1 ?_
 simp only [uA]
 refine tq 2 ?_
 simp only [uA]
 refine tq 3 ?_
 simp only [uA]
 refine tk 4 ?_ rfl (Or.inl ⟨by rfl, ?_⟩) ?_
 rotate_left
 ·intro w hSw
  have c0 := iQ hSw.1
  clear hSw
  go_simp
  all_goals with_reducible rfl
 simp only [uA]
 refine tq 5 ?_
 simp only [uA]
 refine wpAnyH_take (i := 6) (oi := ⟨_, _, _, _, _, _⟩) (v := .agg (S.v8 (S.zeros 64))) rfl (by kernel_rfl) (by kernel_rfl) (by kernel_rfl) (fun _ _ _ h => h) (dQ (by kernel_rfl) (.tmp 6) rfl g6 rfl (S.zeros_length _) (fun W hW => hW.2)) (by assumption) ?_
 simp only [uA]
 refine r1 7 fun K hK => ?_
 go_simp
 refine (sU (.pointer (some ⟨o.g, 0, none⟩)) (.pointer (some ⟨g, 0, none⟩)) Z1).mono ?_
 rintro e Z2 ⟨rfl, b2⟩
 have a2 : Z2.heap[gs]? = some (.cells #[.pointer (some ⟨o.g, 0, none⟩)] 134 (0, 0)) /\ Z2.heap[g6]? = some (.cells (S.v8 (S.zeros 64)) 135 (0, 0)) := ⟨(b2.block gs (aa hHeld.1)).trans hHeld.1, (b2.block g6 (aa hHeld.2)).trans hHeld.2⟩
 have LO4 := hide (LOd.out.then b2)
 have P4 := hide (P3d.out.then b2)
 have B4 : Hid (Below w.heap.size w Z2) := B3d.out.trans (b2.mono B3d.out.size)
 have ST4 : Hid (eD Z2 gs o) := a2.1
 clear b2 hHeld LOd P3d B3d
 refine hK.out _ _ a2 (fun hHeld => ?_)
 clear hK K
 try simp only [uA]
 clear a2
 refine tq 8 ?_
 simp only [uA]
 refine tq 9 ?_
 simp only [uA]
 refine wpAnyH_done (by kernel_rfl) ?_ _
 refine NoPanic.normal ?_
 clear hHeld
 go_wp2_with fail
 go_ret2
 exact ⟨g, tv, rfl, LO4.out, G1.out.1, G1.out.2, P4.out, ST4.out, B4.out⟩
set_option maxHeartbeats 4000000 in
set_option maxRecDepth 10000 in
theorem pread_n (w0 w : World) (o : Ow) (d : S.Dk) (p t gs n : Nat) (pg : Nat -> List UInt8) (h : Pn w0 w o d p t pg) (hs : eD w gs o) (hn : n < 512) :
  Calls Tryz.prog 124 #[.pointer (some ⟨gs, 0, none⟩), .int .i64 (n : Int)] w fun e w' => ∃ gp, e = .returned (.tuple #[.slice (some ⟨gp, 0, none⟩) 1024 1024, .int .i64 0]) /\ w.heap.size <= gp /\ Room w' gp 1024 (pg n) /\ Pn w0 w' o d p t pg /\ eD w' gs o /\ Below w.heap.size w w' := by
 have P0 := hide h
 have S0 := hide hs
 clear h hs
 go_enter Tryz.func124, Tryz.ntmps124
 go_wp2_with fail
 refine (kF n hn w).mono ?_
 rintro e w1 ⟨rfl, rfl⟩
 have c0 := iQ S0.out
 go_wp2_with fail
 have gU : o.ptr = .pointer (some ⟨o.g, 0, none⟩) := rfl
 rw [<- gU]
 refine (Fp w0 w o d p t pg P0.out).mono ?_
 rintro e w1 ⟨g, tv, rfl, hlo, hgb, htb, b1⟩
 have P1 := hide (P0.out.then b1)
 have B1 := hide b1
 have S1 : Hid (eD w1 gs o) := (b1.block gs (aa S0.out)).trans S0.out
 clear hlo hgb htb b1 P0 S0 c0
 have hal := dV w1
 obtain ⟨w3, hst, r3, b3⟩ := lq w1 (S.zeros 64) (S.zeros_length _)
 have P3 := hide (P1.out.then b3)
 have B3 := hide (B1.out.trans (b3.mono B1.out.size))
 have S3 : Hid (eD w3 gs o) := (b3.block gs (aa S1.out)).trans S1.out
 obtain ⟨w2, hw2⟩ : ∃ w2, w2 = w1.alloc (.cells (S.v8 (S.zeros 64)) 135) := ⟨_, rfl⟩
 rw [<- hw2] at hal hst
 have ld := iM r3 (S.zeros_length _)
 obtain ⟨g2, hg2⟩ : ∃ g2, g2 = w1.heap.size := ⟨_, rfl⟩
 rw [<- hg2] at hal hst ld
 obtain ⟨Z, hZ⟩ : ∃ Z, Z = S.v8 (S.zeros 64) := ⟨_, rfl⟩
 rw [<- hZ] at hst ld ⊢
 have HZ := hide hZ
 clear r3 b3 hw2 hg2 hZ P1 B1 S1 gU
 go_wp2_with (first | (with_reducible refine au ⟨some 7, .alloc 135, 0, "pages.go:60", #[], none⟩ ?_; refine ah rfl 135 rfl (.pointer (some ⟨g2, 0, none⟩)) w2 hal ?_) | (with_reducible refine au ⟨none, .store 135 (.tmp 7) (.tmp 19), 0, "pages.go:60", #[{ on := 9, ground := Ground.data }, { on := 7, ground := Ground.data }, { on := 10, ground := Ground.chain }, { on := 0, ground := Ground.phase }, { on := 1, ground := Ground.phase }, { on := 2, ground := Ground.phase }, { on := 3, ground := Ground.phase }, { on := 4, ground := Ground.phase }, { on := 5, ground := Ground.phase }, { on := 6, ground := Ground.phase }, { on := 7, ground := Ground.phase }, { on := 8, ground := Ground.textOnly Departure.lateStores }, { on := 9, ground := Ground.phase }, { on := 10, ground := Ground.phase }], none⟩ ?_; refine ai rfl 135 (.tmp 7) (.tmp 19) rfl (.pointer (some ⟨g2, 0, none⟩)) (.agg Z) rfl rfl w3 hst ?_) | (with_reducible refine au ⟨some 24, .load 135 (.tmp 7), 135, "pages.go:64", #[], none⟩ ?_; refine ay rfl 135 (.tmp 7) rfl (.pointer (some ⟨g2, 0, none⟩)) rfl (.agg Z) ld ?_))
 clear hal hst ld
 refine (wH Z (S.zeros 64) n w3 HZ.out (S.zeros_length _) hn).mono ?_
 rintro e w6 ⟨rfl, b6⟩
 rw [S.mE]
 have P6 := hide (P3.out.then b6)
 have B6 := hide (B3.out.trans (b6.mono B3.out.size))
 have ST6 : Hid (eD w6 gs o) := (b6.block gs (aa S3.out)).trans S3.out
 clear b6 P3 B3 S3
 go_upto_region 8 with fail
 refine wp_region_noPanic ?_
 refine wp_region_held_drew (S := (fun W => W.heap[gs]? = some (.cells #[.pointer (some ⟨o.g, 0, none⟩)] 134 (0, 0)))) follows ST6.out (fun hHeld => ?_)
 have P6d := hide (P6.out.then (Below.refl w6.heap.size w6).drew)
 have B6d : Hid (Below w.heap.size w w6.drew) := B6.out.drew
 clear P6 B6 ST6
 generalize w6.drew = Z1 at P6d B6d hHeld ⊢
 refine tq 0 ?_
 simp only [uA]
 refine tq 1 ?_
 simp only [uA]
 refine tq 2 ?_
 simp only [uA]
 refine tk 3 ?_ rfl (Or.inl ⟨by rfl, ?_⟩) ?_
 rotate_left
 ·intro w hSw
  have c0 := iQ hSw
  clear hSw
  go_simp
  all_goals with_reducible rfl
 simp only [uA]
 refine tq 4 ?_
 simp only [uA]
 refine r1 5 fun K hK => ?_
 go_simp
 refine (pq n (by omega) Z1).mono ?_
 rintro e Z2 ⟨rfl, rfl⟩
 refine hK.out _ _ hHeld (fun hHeld => ?_)
 clear hK K
 try simp only [uA]
 refine r1 6 fun K hK => ?_
 go_simp
 have RP := iT o d (5 + n * 8) Z1 P6d.out.dk.dk (fun i hi => by rw [P6d.out.seen] at hi ⊢; exact P6d.out.dk.dk.ok.len i hi) (by have := P6d.out.len; omega)
 rw [P6d.out.seen, P6d.out.home n hn, show o.ptr = .pointer (some ⟨o.g, 0, none⟩) from rfl] at RP
 try rw [show ((5 + n * 8 : Nat) : Int) = 5 + (n : Int) * 8 by omega] at RP
 refine RP.mono ?_
 rintro e Z2 ⟨gp, rfl, hgp, hrm, b2⟩
 have a2 : Z2.heap[gs]? = some (.cells #[.pointer (some ⟨o.g, 0, none⟩)] 134 (0, 0)) := (b2.block gs (aa hHeld)).trans hHeld
 have P7 := hide (P6d.out.then b2)
 have RM := hide hrm
 have GP : Hid (w.heap.size <= gp) := ltr B6d.out.size hgp
 have ST7 := hide a2
 have B7 : Hid (Below w.heap.size w Z2) := B6d.out.trans (b2.mono B6d.out.size)
 clear RP hgp hrm b2 hHeld P6d B6d
 refine hK.out _ _ a2 (fun hHeld => ?_)
 clear hK K
 try simp only [uA]
 clear a2
 refine tq 7 ?_
 simp only [uA]
 refine tq 8 ?_
 simp only [uA]
 refine wpAnyH_done (by kernel_rfl) ?_ _
 refine NoPanic.normal ?_
 clear hHeld
 go_wp2_with fail
 go_ret2
 exact ⟨gp, rfl, GP.out, RM.out, P7.out, ST7.out, B7.out⟩
end Go.Proofs.YteealihknndclabGreatDoor
