/- inOrder of any sheets that can be put together. -/
import Derived.Test.YteealihknndclaaGreatDoorBp
import Derived.Test.YteealihknndclaaGreatDoorUd
import Derived.Test.YteealihknndclaaGreatDoorEc
import Derived.Test.YteealihknndclaaGreatDoorBm
import Derived.RangeFuncNested
import Derived.RangeFuncBound
import Derived.RangeFuncCalls
import Derived.RangeFuncLeaves
import Derived.Shelf.Abstract
import Derived.Shelf.RegionOpen
import Derived.OwnWalkIn
import Derived.TacticsInMore
import Derived.LoopNIn
import Derived.LoopIn
import Derived.Test.YteealihknndclaaGreatDoorBase
import Derived.Test.YteealihknndclaaGreatDoorWc
import Derived.WalkKit
import Derived.OneCell
import Derived.Test.YteealihknndclaaGreatDoorBy
import Derived.BigQuiet
namespace Go.Proofs.YteealihknndclaaGreatDoor
open Go.RowKit

set_option maxHeartbeats 4000000 in
set_option maxRecDepth 10000 in
theorem inOrder_any (b off cap : Nat) (d : List ShV) (w : World) (h0 : ∀ j u, (d.flatMap dx)[j]? = some u -> w.cell? ⟨b, off + j, none⟩ = some u) (hd : d ≠ []) (hl : d.length <= 256) (hp : ∀ x ∈ d, 0 <= x.1 /\ x.1 < 512 /\ x.2.2.1 = 1024) (hn : (d.map (·.1)).Nodup) :
  Calls Tryz.prog 81 #[.slice (some ⟨b, off, none⟩) d.length cap] w fun e w' => ∃ g c, ∃ d' : List ShV, e = .returned (.tuple #[.slice (some ⟨g, 0, none⟩) d.length c, .bool true]) /\ w.heap.size <= g /\ d'.Perm d /\ d'.Pairwise (fun x y => x.1 < y.1) /\ ShR w' g d' /\ Below w.heap.size w w' := by
 have H0 := hide h0
 have HD := hide hd
 have HL := hide hl
 have HP := hide hp
 have HN := hide hn
 have hgt : ¬ ((256 : Int) < (d.length : Int)) := by omega
 clear h0 hd hl hp hn
 go_enter Tryz.func81, Tryz.ntmps81
 go_wp2_with fail
 refine (xk b off cap d w H0.out HD.out (ltr HL.out (by omega))).mono ?_
 rintro e w1 ⟨g, c, rfl, hg, hs, b1⟩
 have S1 := hide hs
 have B1 := hide b1
 have HG : Hid (w.heap.size <= g) := hg
 clear hs b1 hg H0
 go_wp2_with fail
 refine (zG g c d w1 S1.out (ltr HL.out (by omega))).mono ?_
 rintro e w2 ⟨rfl, d', hpm, hpw, hs2, hb2⟩
 have S2 := hide hs2
 have B2 := hide (B1.out.trans (hb2 _ HG.out))
 have PM := hide hpm
 have PW : Hid (d'.Pairwise (fun x y => x.1 < y.1)) := by
  have hnd : (d'.map (·.1)).Nodup := (hpm.map _).nodup_iff.2 HN.out
  rw [List.Nodup, List.pairwise_map] at hnd
  exact (hpw.and hnd).imp (fun ⟨h1, h2⟩ => by omega)
 have LE : Hid (d'.length = d.length) := hpm.length_eq
 have HQ : Hid (∀ x ∈ d', 0 <= x.1 /\ x.1 < 512 /\ x.2.2.1 = 1024) := fun x hx => HP.out x (hpm.mem_iff.1 hx)
 clear hpm hpw hs2 hb2 S1 B1 HP HN
 go_wp2_with fail
 go_loopw [15] (fun i wr => ∃ k : Nat, k <= d.length /\ i = .int .i64 (k : Int) /\ ShR wr g d' /\ Below w.heap.size w wr) (fun i _ => d.length - (intOf i).toNat)
 case atStart => exact ⟨0, Nat.zero_le _, rfl, S2.out, B2.out⟩
 case round =>
 obtain ⟨k, hk, rfl, hs, hb⟩ := hrel
 have S6 := hide hs
 have B6 := hide hb
 have KL := hide hk
 clear hs hb hk S2 B2
 by_cases hkl : k < d.length
 ·obtain ⟨x, hx⟩ : ∃ x, d'[k]? = some x := ⟨d'[k]'(by rw [LE.out]; exact hkl), List.getElem?_eq_getElem _⟩
  obtain ⟨c0, c1⟩ := S6.out.cells k x hx
  obtain ⟨q1, q2, q3⟩ := HQ.out x (List.mem_of_getElem? hx)
  obtain ⟨xn, ab, xl, cb⟩ := x
  simp only at q1 q2 q3
  subst q3
  obtain ⟨n, rfl⟩ : ∃ n : Nat, xn = (n : Int) := ⟨xn.toNat, by omega⟩
  have NN := hide (show n < 512 by omega)
  have hkI : (k : Int) < (d.length : Int) := by omega
  have hk0 : (0 : Int) <= (k : Int) := by omega
  have XK := hide hx
  have KK := hide hkl
  simp only [ShV.list] at c1
  clear hx q1 q2 hkl
  obtain ⟨w5, hw5⟩ : ∃ w5, w5 = wr.alloc (.cells #[.int .i64 (n : Int), .slice ab 1024 cb] 144) := ⟨_, rfl⟩
  have b5 : Below wr.heap.size wr w5 := by rw [hw5]; exact ba ..
  have R5 : Hid (w5.heap[wr.heap.size]? = some (.cells #[.int .i64 (n : Int), .slice ab 1024 cb] 144 (0, 0))) := by rw [hw5]; exact heap_alloc_new _ _
  have S5 := hide (S6.out.below b5)
  have B5 := hide (B6.out.trans (b5.mono B6.out.size))
  obtain ⟨g5, hg5⟩ : ∃ g5, g5 = wr.heap.size := ⟨_, rfl⟩
  rw [<- hg5] at R5
  have P5 : Hid (∀ u, 0 < k -> d'[k - 1]? = some u -> w5.cell? ⟨g, (k - 1) * 2, none⟩ = some (.int .i64 u.1)) := fun u _ hu => (S5.out.cells (k - 1) u hu).1
  clear b5 S6 B6
  go_upto_region 8 with fail
  rw [<- hw5, <- hg5]
  clear hw5 hg5 c0 c1
  rcases Nat.eq_zero_or_pos k with hz | hz
  focus
   have hkp : ¬ ((0 : Int) < (k : Int)) := by omega
   refine wp_region_noPanic ?_
   refine wp_region_held_drew (S := (fun W => W.heap[g5]? = some (.cells #[.int .i64 (n : Int), .slice ab 1024 cb] 144 (0, 0)) /\ (∀ u, 0 < k -> d'[k - 1]? = some u -> W.cell? ⟨g, (k - 1) * 2, none⟩ = some (.int .i64 u.1)))) follows ⟨R5.out, P5.out⟩ (fun hHeld => ?_)
   have S5d := hide (S5.out.below (Below.refl w5.heap.size w5).drew)
   have B5d : Hid (Below w.heap.size w w5.drew) := B5.out.drew
   clear S5 B5 R5 P5
   generalize w5.drew = Z1 at S5d B5d hHeld ⊢
   refine tq 0 ?_
   simp only [uA]
   refine tk 1 ?_ rfl (Or.inl ⟨by rfl, ?_⟩) ?_
   rotate_left
   ·intro w hSw
    have c0 := (kN hSw.1).1
    clear hSw
    go_simp
    all_goals with_reducible rfl
   simp only [uA]
   refine r1 2 fun K hK => ?_
   go_simp
   refine (mq n NN.out Z1).mono ?_
   rintro e Z2 ⟨rfl, rfl⟩
   refine hK.out _ _ hHeld (fun hHeld => ?_)
   clear hK K
   try simp only [uA]
   refine tq 3 ?_
   simp only [uA]
   refine tq 4 ?_
   simp only [uA]
   refine tq 5 ?_
   simp only [uA]
   refine tk 6 ?_ rfl (Or.inl ⟨by rfl, ?_⟩) ?_
   rotate_left
   ·intro w hSw
    have c1 := (kN hSw.1).2
    clear hSw
    go_simp
    all_goals with_reducible rfl
   simp only [uA]
   refine tq 7 ?_
   simp only [uA]
   refine tq 8 ?_
   simp only [uA]
   refine tq 9 ?_
   simp only [uA]
   refine tq 10 ?_
   simp only [uA]
   refine tq 11 ?_
   simp only [uA]
   refine tq 12 ?_
   simp only [uA]
   refine tq 13 ?_
   simp only [uA]
   refine tk 14 undef rfl (Or.inr ⟨by rfl, rfl⟩) ?_
   simp only [uA]
   refine tk 15 undef rfl (Or.inr ⟨by rfl, rfl⟩) ?_
   simp only [uA]
   refine tk 16 undef rfl (Or.inr ⟨by rfl, rfl⟩) ?_
   simp only [uA]
   refine tk 17 undef rfl (Or.inr ⟨by rfl, rfl⟩) ?_
   simp only [uA]
   refine tk 18 undef rfl (Or.inr ⟨by rfl, rfl⟩) ?_
   simp only [uA]
   refine tk 19 undef rfl (Or.inr ⟨by rfl, rfl⟩) ?_
   simp only [uA]
   refine tk 20 undef rfl (Or.inr ⟨by rfl, rfl⟩) ?_
   simp only [uA]
   refine tk 21 undef rfl (Or.inr ⟨by rfl, rfl⟩) ?_
   simp only [uA]
   refine tk 22 undef rfl (Or.inr ⟨by rfl, rfl⟩) ?_
   simp only [uA]
  rotate_left
  focus
   obtain ⟨m, hm⟩ : ∃ m, k = m + 1 := ⟨k - 1, by omega⟩
   have hkp : (0 : Int) < (k : Int) := by omega
   have hmI : (m : Int) < (d.length : Int) := by have := KK.out; omega
   have hm0 : (0 : Int) <= (m : Int) := by omega
   have hm1 : (k : Int) - 1 = (m : Int) := by omega
   have hmw : IntKind.i64.wrap (m : Int) = (m : Int) := by have := KK.out; have := HL.out; simp [IntKind.wrap, IntKind.bits, IntKind.signed]; omega
   obtain ⟨u, hu⟩ : ∃ u, d'[m]? = some u := ⟨d'[m]'(by have := LE.out; have := KK.out; omega), List.getElem?_eq_getElem _⟩
   have hne : ¬ (u.1 = (n : Int)) := by
    have hkk := LE.out
    have hkl := KK.out
    have h3 := List.pairwise_iff_getElem.1 PW.out m k (by omega) (by omega) (by omega)
    have e1 := (List.getElem?_eq_some_iff.1 hu).2
    have e2 := (List.getElem?_eq_some_iff.1 XK.out).2
    rw [e1, e2] at h3
    simp only at h3
    omega
   have PU := hide hu
   have K0 := hide (show 0 < k by omega)
   have KM := hide (show k - 1 = m by omega)
   clear hu hm
   refine wp_region_noPanic ?_
   refine wp_region_held_drew (S := (fun W => W.heap[g5]? = some (.cells #[.int .i64 (n : Int), .slice ab 1024 cb] 144 (0, 0)) /\ (∀ u, 0 < k -> d'[k - 1]? = some u -> W.cell? ⟨g, (k - 1) * 2, none⟩ = some (.int .i64 u.1)))) follows ⟨R5.out, P5.out⟩ (fun hHeld => ?_)
   have S5d := hide (S5.out.below (Below.refl w5.heap.size w5).drew)
   have B5d : Hid (Below w.heap.size w w5.drew) := B5.out.drew
   clear S5 B5 R5 P5
   generalize w5.drew = Z1 at S5d B5d hHeld ⊢
   refine tq 0 ?_
   simp only [uA]
   refine tk 1 ?_ rfl (Or.inl ⟨by rfl, ?_⟩) ?_
   rotate_left
   ·intro w hSw
    have c0 := (kN hSw.1).1
    clear hSw
    go_simp
    all_goals with_reducible rfl
   simp only [uA]
   refine r1 2 fun K hK => ?_
   go_simp
   refine (mq n NN.out Z1).mono ?_
   rintro e Z2 ⟨rfl, rfl⟩
   refine hK.out _ _ hHeld (fun hHeld => ?_)
   clear hK K
   try simp only [uA]
   refine tq 3 ?_
   simp only [uA]
   refine tq 4 ?_
   simp only [uA]
   refine tq 5 ?_
   simp only [uA]
   refine tk 6 ?_ rfl (Or.inl ⟨by rfl, ?_⟩) ?_
   rotate_left
   ·intro w hSw
    have c1 := (kN hSw.1).2
    clear hSw
    go_simp
    all_goals with_reducible rfl
   simp only [uA]
   refine tq 7 ?_
   simp only [uA]
   refine tq 8 ?_
   simp only [uA]
   refine tq 9 ?_
   simp only [uA]
   refine tq 10 ?_
   simp only [uA]
   refine tq 11 ?_
   simp only [uA]
   refine tq 12 ?_
   simp only [uA]
   refine tq 13 ?_
   simp only [uA]
   refine tq 14 ?_
   simp only [uA]
   refine tq 15 ?_
   simp only [uA]
   refine tq 16 ?_
   simp only [uA]
   refine tq 17 ?_
   simp only [uA]
   refine tq 18 ?_
   simp only [uA]
   refine tk 19 ?_ rfl (Or.inl ⟨by rfl, ?_⟩) ?_
   rotate_left
   ·intro w hSw
    have c2 := hSw.2 _ K0.out (by rw [KM.out]; exact PU.out)
    rw [KM.out] at c2
    clear hSw
    go_simp
    all_goals with_reducible rfl
   simp only [uA]
   refine tq 20 ?_
   simp only [uA]
   refine tk 21 ?_ rfl (Or.inl ⟨by rfl, ?_⟩) ?_
   rotate_left
   ·intro w hSw
    have c0 := (kN hSw.1).1
    clear hSw
    go_simp
    all_goals with_reducible rfl
   simp only [uA]
   refine tq 22 ?_
   simp only [uA]
  all_goals
   refine tq 23 ?_
   simp only [uA]
   refine tq 24 ?_
   simp only [uA]
   refine wpAnyH_done (by kernel_rfl) ?_ _
   refine NoPanic.normal ?_
   clear hHeld
   go_wp2_with fail
   go_roundw
   case rel => exact ⟨k + 1, KK.out, by go_num, S5d.out, B5d.out⟩
   case measure => have := KK.out; simp [intOf]; omega
 ·have hkI : ¬ ((k : Int) < (d.length : Int)) := by omega
  go_wp2_with fail
  go_ret2
  exact ⟨g, ⟨c, rfl⟩, HG.out, d', PM.out, PW.out, S6.out, B6.out⟩
theorem Pg.pgs {w0 w : World} {o : Ow} {d : S.Dk} {p t : Nat} {pg : Nat -> List UInt8} (h : Pg w0 w o d p t pg) (hs : ∀ n, n < 512 -> (pg n).length = 1024) : S.Pgs d.safe p t [] pg :=
 ⟨h.len, h.mark, h.log, fun i hi => by simp at hi, fun m hm _ => h.home m hm, fun n hn => by simp at hn, List.Pairwise.nil, by simp, hs⟩
structure Bt1 (w0 w : World) (o : Ow) (d : S.Dk) (p t : Nat) (pg : Nat -> List UInt8) (es : List S.Ent) : Prop where
 pgs : Pg w0 w o d p t pg
 size : ∀ n, n < 512 -> (pg n).length = 1024
 leaf : S.rO pg es
theorem Bt1.then {w0 w W : World} {o : Ow} {d : S.Dk} {p t : Nat} {pg : Nat -> List UInt8} {es : List S.Ent} (h : Bt1 w0 w o d p t pg es) (hb : Below w.heap.size w W) : Bt1 w0 W o d p t pg es := ⟨h.pgs.then hb, h.size, h.leaf⟩
theorem Pg.rds {w0 w : World} {o : Ow} {d : S.Dk} {p t gs : Nat} {pg : Nat -> List UInt8} (h : Pg w0 w o d p t pg) (hz : ∀ n, n < 512 -> (pg n).length = 1024) (hs : kE w gs o) : Rds w.heap.size w gs pg :=
 ⟨⟨w0, o, d, p, t, [], ⟨h.dk, h.pend, h.pgs hz, h.ob, h.below, h.pos⟩, hs, fun k hk => h.dk.dk.lt k hk, ae hs, h.below.size⟩, lr _⟩
theorem Bt1.rds {w0 w : World} {o : Ow} {d : S.Dk} {p t gs : Nat} {pg : Nat -> List UInt8} {es : List S.Ent} (h : Bt1 w0 w o d p t pg es) (hs : kE w gs o) : Rds w.heap.size w gs pg := h.pgs.rds h.size hs
set_option maxRecDepth 10000 in
theorem put2_any (w0 w : World) (o : Ow) (d : S.Dk) (p t gs b cap n1 n2 q1 q2 : Nat) (pg X : Nat -> List UInt8) (h : Pg w0 w o d p t pg) (hs : kE w gs o) (hrow : w.heap[b]? = some (.cells #[.int .i64 (n1 : Int), .slice (some ⟨q1, 0, none⟩) 1024 1024, .int .i64 (n2 : Int), .slice (some ⟨q2, 0, none⟩) 1024 1024] 144 (0, 0)))
  (h1 : w.heap[q1]? = some (.cells (S.v8 (X n1)) 5 (0, 0))) (h2 : w.heap[q2]? = some (.cells (S.v8 (X n2)) 5 (0, 0))) (l1 : (X n1).length = 1024) (l2 : (X n2).length = 1024) (o1 : ¬ o.has q1) (o2 : ¬ o.has q2) (hn1 : n1 < 512) (hn2 : n2 < 512) (hne : n1 ≠ n2) (hgs : ¬ o.has gs) (ht : t + 2 < 18446744073709551616) :
  Calls Tryz.prog 45 #[.pointer (some ⟨gs, 0, none⟩), .slice (some ⟨b, 0, none⟩) 2 cap] w fun e w' => e = .returned (.int .i64 0) /\ ∃ o' d', o'.g = o.g /\ Pg w0 w' o' d' p (t + 2) (fun m => if m = n1 \/ m = n2 then X m else pg m) /\ kE w' gs o' /\ Chg o.has w w' /\ ∀ k, o'.has k -> o.has k \/ w.heap.size <= k := by
 refine (pput_go w0 w o d p t gs b 0 cap [((n1 : Int), some ⟨q1, 0, none⟩, 1024, 1024), ((n2 : Int), some ⟨q2, 0, none⟩, 1024, 1024)] pg X h hs ?_ (by simp) (by simp) ?_ ?_ hgs ht).mono ?_
 ·intro j u hu
  rw [Nat.zero_add, cell_of_row w b j _ _ _ hrow]
  simpa [dx, ShV.list] using hu
 ·intro x hx
  simp only [List.mem_cons, List.mem_nil_iff, or_false] at hx
  rcases hx with rfl | rfl
  ·exact ⟨by show (0 : Int) <= (n1 : Int); omega, by show (n1 : Int) < 512; omega, rfl, ⟨q1, 0, rfl, o1, ae h1⟩, aG (xs := X n1) h1 l1.symm (by rw [l1]; omega)⟩
  ·exact ⟨by show (0 : Int) <= (n2 : Int); omega, by show (n2 : Int) < 512; omega, rfl, ⟨q2, 0, rfl, o2, ae h2⟩, aG (xs := X n2) h2 l2.symm (by rw [l2]; omega)⟩
 ·simp
  omega
 ·rintro e w' ⟨rfl, o', d', e1, h3, h4, h5, h6⟩
  refine ⟨rfl, o', d', e1, ?_, h4, h5, h6⟩
  have e : (fun m => if m ∈ S.pgs [((n1 : Int), some (⟨q1, 0, none⟩ : Addr), 1024, 1024), ((n2 : Int), some (⟨q2, 0, none⟩ : Addr), 1024, 1024)] then X m else pg m) = (fun m => if m = n1 \/ m = n2 then X m else pg m) := by
   funext m
   simp [S.pgs]
  rw [e] at h3
  exact h3
set_option maxHeartbeats 2000000 in
set_option maxRecDepth 10000 in
theorem Cj (w0 w : World) (o : Ow) (d : S.Dk) (p t : Nat) (pg : Nat -> List UInt8) (es : List S.Ent) (h : Bt1 w0 w o d p t pg es) :
  Calls Tryz.prog 11 #[o.ptr] w fun e w' => ∃ gt gs, e = .returned (.tuple #[.pointer (some ⟨gt, 0, none⟩), .int .i64 0]) /\ lD w' gt gs /\ kE w' gs o /\ w.heap.size <= gt /\ w.heap.size <= gs /\ Below w.heap.size w w' := by
 have H := hide h
 have hp : o.ptr = .pointer (some ⟨o.g, 0, none⟩) := rfl
 clear h
 rw [hp]
 go_enter Tryz.func11, Tryz.ntmps11
 go_wp2_with fail
 rw [<- hp]
 refine (Cc w0 w o d p t pg H.out.pgs).mono ?_
 rintro e w1 ⟨gs, rfl, s1, g1, p1, b1⟩
 have S1 := hide s1
 have B1 := hide b1
 have G1 := hide g1
 rw [hp]
 clear s1 g1 p1 b1
 go_wp2_with fail
 obtain ⟨w2, hw2⟩ : ∃ w2, w2 = w1.alloc (.cells #[.pointer (some ⟨gs, 0, none⟩)] 96) := ⟨_, rfl⟩
 rw [<- hw2]
 have b2 : Below w1.heap.size w1 w2 := by rw [hw2]; exact ba ..
 have t2 : lD w2 w1.heap.size gs := by unfold lD; rw [hw2]; exact heap_alloc_new _ _
 have GT : Hid (w.heap.size <= w1.heap.size) := B1.out.size
 obtain ⟨gt, hgt⟩ : ∃ gt, gt = w1.heap.size := ⟨_, rfl⟩
 rw [<- hgt] at t2 GT ⊢
 have T2 := hide t2
 have S2 : Hid (kE w2 gs o) := (b2.block gs (ae S1.out)).trans S1.out
 have B2 := hide (B1.out.trans (b2.mono B1.out.size))
 have R2 := hide ((H.out.then B2.out).rds S2.out)
 clear hw2 b2 t2 hgt S1 B1
 refine (check_0 w2.heap.size gt gs pg es w2 R2.out T2.out H.out.leaf).mono ?_
 rintro e w3 ⟨rfl, b3⟩
 have B3 := hide (B2.out.trans (b3.mono B2.out.size))
 have T3 : Hid (lD w3 gt gs) := (b3.block gt (ae T2.out)).trans T2.out
 have S3 : Hid (kE w3 gs o) := (b3.block gs (ae S2.out)).trans S2.out
 clear b3 B2 T2 S2 R2
 go_wp2_with fail
 go_ret2
 exact ⟨gt, gs, rfl, T3.out, S3.out, GT.out, G1.out, B3.out⟩
def encS (x : Nat × Nat) : List Value := [.int .i64 (x.1 : Int), .slice (some ⟨x.2, 0, none⟩) 1024 1024]
theorem Dc (x : Nat × Nat) : ∀ v ∈ encS x, v.oneCell' = true := by
 intro v hv
 simp [encS] at hv
 rcases hv with rfl | rfl <;> rfl
theorem info144 : (Tryz.prog.info? 144).map (fun i => (i.zero, i.size, i.bytes)) = some (some (.agg #[.int .i64 0, .slice none 0 0]), 2, 32) := by kernel_rfl
def bZ (B : Nat) (w : World) (v : Value) (l : List (Nat × Nat)) : Prop := w.ownsRow B 144 2 v l.length (l.flatMap encS)
theorem bZ.nil (B : Nat) (w : World) : bZ B w (.slice none 0 0) [] := ⟨rfl, Or.inl ⟨rfl, rfl⟩⟩
theorem bZ.form {B : Nat} {w : World} {v : Value} {d : List (Nat × Nat)} (h : bZ B w v d) : ∃ ao cap, v = .slice ao d.length cap := by
 rcases h.2 with ⟨rfl, h0⟩ | ⟨g, cap, cur, rfl, _⟩
 ·exact ⟨none, 0, by rw [h0]⟩
 ·exact ⟨_, _, rfl⟩
theorem bZ.blk {B : Nat} {w : World} {v : Value} {d : List (Nat × Nat)} (h : bZ B w v d) {k : Nat} (hk : v.ownBlock = some k) : B <= k /\ k < w.heap.size /\ ∃ cur, w.heap[k]? = some (.cells cur 144 (0, 0)) := by
 rcases h.2 with ⟨rfl, h0⟩ | ⟨g, cap, cur, rfl, hB, hr, _⟩
 ·simp [Value.ownBlock] at hk
 ·simp only [Value.ownBlock, Option.some.injEq] at hk
  subst hk
  exact ⟨hB, ae hr, cur, hr⟩
theorem bZ.apart {B : Nat} {w : World} {v : Value} {d : List (Nat × Nat)} (h : bZ B w v d) {k : Nat} {c : Array Value} {t : TypeId} {p : Nat × Nat} (hk : w.heap[k]? = some (.cells c t p)) (ht : t ≠ 144) : v.ownBlock ≠ some k := fun e => by
 obtain ⟨_, _, cur, hr⟩ := h.blk e
 rw [hk] at hr
 injection hr with hr
 injection hr with _ h2 _
 exact ht h2
theorem bZ.chg {p : Nat -> Prop} {B : Nat} {w W : World} {v : Value} {d : List (Nat × Nat)} (h : bZ B w v d) (hc : Chg p w W) (hp : ∀ k, v.ownBlock = some k -> ¬ p k) : bZ B W v d := by
 refine ⟨h.1, ?_⟩
 rcases h.2 with h0 | ⟨g, cap, cur, rfl, hB, hr, h1⟩
 ·exact Or.inl h0
 ·exact Or.inr ⟨g, cap, cur, rfl, hB, hc.row hr (hp g rfl), h1⟩
theorem bZ.below {B : Nat} {w W : World} {v : Value} {d : List (Nat × Nat)} (h : bZ B w v d) (hb : Below w.heap.size w W) : bZ B W v d := h.chg (p := fun _ => False) (Chg.ofBelow' hb) (fun _ _ e => e)
theorem eO (w : World) (B b : Nat) (v : Value) (d : List (Nat × Nat)) (y : Nat × Nat) (ty : TypeId) (hown : bZ B w v d) (hu : w.heap[b]? = some (.cells (encS y).toArray 144 (0, 0))) (hl : d.length <= 100000) (hB : B <= w.heap.size) :
  ∃ v' w', (Builtin.append_ #[97, 97] ty #[v, .slice (some ⟨b, 0, none⟩) 1 1]).run Tryz.prog w = .ok v' w' /\ (bZ B w' v' (d ++ [y]) /\ Chg (fun k => v.ownBlock = some k) w w') := by
 obtain ⟨i, hi, hz0, hz1, hz2⟩ := info_parts info144
 have hc : ∀ j x, (encS y)[j]? = some x -> w.cell? ((⟨b, 0, none⟩ : Addr).add j) = some x := fun j x hx => by
  rw [Addr.add_lit, Nat.zero_add, cell_of_row w b j _ _ _ hu]
  simpa using hx
 obtain ⟨v', w', h1, h2, h3, h4⟩ := run_append_own (P := Tryz.prog) w B 97 ty 144 i (.agg #[.int .i64 0, .slice none 0 0]) 2 32 Tryz.underlying97 hi hz0 hz1 hz2 rfl (by omega) v d.length (d.flatMap encS) hown ⟨b, 0, none⟩ 1 1 (encS y) rfl hc (Dc y) (by simp [maxLen]; omega) (by omega) hB
 have h2b : bZ B w' v' (d ++ [y]) := by unfold bZ; rw [List.length_append, List.flatMap_append]; simpa using h2
 exact ⟨v', w', h1, h2b, (Chg.refl _ w).grown h3 (fun k _ e => e)⟩
theorem lV (W : World) (n : Int) (q : Nat) : (Instr.buildSlice 97 1 #[(0, .agg #[.int .i64 n, .slice (some ⟨q, 0, none⟩) 1024 1024])]).run Tryz.prog W = .ok (.slice (some ⟨W.heap.size, 0, none⟩) 1 1) (W.alloc (.cells #[.int .i64 n, .slice (some ⟨q, 0, none⟩) 1024 1024] 144)) := by
 go_simp
set_option maxHeartbeats 4000000 in
set_option maxRecDepth 10000 in
theorem lay_0 (B g gs gr g1 n : Nat) (ko : Option Addr) (kn kc : Nat) (h : S.Hh) (vs : Value) (sl : List (Nat × Nat)) (es : List S.Ent) (w : World) (he : EdAt w g gs h vs) (hu : h.used.length = 64) (hs : bZ B w vs sl) (hr : w.heap[gr]? = some (.cells #[.slice ko kn kc, .slice none 0 0, .int .i64 0, .pointer (some ⟨g1, 0, none⟩)] 126 (0, 0)))
  (hN : ∀ W, Chg (fun k => k = g \/ k = gr) w W -> NodeIs W g1 0 es) (ho : S.NodeOk 0 es) (hf : S.freeOf h.used = some n) (hn : n < 512) (hsl : sl.length <= 1000) (hB : B <= w.heap.size) :
  Calls Tryz.prog 75 #[.pointer (some ⟨g, 0, none⟩), .pointer (some ⟨gr, 0, none⟩)] w fun e w' => e = .returned (.int .i64 0) /\ ∃ vs' q, EdAt w' g gs { h with used := S.orBit h.used n } vs' /\ bZ B w' vs' (sl ++ [(n, q)]) /\ w.heap.size <= q /\ w'.heap[q]? = some (.cells (S.v8 (S.sheetB (S.nodeB 0 es))) 5 (0, 0)) /\ w'.heap[gr]? = some (.cells #[.slice ko kn kc, .slice none 0 0, .int .i64 (n : Int), .pointer (some ⟨g1, 0, none⟩)] 126 (0, 0)) /\ Chg (fun k => k = g \/ k = gr \/ vs.ownBlock = some k) w w' := by
 have HE := hide he
 have HU := hide hu
 have HS := hide hs
 have HR := hide hr
 have HNN := hide hN
 have HO := hide ho
 have HF := hide hf
 have HN := hide hn
 have HSL := hide hsl
 have HB := hide hB
 have SA := hide (fun W => stays_any ⟨ko, kn, kc, none, 0, 0, 0, some ⟨g1, 0, none⟩⟩ W)
 obtain ⟨c0, c1, c2, c3⟩ := dh hr
 have NE : Hid (g ≠ gr) := ne_of_type he hr (by decide)
 obtain ⟨vso, vsc, hvs⟩ := hs.form
 obtain ⟨vn, hvn⟩ : ∃ vn, vn = sl.length := ⟨_, rfl⟩
 rw [<- hvn] at hvs
 subst hvs
 clear he hu hs hr hN ho hf hn hsl hB hvn
 go_enter Tryz.func75, Tryz.ntmps75
 go_wp2_with fail
 refine (SA.out w).mono ?_
 rintro e X ⟨rfl, b1⟩
 have q : decide ((0 : Int) ≠ 0) = false := rfl
 simp only [q]
 have EX : Hid (EdAt X g gs h (.slice vso vn vsc)) := (b1.block g (ae HE.out)).trans HE.out
 have RX : Hid (X.heap[gr]? = some (.cells #[.slice ko kn kc, .slice none 0 0, .int .i64 0, .pointer (some ⟨g1, 0, none⟩)] 126 (0, 0))) := (b1.block gr (ae HR.out)).trans HR.out
 have SX := hide (HS.out.below b1)
 have CX : Hid (Chg (fun k => k = g \/ k = gr) w X) := Chg.ofBelow' b1
 clear b1 q c0 c1 c2 c3 SA
 obtain ⟨c0, c1, c2, c3⟩ := dh RX.out
 obtain ⟨v, d, n1, n2, n3⟩ := (HNN.out X CX.out).is
 obtain ⟨ao, cap, hv, hbig⟩ := n2.form
 subst hv
 obtain ⟨m, hm⟩ : ∃ m, m = d.length := ⟨_, rfl⟩
 rw [<- hm] at n1 hbig
 obtain ⟨d0, d1⟩ := cells2 n1
 clear n1 n2 n3 hm
 go_wp2_with fail
 go_loopw [21] (fun i wr => i = .int .i64 0 /\ wr = X) (fun _ _ => 0)
 case atStart => exact ⟨rfl, rfl⟩
 case round =>
 obtain ⟨rfl, rfl⟩ := hrel
 by_cases hm0 : 0 < m
 focus
  have hmI : (0 : Int) < (m : Int) := by omega
  have hmD : decide ((0 : Int) < (m : Int)) = true := decide_eq_true hmI
  go_wp2_with fail
  refine (free_any g 4 h.used wr (fun j hj => EX.out.byte j (by have := HU.out; omega))).mono ?_
  rintro e W1 ⟨rfl, q1, hw1⟩
  simp only [HF.out, Option.getD_some, Option.isSome_some]
  have E1 : Hid (EdAt W1 g gs h (.slice vso vn vsc)) := by rw [hw1]; exact EX.out
  have R1 : Hid (W1.heap[gr]? = some (.cells #[.slice ko kn kc, .slice none 0 0, .int .i64 0, .pointer (some ⟨g1, 0, none⟩)] 126 (0, 0))) := by rw [hw1]; exact RX.out
  have S1 : Hid (bZ B W1 (.slice vso vn vsc) sl) := by rw [hw1]; exact SX.out
  have C1 : Hid (Chg (fun k => k = g \/ k = gr) w W1) := by rw [hw1]; exact CX.out.drewN q1
  clear hw1 c0 c1 c2 c3 d0 d1 EX RX SX CX
  go_wp2_with fail
  refine (E1.out.added HU.out n HN.out).mono ?_
  rintro e W2 ⟨rfl, e2, k2⟩
  have E2 := hide e2
  have R2 : Hid (W2.heap[gr]? = some (.cells #[.slice ko kn kc, .slice none 0 0, .int .i64 0, .pointer (some ⟨g1, 0, none⟩)] 126 (0, 0))) := k2.row R1.out (fun e => NE.out e.symm)
  have S2 : Hid (bZ B W2 (.slice vso vn vsc) sl) := S1.out.chg k2 (fun k hk e => S1.out.apart E1.out (by decide) (by rw [<- e]; exact hk))
  have C2 : Hid (Chg (fun k => k = g \/ k = gr) w W2) := C1.out.trans k2 (fun _ _ e => Or.inl e)
  obtain ⟨c0, c1, c2, c3⟩ := dh R2.out
  have f2 := frozen_of_row _ _ 2 _ _ R2.out
  clear e2 k2 E1 R1 S1 C1
  go_upto_region 16 with fail
  obtain ⟨W3, hW3⟩ : ∃ W3, W3 = W2.setCell ⟨gr, 2, none⟩ (.int .i64 (n : Int)) := ⟨_, rfl⟩
  rw [<- hW3]
  have k3 : Chg (fun k => k = gr) W2 W3 := by rw [hW3]; exact (Chg.refl (fun k => k = gr) _).setCell gr 2 _ (fun _ => rfl)
  have R3 : Hid (W3.heap[gr]? = some (.cells #[.slice ko kn kc, .slice none 0 0, .int .i64 (n : Int), .pointer (some ⟨g1, 0, none⟩)] 126 (0, 0))) := by
   show W3.heap[gr]? = _
   rw [hW3, heap_setCell_same W2 gr 2 _ _ _ R2.out]; rfl
  have E3 : Hid (EdAt W3 g gs { h with used := S.orBit h.used n } (.slice vso vn vsc)) := k3.row E2.out NE.out
  have S3 : Hid (bZ B W3 (.slice vso vn vsc) sl) := S2.out.chg k3 (fun k hk e => S2.out.apart R2.out (by decide) (by rw [<- e]; exact hk))
  have C3 : Hid (Chg (fun k => k = g \/ k = gr) w W3) := C2.out.trans k3 (fun _ _ e => Or.inr e)
  clear hW3 k3 c0 c1 c2 c3 f2 E2 R2 S2 C2
  refine wp_region_noPanic ?_
  refine wp_region_held_drew (S := (fun W => W.cell? ⟨gr, 3, none⟩ = some (.pointer (some ⟨g1, 0, none⟩)))) follows (dh R3.out).2.2.2 (fun hHeld => ?_)
  have R3d : Hid (W3.drew.heap[gr]? = some (.cells #[.slice ko kn kc, .slice none 0 0, .int .i64 (n : Int), .pointer (some ⟨g1, 0, none⟩)] 126 (0, 0))) := R3.out
  have E3d : Hid (EdAt W3.drew g gs { h with used := S.orBit h.used n } (.slice vso vn vsc)) := E3.out
  have S3d : Hid (bZ B W3.drew (.slice vso vn vsc) sl) := S3.out
  have C3d : Hid (Chg (fun k => k = g \/ k = gr) w W3.drew) := C3.out.drew
  have OL : Hid ((S.orBit h.used n).length = 64) := by show (S.orBit h.used n).length = 64; rw [S.orBit_length]; exact HU.out
  clear R3 E3 S3 C3
  generalize W3.drew = Z1 at R3d E3d S3d C3d hHeld ⊢
  refine tq 0 ?_
  simp only [uA]
  refine tq 1 ?_
  simp only [uA]
  refine tq 2 ?_
  simp only [uA]
  refine tq 3 ?_
  simp only [uA]
  refine tq 5 ?_
  simp only [uA]
  refine tq 6 ?_
  simp only [uA]
  refine tq 7 ?_
  simp only [uA]
  refine tk 8 ?_ rfl (Or.inl ⟨by rfl, ?_⟩) ?_
  rotate_left
  ·intro w hSw
   have c4 := hSw
   clear hSw
   go_simp
   all_goals with_reducible rfl
  simp only [uA]
  refine tq 9 ?_
  simp only [uA]
  refine rdy [4, 10] ?_
  refine AllReadyH.cons (o := ⟨_, _, _, _, _, _⟩) rfl (fun K hK => ?_) ?_
  focus
   have c1 := E3d.out.sheets OL.out
   go_simp
   refine hK.out _ _ (by assumption) (fun hHeld => ?_)
   clear hK K c1
   try simp only [uA]
   refine r1 10 fun K hK => ?_
   go_simp
   refine (mX g1 n es Z1 (HNN.out Z1 C3d.out) HO.out).mono ?_
   rintro e Z2 ⟨q, rfl, hq, rq, b2⟩
   have R4 : Hid (Z2.heap[gr]? = some (.cells #[.slice ko kn kc, .slice none 0 0, .int .i64 (n : Int), .pointer (some ⟨g1, 0, none⟩)] 126 (0, 0))) := (b2.block gr (ae R3d.out)).trans R3d.out
   have E4 : Hid (EdAt Z2 g gs { h with used := S.orBit h.used n } (.slice vso vn vsc)) := (b2.block g (ae E3d.out)).trans E3d.out
   have S4 : Hid (bZ B Z2 (.slice vso vn vsc) sl) := S3d.out.below b2
   have C4 : Hid (Chg (fun k => k = g \/ k = gr) w Z2) := C3d.out.trans (Chg.ofBelow' (p := fun k => k = g \/ k = gr) b2) (fun _ _ e => e)
   have Q4 : Hid (w.heap.size <= q) := ltr C3d.out.size hq
   have RQ := hide rq
   have a4 := (dh R4.out).2.2.2
   clear hHeld R3d E3d S3d C3d hq rq b2
   refine hK.out _ _ a4 (fun hHeld => ?_)
   clear hK K a4
   try simp only [uA]
   refine rdy [11] ?_
   refine bu (o := ⟨_, _, _, _, _, _⟩) rfl rfl 97 1 [(0, Operand.tmp 77)] rfl _ _ (lV Z2 (n : Int) q) AllReadyH.nil ⟨(dh ((heap_alloc_old _ _ (ae R4.out)).trans R4.out)).2.2.2, fun hHeld => ?_⟩
   try simp only [uA]
   obtain ⟨Z3, hZ3⟩ : ∃ Z3, Z3 = Z2.alloc (.cells #[.int .i64 (n : Int), .slice (some ⟨q, 0, none⟩) 1024 1024] 144) := ⟨_, rfl⟩
   rw [<- hZ3] at hHeld ⊢
   have b3 : Below Z2.heap.size Z2 Z3 := by rw [hZ3]; exact ba ..
   have r3 : Z3.heap[Z2.heap.size]? = some (.cells (encS (n, q)).toArray 144 (0, 0)) := by rw [hZ3]; exact heap_alloc_new _ _
   have R5 : Hid (Z3.heap[gr]? = some (.cells #[.slice ko kn kc, .slice none 0 0, .int .i64 (n : Int), .pointer (some ⟨g1, 0, none⟩)] 126 (0, 0))) := (b3.block gr (ae R4.out)).trans R4.out
   have E5 : Hid (EdAt Z3 g gs { h with used := S.orBit h.used n } (.slice vso vn vsc)) := (b3.block g (ae E4.out)).trans E4.out
   have S5 : Hid (bZ B Z3 (.slice vso vn vsc) sl) := S4.out.below b3
   have C5 : Hid (Chg (fun k => k = g \/ k = gr) w Z3) := C4.out.trans (Chg.ofBelow' (p := fun k => k = g \/ k = gr) b3) (fun _ _ e => e)
   have RQ5 : Hid (Z3.heap[q]? = some (.cells (S.v8 (S.sheetB (S.nodeB 0 es))) 5 (0, 0))) := (b3.block q (ae RQ.out)).trans RQ.out
   have APP := eO Z3 B Z2.heap.size (.slice vso vn vsc) sl (n, q) 97 S5.out r3 (by have := HSL.out; omega) (ltr HB.out C5.out.size)
   clear b3 r3 hZ3 R4 E4 S4 C4 RQ
  rotate_left
  focus
   refine c1 fun K hK => ?_
   go_simp
   refine (mX g1 n es Z1 (HNN.out Z1 C3d.out) HO.out).mono ?_
   rintro e Z2 ⟨q, rfl, hq, rq, b2⟩
   have R4 : Hid (Z2.heap[gr]? = some (.cells #[.slice ko kn kc, .slice none 0 0, .int .i64 (n : Int), .pointer (some ⟨g1, 0, none⟩)] 126 (0, 0))) := (b2.block gr (ae R3d.out)).trans R3d.out
   have E4 : Hid (EdAt Z2 g gs { h with used := S.orBit h.used n } (.slice vso vn vsc)) := (b2.block g (ae E3d.out)).trans E3d.out
   have S4 : Hid (bZ B Z2 (.slice vso vn vsc) sl) := S3d.out.below b2
   have C4 : Hid (Chg (fun k => k = g \/ k = gr) w Z2) := C3d.out.trans (Chg.ofBelow' (p := fun k => k = g \/ k = gr) b2) (fun _ _ e => e)
   have Q4 : Hid (w.heap.size <= q) := ltr C3d.out.size hq
   have RQ := hide rq
   have a4 := (dh R4.out).2.2.2
   clear hHeld R3d E3d S3d C3d hq rq b2
   refine hK.out _ _ a4 (fun hHeld => ?_)
   clear hK K a4
   try simp only [uA]
   refine rdy [4, 11] ?_
   refine AllReadyH.cons (o := ⟨_, _, _, _, _, _⟩) rfl (fun K hK => ?_) ?_
   focus
    have c1 := E4.out.sheets OL.out
    go_simp
    refine hK.out _ _ (by assumption) (fun hHeld => ?_)
    clear hK K c1
    try simp only [uA]
    refine rdy [11] ?_
    refine bu (o := ⟨_, _, _, _, _, _⟩) rfl rfl 97 1 [(0, Operand.tmp 77)] rfl _ _ (lV Z2 (n : Int) q) AllReadyH.nil ⟨(dh ((heap_alloc_old _ _ (ae R4.out)).trans R4.out)).2.2.2, fun hHeld => ?_⟩
    try simp only [uA]
    obtain ⟨Z3, hZ3⟩ : ∃ Z3, Z3 = Z2.alloc (.cells #[.int .i64 (n : Int), .slice (some ⟨q, 0, none⟩) 1024 1024] 144) := ⟨_, rfl⟩
    rw [<- hZ3] at hHeld ⊢
    have b3 : Below Z2.heap.size Z2 Z3 := by rw [hZ3]; exact ba ..
    have r3 : Z3.heap[Z2.heap.size]? = some (.cells (encS (n, q)).toArray 144 (0, 0)) := by rw [hZ3]; exact heap_alloc_new _ _
    have R5 : Hid (Z3.heap[gr]? = some (.cells #[.slice ko kn kc, .slice none 0 0, .int .i64 (n : Int), .pointer (some ⟨g1, 0, none⟩)] 126 (0, 0))) := (b3.block gr (ae R4.out)).trans R4.out
    have E5 : Hid (EdAt Z3 g gs { h with used := S.orBit h.used n } (.slice vso vn vsc)) := (b3.block g (ae E4.out)).trans E4.out
    have S5 : Hid (bZ B Z3 (.slice vso vn vsc) sl) := S4.out.below b3
    have C5 : Hid (Chg (fun k => k = g \/ k = gr) w Z3) := C4.out.trans (Chg.ofBelow' (p := fun k => k = g \/ k = gr) b3) (fun _ _ e => e)
    have RQ5 : Hid (Z3.heap[q]? = some (.cells (S.v8 (S.sheetB (S.nodeB 0 es))) 5 (0, 0))) := (b3.block q (ae RQ.out)).trans RQ.out
    have APP := eO Z3 B Z2.heap.size (.slice vso vn vsc) sl (n, q) 97 S5.out r3 (by have := HSL.out; omega) (ltr HB.out C5.out.size)
    clear b3 r3 hZ3 R4 E4 S4 C4 RQ
   rotate_left
   focus
    refine bu (o := ⟨_, _, _, _, _, _⟩) rfl rfl 97 1 [(0, Operand.tmp 77)] rfl _ _ (lV Z2 (n : Int) q) AllReadyH.nil ⟨(dh ((heap_alloc_old _ _ (ae R4.out)).trans R4.out)).2.2.2, fun hHeld => ?_⟩
    try simp only [uA]
    obtain ⟨Z3, hZ3⟩ : ∃ Z3, Z3 = Z2.alloc (.cells #[.int .i64 (n : Int), .slice (some ⟨q, 0, none⟩) 1024 1024] 144) := ⟨_, rfl⟩
    rw [<- hZ3] at hHeld ⊢
    have b3 : Below Z2.heap.size Z2 Z3 := by rw [hZ3]; exact ba ..
    have r3 : Z3.heap[Z2.heap.size]? = some (.cells (encS (n, q)).toArray 144 (0, 0)) := by rw [hZ3]; exact heap_alloc_new _ _
    have R5 : Hid (Z3.heap[gr]? = some (.cells #[.slice ko kn kc, .slice none 0 0, .int .i64 (n : Int), .pointer (some ⟨g1, 0, none⟩)] 126 (0, 0))) := (b3.block gr (ae R4.out)).trans R4.out
    have E5 : Hid (EdAt Z3 g gs { h with used := S.orBit h.used n } (.slice vso vn vsc)) := (b3.block g (ae E4.out)).trans E4.out
    have S5 : Hid (bZ B Z3 (.slice vso vn vsc) sl) := S4.out.below b3
    have C5 : Hid (Chg (fun k => k = g \/ k = gr) w Z3) := C4.out.trans (Chg.ofBelow' (p := fun k => k = g \/ k = gr) b3) (fun _ _ e => e)
    have RQ5 : Hid (Z3.heap[q]? = some (.cells (S.v8 (S.sheetB (S.nodeB 0 es))) 5 (0, 0))) := (b3.block q (ae RQ.out)).trans RQ.out
    have APP := eO Z3 B Z2.heap.size (.slice vso vn vsc) sl (n, q) 97 S5.out r3 (by have := HSL.out; omega) (ltr HB.out C5.out.size)
    clear b3 r3 hZ3 R4 E4 S4 C4 RQ
    refine r1 4 fun K hK => ?_
    have c1 := E5.out.sheets OL.out
    go_simp
    refine hK.out _ _ (by assumption) (fun hHeld => ?_)
    clear hK K c1
    try simp only [uA]
 rotate_left 3
 focus
  have hmI : ¬ (0 : Int) < (m : Int) := by omega
  have hmD : decide ((0 : Int) < (m : Int)) = false := decide_eq_false hmI
  go_wp2_with fail
  refine (free_any g 4 h.used wr (fun j hj => EX.out.byte j (by have := HU.out; omega))).mono ?_
  rintro e W1 ⟨rfl, q1, hw1⟩
  simp only [HF.out, Option.getD_some, Option.isSome_some]
  have E1 : Hid (EdAt W1 g gs h (.slice vso vn vsc)) := by rw [hw1]; exact EX.out
  have R1 : Hid (W1.heap[gr]? = some (.cells #[.slice ko kn kc, .slice none 0 0, .int .i64 0, .pointer (some ⟨g1, 0, none⟩)] 126 (0, 0))) := by rw [hw1]; exact RX.out
  have S1 : Hid (bZ B W1 (.slice vso vn vsc) sl) := by rw [hw1]; exact SX.out
  have C1 : Hid (Chg (fun k => k = g \/ k = gr) w W1) := by rw [hw1]; exact CX.out.drewN q1
  clear hw1 c0 c1 c2 c3 d0 d1 EX RX SX CX
  go_wp2_with fail
  refine (E1.out.added HU.out n HN.out).mono ?_
  rintro e W2 ⟨rfl, e2, k2⟩
  have E2 := hide e2
  have R2 : Hid (W2.heap[gr]? = some (.cells #[.slice ko kn kc, .slice none 0 0, .int .i64 0, .pointer (some ⟨g1, 0, none⟩)] 126 (0, 0))) := k2.row R1.out (fun e => NE.out e.symm)
  have S2 : Hid (bZ B W2 (.slice vso vn vsc) sl) := S1.out.chg k2 (fun k hk e => S1.out.apart E1.out (by decide) (by rw [<- e]; exact hk))
  have C2 : Hid (Chg (fun k => k = g \/ k = gr) w W2) := C1.out.trans k2 (fun _ _ e => Or.inl e)
  obtain ⟨c0, c1, c2, c3⟩ := dh R2.out
  have f2 := frozen_of_row _ _ 2 _ _ R2.out
  clear e2 k2 E1 R1 S1 C1
  go_upto_region 16 with fail
  obtain ⟨W3, hW3⟩ : ∃ W3, W3 = W2.setCell ⟨gr, 2, none⟩ (.int .i64 (n : Int)) := ⟨_, rfl⟩
  rw [<- hW3]
  have k3 : Chg (fun k => k = gr) W2 W3 := by rw [hW3]; exact (Chg.refl (fun k => k = gr) _).setCell gr 2 _ (fun _ => rfl)
  have R3 : Hid (W3.heap[gr]? = some (.cells #[.slice ko kn kc, .slice none 0 0, .int .i64 (n : Int), .pointer (some ⟨g1, 0, none⟩)] 126 (0, 0))) := by
   show W3.heap[gr]? = _
   rw [hW3, heap_setCell_same W2 gr 2 _ _ _ R2.out]; rfl
  have E3 : Hid (EdAt W3 g gs { h with used := S.orBit h.used n } (.slice vso vn vsc)) := k3.row E2.out NE.out
  have S3 : Hid (bZ B W3 (.slice vso vn vsc) sl) := S2.out.chg k3 (fun k hk e => S2.out.apart R2.out (by decide) (by rw [<- e]; exact hk))
  have C3 : Hid (Chg (fun k => k = g \/ k = gr) w W3) := C2.out.trans k3 (fun _ _ e => Or.inr e)
  clear hW3 k3 c0 c1 c2 c3 f2 E2 R2 S2 C2
  refine wp_region_noPanic ?_
  refine wp_region_held_drew (S := (fun W => W.cell? ⟨gr, 3, none⟩ = some (.pointer (some ⟨g1, 0, none⟩)))) follows (dh R3.out).2.2.2 (fun hHeld => ?_)
  have R3d : Hid (W3.drew.heap[gr]? = some (.cells #[.slice ko kn kc, .slice none 0 0, .int .i64 (n : Int), .pointer (some ⟨g1, 0, none⟩)] 126 (0, 0))) := R3.out
  have E3d : Hid (EdAt W3.drew g gs { h with used := S.orBit h.used n } (.slice vso vn vsc)) := E3.out
  have S3d : Hid (bZ B W3.drew (.slice vso vn vsc) sl) := S3.out
  have C3d : Hid (Chg (fun k => k = g \/ k = gr) w W3.drew) := C3.out.drew
  have OL : Hid ((S.orBit h.used n).length = 64) := by show (S.orBit h.used n).length = 64; rw [S.orBit_length]; exact HU.out
  clear R3 E3 S3 C3
  generalize W3.drew = Z1 at R3d E3d S3d C3d hHeld ⊢
  refine tq 0 ?_
  simp only [uA]
  refine tq 1 ?_
  simp only [uA]
  refine tq 2 ?_
  simp only [uA]
  refine tq 3 ?_
  simp only [uA]
  refine tq 5 ?_
  simp only [uA]
  refine tq 6 ?_
  simp only [uA]
  refine tq 7 ?_
  simp only [uA]
  refine tk 8 ?_ rfl (Or.inl ⟨by rfl, ?_⟩) ?_
  rotate_left
  ·intro w hSw
   have c4 := hSw
   clear hSw
   go_simp
   all_goals with_reducible rfl
  simp only [uA]
  refine tq 9 ?_
  simp only [uA]
  refine rdy [4, 10] ?_
  refine AllReadyH.cons (o := ⟨_, _, _, _, _, _⟩) rfl (fun K hK => ?_) ?_
  focus
   have c1 := E3d.out.sheets OL.out
   go_simp
   refine hK.out _ _ (by assumption) (fun hHeld => ?_)
   clear hK K c1
   try simp only [uA]
   refine r1 10 fun K hK => ?_
   go_simp
   refine (mX g1 n es Z1 (HNN.out Z1 C3d.out) HO.out).mono ?_
   rintro e Z2 ⟨q, rfl, hq, rq, b2⟩
   have R4 : Hid (Z2.heap[gr]? = some (.cells #[.slice ko kn kc, .slice none 0 0, .int .i64 (n : Int), .pointer (some ⟨g1, 0, none⟩)] 126 (0, 0))) := (b2.block gr (ae R3d.out)).trans R3d.out
   have E4 : Hid (EdAt Z2 g gs { h with used := S.orBit h.used n } (.slice vso vn vsc)) := (b2.block g (ae E3d.out)).trans E3d.out
   have S4 : Hid (bZ B Z2 (.slice vso vn vsc) sl) := S3d.out.below b2
   have C4 : Hid (Chg (fun k => k = g \/ k = gr) w Z2) := C3d.out.trans (Chg.ofBelow' (p := fun k => k = g \/ k = gr) b2) (fun _ _ e => e)
   have Q4 : Hid (w.heap.size <= q) := ltr C3d.out.size hq
   have RQ := hide rq
   have a4 := (dh R4.out).2.2.2
   clear hHeld R3d E3d S3d C3d hq rq b2
   refine hK.out _ _ a4 (fun hHeld => ?_)
   clear hK K a4
   try simp only [uA]
   refine rdy [11] ?_
   refine bu (o := ⟨_, _, _, _, _, _⟩) rfl rfl 97 1 [(0, Operand.tmp 77)] rfl _ _ (lV Z2 (n : Int) q) AllReadyH.nil ⟨(dh ((heap_alloc_old _ _ (ae R4.out)).trans R4.out)).2.2.2, fun hHeld => ?_⟩
   try simp only [uA]
   obtain ⟨Z3, hZ3⟩ : ∃ Z3, Z3 = Z2.alloc (.cells #[.int .i64 (n : Int), .slice (some ⟨q, 0, none⟩) 1024 1024] 144) := ⟨_, rfl⟩
   rw [<- hZ3] at hHeld ⊢
   have b3 : Below Z2.heap.size Z2 Z3 := by rw [hZ3]; exact ba ..
   have r3 : Z3.heap[Z2.heap.size]? = some (.cells (encS (n, q)).toArray 144 (0, 0)) := by rw [hZ3]; exact heap_alloc_new _ _
   have R5 : Hid (Z3.heap[gr]? = some (.cells #[.slice ko kn kc, .slice none 0 0, .int .i64 (n : Int), .pointer (some ⟨g1, 0, none⟩)] 126 (0, 0))) := (b3.block gr (ae R4.out)).trans R4.out
   have E5 : Hid (EdAt Z3 g gs { h with used := S.orBit h.used n } (.slice vso vn vsc)) := (b3.block g (ae E4.out)).trans E4.out
   have S5 : Hid (bZ B Z3 (.slice vso vn vsc) sl) := S4.out.below b3
   have C5 : Hid (Chg (fun k => k = g \/ k = gr) w Z3) := C4.out.trans (Chg.ofBelow' (p := fun k => k = g \/ k = gr) b3) (fun _ _ e => e)
   have RQ5 : Hid (Z3.heap[q]? = some (.cells (S.v8 (S.sheetB (S.nodeB 0 es))) 5 (0, 0))) := (b3.block q (ae RQ.out)).trans RQ.out
   have APP := eO Z3 B Z2.heap.size (.slice vso vn vsc) sl (n, q) 97 S5.out r3 (by have := HSL.out; omega) (ltr HB.out C5.out.size)
   clear b3 r3 hZ3 R4 E4 S4 C4 RQ
  rotate_left
  focus
   refine c1 fun K hK => ?_
   go_simp
   refine (mX g1 n es Z1 (HNN.out Z1 C3d.out) HO.out).mono ?_
   rintro e Z2 ⟨q, rfl, hq, rq, b2⟩
   have R4 : Hid (Z2.heap[gr]? = some (.cells #[.slice ko kn kc, .slice none 0 0, .int .i64 (n : Int), .pointer (some ⟨g1, 0, none⟩)] 126 (0, 0))) := (b2.block gr (ae R3d.out)).trans R3d.out
   have E4 : Hid (EdAt Z2 g gs { h with used := S.orBit h.used n } (.slice vso vn vsc)) := (b2.block g (ae E3d.out)).trans E3d.out
   have S4 : Hid (bZ B Z2 (.slice vso vn vsc) sl) := S3d.out.below b2
   have C4 : Hid (Chg (fun k => k = g \/ k = gr) w Z2) := C3d.out.trans (Chg.ofBelow' (p := fun k => k = g \/ k = gr) b2) (fun _ _ e => e)
   have Q4 : Hid (w.heap.size <= q) := ltr C3d.out.size hq
   have RQ := hide rq
   have a4 := (dh R4.out).2.2.2
   clear hHeld R3d E3d S3d C3d hq rq b2
   refine hK.out _ _ a4 (fun hHeld => ?_)
   clear hK K a4
   try simp only [uA]
   refine rdy [4, 11] ?_
   refine AllReadyH.cons (o := ⟨_, _, _, _, _, _⟩) rfl (fun K hK => ?_) ?_
   focus
    have c1 := E4.out.sheets OL.out
    go_simp
    refine hK.out _ _ (by assumption) (fun hHeld => ?_)
    clear hK K c1
    try simp only [uA]
    refine rdy [11] ?_
    refine bu (o := ⟨_, _, _, _, _, _⟩) rfl rfl 97 1 [(0, Operand.tmp 77)] rfl _ _ (lV Z2 (n : Int) q) AllReadyH.nil ⟨(dh ((heap_alloc_old _ _ (ae R4.out)).trans R4.out)).2.2.2, fun hHeld => ?_⟩
    try simp only [uA]
    obtain ⟨Z3, hZ3⟩ : ∃ Z3, Z3 = Z2.alloc (.cells #[.int .i64 (n : Int), .slice (some ⟨q, 0, none⟩) 1024 1024] 144) := ⟨_, rfl⟩
    rw [<- hZ3] at hHeld ⊢
    have b3 : Below Z2.heap.size Z2 Z3 := by rw [hZ3]; exact ba ..
    have r3 : Z3.heap[Z2.heap.size]? = some (.cells (encS (n, q)).toArray 144 (0, 0)) := by rw [hZ3]; exact heap_alloc_new _ _
    have R5 : Hid (Z3.heap[gr]? = some (.cells #[.slice ko kn kc, .slice none 0 0, .int .i64 (n : Int), .pointer (some ⟨g1, 0, none⟩)] 126 (0, 0))) := (b3.block gr (ae R4.out)).trans R4.out
    have E5 : Hid (EdAt Z3 g gs { h with used := S.orBit h.used n } (.slice vso vn vsc)) := (b3.block g (ae E4.out)).trans E4.out
    have S5 : Hid (bZ B Z3 (.slice vso vn vsc) sl) := S4.out.below b3
    have C5 : Hid (Chg (fun k => k = g \/ k = gr) w Z3) := C4.out.trans (Chg.ofBelow' (p := fun k => k = g \/ k = gr) b3) (fun _ _ e => e)
    have RQ5 : Hid (Z3.heap[q]? = some (.cells (S.v8 (S.sheetB (S.nodeB 0 es))) 5 (0, 0))) := (b3.block q (ae RQ.out)).trans RQ.out
    have APP := eO Z3 B Z2.heap.size (.slice vso vn vsc) sl (n, q) 97 S5.out r3 (by have := HSL.out; omega) (ltr HB.out C5.out.size)
    clear b3 r3 hZ3 R4 E4 S4 C4 RQ
   rotate_left
   focus
    refine bu (o := ⟨_, _, _, _, _, _⟩) rfl rfl 97 1 [(0, Operand.tmp 77)] rfl _ _ (lV Z2 (n : Int) q) AllReadyH.nil ⟨(dh ((heap_alloc_old _ _ (ae R4.out)).trans R4.out)).2.2.2, fun hHeld => ?_⟩
    try simp only [uA]
    obtain ⟨Z3, hZ3⟩ : ∃ Z3, Z3 = Z2.alloc (.cells #[.int .i64 (n : Int), .slice (some ⟨q, 0, none⟩) 1024 1024] 144) := ⟨_, rfl⟩
    rw [<- hZ3] at hHeld ⊢
    have b3 : Below Z2.heap.size Z2 Z3 := by rw [hZ3]; exact ba ..
    have r3 : Z3.heap[Z2.heap.size]? = some (.cells (encS (n, q)).toArray 144 (0, 0)) := by rw [hZ3]; exact heap_alloc_new _ _
    have R5 : Hid (Z3.heap[gr]? = some (.cells #[.slice ko kn kc, .slice none 0 0, .int .i64 (n : Int), .pointer (some ⟨g1, 0, none⟩)] 126 (0, 0))) := (b3.block gr (ae R4.out)).trans R4.out
    have E5 : Hid (EdAt Z3 g gs { h with used := S.orBit h.used n } (.slice vso vn vsc)) := (b3.block g (ae E4.out)).trans E4.out
    have S5 : Hid (bZ B Z3 (.slice vso vn vsc) sl) := S4.out.below b3
    have C5 : Hid (Chg (fun k => k = g \/ k = gr) w Z3) := C4.out.trans (Chg.ofBelow' (p := fun k => k = g \/ k = gr) b3) (fun _ _ e => e)
    have RQ5 : Hid (Z3.heap[q]? = some (.cells (S.v8 (S.sheetB (S.nodeB 0 es))) 5 (0, 0))) := (b3.block q (ae RQ.out)).trans RQ.out
    have APP := eO Z3 B Z2.heap.size (.slice vso vn vsc) sl (n, q) 97 S5.out r3 (by have := HSL.out; omega) (ltr HB.out C5.out.size)
    clear b3 r3 hZ3 R4 E4 S4 C4 RQ
    refine r1 4 fun K hK => ?_
    have c1 := E5.out.sheets OL.out
    go_simp
    refine hK.out _ _ (by assumption) (fun hHeld => ?_)
    clear hK K c1
    try simp only [uA]
 all_goals
  refine rdy [12] ?_
  refine dm (o := ⟨_, _, _, _, _, _⟩) rfl rfl _ _ 97 97 rfl _ _ rfl rfl APP AllReadyH.nil ?_
  rintro v6 Z4 ⟨s6, k6⟩
  have R6 : Hid (Z4.heap[gr]? = some (.cells #[.slice ko kn kc, .slice none 0 0, .int .i64 (n : Int), .pointer (some ⟨g1, 0, none⟩)] 126 (0, 0))) := k6.row R5.out (S5.out.apart R5.out (by decide))
  have E6 : Hid (EdAt Z4 g gs { h with used := S.orBit h.used n } (.slice vso vn vsc)) := k6.row E5.out (S5.out.apart E5.out (by decide))
  have RQ6 : Hid (Z4.heap[q]? = some (.cells (S.v8 (S.sheetB (S.nodeB 0 es))) 5 (0, 0))) := k6.row RQ5.out (S5.out.apart RQ5.out (by decide))
  have C6 : Hid (Chg (fun k => k = g \/ k = gr \/ (Value.slice vso vn vsc).ownBlock = some k) w Z4) := (Chg.trans (p := fun k => k = g \/ k = gr \/ (Value.slice vso vn vsc).ownBlock = some k) ⟨C5.out.os, C5.out.tape, C5.out.output, C5.out.size, fun j hj hp => C5.out.block j hj (fun e => hp (e.elim Or.inl (fun e => Or.inr (Or.inl e))))⟩ k6 (fun _ _ e => Or.inr (Or.inr e)))
  have S6 := hide s6
  refine ⟨(dh R6.out).2.2.2, fun hHeld => ?_⟩
  clear s6 k6 R5 E5 S5 C5 RQ5 APP
  try simp only [uA]
  obtain ⟨o6, oc6, hv6⟩ := S6.out.form
  obtain ⟨n6, hn6⟩ : ∃ n6, n6 = (sl ++ [(n, q)]).length := ⟨_, rfl⟩
  rw [<- hn6] at hv6
  subst hv6
  clear hn6
  refine tq 13 ?_
  simp only [uA]
  refine tq 14 ?_
  simp only [uA]
  refine r1 15 fun K hK => ?_
  have c1 := E6.out.sheets OL.out
  have f1 := frozen_of_row _ _ 68 _ _ E6.out
  go_simp
  have k7 : Chg (fun k => k = g) Z4 (Z4.setCell ⟨g, 68, none⟩ (.slice o6 n6 oc6)) := (Chg.refl (fun k => k = g) _).setCell g 68 _ (fun _ => rfl)
  have E7 := hide (E6.out.setSheets OL.out (.slice o6 n6 oc6))
  have R7 : Hid ((Z4.setCell ⟨g, 68, none⟩ (.slice o6 n6 oc6)).heap[gr]? = some (.cells #[.slice ko kn kc, .slice none 0 0, .int .i64 (n : Int), .pointer (some ⟨g1, 0, none⟩)] 126 (0, 0))) := k7.row R6.out (fun e => NE.out e.symm)
  have RQ7 : Hid ((Z4.setCell ⟨g, 68, none⟩ (.slice o6 n6 oc6)).heap[q]? = some (.cells (S.v8 (S.sheetB (S.nodeB 0 es))) 5 (0, 0))) := k7.row RQ6.out (fun e => ne_of_type RQ6.out E6.out (by decide) e)
  have S7 : Hid (bZ B (Z4.setCell ⟨g, 68, none⟩ (.slice o6 n6 oc6)) (.slice o6 n6 oc6) (sl ++ [(n, q)])) := S6.out.chg k7 (fun k hk e => S6.out.apart E6.out (by decide) (by rw [<- e]; exact hk))
  have C7 : Hid (Chg (fun k => k = g \/ k = gr \/ (Value.slice vso vn vsc).ownBlock = some k) w (Z4.setCell ⟨g, 68, none⟩ (.slice o6 n6 oc6))) := C6.out.trans k7 (fun _ _ e => Or.inl e)
  clear hHeld
  refine hK.out _ _ (dh R7.out).2.2.2 (fun hHeld => ?_)
  clear hK K c1 f1 k7 R6 E6 S6 C6 RQ6
  try simp only [uA]
  refine wpAnyH_done (by kernel_rfl) ?_ _
  refine NoPanic.normal ?_
  clear hHeld
  generalize Z4.setCell ⟨g, 68, none⟩ (.slice o6 n6 oc6) = Z5 at R7 E7 S7 C7 RQ7 ⊢
  go_wp2_with fail
  go_ret
  exact ⟨rfl, _, q, E7.out, S7.out, Q4.out, RQ7.out, R7.out, C7.out⟩
def BtO (w0 w : World) (o : Ow) (gt gs n : Nat) (es : List S.Ent) : Prop :=
 ∃ d p t pg, Bt1 w0 w o d p t pg es /\ kL w gt gs /\ dX w gs o /\ ¬ o.has gt /\ ¬ o.has gs /\ t <= n
theorem BtO.then {w0 w W : World} {o : Ow} {gt gs n : Nat} {es : List S.Ent} (h : BtO w0 w o gt gs n es) (hb : Below w.heap.size w W) : BtO w0 W o gt gs n es := by
 obtain ⟨d, p, t, pg, h1, h2, h3, h4, h5, h6⟩ := h
 exact ⟨d, p, t, pg, h1.then hb, (hb.block gt (aa h2)).trans h2, (hb.block gs (aa h3)).trans h3, h4, h5, h6⟩
theorem BtO.rds {w0 w : World} {o : Ow} {gt gs n : Nat} {es : List S.Ent} (h : BtO w0 w o gt gs n es) : ∃ pg, Rds w.heap.size w gs pg /\ kL w gt gs /\ S.nU pg es := by
 obtain ⟨d, p, t, pg, h1, h2, h3, _⟩ := h
 exact ⟨pg, h1.rds h3, h2, h1.leaf⟩
theorem BtO.below {w0 w : World} {o : Ow} {gt gs n : Nat} {es : List S.Ent} (h : BtO w0 w o gt gs n es) : Below w0.heap.size w0 w := by
 obtain ⟨d, p, t, pg, h1, _⟩ := h
 exact h1.pgs.below
set_option maxHeartbeats 16000000 in
set_option maxRecDepth 10000 in
theorem do_ok (w0 : World) (o : Ow) (gt gs n b off cap : Nat) (dc : List ChV) (cs : List S.Cg) (es : List S.Ent) (w : World) (h : BtO w0 w o gt gs n es) (h0 : ∀ j u, (dc.flatMap aQ)[j]? = some u -> w.cell? ⟨b, off + j, none⟩ = some u) (hne : dc ≠ []) (hl19 : dc.length <= 19) (hcap : dc.length <= cap) (hg : (dc.all ChV.good) = true) (hcs : fD w dc cs) (hle : es.length <= 9000) (hmk : S.bS 0 (S.mrg es (S.lasts cs))) (hn : n + 2 < 18446744073709551616) :
 Calls Tryz.prog 12 #[.pointer (some ⟨gt, 0, none⟩), .slice (some ⟨b, off, none⟩) dc.length cap] w fun e w' => e = .returned (.int .i64 0) /\ ∃ o', o'.g = o.g /\ BtO w0 w' o' gt gs (n + 2) (S.mrg es (S.lasts cs)) /\ Chg o.has w w' /\ ∀ k, o'.has k -> o.has k \/ w.heap.size <= k := by
 have hels : Els aQ w (.slice (some ⟨b, off, none⟩) dc.length cap) dc := Or.inr (Or.inr ⟨b, off, cap, rfl, hcap, by omega, by
 obtain ⟨x, r, rfl⟩ := List.exists_cons_of_ne_nil hne
 exact World.block_lt_of_cell? w _ (h0 0 (.slice x.ka x.kn x.kc) rfl), h0⟩)
 have HPM := hide (sI _ dc w hels)
 have HGD : Hid ((dc.all ChV.good && decide (dc.length <= 80)) = true) := by show (dc.all ChV.good && decide (dc.length <= 80)) = true; rw [hg, Bool.true_and]; exact decide_eq_true (by omega)
 have HNE := hide hne
 have HL19 := hide hl19
 have HCL := hide (show cs.length = dc.length from hcs.1.symm)
 have HLE := hide hle
 have HMK := hide hmk
 have HNT := hide hn
 obtain ⟨m, hm⟩ : ∃ m, m = dc.length := ⟨_, rfl⟩
 have HPOS : 0 < m := by rw [hm]; exact List.length_pos_iff.2 hne
 have q0 : ¬ (m : Int) = 0 := by omega
 rw [<- hm] at HPM HGD ⊢
 have HN := hide hm
 have HB := hide h
 have H00 := hide h0
 have HCS0 := hide hcs
 clear hels hg hne hl19 hcap hcs hle hmk hn hm h0 HPOS h
 go_enter Tryz.func12, Tryz.ntmps12
 go_wp2_with fail
 refine HPM.out.mono ?_
 rintro e w2 ⟨rfl, hb⟩
 rw [HGD.out]
 have HB2 := hide (HB.out.then hb)
 have HCS := hide (HCS0.out.below hb)
 have H0 : Hid (∀ j u, (dc.flatMap aQ)[j]? = some u -> w2.cell? ⟨b, off + j, none⟩ = some u) := fun j u h => (hb.cell (p := ⟨b, off + j, none⟩) (World.block_lt_of_cell? _ _ (H00.out j u h))).trans (H00.out j u h)
 have HW2 := hide hb
 clear hb H00 HCS0 HPM
 go_upto_region 5 with fail
 obtain ⟨d, p, t, pg, hb1, htr, hst, ngt, ngs, htn⟩ := HB2.out
 have HB1 := hide hb1
 have HTR := hide htr
 have HST := hide hst
 have NGT := hide ngt
 have NGS := hide ngs
 have HTN := hide htn
 have HRD := hide (hb1.rds hst)
 have HLF := hide hb1.leaf
 clear hb1 htr hst ngt ngs htn HB HB2
 refine wp_region_noPanic ?_
 refine wp_region_held_drew (S := (fun W => Below w2.heap.size w2 W)) follows ((Below.refl _ _).drew) (fun hHeld => ?_)
 clear hHeld
 have hHeld : Below w2.heap.size w2 w2.drew := (Below.refl _ _).drew
 have CZ0 := hide hHeld
 generalize w2.drew = Z0 at CZ0 hHeld ⊢
 refine tq 0 ?_
 simp only [uA]
 refine tq 1 ?_
 simp only [uA]
 refine tq 2 ?_
 simp only [uA]
 refine tk 3 ?_ rfl (Or.inl ⟨by rfl, ?_⟩) ?_
 rotate_left
 ·intro w hSw
 have ct := (hSw.cell (p := ⟨gt, 0, none⟩) (aa HTR.out)).trans (jO HTR.out)
 clear hSw
 go_simp
 all_goals with_reducible rfl
 simp only [uA]
 refine tq 4 ?_
 simp only [uA]
 refine r1 5 fun K hK => ?_
 go_simp
 rw [HN.out]
 refine (BO b off cap dc cs Z0 (fun j u h => (CZ0.out.cell (p := ⟨b, off + j, none⟩) (World.block_lt_of_cell? _ _ (H0.out j u h))).trans (H0.out j u h)) HNE.out HL19.out (HCS.out.below CZ0.out)).mono ?_
 rintro e Z1 ⟨⟨vl, dl, rfl, hel, hca, hone⟩, hbz⟩
 rw [<- HN.out]
 have CZ1 := hide (CZ0.out.trans (hbz.mono CZ0.out.size))
 have HEL := hide hel
 have HCA := hide hca
 clear hel hca hbz hone CZ0 hHeld
 refine hK.out _ _ CZ1.out (fun hHeld => ?_)
 clear hK K
 try simp only [uA]
 refine r1 6 fun K hK => ?_
 go_simp
 refine (FT w2.heap.size gs pg es dl (S.lasts cs) vl Z1 (HRD.out.below CZ1.out) HLF.out HEL.out HCA.out (by have := HLE.out; have := HL19.out; have := S.vJ cs; have := HCL.out; omega) HMK.out).mono ?_
 rintro e Z2 ⟨vs, q1, q2, rfl, hsh, hr1, hr2, hq1, hq2, hbz⟩
 have CZ2 := hide (CZ1.out.trans (hbz.mono CZ1.out.size))
 have SH := hide hsh
 have R1 := hide hr1
 have R2 := hide hr2
 have Q12 := hide (show w2.heap.size <= q1 /\ w2.heap.size <= q2 from ⟨ltr CZ1.out.size hq1, ltr CZ1.out.size hq2⟩)
 clear hsh hr1 hr2 hq1 hq2 hbz CZ1 hHeld HEL HCA
 refine hK.out _ _ CZ2.out (fun hHeld => ?_)
 clear hK K
 try simp only [uA]
 refine tq 7 ?_
 simp only [uA]
 refine tq 8 ?_
 simp only [uA]
 refine tq 9 ?_
 simp only [uA]
 refine tq 10 ?_
 simp only [uA]
 refine tq 11 ?_
 simp only [uA]
 refine wpAnyH_done (by kernel_rfl) ?_ _
 refine NoPanic.normal ?_
 clear hHeld
 have HTRZ := hide ((CZ2.out.block gt (aa HTR.out)).trans HTR.out)
 have HSTZ := hide (show dX Z2 gs o from (CZ2.out.block gs (aa HST.out)).trans HST.out)
 have HBZ := hide (HB1.out.then CZ2.out)
 have ct := jO HTRZ.out
 go_wp2_with fail
 have HP2 := Er w0 Z2 o d p t gs _ 1 0 q1 q2 vs pg (S.gY (S.mrg es (S.lasts cs))) HBZ.out.pgs HSTZ.out SH.out R1.out R2.out (S.jb HMK.out 1) (S.jb HMK.out 0)
 (fun e => by have h1 := HB1.out.pgs.dk.dk.lt q1 e; have := Q12.out; omega) (fun e => by have h1 := HB1.out.pgs.dk.dk.lt q2 e; have := Q12.out; omega) (by omega) (by omega) (by omega) NGS.out (by have := HTN.out; have := HNT.out; omega)
 refine HP2.mono ?_
 clear HP2
 rintro e w4 ⟨rfl, o', d', ho, hpg, Cn, hch, hhas⟩
 have HO' := hide ho
 have HPG := hide (uf HMK.out HBZ.out.size 1 0 (Or.inr ⟨rfl, rfl⟩) hpg)
 have HS4 := hide Cn
 have HT4 := hide (show kL w4 gt gs from hch.row HTRZ.out NGT.out)
 have HCH := hide (show Chg o.has w w4 from (Chg.ofBelow' HW2.out).trans ((Chg.ofBelow' CZ2.out (p := o.has)).trans hch (fun _ _ e => e)) (fun _ _ e => e))
 have HHA : Hid (∀ k, o'.has k -> o.has k \/ w.heap.size <= k) := fun k hk => by
 rcases hhas k hk with e | e
 ·exact Or.inl e
 ·exact Or.inr (ltr HW2.out.size (ltr CZ2.out.size e))
 have NG4 : Hid (¬ o'.has gt /\ ¬ o'.has gs) := ⟨fun e => by
 rcases hhas gt e with e | e
 ·exact NGT.out e
 ·have := aa HTRZ.out; omega, fun e => by
 rcases hhas gs e with e | e
 ·exact NGS.out e
 ·have := aa HSTZ.out; omega⟩
 clear ho hpg Cn hch hhas ct
 go_wp2_with fail
 go_ret
 exact ⟨rfl, o', HO'.out, ⟨d', p, t + 2, _, HPG.out, HT4.out, HS4.out, NG4.out.1, NG4.out.2, by have := HTN.out; omega⟩, HCH.out, HHA.out⟩
end Go.Proofs.YteealihknndclaaGreatDoor
namespace Go.Proofs.YteealihknndclaaGreatDoor
open Go.RowKit Go.Shelf

def yS {α : Type} (q : Nat -> Prop) (I : List α -> World -> Prop) (Ix : Code -> List α -> World -> Prop) (ys : List α) (W : World) : Exit -> Act -> World -> Prop
 | .normal, _, W' => Chg q W W' /\ I ys W'
 | .ret, _, W' => Chg q W W' /\ Ix .ret ys W'
 | .exit id, _, W' => Chg q W W' /\ Ix (.exit id) ys W'
 | .goto t, _, W' => Chg q W W' /\ Ix (.goto t) ys W'
 | .panic _, _, _ => False
 | .outgrown, _, _ => False
theorem Chg.round {q : Nat -> Prop} {W V : World} {l : Nat} {b f : Obj} (hl : l < W.heap.size) (hf : W.heap[l]? = some f) (h : Chg q (W.putObj l b) V) : Chg q W (V.putObj l f) := by
 have hs : (W.putObj l b).heap.size = W.heap.size := World.putObj_size
 have hV : l < V.heap.size := by have := h.size; omega
 refine ⟨h.os, h.tape, h.output, by have := h.size; rw [World.putObj_size]; omega, fun k hk hn => ?_⟩
 rw [nA hV]
 by_cases e : k = l
 ·rw [if_pos e, e, hf]
 ·rw [if_neg e, h.block k (by omega) hn, nA hl, if_neg e]
end Go.Proofs.YteealihknndclaaGreatDoor
namespace Go.Proofs.YteealihknndclaaGreatDoor
open Go.RowKit
open Go.Shelf
attribute [local go_sem] Oper.semAt_some

theorem S.rank_nil (ks : List (List UInt8)) : S.rank ks [] = 0 := by
 unfold S.rank
 rw [List.countP_eq_zero]
 intro a _
 cases a <;> simp [S.ek, Lib.compareBytes]
theorem zk {w : World} {ao : Option Addr} {n cap : Nat} {d : List EnV} (h : Els aV w (.slice ao n cap) d) :
 (∀ W, (Instr.slice 122 (.slice ao n cap) (some (.int .i64 0)) none none).run Tryz.prog W = .ok (.slice ao n cap) W) /\ True := by
 have hn : n <= cap \/ n = 0 := by
 rcases h with ⟨h, _⟩ | ⟨_, _, h, _⟩ | ⟨_, _, _, h, h1, _⟩ <;> injection h with _ h2 h3 <;> omega
 refine ⟨fun W => ?_, trivial⟩
 rw [show (0 : Int) = ((0 : Nat) : Int) from rfl, run_slice_l W 122 ao n cap qD .i64 _ (by omega) (by omega), uW]
 cases ao <;> simp [sliced, Addr.add]
theorem Dm {w : World} {b off i : Nat} {x : EnV} (h : ∀ (r : Nat) u, (aV x)[r]? = some u -> w.cell? ⟨b, off + (i * 4 + r), none⟩ = some u) :
 w.cell? ⟨b, off + i * 4, none⟩ = some (.slice x.ka x.kn x.kc) /\ w.cell? ⟨b, off + i * 4 + 1, none⟩ = some (.slice x.va x.vn x.vc) /\ w.cell? ⟨b, off + i * 4 + 2, none⟩ = some (.int .i64 x.pg) /\ w.cell? ⟨b, off + i * 4 + 3, none⟩ = some (.pointer x.nd) :=
 ⟨h 0 _ rfl, by rw [Nat.add_assoc]; exact h 1 _ rfl, by rw [Nat.add_assoc]; exact h 2 _ rfl, by rw [Nat.add_assoc]; exact h 3 _ rfl⟩
end Go.Proofs.YteealihknndclaaGreatDoor
namespace Go.Proofs.YteealihknndclaaGreatDoor
open Go.RowKit
def RgS (w : World) (g3 g4 g5 gt : Nat) (W : World) : Prop :=
 Below w.heap.size w W /\ W.heap[g3]? = some (.cells #[.pointer (some ⟨gt, 0, none⟩)] 23 (0, 0)) /\ W.heap[g4]? = some (.cells #[.slice none 0 0] 32 (0, 0)) /\ W.heap[g5]? = some (.cells #[.slice none 0 0] 32 (0, 0))
theorem RgS.set4 {w W : World} {g3 g4 g5 gt : Nat} (h : RgS w g3 g4 g5 gt W) (h4 : w.heap.size <= g4) (n3 : g3 ≠ g4) (n5 : g5 ≠ g4) : RgS w g3 g4 g5 gt (W.setCell ⟨g4, 0, none⟩ (.slice none 0 0)) :=
 ⟨h.1.setCell (p := ⟨g4, 0, none⟩) h4 _, (heap_setCell_other _ _ _ _ n3).trans h.2.1, one_setCell h.2.2.1, (heap_setCell_other _ _ _ _ n5).trans h.2.2.2⟩
theorem RgS.set5 {w W : World} {g3 g4 g5 gt : Nat} (h : RgS w g3 g4 g5 gt W) (h5 : w.heap.size <= g5) (n3 : g3 ≠ g5) (n4 : g4 ≠ g5) : RgS w g3 g4 g5 gt (W.setCell ⟨g5, 0, none⟩ (.slice none 0 0)) :=
 ⟨h.1.setCell (p := ⟨g5, 0, none⟩) h5 _, (heap_setCell_other _ _ _ _ n3).trans h.2.1, (heap_setCell_other _ _ _ _ n4).trans h.2.2.1, one_setCell h.2.2.2⟩
end Go.Proofs.YteealihknndclaaGreatDoor
namespace Go.Proofs.YteealihknndclaaGreatDoor
open Go.RowKit Go.Shelf

end Go.Proofs.YteealihknndclaaGreatDoor
namespace Go.Proofs.YteealihknndclaaGreatDoor
open Go.RowKit
open Go.Shelf
attribute [local go_sem] Oper.semAt_some
theorem yA {l n : Nat} {o : Oper} {a : Act} {next next' : Act -> World -> Prop} {Q : Exit -> Act -> World -> Prop} {r : Result Next} (hn : ∀ a w, next a w -> next' a w) (h : o.upon Tryz.prog a next Q r) : o.uponIn (Fence.wide.inRound l) n Tryz.prog a next' Q r := by
 cases r with
 | ok x w' =>
 cases x with
 | value v => exact hn _ _ h
 | skip => exact hn _ _ h
 | defer d => exact hn _ _ h
 | enter f args =>
  refine ⟨fun e => by simp [Fence.wide, Fence.inRound] at e, (CallsIn.inRound l (callsIn_wide.2 h)).mono ?_⟩
  intro e w'' he
  cases e with
  | returned v => exact hn _ _ he
  | panicked c => exact he
  | outgrown => exact he
 | row row args =>
  refine ⟨fun e => by simp [Fence.wide, Fence.inRound] at e, fun c cs _ => ?_⟩
  obtain ⟨v, w'', hr, hs⟩ := h c cs
  exact ⟨v, w'', hn _ _ hr, stepsIn_wide.2 hs⟩
 | _ => exact h.elim
 | halt x w' =>
 cases x with
 | panic v => exact h
 | _ => exact h.elim
end Go.Proofs.YteealihknndclaaGreatDoor
namespace Go.Proofs.YteealihknndclaaGreatDoor
open Go.RowKit
open Go.Shelf
attribute [local go_sem] Oper.semAt_some
theorem Chg.putObj {p : Nat -> Prop} {w W : World} {l : Nat} {o' : Obj} (h : Chg p w W) (hl : w.heap.size <= l) : Chg p w (W.putObj l o') := by
 refine ⟨h.os, h.tape, h.output, by rw [World.putObj_size]; exact h.size, fun k hk hn => ?_⟩
 rw [World.putObj_heap_other (by omega)]
 exact h.block k hk hn
def Cq (o : Oper) : Bool := match o.op with | .defer _ => false | _ => true
end Go.Proofs.YteealihknndclaaGreatDoor
