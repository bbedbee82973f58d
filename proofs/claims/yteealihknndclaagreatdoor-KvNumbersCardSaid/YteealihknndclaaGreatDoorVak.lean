/- KvNumbers. -/
import Derived.Test.YteealihknndclaaGreatDoorVaf
import Derived.Test.YteealihknndclaaGreatDoorUd
import Derived.Test.YteealihknndclaaGreatDoorWc
namespace Go.Proofs.YteealihknndclaaGreatDoor
open Go.RowKit
theorem none_ok : S.NodeOk 0 [] := ⟨fun x hx => by simp at hx, List.Pairwise.nil, by omega, by decide, fun _ x hx => by simp at hx, fun h => absurd rfl h⟩
set_option maxHeartbeats 16000000 in
set_option maxRecDepth 100000 in
theorem qU (w : World) (hK : KAt w) (h1 : 1 < w.heap.size) :
  Calls Tryz.prog 7 #[] w fun e w' => e = .returned (.bool true) /\ Below w.heap.size w w' := by
 have HK := hide hK
 have HP : Hid (1 < w.heap.size) := h1
 clear hK h1
 go_enter Tryz.func7, Tryz.ntmps7
 go_wp2_with fail
 refine (pF 2 (by omega) (by omega) w HK.out HP.out).mono ?_
 rintro e w1 ⟨o, gk, gt, gs, rfl, hkv⟩
 have K1 := hide hkv
 clear hkv
 go_wp2_with fail
 refine (fw [97] [120] (by decide) (by decide) 1 _ _ rfl rfl w1).mono ?_
 rintro e c1 ⟨⟨sp1, ka1, kn1, kc1, va1, vn1, vc1, dr1⟩, rfl, hx, k1, v1, b1⟩
 obtain rfl : sp1 = 1 := hx.sp
 obtain rfl : dr1 = false := hx.dr
 rw [iF]
 have HX1 := hide hx
 have KV1 := hide (And.intro k1 v1)
 have CB1 := hide b1
 clear hx k1 v1 b1
 go_wp2_with fail
 generalize hW : c1.alloc _ = C1
 have ra : C1.heap[c1.heap.size]? = some (.cells (([⟨1, ka1, kn1, kc1, va1, vn1, vc1, false⟩] : List KcV).flatMap dD).toArray 67 (0, 0)) := by rw [<- hW]; exact heap_alloc_new _ _
 have ba : Below c1.heap.size c1 C1 := by rw [<- hW]; exact ba ..
 have EL1 := hide (kz ra (by simp))
 have HY1 := hide (HX1.out.below ba)
 have BA1 := hide (CB1.out.trans (ba.mono CB1.out.size))
 clear ra ba hW HX1 CB1
 have k1 := KV1.out
 refine (sV w C1 o gk gt gs 2 2 [] _ _ [(1, ⟨[97], [120], false⟩)] (K1.out.then BA1.out) EL1.out (by simp) (by simp) (by simp [KcV.good, k1.1, k1.2]) ⟨rfl, fun i x c hx hc => by
  match i, hx, hc with
  | 0, hx, hc => cases hx; cases hc; exact HY1.out⟩ (by rw [show (List.map S.tr [(1, ⟨[97], [120], false⟩)] : List S.Cg) = [⟨[1, 97], [120], false⟩] from rfl, show (S.gr [] [⟨[1, 97], [120], false⟩]).2 = 3 by kernel_rfl]; simp [S.used]) (by simp [S.used])).mono ?_
 clear k1
 rintro e w2 ⟨rfl, b2⟩
 have K2 := hide (K1.out.then (BA1.out.trans (b2.mono BA1.out.size)))
 clear b2 K1 BA1 EL1 HY1 KV1
 go_wp2_with fail
 refine (fw [97] [] (by decide) (by decide) 1 _ _ rfl rfl w2).mono ?_
 rintro e c2 ⟨⟨sp2, ka2, kn2, kc2, va2, vn2, vc2, dr2⟩, rfl, hx, k1, v1, b1⟩
 obtain rfl : sp2 = 1 := hx.sp
 obtain rfl : dr2 = false := hx.dr
 rw [iF]
 have HX2 := hide hx
 have KV2 := hide (And.intro k1 v1)
 have CB2 := hide b1
 clear hx k1 v1 b1
 go_wp2_with fail
 generalize hW : c2.alloc _ = C2
 have ra : C2.heap[c2.heap.size]? = some (.cells (([⟨1, ka2, kn2, kc2, va2, vn2, vc2, false⟩] : List KcV).flatMap dD).toArray 67 (0, 0)) := by rw [<- hW]; exact heap_alloc_new _ _
 have ba : Below c2.heap.size c2 C2 := by rw [<- hW]; exact ba ..
 have EL2 := hide (kz ra (by simp))
 have HY2 := hide (HX2.out.below ba)
 have BA2 := hide (CB2.out.trans (ba.mono CB2.out.size))
 clear ra ba hW HX2 CB2
 have k1 := KV2.out
 have hd := sU w C2 o gk gt gs 2 2 [] _ _ [(1, ⟨[97], [], false⟩)] (K2.out.then BA2.out) EL2.out (by simp) (by simp) (by simp [KcV.good, k1.1, k1.2]) ⟨rfl, fun i x c hx hc => by
  match i, hx, hc with
  | 0, hx, hc => cases hx; cases hc; exact HY2.out⟩ (by rw [show (List.map S.tr [(1, ⟨[97], [], false⟩)] : List S.Cg) = [⟨[1, 97], [], false⟩] from rfl, show (S.gr [] [⟨[1, 97], [], false⟩]).2 = 2 by kernel_rfl]; simp [S.used]) (by simp) (by rw [show (List.map S.tr [(1, ⟨[97], [], false⟩)] : List S.Cg) = [⟨[1, 97], [], false⟩] from rfl]; exact one_ok [1, 97] [] (by simp) (by simp) (by simp)) (by omega)
 rw [show (List.map S.tr [(1, ⟨[97], [], false⟩)] : List S.Cg) = [⟨[1, 97], [], false⟩] from rfl, Cm] at hd
 refine hd.mono ?_
 clear k1 hd
 rintro e w3 ⟨rfl, o3, ho3, hkv, hch, hown⟩
 have K3 := hide hkv
 have HO3 := hide ho3
 clear hkv ho3 hch hown K2 BA2 EL2 HY2 KV2
 obtain ⟨Z40, hZ⟩ : ∃ Z, Z = (⟨(S.zeros 40).toArray⟩ : ByteArray) := ⟨_, rfl⟩
 have HZ := hide hZ
 have zs := zu 40 (by omega) w3
 have zb : Below w3.heap.size w3 (w3.alloc (.cells (S.v8 (S.zeros 40)) 5)) := ba ..
 have zm : (Instr.makeSlice 32 (.int .i64 40) (.int .i64 40)).run Tryz.prog w3 = .ok (.slice (some ⟨w3.heap.size, 0, none⟩) 40 40) (w3.alloc (.cells (S.v8 (S.zeros 40)) 5)) := dw 40 (by omega) w3
 rw [<- hZ] at zs
 generalize w3.alloc (.cells (S.v8 (S.zeros 40)) 5) = w4 at zs zb zm
 have K4 := hide (K3.out.then zb)
 clear hZ zb K3
 go_wp2_with fail
 clear zs zm
 refine (fw (S.zeros 40) [] (by simp [S.zeros]) (by decide) 1 _ _ HZ.out rfl w4).mono ?_
 rintro e c3 ⟨⟨sp3, ka3, kn3, kc3, va3, vn3, vc3, dr3⟩, rfl, hx, k1, v1, b1⟩
 obtain rfl : sp3 = 1 := hx.sp
 obtain rfl : dr3 = false := hx.dr
 rw [iF]
 have HX3 := hide hx
 have KV3 := hide (And.intro k1 v1)
 have CB3 := hide b1
 clear hx k1 v1 b1
 go_wp2_with fail
 generalize hW : c3.alloc _ = C3
 have ra : C3.heap[c3.heap.size]? = some (.cells (([⟨1, ka3, kn3, kc3, va3, vn3, vc3, false⟩] : List KcV).flatMap dD).toArray 67 (0, 0)) := by rw [<- hW]; exact heap_alloc_new _ _
 have ba : Below c3.heap.size c3 C3 := by rw [<- hW]; exact ba ..
 have EL3 := hide (kz ra (by simp))
 have HY3 := hide (HX3.out.below ba)
 have BA3 := hide (CB3.out.trans (ba.mono CB3.out.size))
 clear ra ba hW HX3 CB3
 have k1 := KV3.out
 refine (yT gk _ _ C3 EL3.out (by simp [KcV.good, k1.1, S.zeros])).mono ?_
 clear k1
 rintro e w5 ⟨rfl, b2⟩
 have K5 := hide (K4.out.then (BA3.out.trans (b2.mono BA3.out.size)))
 clear b2 K4 BA3 EL3 HY3 KV3 HZ
 go_wp2_with fail
 refine (fw [] [] (by decide) (by decide) 1 _ _ rfl rfl w5).mono ?_
 rintro e c4 ⟨⟨sp4, ka4, kn4, kc4, va4, vn4, vc4, dr4⟩, rfl, hx, k1, v1, b1⟩
 obtain rfl : sp4 = 1 := hx.sp
 obtain rfl : dr4 = false := hx.dr
 rw [iF]
 have HX4 := hide hx
 have KV4 := hide (And.intro k1 v1)
 have CB4 := hide b1
 clear hx k1 v1 b1
 go_wp2_with fail
 generalize hW : c4.alloc _ = C4
 have ra : C4.heap[c4.heap.size]? = some (.cells (([⟨1, ka4, kn4, kc4, va4, vn4, vc4, false⟩] : List KcV).flatMap dD).toArray 67 (0, 0)) := by rw [<- hW]; exact heap_alloc_new _ _
 have ba : Below c4.heap.size c4 C4 := by rw [<- hW]; exact ba ..
 have EL4 := hide (kz ra (by simp))
 have HY4 := hide (HX4.out.below ba)
 have BA4 := hide (CB4.out.trans (ba.mono CB4.out.size))
 clear ra ba hW HX4 CB4
 have k1 := KV4.out
 refine (yT gk _ _ C4 EL4.out (by simp [KcV.good, k1.1])).mono ?_
 clear k1
 rintro e w6 ⟨rfl, b2⟩
 have K6 := hide (K5.out.then (BA4.out.trans (b2.mono BA4.out.size)))
 clear b2 K5 BA4 EL4 HY4 KV4
 have hpt : o.ptr = .pointer (some ⟨o.g, 0, none⟩) := rfl
 have HPT := hide (show o3.ptr = o.ptr by unfold Ow.ptr; rw [HO3.out])
 clear hpt
 go_wp2_with fail
 refine (qQ _ (-1) (Or.inl (by omega)) w6).mono ?_
 rintro e w7 ⟨rfl, rfl⟩
 go_wp2_with fail
 refine (qQ _ 98305 (Or.inr (by omega)) w7).mono ?_
 rintro e w8 ⟨rfl, rfl⟩
 rw [<- HPT.out]
 go_wp2_with fail
 obtain ⟨d3, p3, t3, pg3, hb3, _, _, _, _, ht3⟩ := K6.out.1
 refine (vY w w8 o3 d3 p3 t3 pg3 _ hb3 0 (by omega) (by omega)).mono ?_
 rintro e w9 ⟨gk2, gt2, gs2, rfl, hk, ht, hs, hgk, hgt, hgs, hb⟩
 have K9 : Hid (KvO w w9 o3 gk2 gt2 gs2 (2 + 2) 0 [⟨[1, 97], [], 0⟩]) := ⟨⟨d3, p3, t3, pg3, hb3.then hb, ht, hs, fun e => by have := hb3.pgs.dk.dk.lt _ e; omega, fun e => by have := hb3.pgs.dk.dk.lt _ e; omega, ht3⟩, hk, fun e => by have := hb3.pgs.dk.dk.lt _ e; omega, ltr hb3.pgs.below.size hgk, ltr hb3.pgs.below.size hgt, ltr hb3.pgs.below.size hgs⟩
 clear hk ht hs hgk hgt hgs hb hb3 ht3 K6
 go_wp2_with fail
 obtain ⟨pg, hr, ht, hlf⟩ := K9.out.1.rds
 refine (jk _ gk2 gs2 gt2 0 pg _ w9 hr hlf ht K9.out.2.1).mono ?_
 clear hr ht hlf
 rintro e w10 ⟨rfl, b8⟩
 rw [show S.used [⟨[1, 97], [], 0⟩] = 2 from rfl]
 have K10 := hide (K9.out.then b8)
 clear b8 K9
 go_wp2_with fail
 refine (fw [98] [] (by decide) (by decide) 2 _ _ rfl rfl w10).mono ?_
 rintro e c5 ⟨⟨sp5, ka5, kn5, kc5, va5, vn5, vc5, dr5⟩, rfl, hx, k1, v1, b1⟩
 obtain rfl : sp5 = 2 := hx.sp
 obtain rfl : dr5 = false := hx.dr
 rw [iF]
 have HX5 := hide hx
 have KV5 := hide (And.intro k1 v1)
 have CB5 := hide b1
 clear hx k1 v1 b1
 go_wp2_with fail
 generalize hW : c5.alloc _ = C5
 have ra : C5.heap[c5.heap.size]? = some (.cells (([⟨2, ka5, kn5, kc5, va5, vn5, vc5, false⟩] : List KcV).flatMap dD).toArray 67 (0, 0)) := by rw [<- hW]; exact heap_alloc_new _ _
 have ba : Below c5.heap.size c5 C5 := by rw [<- hW]; exact ba ..
 have EL5 := hide (kz ra (by simp))
 have HY5 := hide (HX5.out.below ba)
 have BA5 := hide (CB5.out.trans (ba.mono CB5.out.size))
 clear ra ba hW HX5 CB5
 have k1 := KV5.out
 refine (sV w C5 o3 gk2 gt2 gs2 (2 + 2) 0 [⟨[1, 97], [], 0⟩] _ _ [(2, ⟨[98], [], false⟩)] (K10.out.then BA5.out) EL5.out (by simp) (by simp) (by simp [KcV.good, k1.1, k1.2]) ⟨rfl, fun i x c hx hc => by
  match i, hx, hc with
  | 0, hx, hc => cases hx; cases hc; exact HY5.out⟩ (by rw [show (List.map S.tr [(2, ⟨[98], [], false⟩)] : List S.Cg) = [⟨[2, 98], [], false⟩] from rfl, show (S.gr [⟨[1, 97], [], 0⟩] [⟨[2, 98], [], false⟩]).2 = 2 by kernel_rfl]; simp [S.used]) (by simp [S.used])).mono ?_
 clear k1
 rintro e w11 ⟨rfl, b2⟩
 have K11 := hide (K10.out.then (BA5.out.trans (b2.mono BA5.out.size)))
 clear b2 K10 BA5 EL5 HY5 KV5
 have cK : ∀ (W : World) (C : Array Value) (n c g : Nat), g = W.heap.size -> (convert 32 32 (.slice (some ⟨g, 0, none⟩) n c)).run Tryz.prog (W.alloc (.cells C 5)) = .ok (.slice (some ⟨g, 0, none⟩) n c) (W.alloc (.cells C 5 (C.size, C.size + 1))) := fun W C n c g hg => by rw [hg]; exact convK32 W C n c
 go_wp2_with fail
 obtain ⟨b6, s6⟩ := lit_new w11 [97] #[.int .u8 97] 1 rfl rfl (by simp) (1, 2)
 have z1 : (w11.alloc (.cells #[.int .u8 97] 5 (1, 2))).heap.size = w11.heap.size + 1 := by simp
 generalize hA : w11.alloc (.cells #[.int .u8 97] 5 (1, 2)) = W12 at b6 s6 z1 ⊢
 have hB0 : W12.heap.size = w11.heap.size + 1 := z1
 generalize hB : W12.alloc _ = W13
 have ra : W13.heap[w11.heap.size + 1]? = some (.cells (([⟨1, some ⟨w11.heap.size, 0, none⟩, 1, 1, none, 0, 0, true⟩] : List KcV).flatMap dD).toArray 67 (0, 0)) := by rw [<- hB, <- hB0]; exact heap_alloc_new _ _
 have ba : Below W12.heap.size W12 W13 := by rw [<- hB]; exact ba ..
 have hd := Aa w W13 o3 gk2 gt2 gs2 (2 + 2) 0 [⟨[1, 97], [], 0⟩] _ [⟨1, some ⟨w11.heap.size, 0, none⟩, 1, 1, none, 0, 0, true⟩] [(1, ⟨[97], [], true⟩)] ((K11.out.then b6).then ba) (kz ra (by simp)) (by simp) (by simp) (by simp [KcV.good]) ⟨rfl, fun i x c hx hc => by
  match i, hx, hc with
  | 0, hx, hc => cases hx; cases hc; exact ⟨rfl, s6.below ba (lr _), Or.inl ⟨rfl, rfl⟩, rfl⟩⟩ (by rw [show (List.map S.tr [(1, ⟨[97], [], true⟩)] : List S.Cg) = [⟨[1, 97], [], true⟩] from rfl, show (S.gr [⟨[1, 97], [], 0⟩] [⟨[1, 97], [], true⟩]).2 = -2 by kernel_rfl]; omega) (by simp) (by rw [show S.mrg [⟨[1, 97], [], 0⟩] (S.lasts (List.map S.tr [(1, ⟨[97], [], true⟩)])) = [] by kernel_rfl]; exact none_ok) (by omega)
 rw [show S.mrg [⟨[1, 97], [], 0⟩] (S.lasts (List.map S.tr [(1, ⟨[97], [], true⟩)])) = [] by kernel_rfl] at hd
 refine hd.mono ?_
 clear hd ra ba hA hB hB0 z1 b6 s6
 rintro e w14 ⟨rfl, o4, ho4, hkv, hch, hown⟩
 have K14 := hide hkv
 clear hkv ho4 hch hown K11
 go_wp2_with fail
 obtain ⟨b6, s6⟩ := lit_new w14 [97] #[.int .u8 97] 1 rfl rfl (by simp) (1, 2)
 generalize hA : w14.alloc _ = W15 at b6 s6 ⊢
 have K15 := hide (K14.out.then b6)
 obtain ⟨pg, hr, ht, hlf⟩ := K15.out.1.rds
 refine (sS _ gk2 gt2 gs2 0 pg _ 1 _ [97] W15 hr ht hlf K15.out.2.1 s6 (by simp)).mono ?_
 clear hr ht hlf hA b6 s6 cK K14
 rintro e w16 ⟨v, ok, rfl, ow, b7⟩
 obtain ⟨rfl, rfl⟩ := ow.no (by simp)
 have K16 := hide (K15.out.then b7)
 clear ow b7 K15
 go_wp2_with fail
 obtain ⟨pg, hr, ht, hlf⟩ := K16.out.1.rds
 refine (jk _ gk2 gs2 gt2 0 pg _ w16 hr hlf ht K16.out.2.1).mono ?_
 clear hr ht hlf
 rintro e w17 ⟨rfl, b8⟩
 rw [show S.used [] = 0 from rfl]
 have K17 := hide (K16.out.then b8)
 clear b8 K16
 go_wp2_with fail
 refine (vZ w17 K17.out.1.k (Nat.lt_of_lt_of_le HP.out K17.out.1.below.size)).mono ?_
 rintro e w18 ⟨rfl, b9⟩
 have BF := hide (K17.out.1.below.trans (b9.mono K17.out.1.below.size))
 clear b9 K17
 go_wp2_with fail
 go_ret
 exact ⟨rfl, BF.out⟩
end Go.Proofs.YteealihknndclaaGreatDoor
namespace Go.Proofs.YteealihknndclaaGreatDoor
namespace S
def recs (ns : List Nat) : List (List UInt8) := if ns = [] then [] else [setL ns]
theorem yK {ns : List Nat} (h : ns ≠ []) : recs ns = [setL ns] := if_neg h
structure Pgs (ss : List (List UInt8)) (p t : Nat) (ns : List Nat) (pg : Nat -> List UInt8) : Prop where
 len : 7680 <= ss.length
 mark : ss.getD 0 [] = gy
 log : Good ss 1 4 p t (recs ns)
 spare : ∀ i, i < ns.length -> ik ss (4101 + i * 8) = pg (ns.getD i 0)
 home : ∀ m, m < 512 -> m ∉ ns -> ik ss (5 + m * 8) = pg m
 nb : ∀ n ∈ ns, n < 512
 up : ns.Pairwise (· < ·)
 le : ns.length <= 256
 size : ∀ n, n < 512 -> (pg n).length = 1024
end S
end Go.Proofs.YteealihknndclaaGreatDoor
namespace Go.Proofs.YteealihknndclaaGreatDoor
open Go.RowKit

structure Pw (w0 w : World) (o : Ow) (d : S.Dk) (p t : Nat) (ns : List Nat) (pg : Nat -> List UInt8) : Prop where
 dk : Dsk w o d
 pend : d.pend = []
 has : S.Pgs d.safe p t ns pg
 ob : ∀ k, o.has k -> w0.heap.size <= k
 below : Below w0.heap.size w0 w
 pos : 1 < w0.heap.size
theorem Pw.then {w0 w W : World} {o : Ow} {d : S.Dk} {p t : Nat} {ns : List Nat} {pg : Nat -> List UInt8} (h : Pw w0 w o d p t ns pg) (hb : Below w.heap.size w W) : Pw w0 W o d p t ns pg :=
 ⟨h.dk.below hb, h.pend, h.has, h.ob, h.below.trans (hb.mono h.below.size), h.pos⟩
theorem Pw.n {w0 w : World} {o : Ow} {d : S.Dk} {p t : Nat} {pg : Nat -> List UInt8} (h : Pw w0 w o d p t [] pg) : Pn w0 w o d p t pg := ⟨h.dk, h.pend, h.has.len, h.has.mark, h.has.log, fun n hn => h.has.home n hn (by simp), h.ob, h.below, h.pos⟩
theorem Pw.m {w0 w : World} {o : Ow} {d : S.Dk} {p t : Nat} {ns : List Nat} {pg : Nat -> List UInt8} (h : Pw w0 w o d p t ns pg) (hne : ns ≠ []) : Pm w0 w o d p t ns (ns.map pg) pg :=
 ⟨h.dk, h.pend, h.has.len, h.has.mark, by have := h.has.log; rw [S.yK hne] at this; exact this, fun i hi => by rw [S.map_getD pg ns i hi]; exact h.has.spare i hi, h.has.home, h.ob, h.below, h.pos, h.has.nb, h.has.up, hne, h.has.le⟩
theorem S.map_at (X : Nat -> List UInt8) (ns : List Nat) (n : Nat) (h : n ∈ ns) : (ns.map X).getD (ns.idxOf n) [] = X n := by
 have hi := List.idxOf_lt_length_of_mem h
 rw [S.map_getD X ns _ hi, List.getD_eq_getElem?_getD, List.getElem?_eq_getElem hi, Option.getD_some, List.getElem_idxOf hi]
theorem pread_all (w0 w : World) (o : Ow) (d : S.Dk) (p t gs n : Nat) (ns : List Nat) (pg : Nat -> List UInt8) (h : Pw w0 w o d p t ns pg) (hs : kE w gs o) (hn : n < 512) :
  Calls Tryz.prog 140 #[.pointer (some ⟨gs, 0, none⟩), .int .i64 (n : Int)] w fun e w' => ∃ gp, e = .returned (.tuple #[.slice (some ⟨gp, 0, none⟩) 1024 1024, .int .i64 0]) /\ w.heap.size <= gp /\ Room w' gp 1024 (pg n) /\ Pw w0 w' o d p t ns pg /\ kE w' gs o /\ Below w.heap.size w w' := by
 by_cases e : ns = []
 ·subst e
  refine (pread_n w0 w o d p t gs n pg h.n hs hn).mono ?_
  rintro e w' ⟨gp, rfl, h1, h2, _, h4, h5⟩
  exact ⟨gp, rfl, h1, h2, h.then h5, h4, h5⟩
 ·refine (zP w0 w o d p t gs n ns (ns.map pg) pg (h.m e) hs hn).mono ?_
  rintro e w' ⟨gp, rfl, h1, h2, _, h4, h5⟩
  refine ⟨gp, rfl, h1, ?_, h.then h5, h4, h5⟩
  by_cases hin : n ∈ ns
  ·rw [if_pos hin, S.map_at pg ns n hin] at h2
   exact h2
  ·rw [if_neg hin] at h2
   exact h2
namespace S
end S
end Go.Proofs.YteealihknndclaaGreatDoor
