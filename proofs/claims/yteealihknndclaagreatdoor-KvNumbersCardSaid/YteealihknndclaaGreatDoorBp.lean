/- What was seen of a tree; a leaf is looked through. -/
import Derived.Test.YteealihknndclaaGreatDoorBm
import Derived.Test.YteealihknndclaaGreatDoorUd
import Derived.Great.BuildSlice
import Derived.Test.YteealihknndclaaGreatDoorJa
import Derived.Shelf.SlSortCmp.WholeK
import Derived.Shelf.SlicesG.Cmp
import Derived.Shelf.Lay
import Derived.Ground.SlsfProg
import Derived.Ground.SlgcProg
import Derived.Test.YteealihknndclaaGreatDoorProg
namespace Go.Proofs.YteealihknndclaaGreatDoor
open Go.RowKit

namespace S
def ckc (gs : Nat) (s : List UInt8) (n : Nat) : List Value := .pointer (some ⟨gs, 0, none⟩) :: (v8l s ++ [.int .i64 (n : Int)])
end S
def iy (w : World) (gc gs : Nat) (s : List UInt8) (n : Nat) : Prop := w.heap[gc]? = some (.cells (S.ckc gs s n).toArray 112 (0, 0))
theorem iy.store {w : World} {gc gs n : Nat} {s : List UInt8} (h : iy w gc gs s n) : w.cell? ⟨gc, 0, none⟩ = some (.pointer (some ⟨gs, 0, none⟩)) := by rw [cell_of_row w gc 0 _ _ _ h]; rfl
theorem iy.byte {w : World} {gc gs n : Nat} {s : List UInt8} (h : iy w gc gs s n) (j : Nat) (hj : j < s.length) : w.cell? ⟨gc, 1 + j, none⟩ = some (.int .u8 ((s.getD j 0).toNat : Int)) := by
 rw [cell_of_row w gc _ _ _ _ h, Nat.add_comm 1 j]
 simp [S.ckc, S.v8l, List.getElem?_append_left, hj]
theorem iy.cnt {w : World} {gc gs n : Nat} {s : List UInt8} (h : iy w gc gs s n) (hs : s.length = 64) : w.cell? ⟨gc, 65, none⟩ = some (.int .i64 (n : Int)) := by
 rw [cell_of_row w gc _ _ _ _ h]
 simp [S.ckc, S.ai, hs]
theorem iy.setByte {w : World} {gc gs n : Nat} {s : List UInt8} (h : iy w gc gs s n) (j : Nat) (hj : j < s.length) (x : UInt8) : iy (w.setCell ⟨gc, 1 + j, none⟩ (.int .u8 (x.toNat : Int))) gc gs (s.set j x) n := by
 unfold iy
 rw [heap_setCell_same w gc (1 + j) _ _ _ h]
 congr 2
 apply Array.ext'
 simp [S.ckc, S.v8l, List.map_set, Nat.add_comm 1 j, hj]
theorem iy.setCnt {w : World} {gc gs n : Nat} {s : List UInt8} (h : iy w gc gs s n) (hs : s.length = 64) (m : Nat) : iy (w.setCell ⟨gc, 65, none⟩ (.int .i64 (m : Int))) gc gs s m := by
 unfold iy
 rw [heap_setCell_same w gc 65 _ _ _ h]
 congr 2
 apply Array.ext'
 simp [S.ckc, S.ai, hs]
theorem iy.range {w : World} {gc gs n : Nat} {s : List UInt8} (h : iy w gc gs s n) : w.rangeAt gc 1 (S.v8l s) := fun j v hv => by
 rw [cell_of_row w gc _ _ _ _ h, Nat.add_comm]
 have hj := (List.getElem?_eq_some_iff.1 hv).1
 simp only [S.ckc, List.getElem?_toArray, List.getElem?_cons_succ]
 rw [List.getElem?_append_left hj]
 exact hv
theorem tH (gc gs c n : Nat) (s : List UInt8) (w : World) (h : iy w gc gs s c) (hs : s.length = 64) (hn : n < 512) :
  Calls Tryz.prog 48 #[.pointer (some ⟨gc, 1, none⟩), .int .i64 (n : Int)] w fun e w' => e = .returned (.tuple #[]) /\ iy w' gc gs (S.orBit s n) c /\ Chg (fun k => k = gc) w w' := by
 have hj : n / 8 < s.length := by omega
 refine (add_any gc 1 n (s.getD (n / 8) 0) w (h.byte _ hj) (frozen_of_row _ _ _ _ _ h) hn).mono ?_
 rintro e w' ⟨rfl, q, rfl⟩
 exact ⟨rfl, h.setByte (n / 8) hj _, ((Chg.refl (fun k => k = gc) w).setCell gc _ _ (fun _ => rfl)).drewN q⟩
set_option maxHeartbeats 4000000 in
set_option maxRecDepth 10000 in
theorem zl (B gc gs c : Nat) (s : List UInt8) (pg : Nat -> List UInt8) (es : List S.Ent) (w : World) (hr : Rds B w gs pg) (hk : iy w gc gs s c) (hs : s.length = 64) (_hB : B <= gc) (hl : S.rO pg es) (hc : c <= 1000000) :
  Calls Tryz.prog 49 #[.pointer (some ⟨gc, 0, none⟩), .int .i64 1, .int .i64 0, .slice none 0 0, .slice none 0 0] w fun e w' => e = .returned (.tuple #[.int .i64 (es.length : Int), .int .i64 (S.essz es : Int), .int .i64 0]) /\ iy w' gc gs (S.orBit s 1) (c + es.length) /\ Chg (fun k => k = gc) w w' := by
 have H := hide hr
 have HK := hide hk
 have HL := hide hl
 have HS := hide hs
 have c0 := hk.store
 obtain ⟨n, hn⟩ : ∃ n, n = es.length := ⟨_, rfl⟩
 obtain ⟨sz, hsz⟩ : ∃ sz, sz = S.essz es := ⟨_, rfl⟩
 rw [<- hn, <- hsz]
 have HN := hide hn
 have HSZ := hide hsz
 have hlen : n <= 254 := by rw [hn]; exact hl.ok.len
 clear hr hk hl hs hn hsz
 go_enter Tryz.func49, Tryz.ntmps49
 go_wp2_with fail
 refine (mP B gs 1 0 pg es w H.out (by omega) HL.out.node HL.out.ok).mono ?_
 rintro e w1 ⟨gn, rfl, n1, b1⟩
 have N1 := hide n1
 have B1 := hide b1
 have ND := hide (n1.node HL.out.ok.ent (by have := HL.out.ok.len; omega))
 have GN : Hid (gc < gn) := Nat.lt_of_lt_of_le (ae HK.out) n1.at_
 have K1 : Hid (iy w1 gc gs s c) := (b1.block gc (ae HK.out)).trans HK.out
 clear n1 b1 c0 HK
 go_wp2_with fail
 refine (wh gn es w1 ND.out HL.out.ok).mono ?_
 rintro e w2 ⟨rfl, b2⟩
 have N2 := hide (N1.out.below b2)
 have B2 := hide (B1.out.trans (b2.mono B1.out.size))
 have K2 : Hid (iy w2 gc gs s c) := (b2.block gc (ae K1.out)).trans K1.out
 clear b2 N1 B1 K1 ND
 go_wp2_with fail
 refine (tH gc gs c 1 s w2 K2.out HS.out (by omega)).mono ?_
 rintro e w3 ⟨rfl, k3, c3⟩
 have K3 := hide k3
 have C3 : Hid (Chg (fun k => k = gc) w w3) := (Chg.ofBelow' (p := fun k => k = gc) B2.out).trans c3 (fun _ _ e => e)
 have N3 : Hid (iw w.heap.size w3 gn 0 es) := by
  obtain ⟨⟨v, d, h1, h2, h3, h4⟩, h5⟩ := N2.out
  exact ⟨⟨v, d, c3.row h1 (by have := GN.out; omega), h2.chg c3 (fun k hk e => h2.apart K2.out (by decide) (by rw [<- e]; exact hk)), h3, fun i x e hx he => ⟨(h4 i x e hx he).1.chg c3 (fun k c hk e => ne_of_type hk K2.out (by decide) e), (h4 i x e hx he).2⟩⟩, h5⟩
 clear k3 c3 N2 B2 K2
 obtain ⟨v, d, h1, h2, h3, h4⟩ := N3.out.is
 obtain ⟨ao, cap, hv⟩ := h2.form
 subst hv
 obtain ⟨g0, g1⟩ := cells2 h1
 rw [h3, <- HN.out] at g1
 have R1 := hide h1
 have k1 := K3.out.cnt (by rw [S.orBit_length]; exact HS.out)
 have f1 := frozen_of_row _ _ 65 _ _ K3.out
 clear h1 h2 h3 h4
 go_wp2_with fail
 go_region
 have K4 := hide (K3.out.setCnt (by rw [S.orBit_length]; exact HS.out) (c + n))
 have ew : (c : Int) + (n : Int) = ((c + n : Nat) : Int) := by omega
 rw [ew]
 obtain ⟨w4, hw4⟩ : ∃ w4, w4 = (w3.setCell ⟨gc, 65, none⟩ (.int .i64 ((c + n : Nat) : Int))).drew := ⟨_, rfl⟩
 rw [<- hw4]
 have c4 : Chg (fun k => k = gc) w3 w4 := by rw [hw4]; exact ((Chg.refl (fun k => k = gc) w3).setCell gc _ _ (fun _ => rfl)).drew
 have K5 : Hid (iy w4 gc gs (S.orBit s 1) (c + n)) := by rw [hw4]; exact K4.out
 have C4 : Hid (Chg (fun k => k = gc) w w4) := C3.out.trans c4 (fun _ _ e => e)
 have N4 : Hid (iw w.heap.size w4 gn 0 es) := by
  obtain ⟨⟨v, d, h1, h2, h3, h4⟩, h5⟩ := N3.out
  exact ⟨⟨v, d, c4.row h1 (by have := GN.out; omega), h2.chg c4 (fun k hk e => h2.apart K3.out (by decide) (by rw [<- e]; exact hk)), h3, fun i x e hx he => ⟨(h4 i x e hx he).1.chg c4 (fun k c hk e => ne_of_type hk K3.out (by decide) e), (h4 i x e hx he).2⟩⟩, h5⟩
 have g4 := (cells2 (c4.row R1.out (by have := GN.out; omega))).2
 have hln : d.length = n := by
  have e1 := (cells2 R1.out).2
  rw [g1] at e1
  injection e1 with e1
  injection e1 with _ e1 _
  exact e1.symm
 rw [hln] at g4
 have NS := hide (fun W (hb : Below w4.heap.size w4 W) => zS gn 0 es W ((N4.out.below hb).node HL.out.ok.ent (by have := HL.out.ok.len; omega)) HL.out.ok.ent (by have := HL.out.ok.size; omega) (by have := HL.out.ok.len; omega))
 rw [<- HSZ.out] at NS
 have GL : gn < w4.heap.size := by obtain ⟨v, d, h1, _⟩ := N4.out.is; exact ae h1
 clear K4 ew hw4 c4 K3 C3 N3 g0 g1 k1 f1 hln R1
 go_wp2_with fail
 refine wp_region_noPanic ?_
 refine wp_region_held_drew (S := (fun W => W.cell? ⟨gn, 1, none⟩ = some (.slice ao n cap))) follows g4 (fun hHeld => ?_)
 have BD : Hid (Below w4.heap.size w4 w4.drew) := (Below.refl _ _).drew
 clear g4
 generalize w4.drew = Z1 at BD hHeld ⊢
 refine tq 0 ?_
 simp only [uA]
 refine tq 1 ?_
 simp only [uA]
 refine tq 2 ?_
 simp only [uA]
 refine tk 3 ?_ rfl (Or.inl ⟨by rfl, ?_⟩) ?_
 rotate_left
 ·intro w hSw
  have c4 := hSw
  clear hSw
  go_simp
  all_goals with_reducible rfl
 simp only [uA]
 refine tq 4 ?_
 simp only [uA]
 refine tq 5 ?_
 simp only [uA]
 refine r1 6 fun K hK => ?_
 go_simp
 refine (NS.out Z1 BD.out).mono ?_
 rintro e Z2 ⟨rfl, b2⟩
 have a2 := (b2.cell (p := ⟨gn, 1, none⟩) (Nat.lt_of_lt_of_le GL BD.out.size)).trans hHeld
 have B2 := hide (BD.out.trans (b2.mono BD.out.size))
 clear hHeld
 refine hK.out _ _ a2 (fun hHeld => ?_)
 clear hK K
 try simp only [uA]
 clear a2 b2 BD
 refine tq 7 ?_
 simp only [uA]
 refine tq 8 ?_
 simp only [uA]
 refine tq 9 ?_
 simp only [uA]
 refine wpAnyH_done (by kernel_rfl) ?_ _
 refine NoPanic.normal ?_
 clear hHeld
 go_wp2_with fail
 go_ret3
 exact ⟨rfl, (B2.out.block gc (ae K5.out)).trans K5.out, C4.out.trans (Chg.ofBelow' (p := fun k => k = gc) B2.out) (fun _ _ e => e)⟩
set_option maxHeartbeats 4000000 in
set_option maxRecDepth 10000 in
theorem pX (o : Ow) (d : S.Dk) (w : World) (hd : bB w o d) (hl : 7680 <= d.safe.length) (hp : d.pend = []) (hz : ∀ j, 5 <= j -> j < 4101 -> d.seen.getD j [] = S.zeros 128) :
  Calls Tryz.prog 102 #[o.ptr] w fun e w' => e = .returned (.int .i64 0) /\ bB w' o d /\ Below w.heap.size w w' := by
 have hmk : ∀ w : World, (Instr.makeSlice 32 (.int .i64 128) (.int .i64 128)).run Tryz.prog w = .ok (.slice (some ⟨w.heap.size, 0, none⟩) 128 128) (w.alloc (.cells (S.v8 (S.zeros 128)) 5)) := fun w => dw 128 (by omega) w
 obtain ⟨w1, hw1⟩ : ∃ w1, w1 = w.alloc (.cells (S.v8 (S.zeros 128)) 5) := ⟨_, rfl⟩
 have b1 : Below w.heap.size w w1 := by rw [hw1]; exact ba ..
 have R1 : Hid (w1.heap[w.heap.size]? = some (.cells (S.v8 (S.zeros 128)) 5 (0, 0))) := by rw [hw1]; exact heap_alloc_new _ _
 have B1 := hide b1
 have D1 := hide (hd.below b1)
 have HL : Hid (7680 <= d.safe.length) := hl
 have HP := hide hp
 have HZ := hide hz
 obtain ⟨gz, hgz⟩ : ∃ gz, gz = w.heap.size := ⟨_, rfl⟩
 rw [<- hgz] at R1
 clear b1 hd hl hp hz
 go_enter Tryz.func102, Tryz.ntmps102
 go_upto_region 3 with fail
 rw [<- hw1, <- hgz]
 clear hw1 hgz hmk
 go_loopw [4] (fun i wr => ∃ k : Nat, 5 <= k /\ k <= 4101 /\ i = .int .i64 (k : Int) /\ bB wr o d /\ wr.heap[gz]? = some (.cells (S.v8 (S.zeros 128)) 5 (0, 0)) /\ Below w.heap.size w wr) (fun i _ => 4101 - (intOf i).toNat)
 case atStart => exact ⟨5, by omega, by omega, rfl, D1.out, R1.out, B1.out⟩
 case round =>
 obtain ⟨k, hk5, hk, rfl, hdk, hr, hb⟩ := hrel
 have DD := hide hdk
 have RR := hide hr
 have BB := hide hb
 clear hdk hr hb D1 R1 B1
 by_cases hlt : k < 4101
 ·have q1 : (k : Int) < 4101 := by omega
  have q2 : IntKind.i64.wrap ((k : Int) + 1) = (k : Int) + 1 := by rw [IntKind.wrap_i64]; omega
  go_wp2_with fail
  refine (kQ o d k wr DD.out (by have := HL.out; omega)).mono ?_
  rintro e w2 ⟨rfl, hr2, b2⟩
  rw [HZ.out k hk5 hlt] at hr2
  have S2 : Hid (SliceAt w2 (.slice (some ⟨wr.heap.size, 0, none⟩) 128 128) (S.zeros 128)) := aG hr2 (S.zeros_length _).symm (by rw [S.zeros_length]; omega)
  have R2 : Hid (w2.heap[gz]? = some (.cells (S.v8 (S.zeros 128)) 5 (0, 0))) := (b2.block gz (ae RR.out)).trans RR.out
  have T2 : Hid (SliceAt w2 (.slice (some ⟨gz, 0, none⟩) 128 128) (S.zeros 128)) := aG R2.out (S.zeros_length _).symm (by rw [S.zeros_length]; omega)
  have D2 := hide (DD.out.below b2)
  have B2 := hide (BB.out.trans (b2.mono BB.out.size))
  clear hr2 b2 DD RR BB
  go_wp2_with fail
  refine (jU _ _ _ _ w2 S2.out T2.out).mono ?_
  rintro e w3 ⟨rfl, rfl⟩
  rw [decide_eq_true rfl]
  go_wp2_with fail
  go_roundw
  case rel => exact ⟨k + 1, by omega, by omega, by go_num, D2.out, R2.out, B2.out⟩
  case measure => simp [intOf]; omega
 ·obtain rfl : k = 4101 := by omega
  go_wp2_with fail
  refine (oV o d wr DD.out HP.out).mono ?_
  rintro e w2 ⟨rfl, rfl⟩
  go_wp2_with fail
  go_ret
  exact ⟨rfl, DD.out, BB.out⟩
namespace S
def kW (n : Nat) : Dk := { safe := (formed (List.replicate n (zeros 128)) 1 4).set 0 gy, pend := [], left := none }
theorem Cr (n : Nat) : (Dk.new n).seen = List.replicate n (zeros 128) := rfl
theorem mY (n k : Nat) (h : k < n) : (List.replicate n (zeros 128)).getD k [] = zeros 128 := by
 rw [List.getD_eq_getElem?_getD, List.getElem?_replicate, if_pos h]
 rfl
theorem wV {ss : List (List UInt8)} {f i : Nat} (h : ∀ j, f <= j -> j < f + i -> ss.getD j [] = zeros 128) : secs ss f i = zeros (i * 128) := by
 induction i with
 | zero => rfl
 | succ i ih =>
  rw [secs, ih (fun j h1 h2 => h j h1 (by omega)), h (f + i) (by omega) (by omega)]
  unfold zeros
  rw [List.replicate_append_replicate]
  congr 1
  omega
theorem xC (n : Nat) (h : 7680 <= n) : (kW n).safe.length = n /\ (kW n).safe.getD 0 [] = gy /\ Good (kW n).safe 1 4 0 0 [] /\ ∀ k, k < 512 -> ik (kW n).safe (5 + k * 8) = zeros 1024 := by
 have hf := oF (ss := List.replicate n (zeros 128)) (f := 1) (c := 4) (by simp; omega) (by omega)
 have hl : (formed (List.replicate n (zeros 128)) 1 4).length = n := by rw [hf.1]; simp
 have hg : Good (formed (List.replicate n (zeros 128)) 1 4) 1 4 0 0 [] := wo (by simp; omega) (by omega) (by omega) (fun k h1 h2 => mY n (1 + k) (by omega))
 have hs : ∀ j, j ≠ 0 -> (kW n).safe.getD j [] = (formed (List.replicate n (zeros 128)) 1 4).getD j [] := fun j hj => by
  show ((formed (List.replicate n (zeros 128)) 1 4).set 0 gy).getD j [] = _
  rw [List.getD_eq_getElem?_getD, List.getElem?_set_ne (by omega), <- List.getD_eq_getElem?_getD]
 refine ⟨by show ((formed (List.replicate n (zeros 128)) 1 4).set 0 gy).length = n; rw [List.length_set, hl], ?_, hg.stay (by show ((formed (List.replicate n (zeros 128)) 1 4).set 0 gy).length = _; rw [List.length_set]) (fun j h1 h2 => hs j (by omega)), fun k hk => ?_⟩
 ·show ((formed (List.replicate n (zeros 128)) 1 4).set 0 gy).getD 0 [] = gy
  rw [List.getD_eq_getElem?_getD, List.getElem?_set_self (by omega)]
  rfl
 ·unfold ik
  rw [wV (fun j h1 h2 => by rw [hs j (by omega), hf.2.2.2 j (by omega) (by omega)]; exact mY n j (by omega))]
end S
theorem qC {w : World} {g : Nat} {xs : List UInt8} {fr : Nat × Nat} (h : w.heap[g]? = some (.cells (S.v8 xs) 5 fr)) (hl : xs.length <= 140737488355328) : SliceAt w (.slice (some ⟨g, 0, none⟩) xs.length xs.length) xs :=
 Or.inr (Or.inr ⟨g, 0, xs.length, rfl, lr _, hl, ae h, fun j hj => by
  rw [Nat.zero_add, cell_of_row w g j _ 5 fr h]
  simp [S.v8, hj]⟩)
set_option maxHeartbeats 8000000 in
set_option maxRecDepth 20000 in
theorem pformat_new (w0 w : World) (o : Ow) (n : Nat) (hn : 7680 <= n) (hd : Dsk w o (S.Dk.new n)) (ho : ∀ k, o.has k -> w0.heap.size <= k) (hb : Below w0.heap.size w0 w) (h0 : 1 < w0.heap.size) :
  Calls Tryz.prog 65 #[o.ptr] w fun e w' => e = .returned (.int .i64 0) /\ ∃ o', o'.g = o.g /\ Pg w0 w' o' (S.kW n) 0 0 (fun _ => S.zeros 1024) := by
 have HD := hide hd
 have HO := hide ho
 have HB := hide hb
 have HL : Hid ((S.Dk.new n).safe.length = n) := by show (List.replicate n (S.zeros 128)).length = n; simp
 clear hd ho hb
 have hmk : ∀ w : World, (Instr.makeSlice 32 (.int .i64 128) (.int .i64 128)).run Tryz.prog w = .ok (.slice (some ⟨w.heap.size, 0, none⟩) 128 128) (w.alloc (.cells (S.v8 (S.zeros 128)) 5)) := fun w => dw 128 (by omega) w
 go_enter Tryz.func65, Tryz.ntmps65
 go_wp2_with fail
 refine (wy o (S.Dk.new n) w HD.out.dk (by rw [HL.out]; exact hn)).mono ?_
 rintro e w1 ⟨rfl, rfl⟩
 obtain ⟨w1, hw1⟩ : ∃ w1, w1 = w.alloc (.cells (S.v8 (S.zeros 128)) 5) := ⟨_, rfl⟩
 have b1 : Below w.heap.size w w1 := by rw [hw1]; exact ba ..
 have r1 : w1.heap[w.heap.size]? = some (.cells (S.v8 (S.zeros 128)) 5 (0, 0)) := by rw [hw1]; exact heap_alloc_new _ _
 have D1 := hide (HD.out.below b1)
 have B1 : Hid (Below w0.heap.size w0 w1) := HB.out.trans (b1.mono HB.out.size)
 have SV1 : Hid (∀ W, Chg (fun k => k = o.g) w1 W -> SliceAt W (.slice (some ⟨w.heap.size, 0, none⟩) 128 128) (S.zeros 128)) := fun W hW => aG (hW.row r1 (fun e => by have := HD.out.dk.lt o.g (Or.inl rfl); omega)) (S.zeros_length _).symm (by rw [S.zeros_length]; omega)
 obtain ⟨gz, hgz⟩ : ∃ gz, gz = w.heap.size := ⟨_, rfl⟩
 rw [<- hgz] at SV1
 clear b1 r1
 go_wp2_with fail
 rw [<- hw1, <- hgz]
 clear hw1 hgz hmk
 refine (vM o (S.Dk.new n) 0 (some ⟨gz, 0, none⟩) 128 (S.zeros 128) w1 D1.out.dk (by rw [HL.out]; omega) (S.zeros_length _) (by show 0 <= 999999; omega) SV1.out).mono ?_
 intro e w2 hdo
 obtain ⟨h1, o2, h2, h3⟩ := hdo
 have pg1 := S.Dk.plan_goes [.write 0 (S.zeros 128), .flush] (S.Dk.new n) rfl
 have pa1 : (S.Dk.new n).acts [.write 0 (S.zeros 128), .flush] = S.Dk.new n := by
  show ({ safe := (List.replicate n (S.zeros 128)).set 0 (S.zeros 128), pend := [], left := none } : S.Dk) = { safe := List.replicate n (S.zeros 128), pend := [], left := none }
  rw [List.set_replicate_self]
 rw [pg1.2, pa1] at h2
 rw [pg1.1] at h1
 subst h1
 have D2 := hide (D1.out.to h2 h3)
 have B2 : Hid (Below w0.heap.size w0 w2) := B1.out.trans (h3.chg.below _ B1.out.size (fun k hk e => by have := HO.out k e; omega))
 have O2 : Hid (∀ k, o2.has k -> w0.heap.size <= k) := fun k e => by
  rcases h3.own k e with e | e
  ·exact HO.out k e
  ·exact ltr B1.out.size e
 have PT2 : Hid (o2.g = o.g) := h3.g
 have hp2 : o2.ptr = o.ptr := by unfold Ow.ptr; rw [h3.g]
 rw [<- hp2]
 clear h2 h3 pg1 pa1 D1 B1 SV1 HD HO HB hp2
 have E0 : S.why true = 0 := rfl
 rw [E0]
 go_wp2_with fail
 refine (pX o2 (S.Dk.new n) w2 D2.out.dk (by rw [HL.out]; exact hn) rfl (fun j h1 h2 => S.mY n j (by omega))).mono ?_
 rintro e w3 ⟨rfl, hd3, b3⟩
 have D3 := hide (D2.out.below b3)
 have B3 : Hid (Below w0.heap.size w0 w3) := B2.out.trans (b3.mono B2.out.size)
 clear hd3 b3 D2 B2
 go_wp2_with fail
 refine (xK o2 (S.Dk.new n) 1 4 w3 D3.out (by rw [HL.out]; omega) (by omega) (Nat.zero_le _) (fun k h1 h2 => S.mY n (1 + k) (by omega))).mono ?_
 intro e w4 hdo
 obtain ⟨h1, o4, h2, h3⟩ := hdo
 have pg1 := S.Dk.plan_goes (S.iL 1 4) (S.Dk.new n) rfl
 obtain ⟨d4, hd4⟩ : ∃ d4 : S.Dk, d4 = { safe := S.formed (List.replicate n (S.zeros 128)) 1 4, pend := [], left := none } := ⟨_, rfl⟩
 have pa1 : (S.Dk.new n).acts (S.iL 1 4) = d4 := by rw [S.CS, S.Cr, hd4]; rfl
 rw [pg1.2, pa1] at h2
 rw [pg1.1] at h1
 subst h1
 have D4 := hide (D3.out.to h2 h3)
 have B4 : Hid (Below w0.heap.size w0 w4) := B3.out.trans (h3.chg.below _ B3.out.size (fun k hk e => by have := O2.out k e; omega))
 have O4 : Hid (∀ k, o4.has k -> w0.heap.size <= k) := fun k e => by
  rcases h3.own k e with e | e
  ·exact O2.out k e
  ·exact ltr B3.out.size e
 have PT4 : Hid (o4.g = o.g) := h3.g.trans PT2.out
 have HD4 := hide hd4
 have L4 : Hid (d4.safe.length = n) := by rw [hd4]; show (S.formed (List.replicate n (S.zeros 128)) 1 4).length = n; rw [(S.oF (f := 1) (c := 4) (by simp; omega) (by omega)).1]; simp
 have hp4 : o4.ptr = o2.ptr := by unfold Ow.ptr; rw [h3.g]
 rw [<- hp4]
 clear h2 h3 pg1 pa1 D3 B3 O2 PT2 hp4 hd4
 rw [E0]
 obtain ⟨C, hC⟩ : ∃ C, C = ((S.gy.map fun x => (x.toNat : Int)).map (Value.int .u8)).toArray := ⟨_, rfl⟩
 have ev : C = S.v8 S.gy := by rw [hC, List.map_map]; rfl
 obtain ⟨w5a, hw5a⟩ : ∃ w5a, w5a = w4.alloc (.cells C 5) := ⟨_, rfl⟩
 obtain ⟨w5, hw5⟩ : ∃ w5, w5 = w4.alloc (.cells C 5 (C.size, C.size + 1)) := ⟨_, rfl⟩
 have hcv := Lib.run_convert_bytes_const (P := Tryz.prog) w4 32 5 C 128 128 Tryz.underlying32 Tryz.underlying5
 rw [<- hw5a, <- hw5] at hcv
 have b5 : Below w4.heap.size w4 w5 := by rw [hw5]; exact ba ..
 have r5 : w5.heap[w4.heap.size]? = some (.cells (S.v8 S.gy) 5 (C.size, C.size + 1)) := by rw [hw5, <- ev]; exact heap_alloc_new _ _
 have D5 := hide (D4.out.below b5)
 have B5 : Hid (Below w0.heap.size w0 w5) := B4.out.trans (b5.mono B4.out.size)
 have SV5 : Hid (∀ W, Chg (fun k => k = o4.g) w5 W -> SliceAt W (.slice (some ⟨w4.heap.size, 0, none⟩) 128 128) S.gy) := fun W hW => by
  have := qC (hW.row r5 (fun e => by have := D4.out.dk.lt o4.g (Or.inl rfl); omega)) (by rw [S.eZ]; omega)
  rw [S.eZ] at this
  exact this
 have HW5 := hide hw5a
 have HC := hide hC
 clear b5 r5 ev hw5 hw5a hC
 go_wp2_with (with_reducible refine aD ⟨some 26, .buildSlice 32 128 ([(0, .const (Value.int IntKind.u8 112)), (1, .const (Value.int IntKind.u8 97)), (2, .const (Value.int IntKind.u8 103)), (3, .const (Value.int IntKind.u8 101)), (4, .const (Value.int IntKind.u8 115)), (5, .const (Value.int IntKind.u8 32)), (6, .const (Value.int IntKind.u8 116)), (7, .const (Value.int IntKind.u8 104)), (8, .const (Value.int IntKind.u8 97)), (9, .const (Value.int IntKind.u8 116)), (10, .const (Value.int IntKind.u8 32)), (11, .const (Value.int IntKind.u8 97)), (12, .const (Value.int IntKind.u8 114)), (13, .const (Value.int IntKind.u8 101)), (14, .const (Value.int IntKind.u8 32)), (15, .const (Value.int IntKind.u8 112)), (16, .const (Value.int IntKind.u8 117)), (17, .const (Value.int IntKind.u8 116)), (18, .const (Value.int IntKind.u8 32)), (19, .const (Value.int IntKind.u8 116)), (20, .const (Value.int IntKind.u8 111)), (21, .const (Value.int IntKind.u8 103)), (22, .const (Value.int IntKind.u8 101)), (23, .const (Value.int IntKind.u8 116)), (24, .const (Value.int IntKind.u8 104)), (25, .const (Value.int IntKind.u8 101)), (26, .const (Value.int IntKind.u8 114)), (27, .const (Value.int IntKind.u8 32)), (28, .const (Value.int IntKind.u8 46)), (29, .const (Value.int IntKind.u8 46)), (30, .const (Value.int IntKind.u8 46)), (31, .const (Value.int IntKind.u8 32)), (32, .const (Value.int IntKind.u8 112)), (33, .const (Value.int IntKind.u8 97)), (34, .const (Value.int IntKind.u8 103)), (35, .const (Value.int IntKind.u8 101)), (36, .const (Value.int IntKind.u8 115)), (37, .const (Value.int IntKind.u8 32)), (38, .const (Value.int IntKind.u8 116)), (39, .const (Value.int IntKind.u8 104)), (40, .const (Value.int IntKind.u8 97)), (41, .const (Value.int IntKind.u8 116)), (42, .const (Value.int IntKind.u8 32)), (43, .const (Value.int IntKind.u8 97)), (44, .const (Value.int IntKind.u8 114)), (45, .const (Value.int IntKind.u8 101)), (46, .const (Value.int IntKind.u8 32)), (47, .const (Value.int IntKind.u8 112)), (48, .const (Value.int IntKind.u8 117)), (49, .const (Value.int IntKind.u8 116)), (50, .const (Value.int IntKind.u8 32)), (51, .const (Value.int IntKind.u8 116)), (52, .const (Value.int IntKind.u8 111)), (53, .const (Value.int IntKind.u8 103)), (54, .const (Value.int IntKind.u8 101)), (55, .const (Value.int IntKind.u8 116)), (56, .const (Value.int IntKind.u8 104)), (57, .const (Value.int IntKind.u8 101)), (58, .const (Value.int IntKind.u8 114)), (59, .const (Value.int IntKind.u8 32)), (60, .const (Value.int IntKind.u8 46)), (61, .const (Value.int IntKind.u8 46)), (62, .const (Value.int IntKind.u8 46)), (63, .const (Value.int IntKind.u8 32))].append [(64, .const (Value.int IntKind.u8 112)), (65, .const (Value.int IntKind.u8 97)), (66, .const (Value.int IntKind.u8 103)), (67, .const (Value.int IntKind.u8 101)), (68, .const (Value.int IntKind.u8 115)), (69, .const (Value.int IntKind.u8 32)), (70, .const (Value.int IntKind.u8 116)), (71, .const (Value.int IntKind.u8 104)), (72, .const (Value.int IntKind.u8 97)), (73, .const (Value.int IntKind.u8 116)), (74, .const (Value.int IntKind.u8 32)), (75, .const (Value.int IntKind.u8 97)), (76, .const (Value.int IntKind.u8 114)), (77, .const (Value.int IntKind.u8 101)), (78, .const (Value.int IntKind.u8 32)), (79, .const (Value.int IntKind.u8 112)), (80, .const (Value.int IntKind.u8 117)), (81, .const (Value.int IntKind.u8 116)), (82, .const (Value.int IntKind.u8 32)), (83, .const (Value.int IntKind.u8 116)), (84, .const (Value.int IntKind.u8 111)), (85, .const (Value.int IntKind.u8 103)), (86, .const (Value.int IntKind.u8 101)), (87, .const (Value.int IntKind.u8 116)), (88, .const (Value.int IntKind.u8 104)), (89, .const (Value.int IntKind.u8 101)), (90, .const (Value.int IntKind.u8 114)), (91, .const (Value.int IntKind.u8 32)), (92, .const (Value.int IntKind.u8 46)), (93, .const (Value.int IntKind.u8 46)), (94, .const (Value.int IntKind.u8 46)), (95, .const (Value.int IntKind.u8 32)), (96, .const (Value.int IntKind.u8 112)), (97, .const (Value.int IntKind.u8 97)), (98, .const (Value.int IntKind.u8 103)), (99, .const (Value.int IntKind.u8 101)), (100, .const (Value.int IntKind.u8 115)), (101, .const (Value.int IntKind.u8 32)), (102, .const (Value.int IntKind.u8 116)), (103, .const (Value.int IntKind.u8 104)), (104, .const (Value.int IntKind.u8 97)), (105, .const (Value.int IntKind.u8 116)), (106, .const (Value.int IntKind.u8 32)), (107, .const (Value.int IntKind.u8 97)), (108, .const (Value.int IntKind.u8 114)), (109, .const (Value.int IntKind.u8 101)), (110, .const (Value.int IntKind.u8 32)), (111, .const (Value.int IntKind.u8 112)), (112, .const (Value.int IntKind.u8 117)), (113, .const (Value.int IntKind.u8 116)), (114, .const (Value.int IntKind.u8 32)), (115, .const (Value.int IntKind.u8 116)), (116, .const (Value.int IntKind.u8 111)), (117, .const (Value.int IntKind.u8 103)), (118, .const (Value.int IntKind.u8 101)), (119, .const (Value.int IntKind.u8 116)), (120, .const (Value.int IntKind.u8 104)), (121, .const (Value.int IntKind.u8 101)), (122, .const (Value.int IntKind.u8 114)), (123, .const (Value.int IntKind.u8 32)), (124, .const (Value.int IntKind.u8 46)), (125, .const (Value.int IntKind.u8 46)), (126, .const (Value.int IntKind.u8 46)), (127, .const (Value.int IntKind.u8 32))]).toArray, 32, "pages.go:33", #[], none⟩ ?_; refine wpList_buildFlat rfl 32 5 128 _ rfl .u8 (S.gy.map fun x => (x.toNat : Int)) Tryz.underlying32 (by kernel_rfl) (by kernel_rfl) (by kernel_rfl) (by omega) (by omega) (by kernel_rfl) ?_; rw [<- HC.out, <- HW5.out])
 clear hcv
 refine (vM o4 d4 0 (some ⟨w4.heap.size, 0, none⟩) 128 S.gy w5 D5.out.dk (by rw [L4.out]; omega) S.eZ (by rw [HD4.out]; show 0 <= 999999; omega) SV5.out).mono ?_
 intro e w6 hdo
 obtain ⟨h1, o6, h2, h3⟩ := hdo
 have pg1 := S.Dk.plan_goes [.write 0 S.gy, .flush] d4 (by rw [HD4.out])
 have pa1 : d4.acts [.write 0 S.gy, .flush] = S.kW n := by rw [HD4.out]; rfl
 rw [pg1.2, pa1] at h2
 rw [pg1.1] at h1
 subst h1
 have mf := S.xC n hn
 have PF : Hid (Pg w0 w6 o6 (S.kW n) 0 0 (fun _ => S.zeros 1024)) := ⟨D5.out.to h2 h3, rfl, rfl, by rw [mf.1]; exact hn, mf.2.1, mf.2.2.1, mf.2.2.2, (fun k e => by
  rcases h3.own k e with e | e
  ·exact O4.out k e
  ·exact ltr B5.out.size e), B5.out.trans (h3.chg.below _ B5.out.size (fun k hk e => by have := O4.out k e; omega)), h0⟩
 have PT6 : Hid (o6.g = o.g) := h3.g.trans PT4.out
 clear h2 h3 pg1 pa1 mf
 rw [E0]
 go_wp2_with fail
 go_ret
 exact ⟨rfl, o6, PT6.out, PF.out⟩
end Go.Proofs.YteealihknndclaaGreatDoor
namespace Go.Proofs.YteealihknndclaaGreatDoor
open Go.RowKit

theorem equal57 (xs ys : List UInt8) (hx : xs.length = 64) (hy : ys.length = 64) (w : World) : (Op.equalIn 10000 149 (.agg (S.v8 xs)) (.agg (S.v8 ys))).run Tryz.prog w = .ok (xs == ys) w :=
 run_equalIn_bytes (P := Tryz.prog) w 9998 149 5 64 Tryz.underlying149 Tryz.underlying5 (fun _ => by kernel_rfl) xs ys hx hy
theorem build57 (w : World) : (Instr.build 149 #[]).run Tryz.prog w = .ok (.agg (S.v8 (S.zeros 64))) w := run_build w 149 _ _ (by kernel_rfl)
theorem ql {w : World} {ops : Array Oper} {rest : List Oper} {o : Oper} {a : Act} {Q : Exit -> Act -> World -> Prop} (hgd : o.guard = none) (x y : Operand) (ho : o.op = .binOp .eql 149 x y 149) (xs ys : List UInt8) (C D : Array Value) (hC : C = S.v8 xs) (hD : D = S.v8 ys) (hx : a.eval x = .agg C) (hy : a.eval y = .agg D) (hxl : xs.length = 64) (hyl : ys.length = 64) (b : Bool) (hb : (xs == ys) = b)
  (h : wpList Tryz.prog ops Q rest (a.put o.dst (.bool b)) w) : wpList Tryz.prog ops Q (o :: rest) a w := by
 subst hC hD hb
 have hm : Tryz.prog.eqGuardType Tryz.prog.depth 149 = false := by kernel_rfl
 have hr := equal57 xs ys hxl hyl w
 refine wpList_step fun _ hK => ?_
 rw [if_pos (by simp [Region.wanted, hgd])]
 unfold Oper.wp execOp
 simp only [ho, hx, hy, Sem.run_bind, run_eqGuard_agg w _ _ _ _ _ _ hm, run_eql_struct, hr, Result.andThen_ok]
 exact hK _ _ h
set_option maxHeartbeats 4000000 in
set_option maxRecDepth 10000 in
theorem Dz (dv lv : Value) (w : World) :
  Calls Tryz.prog 86 #[dv, lv, .agg (S.v8 (S.zeros 64))] w fun e w' => e = .returned (.int .i64 0) /\ Below w.heap.size w w' := by
 obtain ⟨Z, hZ⟩ : ∃ Z, Z = S.v8 (S.zeros 64) := ⟨_, rfl⟩
 obtain ⟨w1, hw1⟩ : ∃ w1, w1 = w.alloc (.cells Z 149) := ⟨_, rfl⟩
 have b1 : Below w.heap.size w w1 := by rw [hw1]; exact ba ..
 have r1 : w1.heap[w.heap.size]? = some (.cells (S.v8 (S.zeros 64)) 149 (0, 0)) := by rw [hw1, hZ]; exact heap_alloc_new _ _
 have ld := kX r1 (S.zeros_length _)
 have hbd := build57 w1
 rw [<- hZ] at ld hbd ⊢
 have HZ := hide hZ
 have B1 := hide b1
 have HW := hide hw1
 clear b1 r1 hZ hw1
 go_enter Tryz.func86, Tryz.ntmps86
 go_wp2_with (first | (rw [<- HW.out]; with_reducible refine aD ⟨some 11, .load 149 (.tmp 5), 149, "place.go:97", #[], none⟩ ?_; refine aC rfl 149 (.tmp 5) rfl (.pointer (some ⟨w.heap.size, 0, none⟩)) rfl (.agg Z) ld ?_) | (with_reducible refine aD ⟨some 12, .build 149 #[], 149, "place.go:97", #[], none⟩ ?_; refine aW rfl 149 [] rfl [] rfl (.agg Z) hbd ?_) | (with_reducible refine aD ⟨some 13, .binOp BinOp.eql 149 (.tmp 11) (.tmp 12) 149, 4, "place.go:97", #[{ on := 0, ground := Ground.data }, { on := 1, ground := Ground.data }], none⟩ ?_; refine ql rfl (.tmp 11) (.tmp 12) rfl (S.zeros 64) (S.zeros 64) Z Z HZ.out HZ.out rfl rfl (S.zeros_length _) (S.zeros_length _) true (beq_self_eq_true _) ?_))
 go_ret
 exact ⟨rfl, B1.out⟩
theorem C9 (xs ys : List UInt8) (hx : xs.length = 64) (hy : ys.length = 64) (w : World) : (Op.equalIn 10000 103 (.agg (S.v8 xs)) (.agg (S.v8 ys))).run Tryz.prog w = .ok (xs == ys) w :=
 run_equalIn_bytes (P := Tryz.prog) w 9998 103 5 64 Tryz.underlying103 Tryz.underlying5 (fun _ => by kernel_rfl) xs ys hx hy
theorem nL {ops : Array Oper} {S' : World -> Prop} {op : Oper} {a : Act} (hw : Region.wanted op (yielded ops a.tmps) = true) (x y : Operand) (ho : op.op = .binOp .neq 103 x y 103) (xs ys : List UInt8) (C D : Array Value) (hC : C = S.v8 xs) (hD : D = S.v8 ys) (hx : a.eval x = .agg C) (hy : a.eval y = .agg D) (hxl : xs.length = 64) (hyl : ys.length = 64) (b : Bool) (hb : (!(xs == ys)) = b) : YieldsIf Tryz.prog ops S' op (.bool b) a :=
 .inl ⟨hw, fun w _ => by
  subst hC hD hb
  have hm : Tryz.prog.eqGuardType Tryz.prog.depth 103 = false := by kernel_rfl
  have hr := C9 xs ys hxl hyl w
  unfold execOp
  simp only [ho, hx, hy, Sem.run_bind, run_eqGuard_agg w _ _ _ _ _ _ hm, run_neq_struct, hr, Result.andThen_ok, Sem.run_pure]⟩
theorem yZ : (Tryz.prog.info? 112).map (fun i => (i.size, i.bytes)) = some (66, 80) := by kernel_rfl
theorem yz : (Tryz.prog.info? 112).bind (·.zero) = some (.agg (.pointer none :: (S.v8l (S.zeros 64) ++ [.int .i64 0])).toArray) := by kernel_rfl
set_option maxRecDepth 100000 in
theorem Dr (parts : List (Nat × Value)) : Tryz.prog.built 112 parts = Instr.fill ((#[(0, 1), (1, 64), (65, 1)] : Array (Nat × Nat))[·]?) (.pointer none :: (S.v8l (S.zeros 64) ++ [.int .i64 0])).toArray parts := by
 obtain ⟨i, hi, hz, _, _⟩ := dW yZ yz
 unfold Program.built
 rw [hi, Tryz.underlying112]
 simp only [hz]
 rfl
theorem Dx (gs : Nat) (w : World) : (Instr.build 112 #[(0, .pointer (some ⟨gs, 0, none⟩))]).run Tryz.prog w = .ok (.agg (S.ckc gs (S.zeros 64) 0).toArray) w :=
 run_build w 112 _ _ (by
  rw [Dr]
  unfold Instr.fill
  simp only [show (#[(0, 1), (1, 64), (65, 1)] : Array (Nat × Nat))[0]? = some (0, 1) from rfl]
  rw [if_neg (by simp [Value.cells])]
  unfold Instr.fill
  rfl)
theorem BR : S.orBit (S.orBit (S.zeros 64) 0) 1 = S.u01 := by decide
set_option maxHeartbeats 4000000 in
set_option maxRecDepth 10000 in
theorem check_0 (B gt gs : Nat) (pg : Nat -> List UInt8) (es : List S.Ent) (w : World) (hr : Rds B w gs pg) (ht : lD w gt gs) (hl : S.rO pg es) :
  Calls Tryz.prog 18 #[.pointer (some ⟨gt, 0, none⟩)] w fun e w' => e = .returned (.int .i64 0) /\ Below w.heap.size w w' := by
 have H := hide hr
 have HL := hide hl
 have HT := hide ht
 have c0 := p9 ht
 clear hr hl ht
 obtain ⟨n, hn⟩ : ∃ n, n = es.length := ⟨_, rfl⟩
 have HN := hide hn
 have hlen : n <= 254 := by rw [hn]; exact HL.out.ok.len
 clear hn
 go_enter Tryz.func18, Tryz.ntmps18
 go_wp2_with fail
 refine (qI B gs pg es w H.out HL.out).mono ?_
 rintro e w1 ⟨rfl, b1⟩
 have hal := alloc105 w1
 obtain ⟨w2, hst, a2, b2⟩ := made105 w1 (S.lhd es.length) rfl
 have B2 := hide (b1.trans (b2.mono b1.size))
 have H2 := hide ((H.out.below b1).below b2)
 have T2 : lD w2 gt gs := (B2.out.block gt (ae HT.out)).trans HT.out
 have A2 := hide a2
 obtain ⟨gh, hgh⟩ : ∃ gh, gh = w1.heap.size := ⟨_, rfl⟩
 rw [<- hgh] at hal hst A2
 obtain ⟨HC0, jq⟩ : ∃ X, X = (S.hhc S.Hh.none).toArray := ⟨_, rfl⟩
 rw [<- jq] at hal hst
 obtain ⟨HV, hHV⟩ : ∃ X, X = hhv (S.lhd es.length) := ⟨_, rfl⟩
 rw [<- hHV] at hst ⊢
 have c2 := p9 T2
 have hbd := Dx gs w2
 obtain ⟨CK, hCK⟩ : ∃ X, X = (S.ckc gs (S.zeros 64) 0).toArray := ⟨_, rfl⟩
 rw [<- hCK] at hbd
 have HCK := hide hCK
 clear b1 b2 a2 hgh jq hHV H T2 hCK
 go_wp2_with (first | (with_reducible refine aD ⟨some 3, .alloc 105, 0, "check.go:12", #[], none⟩ ?_; refine aA rfl 105 rfl (.pointer (some ⟨gh, 0, none⟩)) (w1.alloc (.cells HC0 105)) hal ?_) | (with_reducible refine aD ⟨none, .store 105 (.tmp 3) (.tmp 14), 0, "check.go:12", #[{ on := 8, ground := Ground.data }, { on := 6, ground := Ground.data }, { on := 4, ground := Ground.chain }, { on := 0, ground := Ground.phase }, { on := 1, ground := Ground.phase }, { on := 2, ground := Ground.phase }, { on := 3, ground := Ground.phase }, { on := 4, ground := Ground.phase }, { on := 5, ground := Ground.phase }, { on := 6, ground := Ground.phase }, { on := 7, ground := Ground.textOnly Departure.lateStores }, { on := 8, ground := Ground.phase }], none⟩ ?_; refine aB rfl 105 (.tmp 3) (.tmp 14) rfl (.pointer (some ⟨gh, 0, none⟩)) HV rfl rfl w2 hst ?_) | (with_reducible refine aD ⟨some 23, .build 112 #[(0, .tmp 22)], 112, "check.go:16", #[{ on := 3, ground := Ground.data }], none⟩ ?_; refine aW rfl 112 [(0, .tmp 22)] rfl [(0, .pointer (some ⟨gs, 0, none⟩))] rfl (.agg CK) hbd ?_))
 clear hal hst c2 hbd c0
 obtain ⟨w3, hw3⟩ : ∃ w3, w3 = w2.alloc (.cells CK 112) := ⟨_, rfl⟩
 rw [<- hw3]
 have b3 : Below w2.heap.size w2 w3 := by rw [hw3]; exact ba ..
 have k3 : iy w3 w2.heap.size gs (S.zeros 64) 0 := by unfold iy; rw [hw3, HCK.out]; exact heap_alloc_new _ _
 have A3 := hide (A2.out.below b3)
 have H3 := hide (H2.out.below b3)
 have B3 := hide (B2.out.trans (b3.mono B2.out.size))
 have HB : Hid (B <= w2.heap.size) := H2.out.base
 have GH : Hid (gh < w2.heap.size) := ae A2.out
 have WC : Hid (w.heap.size <= w2.heap.size) := B2.out.size
 obtain ⟨gc, hgc⟩ : ∃ gc, gc = w2.heap.size := ⟨_, rfl⟩
 rw [<- hgc] at k3 HB GH WC ⊢
 have K3 := hide k3
 clear hw3 b3 k3 hgc A2 H2 B2 HCK
 refine (tH gc gs 0 0 (S.zeros 64) w3 K3.out (S.zeros_length _) (by omega)).mono ?_
 rintro e w4 ⟨rfl, k4, c4⟩
 have K4 := hide k4
 have H4 := hide (H3.out.chg c4 (fun k hk e => by have := HB.out; omega))
 have A4 : Hid (HhAt w4 gh (S.lhd es.length)) := c4.row A3.out (by have := GH.out; omega)
 have B4 : Hid (Below w.heap.size w w4) := B3.out.trans (c4.base B3.out.size WC.out)
 have r4 : w4.cell? ⟨gh, 1, none⟩ = some (.int .i64 1) := A4.out.root
 have l4 : w4.cell? ⟨gh, 2, none⟩ = some (.int .i64 0) := A4.out.lv
 clear k4 c4 K3 H3 A3 B3
 go_wp2_with fail
 clear r4 l4
 refine (zl B gc gs 0 (S.orBit (S.zeros 64) 0) pg es w4 H4.out K4.out (by rw [S.orBit_length]; exact S.zeros_length _) HB.out HL.out (by omega)).mono ?_
 rw [BR, Nat.zero_add]
 rintro e w5 ⟨rfl, k5, c5⟩
 have K5 := hide k5
 have A5 : Hid (HhAt w5 gh (S.lhd es.length)) := c5.row A4.out (by have := GH.out; omega)
 have B5 : Hid (Below w.heap.size w w5) := B4.out.trans (c5.base B4.out.size WC.out)
 rw [<- HN.out] at K5 A5 ⊢
 have l5 : w5.cell? ⟨gh, 2, none⟩ = some (.int .i64 0) := A5.out.lv
 generalize S.essz es = sz
 clear k5 c5 K4 H4 A4 B4
 go_wp2_with fail
 refine wp_region_noPanic ?_
 refine wp_region_held_drew (S := (fun W => iy W gc gs S.u01 n /\ HhAt W gh (S.lhd n))) follows ⟨K5.out, A5.out⟩ (fun hHeld => ?_)
 have B6 : Hid (Below w.heap.size w w5.drew) := B5.out.drew
 have K6 : Hid (iy w5.drew gc gs S.u01 n) := K5.out
 have A6 : Hid (HhAt w5.drew gh (S.lhd n)) := A5.out
 obtain ⟨V, hV⟩ : ∃ V, V = (S.v8l S.u01).toArray := ⟨_, rfl⟩
 have HVV : Hid (V = S.v8 S.u01) := by rw [hV]; rfl
 clear K5 A5 B5 l5
 generalize w5.drew = Z1 at B6 K6 A6 hHeld ⊢
 refine tq 0 ?_
 simp only [uA]
 refine tq 1 ?_
 simp only [uA]
 refine tq 2 ?_
 simp only [uA]
 refine wpAnyH_take (i := 3) (oi := ⟨_, _, _, _, _, _⟩) (v := .agg V) rfl (by kernel_rfl) (by kernel_rfl) (by kernel_rfl) (fun _ _ _ h => h) (by rw [hV]; exact yieldsIf_load_mid (by kernel_rfl) 103 (.tmp 53) rfl gc 1 rfl (S.v8l S.u01) _ (fun W hW => iy.range hW.1) Tryz.underlying103 rfl (by rw [size103, S.ai]; rfl)) (by assumption) ?_
 simp only [uA]
 refine tq 4 ?_
 simp only [uA]
 refine wpAnyH_take (i := 5) (oi := ⟨_, _, _, _, _, _⟩) (v := .agg V) rfl (by kernel_rfl) (by kernel_rfl) (by kernel_rfl) (fun _ _ _ h => h) (by rw [hV]; exact yieldsIf_load_mid (by kernel_rfl) 103 (.tmp 55) rfl gh 3 rfl (S.v8l S.u01) _ (fun W hW => HhAt.range hW.2) Tryz.underlying103 rfl (by rw [size103, S.ai]; rfl)) (by assumption) ?_
 simp only [uA]
 refine wpAnyH_take (i := 6) (oi := ⟨_, _, _, _, _, _⟩) (v := .bool false) rfl (by kernel_rfl) (by kernel_rfl) (by kernel_rfl) (fun _ _ _ h => h) (nL (by kernel_rfl) (.tmp 54) (.tmp 56) rfl S.u01 S.u01 V V HVV.out HVV.out rfl rfl rfl rfl false (by simp)) (by assumption) ?_
 simp only [uA]
 refine tq 7 ?_
 simp only [uA]
 refine wpAnyH_done (by kernel_rfl) ?_ _
 refine NoPanic.normal ?_
 clear hHeld
 go_wp2_with fail
 have kc := K6.out.cnt rfl
 have hc : Z1.cell? ⟨gh, 0, none⟩ = some (.int .i64 (n : Int)) := A6.out.cnt
 go_region
 have B7 : Hid (Below w.heap.size w Z1.drew) := B6.out.drew
 clear kc hc K6 A6 B6
 go_wp2_with fail
 go_ret
 exact ⟨rfl, B7.out⟩
theorem sZ (gh n : Nat) (h : S.Hh) (w : World) (a : HhAt w gh h) (hs : h.used.length = 64) (hn : n < 512) :
  Calls Tryz.prog 48 #[.pointer (some ⟨gh, 3, none⟩), .int .i64 (n : Int)] w fun e w' => e = .returned (.tuple #[]) /\ HhAt w' gh { h with used := S.orBit h.used n } /\ Chg (fun k => k = gh) w w' := by
 have hj : n / 8 < h.used.length := by omega
 refine (add_any gh 3 n (h.used.getD (n / 8) 0) w (a.byte _ hj) (frozen_of_row _ _ _ _ _ a) hn).mono ?_
 rintro e w' ⟨rfl, q, rfl⟩
 exact ⟨rfl, a.setByte (n / 8) _, ((Chg.refl (fun k => k = gh) w).setCell gh _ _ (fun _ => rfl)).drewN q⟩
set_option maxHeartbeats 2000000 in
set_option maxRecDepth 10000 in
theorem firstHead_any (w : World) : Calls Tryz.prog 66 #[] w fun e w' => e = .returned (hhv (S.lhd 0)) /\ Below w.heap.size w w' := by
 have hal := alloc105 w
 obtain ⟨w1, hw1⟩ : ∃ w1, w1 = w.alloc (.cells (S.hhc S.Hh.none).toArray 105) := ⟨_, rfl⟩
 have b1 : Below w.heap.size w w1 := by rw [hw1]; exact ba ..
 have a1 : HhAt w1 w.heap.size S.Hh.none := by unfold HhAt; rw [hw1]; exact heap_alloc_new _ _
 have hbd := build105r 1 w1
 have jo := alloc105 w1
 obtain ⟨w2, hst, a2, b2⟩ := made105 w1 ⟨0, 1, 0, S.zeros 64⟩ (S.zeros_length _)
 rw [<- hw1] at hal
 have B2 := hide (b1.trans (b2.mono b1.size))
 have A1 : Hid (HhAt w2 w.heap.size S.Hh.none) := a1.below b2
 have A2 := hide a2
 have GL : Hid (w.heap.size < w1.heap.size) := ae a1
 obtain ⟨gr, hgr⟩ : ∃ gr, gr = w.heap.size := ⟨_, rfl⟩
 obtain ⟨gh, hgh⟩ : ∃ gh, gh = w1.heap.size := ⟨_, rfl⟩
 rw [<- hgr] at hal A1 GL
 rw [<- hgh] at jo hst A2 GL
 have HGR := hide hgr
 obtain ⟨HC0, jq⟩ : ∃ X, X = (S.hhc S.Hh.none).toArray := ⟨_, rfl⟩
 rw [<- jq] at jo hst
 obtain ⟨HV, hHV⟩ : ∃ X, X = hhv ⟨0, 1, 0, S.zeros 64⟩ := ⟨_, rfl⟩
 rw [<- hHV] at hst hbd
 clear hw1 b1 a1 a2 b2 hgr hgh jq hHV
 have hbd : (Instr.build 105 #[(1, .int .i64 1)]).run Tryz.prog w1 = .ok HV w1 := hbd
 go_enter Tryz.func66, Tryz.ntmps66
 go_wp2_with (first | (with_reducible refine aD ⟨some 0, .alloc 105, 0, "head.go:25", #[], none⟩ ?_; refine aA rfl 105 rfl (.pointer (some ⟨gr, 0, none⟩)) w1 hal ?_) | (with_reducible refine aD ⟨some 2, .build 105 #[(1, .const (Value.int IntKind.i64 1))], 105, "head.go:26", #[], none⟩ ?_; refine aW rfl 105 [(1, .const (.int .i64 1))] rfl [(1, .int .i64 1)] rfl HV hbd ?_) | (with_reducible refine aD ⟨some 1, .alloc 105, 0, "head.go:26", #[], none⟩ ?_; refine aA rfl 105 rfl (.pointer (some ⟨gh, 0, none⟩)) (w1.alloc (.cells HC0 105)) jo ?_) | (with_reducible refine aD ⟨none, .store 105 (.tmp 1) (.tmp 2), 0, "head.go:26", #[{ on := 1, ground := Ground.data }, { on := 0, ground := Ground.data }, { on := 0, ground := Ground.phase }, { on := 1, ground := Ground.phase }], none⟩ ?_; refine aB rfl 105 (.tmp 1) (.tmp 2) rfl (.pointer (some ⟨gh, 0, none⟩)) HV rfl rfl w2 hst ?_))
 clear hal jo hbd hst
 refine (sZ gh 0 ⟨0, 1, 0, S.zeros 64⟩ w2 A2.out (S.zeros_length _) (by omega)).mono ?_
 rintro e w3 ⟨rfl, a3, c3⟩
 have A3 := hide a3
 have B3 : Hid (Below w.heap.size w w3) := B2.out.trans (c3.base B2.out.size (by have := GL.out; have := HGR.out; omega))
 have A13 : Hid (HhAt w3 gr S.Hh.none) := c3.row A1.out (by have := GL.out; omega)
 have c1 : w3.cell? ⟨gh, 1, none⟩ = some (.int .i64 1) := a3.root
 clear a3 c3 A1 A2 B2
 go_wp2_with fail
 clear c1
 refine (sZ gh 1 ⟨0, 1, 0, S.orBit (S.zeros 64) 0⟩ w3 A3.out (by rw [S.orBit_length]; exact S.zeros_length _) (by omega)).mono ?_
 rintro e w4 ⟨rfl, a4, c4⟩
 have A4 : Hid (HhAt w4 gh (S.lhd 0)) := by
  show HhAt w4 gh ⟨0, 1, 0, S.u01⟩
  rw [<- BR]
  exact a4
 have B4 : Below w.heap.size w w4 := B3.out.trans (c4.base B3.out.size (by have := GL.out; have := HGR.out; omega))
 have a14 : HhAt w4 gr S.Hh.none := c4.row A13.out (by have := GL.out; omega)
 have hld := A4.out.load rfl
 obtain ⟨w5, hst, a5, c5⟩ := store105 (h := S.lhd 0) a14 (S.zeros_length _) rfl
 have A5 := hide a5
 have B5 : Hid (Below w.heap.size w w5) := B4.trans (c5.base B4.size (by have := HGR.out; omega))
 obtain ⟨HV2, rZ⟩ : ∃ X, X = hhv (S.lhd 0) := ⟨_, rfl⟩
 rw [<- rZ] at hld hst
 clear a4 c4 a14 a5 c5 B4 A3 B3 A13 A4 rZ
 go_wp2_with (first | (with_reducible refine aD ⟨some 9, .load 105 (.tmp 1), 105, "head.go:29", #[], none⟩ ?_; refine aC rfl 105 (.tmp 1) rfl (.pointer (some ⟨gh, 0, none⟩)) rfl HV2 hld ?_) | (with_reducible refine aD ⟨none, .store 105 (.tmp 0) (.tmp 9), 0, "head.go:29", #[{ on := 0, ground := Ground.data }, { on := 0, ground := Ground.phase }], none⟩ ?_; refine aB rfl 105 (.tmp 0) (.tmp 9) rfl (.pointer (some ⟨gr, 0, none⟩)) HV2 rfl rfl w5 hst ?_))
 exact bodyPost_ret (fK Tryz.results66 _ _ gr _ rfl (A5.out.loadVar rfl)) rfl ⟨rfl, B5.out⟩
theorem CB : (Tryz.prog.info? 144).map (fun i => (i.zero, i.size, i.bytes)) = some (some (.agg #[.int .i64 0, .slice none 0 0]), 2, 32) := by kernel_rfl
theorem AO (a : Addr) (n cap : Nat) (W : World) : (binOp .eql 97 (.slice (some a) n cap) (.slice none 0 0)).run Tryz.prog W = .ok (.bool false) W :=
 by
  have h : ∀ d : Nat, (Op.equalIn (d + 1) 97 (.slice (some a) n cap) (.slice none 0 0)).run Tryz.prog W = .ok false W := fun d => by
   simp [Op.equalIn, run_underlying Tryz.underlying97]
  simp only [binOp]
  simp [Op.equal, Op.maxDepth, h 9999]
end Go.Proofs.YteealihknndclaaGreatDoor
namespace Go.Proofs.YteealihknndclaaGreatDoor
open Go.RowKit

theorem kN {w : World} {g : Nat} {x y : Value} (h : w.heap[g]? = some (.cells #[x, y] 144 (0, 0))) : w.cell? ⟨g, 0, none⟩ = some x /\ w.cell? ⟨g, 1, none⟩ = some y :=
 ⟨by rw [cell_of_row w g 0 _ 144 _ h]; rfl, by rw [cell_of_row w g 1 _ 144 _ h]; rfl⟩
end Go.Proofs.YteealihknndclaaGreatDoor
namespace Go.Proofs.YteealihknndclaaGreatDoor
open Go.RowKit

end Go.Proofs.YteealihknndclaaGreatDoor
namespace Go.Proofs
open Go.Shelf Go.RowKit Go.Lib Go.Sort
shelf_lay_g SlLaysF0.n6 Slsf 6 at Tryz 125 as Tryz.sortSheets
shelf_lay_g SlLaysC2.n5 Slgc 5 at Tryz 127 as Tryz.cmpInt
end Go.Proofs
namespace Go.Proofs.YteealihknndclaaGreatDoor
open Go.Shelf Go.RowKit Go.Lib Go.Sort

abbrev ShV := Int × Option Addr × Nat × Nat
def ShV.list (x : ShV) : Value := .slice x.2.1 x.2.2.1 x.2.2.2
def dx (x : ShV) : List Value := [.int .i64 x.1, x.list]
def wF (x y : ShV) : Int := Lib.compareInt x.1 y.1
theorem vT (x y : ShV) : ltOf wF x y = decide (x.1 < y.1) := by
 unfold ltOf wF Lib.compareInt
 by_cases h1 : x.1 < y.1
 ·simp [h1]
 ·by_cases h2 : y.1 < x.1 <;> simp [h1, h2]
theorem swoSh : SWO (ltOf wF) where
 irrefl x := by rw [vT]; simp
 trans x y z h1 h2 := by rw [vT] at *; simp at *; omega
 ntrans x y z h1 h2 := by rw [vT] at *; simp at *; omega

set_option maxHeartbeats 1000000 in
theorem yc (n m : Int) (v u : Value) (W : World) : Calls Tryz.prog 126 #[.agg #[.int .i64 n, v], .agg #[.int .i64 m, u]] W fun e w' => e = .returned (.int .i64 (Lib.compareInt n m)) /\ ∃ q os', w' = grow (W.drewN q) os' := by
 have hcon := fun W' => AnyG.cmp_Compare_int Tryz.cmpInt n m W'
 change ∀ W', Calls Tryz.prog 127 _ _ _ at hcon
 generalize Lib.compareInt n m = r at hcon ⊢
 go_enter Tryz.func126, Tryz.ntmps126
 go_wp2_with (go_at_call 127; refine (hcon _).mono ?_; rintro e w' ⟨rfl, rfl⟩)
 go_ret
 exact ⟨rfl, 0, _, by rw [alloc_eq_grow, alloc_eq_grow, grow_grow]; rfl⟩

theorem yU (w : World) : (isAgg 144).run Tryz.prog w = .ok true w := by kernel_rfl
theorem BL (w : World) : (Go.sizeOf 144).run Tryz.prog w = .ok 2 w := by kernel_rfl

theorem BI (blk off cap : Nat) (d : Array ShV) (w : World) (hH : HoldsK dx 2 w blk off d) (hblk : blk < w.heap.size) (hsz : d.size < 4611686018427387904) :
  Calls Tryz.prog 125 #[.slice (some ⟨blk, off, none⟩) d.size cap, .func (.func 126) #[] #[]] w fun e w' => e = .returned (.tuple #[]) /\ ∃ d' n os, PermIn 0 d.size d d' /\ SortedIn (ltOf wF) 0 d.size d' /\ w' = sortWorldK dx 2 w blk off n d' os := by
 have eg : ∀ args w, (callFunc 126 args).run Tryz.prog w = .ok (.enter 126 args) w := enters_of Tryz.func126 (by kernel_rfl) rfl
 exact AnyQ.slices_SortFunc Tryz.sortSheets 2 yU BL dx (fun _ => rfl) (fun x v hv => by simp [dx, ShV.list] at hv; rcases hv with rfl | rfl <;> rfl) wF swoSh 126 #[] blk off cap d w eg (fun _ _ _ _ x y => yc x.1 y.1 x.list y.list _) hH hblk hsz
end Go.Proofs.YteealihknndclaaGreatDoor
namespace Go.Proofs.YteealihknndclaaGreatDoor
open Go.RowKit

theorem jH (d : List ShV) : (d.flatMap dx).length = d.length * 2 := by
 induction d with
 | nil => rfl
 | cons x r ih => rw [List.flatMap_cons, List.length_append, ih]; simp [dx]; omega
theorem rz (d : List ShV) (i : Nat) (x : ShV) (h : d[i]? = some x) : (d.flatMap dx)[i * 2]? = some (.int .i64 x.1) /\ (d.flatMap dx)[i * 2 + 1]? = some x.list := by
 induction d generalizing i with
 | nil => simp at h
 | cons y r ih =>
  rw [List.flatMap_cons]
  match i, h with
  | 0, h => simp at h; subst h; exact ⟨rfl, rfl⟩
  | i + 1, h =>
   have := ih i (by simpa using h)
   have e : (i + 1) * 2 = i * 2 + 2 := by omega
   rw [e]
   exact this
theorem xM (d : List ShV) : ∀ v ∈ d.flatMap dx, v.oneCell' = true := by
 intro v hv
 rw [List.mem_flatMap] at hv
 obtain ⟨x, _, hv⟩ := hv
 simp [dx, ShV.list] at hv
 rcases hv with rfl | rfl <;> rfl
structure ShR (w : World) (g : Nat) (d : List ShV) : Prop where
 row : ∃ cur, w.heap[g]? = some (.cells cur 144 (0, 0)) /\ cur.toList.take (d.length * 2) = d.flatMap dx
theorem ShR.cells {w : World} {g : Nat} {d : List ShV} (h : ShR w g d) (i : Nat) (x : ShV) (hx : d[i]? = some x) : w.cell? ⟨g, i * 2, none⟩ = some (.int .i64 x.1) /\ w.cell? ⟨g, i * 2 + 1, none⟩ = some x.list := by
 obtain ⟨cur, h1, h2⟩ := h.row
 have hl : i < d.length := (List.getElem?_eq_some_iff.1 hx).1
 obtain ⟨e0, e1⟩ := rz d i x hx
 rw [<- h2, List.getElem?_take, if_pos (by omega)] at e0 e1
 exact ⟨by rw [cell_of_row w g _ _ 144 _ h1]; simpa using e0, by rw [cell_of_row w g _ _ 144 _ h1]; simpa using e1⟩
theorem ShR.lt {w : World} {g : Nat} {d : List ShV} (h : ShR w g d) : g < w.heap.size := by obtain ⟨cur, h1, _⟩ := h.row; exact ae h1
theorem ShR.below {w W : World} {g : Nat} {d : List ShV} (h : ShR w g d) (hb : Below w.heap.size w W) : ShR W g d := by
 obtain ⟨cur, h1, h2⟩ := h.row
 exact ⟨cur, (hb.block g (ae h1)).trans h1, h2⟩
set_option maxHeartbeats 4000000 in
set_option maxRecDepth 10000 in
theorem xk (b off cap : Nat) (d : List ShV) (w : World) (h0 : ∀ j u, (d.flatMap dx)[j]? = some u -> w.cell? ⟨b, off + j, none⟩ = some u) (hd : d ≠ []) (hl : d.length <= 100000) :
  Calls Tryz.prog 124 #[.slice (some ⟨b, off, none⟩) d.length cap] w fun e w' => ∃ g c, e = .returned (.slice (some ⟨g, 0, none⟩) d.length c) /\ w.heap.size <= g /\ ShR w' g d /\ Below w.heap.size w w' := by
 have hnil := AO ⟨b, off, none⟩ d.length cap
 obtain ⟨i, hi, hz0, hz1, hz2⟩ := info_parts CB
 obtain ⟨w1, hw1⟩ : ∃ w1, w1 = w.alloc (.cells #[] 144) := ⟨_, rfl⟩
 have b1 : Below w.heap.size w w1 := by rw [hw1]; exact ba ..
 have r1 : w1.heap[w.heap.size]? = some (.cells #[] 144 (0, 0)) := by rw [hw1]; exact heap_alloc_new _ _
 have hown : w1.ownsRow w.heap.size 144 2 (.slice (some ⟨w.heap.size, 0, none⟩) 0 0) 0 [] := ⟨rfl, Or.inr ⟨w.heap.size, 0, #[], rfl, lr _, r1, lr _, by simp [maxLen], rfl, rfl⟩⟩
 have hdl : 0 < d.length := List.length_pos_iff.2 hd
 have hb0 : b < w.heap.size := by
  obtain ⟨x, r, rfl⟩ := List.exists_cons_of_ne_nil hd
  exact World.block_lt_of_cell? w _ (h0 0 (.int .i64 x.1) rfl)
 have APP := hide (run_append_own (P := Tryz.prog) w1 w.heap.size 97 97 144 i (.agg #[.int .i64 0, .slice none 0 0]) 2 32 Tryz.underlying97 hi hz0 hz1 hz2 rfl (by omega) (.slice (some ⟨w.heap.size, 0, none⟩) 0 0) 0 [] hown ⟨b, off, none⟩ d.length cap (d.flatMap dx) (jH d) (fun j u hu => by
  rw [Addr.add_lit]
  exact (b1.cell (p := ⟨b, off + j, none⟩) hb0).trans (h0 j u hu)) (xM d) (by simp [maxLen]; omega) (by omega) b1.size)
 have HB := hide b1
 have HW := hide hw1
 have HD : Hid (0 < d.length) := hdl
 generalize hdn : d.length = dn at hnil APP HD ⊢
 have HN : Hid (d.length = dn) := hdn
 clear b1 r1 hw1 hown h0 hi hz0 hz1 hz2 hb0 hdn hl hd hdl
 clear i
 go_enter Tryz.func124, Tryz.ntmps124
 go_wp2_with (at_builtin; (rw [<- HW.out]; refine aU rfl (.tmp 5) (.tmp 6) 97 97 rfl _ _ rfl rfl (by obtain ⟨v', w', h1, h2⟩ := APP.out; exact ⟨v', w', h1, h2⟩) ?_; rintro v2 w2 ⟨ho, hg, hn⟩; have OW := hide ho; have GR := hide hg; clear ho hg hn))
 rcases OW.out.2 with ⟨e, e2⟩ | ⟨g, c, cur, e, hge, h1, h2, h3, h4, h5⟩
 ·exact absurd e2 (by have := HD.out; simp; omega)
 ·subst e
  have S2 : Hid (ShR w2 g d) := ⟨cur, h1, by rw [HN.out]; simpa using h5⟩
  have B2 : Hid (Below w.heap.size w w2) := HB.out.trans (((Chg.refl (fun k => w.heap.size <= k) w1).grown GR.out (fun k _ e => by simp only [Value.ownBlock, Option.some.injEq] at e; omega)).below _ HB.out.size (fun k hk e => by omega))
  have GE : Hid (w.heap.size <= g) := hge
  clear h1 h2 h3 h4 h5 hge OW GR HB HW APP hnil HD HN
  go_wp2_with fail
  go_ret
  exact ⟨g, c, by simp, GE.out, S2.out, B2.out⟩
open Go.Sort (flatK size_flatK get_flatK HoldsK)

theorem wu (d : List ShV) : (flatK dx 2 d.toArray).toList = d.flatMap dx := by
 apply List.ext_getElem?
 intro t
 by_cases ht : t < d.length * 2
 ·obtain ⟨i, r, hr, rfl⟩ : ∃ i r, r < 2 /\ t = i * 2 + r := ⟨t / 2, t % 2, by omega, by omega⟩
  have hi : i < d.length := by omega
  obtain ⟨e0, e1⟩ := rz d i d[i] (List.getElem?_eq_getElem hi)
  have hz : i * 2 + r < (flatK dx 2 d.toArray).size := by simpa using ht
  have e := get_flatK dx 2 d.toArray (i * 2 + r) (by simpa using ht)
  rw [show (i * 2 + r) / 2 = i by omega, show (i * 2 + r) % 2 = r by omega, getElem!_pos d.toArray i (by simpa using hi), List.getElem_toArray] at e
  have e3 : (flatK dx 2 d.toArray).toList[i * 2 + r]? = some ((dx d[i])[r]!) := by
   rw [Array.getElem?_toList, Array.getElem?_eq_getElem hz, <- getElem!_pos (flatK dx 2 d.toArray) (i * 2 + r) hz, e]
  rw [e3]
  match r, hr with
  | 0, _ => exact e0.symm
  | 1, _ => exact e1.symm
 ·rw [List.getElem?_eq_none (by simp; omega), List.getElem?_eq_none (by rw [jH]; omega)]

theorem zG (g c : Nat) (d : List ShV) (w : World) (h : ShR w g d) (hl : d.length <= 100000) :
  Calls Tryz.prog 125 #[.slice (some ⟨g, 0, none⟩) d.length c, .func (.func 126) #[] #[]] w fun e w' => e = .returned (.tuple #[]) /\ ∃ d' : List ShV, d'.Perm d /\ d'.Pairwise (fun x y => x.1 <= y.1) /\ ShR w' g d' /\ ∀ B, B <= g -> Below B w w' := by
 obtain ⟨cur, h1, h2⟩ := h.row
 have hgs := ae h1
 have hcs : d.length * 2 <= cur.size := by
  have := congrArg List.length h2
  rw [jH, List.length_take] at this
  have e : cur.toList.length = cur.size := Array.length_toList
  omega
 have hH : HoldsK dx 2 w g 0 d.toArray := by
  intro j hj
  have hj2 := hj
  rw [size_flatK, List.size_toArray] at hj
  refine ⟨?_, frozen_of_row w g _ cur 144 h1⟩
  rw [cell_of_row w g _ _ 144 _ h1, Nat.zero_add]
  have e : (cur.toList.take (d.length * 2))[j]? = (flatK dx 2 d.toArray).toList[j]? := by rw [h2, wu]
  rw [List.getElem?_take_of_lt hj, Array.getElem?_toList, Array.getElem?_toList] at e
  rw [e, Array.getElem?_eq_getElem hj2, getElem!_pos _ j hj2]
  rfl
 have hs := BI g 0 c d.toArray w hH hgs (by rw [List.size_toArray]; omega)
 rw [List.size_toArray] at hs
 refine hs.mono ?_
 rintro e w' ⟨rfl, d', n, os, ⟨hp1, _, hp2⟩, hso, rfl⟩
 have hp1 : d'.size = d.length := hp1
 have hp3 : d'.toList.length = d.length := hp1
 have hd' : d' = d'.toList.toArray := by simp
 refine ⟨rfl, d'.toList, ?_, ?_, ?_, ?_⟩
 ·rw [<- hp1] at hp2
  simp only [Array.extract_size] at hp2
  have e2 : d.toArray.extract 0 d'.size = d.toArray := by rw [hp1]; simp
  rw [e2] at hp2
  simpa using hp2
 ·rw [List.pairwise_iff_getElem]
  intro i j hi hj hij
  have hj' : j < d'.size := by simpa using hj
  have hi' : i < d'.size := by omega
  have := hso i j (Nat.zero_le _) hij (by omega)
  rw [vT, getElem!_pos d' j hj', getElem!_pos d' i hi', decide_eq_false_iff_not] at this
  simp only [Array.getElem_toList]
  omega
 ·refine ⟨Sort.putCells id 0 (flatK dx 2 d') cur, ?_, ?_⟩
  ·rw [show sortWorldK dx 2 w g 0 n d' os = Sort.grow (Sort.putRow id (Sort.ahead w n) g 0 (flatK dx 2 d')) os from rfl, Sort.heap_grow_old _ _ (by simpa using hgs)]
   simp [Sort.putRow, Sort.mapBlock, Sort.ahead, Array.getElem?_modify, h1, Sort.onCells]
  ·rw [<- wu, <- hd']
   apply List.ext_getElem?
   intro j
   have hz : (flatK dx 2 d').size = d.length * 2 := by rw [size_flatK, hp1]
   by_cases hj : j < d'.toList.length * 2
   ·have hj1 : j < d.length * 2 := by rw [hp3] at hj; exact hj
    rw [List.getElem?_take_of_lt hj, Array.getElem?_toList, Array.getElem?_toList]
    have hq : j < (flatK dx 2 d').size := by omega
    rw [Array.getElem?_eq_getElem hq]
    simp only [Sort.putCells, Array.getElem?_mapIdx, Array.getElem?_eq_getElem (show j < cur.size by omega), Option.map_some]
    rw [if_pos ⟨Nat.zero_le _, by omega⟩, Nat.sub_zero, getElem!_pos _ j hq]
    rfl
   ·rw [hp3] at hj
    have e : (flatK dx 2 d').toList.length = (flatK dx 2 d').size := Array.length_toList
    rw [List.getElem?_take_eq_none (by rw [hp3]; omega), List.getElem?_eq_none (by omega)]
 ·intro B hB
  refine ⟨rfl, rfl, rfl, by simp [sortWorldK, Sort.putRowK, Sort.ahead], fun k hk => ?_⟩
  rw [show sortWorldK dx 2 w g 0 n d' os = Sort.grow (Sort.putRow id (Sort.ahead w n) g 0 (flatK dx 2 d')) os from rfl]
  have hks : k < w.heap.size := by omega
  rw [Sort.heap_grow_old _ _ (by simpa using hks)]
  have : g ≠ k := by omega
  simp [Sort.putRow, Sort.mapBlock, Sort.ahead, Array.getElem?_modify, this]
end Go.Proofs.YteealihknndclaaGreatDoor
