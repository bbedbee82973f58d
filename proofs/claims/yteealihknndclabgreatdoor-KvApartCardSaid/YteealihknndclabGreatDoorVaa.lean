/- Package kv's small functions: size, within, behind; a store in memory; Open, Get, sizeOf. -/
import Derived.Test.YteealihknndclabGreatDoorEd
import Derived.Test.YteealihknndclabGreatDoorBv
namespace Go.Proofs.YteealihknndclabGreatDoor
open Go.RowKit
def oD (w : World) (gk gt : Nat) (b : Int) : Prop := w.heap[gk]? = some (.cells #[.pointer (some ⟨gt, 0, none⟩), .int .i64 b] 62 (0, 0))
theorem oD.below {w W : World} {gk gt : Nat} {b : Int} (h : oD w gk gt b) (hb : Below w.heap.size w W) : oD W gk gt b := (hb.block gk (aa h)).trans h
theorem ji (a b : Option Addr) (n m c d : Nat) (hn : n <= 1000000) (hm : m <= 1000000) (w : World) :
  Calls Tryz.prog 27 #[.slice a n c, .slice b m d] w fun e w' => e = .returned (.int .i64 ((n + m : Nat) : Int)) /\ w' = w := by
 have q : IntKind.i64.wrap ((n : Int) + (m : Int)) = ((n + m : Nat) : Int) := by rw [IntKind.wrap_i64]; omega
 go_enter Tryz.func27, Tryz.ntmps27
 go_wp2
 go_ret
 exact ⟨rfl, rfl⟩
set_option maxHeartbeats 4000000 in
set_option maxRecDepth 10000 in
theorem iW (s : UInt8) (v : Value) (xs : List UInt8) (w : World) (hv : SliceAt w v xs) (hl : xs.length <= 1000000) :
  Calls Tryz.prog 23 #[.int .u8 (s.toNat : Int), v] w fun e w' => ∃ g c, e = .returned (.slice (some ⟨g, 0, none⟩) (s :: xs).length c) /\ w.heap.size <= g /\ g < w'.heap.size /\ (∀ W, W.heap[g]? = w'.heap[g]? -> SliceAt W (.slice (some ⟨g, 0, none⟩) (s :: xs).length c) (s :: xs)) /\ Below w.heap.size w w' := by
 obtain ⟨a0, l0, c0, rfl, hl0, hm0⟩ := hv.form
 have HV := hide hv
 obtain ⟨w2, hw2⟩ : ∃ w2, w2 = w.alloc (.cells #[.int .u8 (s.toNat : Int)] 5) := ⟨_, rfl⟩
 have b2 : Below w.heap.size w w2 := by rw [hw2]; exact ba ..
 have r2 : w2.heap[w.heap.size]? = some (.cells #[.int .u8 (s.toNat : Int)] 5 (0, 0)) := by rw [hw2]; exact heap_alloc_new _ _
 have U2 : dz w2 (.slice (some ⟨w.heap.size, 0, none⟩) 1 1) [s] := ⟨rfl, Or.inr ⟨w.heap.size, 1, _, rfl, Nat.zero_le _, r2, lr _, by simp [maxLen], rfl, rfl⟩⟩
 have APP := hide (bf w2 (.slice (some ⟨w.heap.size, 0, none⟩) 1 1) (.slice a0 l0 c0) [s] xs 22 U2 (hv.below b2 (lr _)) (by simp; omega))
 obtain ⟨Y, hY⟩ : ∃ Y, Y = s :: xs := ⟨_, rfl⟩
 have YN : Hid (Y ≠ []) := by show Y ≠ []; rw [hY]; simp
 have YL : Hid (Y.length <= 1000001) := by show Y.length <= _; rw [hY]; simp; omega
 rw [show [s] ++ xs = Y from hY.symm] at APP
 rw [<- hY]
 have B2 := hide b2
 have HW2 := hide hw2
 clear b2 r2 hw2 U2 hv hl hl0 hm0 HV hY
 go_enter Tryz.func23, Tryz.ntmps23
 go_wp2_with (at_builtin; (rw [<- HW2.out]; refine aA rfl (.tmp 6) (.tmp 7) 22 22 rfl _ _ rfl rfl APP.out ?_; rintro v3 w3 ⟨hu3, hg3, ho3⟩; have U3 := hide hu3; have G3 := hide hg3; have O3 := hide ho3; clear hu3 hg3 ho3; obtain ⟨gi, ci, cur3, hv3, hr3, hn3, hc3⟩ := U3.out.lies YN.out; subst hv3; have R3 := hide hr3; clear hr3))
 go_ret
 have hgi : w.heap.size <= gi := by
  rcases O3.out gi rfl with e | e
  ·simp only [Value.ownBlock, Option.some.injEq] at e; omega
  ·exact ltr B2.out.size e
 have c3' : Chg (fun k => k = w.heap.size) w2 w3 := (Chg.refl _ _).grown G3.out (fun k _ e => by simp only [Value.ownBlock, Option.some.injEq] at e; exact e.symm)
 exact ⟨gi, ci, rfl, hgi, aa R3.out, fun W hW => (U3.out.kept (w' := W) (fun k hk => by (simp only [Value.ownBlock, Option.some.injEq] at hk; subst hk; exact hW))).sliceAt (by have := YL.out; omega), B2.out.trans (c3'.below _ B2.out.size (fun k hk e => by omega))⟩
theorem ma (B gk gt gs : Nat) (b : Int) (pg : Nat -> List UInt8) (es : List S.Ent) (s : UInt8) (kv : Value) (key : List UInt8) (w : World) (hr : Rds B w gs pg) (ht : jr w gt gs) (hl : S.nE pg es) (hs : oD w gk gt b) (hk : SliceAt w kv key) (hkl : key.length <= 1000000) :
  Calls Tryz.prog 8 #[.pointer (some ⟨gk, 0, none⟩), .int .u8 (s.toNat : Int), kv] w fun e w' => ∃ v ok, e = .returned (.tuple #[v, .bool ok]) /\ AY w.heap.size w' es (s :: key) v ok /\ Below w.heap.size w w' := by
 obtain ⟨a0, l0, c0, rfl, hl0, hm0⟩ := hk.form
 have HR := hide hr
 have HT := hide ht
 have HL := hide hl
 have HK := hide hk
 have HKL := hide hkl
 have HS := hide hs
 clear hr ht hl hk hl0 hm0 hkl hs
 go_enter Tryz.func8, Tryz.ntmps8
 go_upto_region 1 with fail
 refine wp_region_noPanic ?_
 refine wp_region_held_drew (S := (fun W => oD W gk gt b)) follows HS.out (fun hHeld => ?_)
 have RZ := hide (HR.out.below ((Below.refl w.heap.size w).drew))
 have TZ : Hid (jr w.drew gt gs) := HT.out
 have KZ : Hid (SliceAt w.drew (.slice a0 l0 c0) key) := HK.out
 have BZ : Hid (Below w.heap.size w w.drew) := (Below.refl _ _).drew
 clear HR HT HK HS
 generalize w.drew = Z0 at RZ TZ KZ BZ hHeld ⊢
 refine tq 0 ?_
 simp only [uA]
 refine tq 1 ?_
 simp only [uA]
 refine tq 2 ?_
 simp only [uA]
 refine tk 3 ?_ rfl (Or.inl ⟨by rfl, ?_⟩) ?_
 rotate_left
 ·intro w hSw
  have c0 := (aK hSw).1
  clear hSw
  go_simp
  all_goals with_reducible rfl
 simp only [uA]
 refine tq 4 ?_
 simp only [uA]
 refine tq 5 ?_
 simp only [uA]
 refine r1 6 fun K hK => ?_
 go_simp
 refine (iW s _ key Z0 KZ.out HKL.out).mono ?_
 rintro e Z1 ⟨g1, cp1, rfl, hg, hrow, hs1, b1⟩
 have R1 := hide (RZ.out.below b1)
 have T1 : Hid (jr Z1 gt gs) := (b1.block _ (aa TZ.out)).trans TZ.out
 have S1 := hide (hs1 Z1 rfl)
 have B1 := hide (BZ.out.trans (b1.mono BZ.out.size))
 have hk1 := hHeld.below b1
 clear hg hrow hs1 b1 RZ TZ KZ BZ hHeld
 refine hK.out _ _ hk1 (fun hHeld => ?_)
 clear hK K hk1
 try simp only [uA]
 refine r1 7 fun K hK => ?_
 go_simp
 refine (get_0 B gt gs pg es _ (s :: key) Z1 R1.out T1.out HL.out S1.out).mono ?_
 rintro e Z2 ⟨v, ok, rfl, kG, b2⟩
 have GT := hide kG
 have B2 := hide (B1.out.trans (b2.mono B1.out.size))
 have hk2 := hHeld.below b2
 have S12 := hide (B1.out.size)
 clear kG b2 R1 T1 S1 B1 hHeld
 refine hK.out _ _ hk2 (fun hHeld => ?_)
 clear hK K hk2
 try simp only [uA]
 refine tq 8 ?_
 simp only [uA]
 refine tq 9 ?_
 simp only [uA]
 refine tq 10 ?_
 simp only [uA]
 refine tq 11 ?_
 simp only [uA]
 refine wpAnyH_done (by kernel_rfl) ?_ _
 refine NoPanic.normal ?_
 clear hHeld
 go_wp2_with fail
 go_ret2
 exact ⟨v, ok, rfl, ⟨fun x hx hk => ⟨(GT.out.yes x hx hk).1, (GT.out.yes x hx hk).2.imp_right (fun ⟨q, h1, h2, h3⟩ => ⟨q, h1, ltr S12.out h2, h3⟩)⟩, GT.out.no⟩, B2.out⟩
theorem nV (B gk gt gs : Nat) (b : Int) (pg : Nat -> List UInt8) (es : List S.Ent) (kv : Value) (key : List UInt8) (w : World) (hr : Rds B w gs pg) (ht : jr w gt gs) (hl : S.nE pg es) (hs : oD w gk gt b) (hk : SliceAt w kv key) (hkl : key.length <= 1000000) :
  Calls Tryz.prog 30 #[.pointer (some ⟨gk, 0, none⟩), kv] w fun e w' => ∃ n : Nat, e = .returned (.int .i64 (n : Int)) /\ (∀ x ∈ es, x.key = key -> n = key.length + x.val.length) /\ (key ∉ es.map (·.key) -> n = 0) /\ Below w.heap.size w w' := by
 obtain ⟨a0, l0, c0, rfl, hl0, hm0⟩ := hk.form
 obtain ⟨c1, c2⟩ := aK hs
 have HR := hide hr
 have HT := hide ht
 have HL := hide hl
 have HK := hide hk
 have HKL := hide hkl
 have HL0 := hide hl0
 clear hr ht hl hk hl0 hm0 hkl hs
 go_enter Tryz.func30, Tryz.ntmps30
 go_wp2_with fail
 refine (get_0 B gt gs pg es _ key w HR.out HT.out HL.out HK.out).mono ?_
 rintro e w1 ⟨v, ok, rfl, kG, b1⟩
 by_cases hin : ∃ x ∈ es, x.key = key
 ·obtain ⟨x, hx, hxk⟩ := hin
  obtain ⟨rfl, hv⟩ := kG.yes x hx hxk
  have hvl := (HL.out.ok.ent x hx).val
  obtain ⟨av, cv, hvf⟩ : ∃ a c, v = .slice a x.val.length c := by
   rcases hv with ⟨h1, h2⟩ | ⟨q, h1, _⟩
   ·exact ⟨none, 0, by rw [h1, h2]; rfl⟩
   ·exact ⟨_, _, h1⟩
  subst hvf
  have B1 := hide b1
  have HX := hide (And.intro hx hxk)
  have HVL := hide hvl
  clear kG hv b1 c1 c2 hx hxk hvl
  go_wp2_with fail
  refine (ji _ _ _ _ _ _ (by have := HL0.out; have := HKL.out; omega) (by have := HVL.out; omega) w1).mono ?_
  rintro e w2 ⟨rfl, rfl⟩
  go_wp2_with fail
  go_ret
  refine ⟨_, rfl, fun y hy hyk => ?_, fun hno => ?_, B1.out⟩
  ·have e1 : x = y := by
    obtain ⟨i, hi, rfl⟩ := List.mem_iff_getElem.1 HX.out.1
    obtain ⟨j, hj, rfl⟩ := List.mem_iff_getElem.1 hy
    have := HL.out.ok.same hi hj (HX.out.2.trans hyk.symm)
    subst this; rfl
   rw [<- e1, HL0.out]
  ·exact absurd (List.mem_map.2 ⟨x, HX.out.1, HX.out.2⟩) hno
 ·have hno : key ∉ es.map (·.key) := fun h => by
   obtain ⟨x, hx, hk⟩ := List.mem_map.1 h
   exact hin ⟨x, hx, hk⟩
  obtain ⟨rfl, rfl⟩ := kG.no hno
  have B1 := hide b1
  have HIN := hide hin
  clear kG b1 c1 c2 hno hin
  go_wp2_with fail
  go_ret
  exact ⟨0, rfl, fun y hy hyk => absurd ⟨y, hy, hyk⟩ HIN.out, fun _ => rfl, B1.out⟩
set_option maxHeartbeats 4000000 in
set_option maxRecDepth 10000 in
theorem Fv (w0 w : World) (o : Ow) (d : S.Dk) (p t : Nat) (pg : Nat -> List UInt8) (es : List S.Ent) (h : Bt1 w0 w o d p t pg es) (b : Int) (h0 : 0 <= b) (h1 : b <= 98304) :
  Calls Tryz.prog 17 #[o.ptr, .int .i64 b] w fun e w' => ∃ gk gt gs, e = .returned (.tuple #[.pointer (some ⟨gk, 0, none⟩), .int .i64 0]) /\ oD w' gk gt b /\ jr w' gt gs /\ eD w' gs o /\ w.heap.size <= gk /\ w.heap.size <= gt /\ w.heap.size <= gs /\ Below w.heap.size w w' := by
 have q1 : ¬ (b < 0) := by omega
 have q2 : ¬ (98304 < b) := by omega
 have H := hide h
 have hp : o.ptr = .pointer (some ⟨o.g, 0, none⟩) := rfl
 clear h h0 h1
 rw [hp]
 go_enter Tryz.func17, Tryz.ntmps17
 go_wp2_with fail
 rw [<- hp]
 refine (open_0 w0 w o d p t pg es H.out).mono ?_
 rintro e w1 ⟨gt, gs, rfl, ht, hs, l1, l2, b1⟩
 have HT := hide ht
 have HS := hide hs
 have HL := hide (And.intro l1 l2)
 have B1 := hide b1
 clear ht hs l1 l2 b1 hp
 go_wp2_with fail
 go_ret2
 have b2 : Below w1.heap.size w1 (w1.alloc (.cells #[.pointer (some ⟨gt, 0, none⟩), .int .i64 b] 62)) := ba ..
 exact ⟨_, gt, gs, rfl, heap_alloc_new _ _, (b2.block _ (aa HT.out)).trans HT.out, (b2.block _ (aa HS.out)).trans HS.out, B1.out.size, HL.out.1, HL.out.2, B1.out.trans (b2.mono B1.out.size)⟩
theorem vZ (w : World) : Calls Tryz.prog 25 #[.int .u8 255] w fun e w' => e = .returned (.slice none 0 0) /\ w' = w := by
 go_enter Tryz.func25, Tryz.ntmps25
 go_wp2
 go_ret
 exact ⟨rfl, rfl⟩
theorem vY (s : Nat) (hs : s < 255) (w : World) : Calls Tryz.prog 25 #[.int .u8 (s : Int)] w fun e w' => e = .returned (.slice (some ⟨w.heap.size, 0, none⟩) 1 1) /\ w' = w.alloc (.cells #[.int .u8 ((s + 1 : Nat) : Int)] 5) := by
 have q1 : ¬ ((s : Int) = 255) := by omega
 have q2 : IntKind.u8.wrap ((s : Int) + 1) = ((s + 1 : Nat) : Int) := by simp [IntKind.wrap, IntKind.signed, IntKind.bits]; omega
 go_enter Tryz.func25, Tryz.ntmps25
 go_wp2
 go_ret
 exact ⟨rfl, rfl⟩
theorem vX (w0 w : World) (o : Ow) (n : Nat) (hn : 7680 <= n) (hd : Dsk w o (S.Dk.new n)) (ho : ∀ k, o.has k -> w0.heap.size <= k) (hb : Below w0.heap.size w0 w) (h0 : 1 < w0.heap.size) :
  Calls Tryz.prog 16 #[o.ptr] w fun e w' => e = .returned (.int .i64 0) /\ ∃ o' d' pg, o'.g = o.g /\ Bt1 w0 w' o' d' 0 2 pg [] := by
 have PF := hide (zD w0 w o n hn hd ho hb h0)
 have hp : o.ptr = .pointer (some ⟨o.g, 0, none⟩) := rfl
 clear hn hd ho hb h0
 rw [hp] at PF ⊢
 go_enter Tryz.func16, Tryz.ntmps16
 go_wp2_with fail
 refine PF.out.mono ?_
 rintro e w1 ⟨rfl, h⟩
 have H := hide h
 clear h
 go_wp2_with fail
 go_ret
 exact ⟨rfl, H.out⟩
attribute [local go_sem] Oper.semAt_some
def S.bhd (s : UInt8) : List UInt8 := if s.toNat = 255 then [] else [s + 1]
theorem kE (s : UInt8) (w : World) : Calls Tryz.prog 25 #[.int .u8 (s.toNat : Int)] w fun e w' => ∃ v', e = .returned v' /\ SliceAt w' v' (S.bhd s) /\ (v' = .slice none 0 0 \/ ∃ b off n c, v' = .slice (some ⟨b, off, none⟩) n c) /\ Below w.heap.size w w' := by
 have h255 : s.toNat < 256 := s.toNat_lt
 by_cases h : s.toNat = 255
 ·rw [show ((s.toNat : Nat) : Int) = 255 by omega]
  refine (vZ w).mono ?_
  rintro e w' ⟨rfl, rfl⟩
  exact ⟨_, rfl, by unfold S.bhd; rw [if_pos h]; exact Or.inl ⟨rfl, rfl⟩, Or.inl rfl, Below.refl _ _⟩
 ·refine (vY s.toNat (by omega) w).mono ?_
  rintro e w' ⟨rfl, rfl⟩
  refine ⟨_, rfl, ?_, Or.inr ⟨_, _, _, _, rfl⟩, ba ..⟩
  unfold S.bhd
  rw [if_neg h]
  refine Or.inr (Or.inr ⟨w.heap.size, 0, 1, rfl, by simp, by simp, by simp, fun j hj => ?_⟩)
  have hj0 : j = 0 := by simpa using hj
  subst hj0
  rw [cell_of_row _ _ _ _ 5 _ (heap_alloc_new _ _)]
  have e1 : (s + 1).toNat = s.toNat + 1 := by rw [UInt8.toNat_add]; simp; omega
  simp [e1]
theorem Cln.lift {w w0 w' : World} {xs : List UInt8} {v : Value} (h : Cln w w' xs v) (hs : w0.heap.size <= w.heap.size) : Cln w0 w' xs v := ⟨h.1, fun b off n c e => ⟨ltr hs (h.2.1 b off n c e).1, (h.2.1 b off n c e).2⟩, h.2.2⟩
theorem Cln.then {w w1 W : World} {xs : List UInt8} {v : Value} (h : Cln w w1 xs v) (hb : Below w1.heap.size w1 W) : Cln w W xs v := ⟨h.1.below hb (lr _), fun b off n c e => ⟨(h.2.1 b off n c e).1, Nat.lt_of_lt_of_le (h.2.1 b off n c e).2 hb.size⟩, h.2.2⟩
theorem lQ.lift {w w0 W : World} {g3 g4 g5 gt : Nat} {v4 v5 : Value} (h : lQ w g3 g4 g5 gt v4 v5 W) (hb : Below w0.heap.size w0 w) : lQ w0 g3 g4 g5 gt v4 v5 W := ⟨hb.trans (h.1.mono hb.size), h.2⟩
set_option maxRecDepth 10000 in
theorem storeFn {w : World} {g : Nat} {v : Value} (h : w.heap[g]? = some (.cells #[v] 34 (0, 0))) (f : Fn) (lb : Array Value) :
  (Instr.storeAt 34 (.pointer (some ⟨g, 0, none⟩)) (.func f #[] lb)).run Tryz.prog w = .ok () (w.setCell ⟨g, 0, none⟩ (.func f #[] lb)) := by
 have e := eU h
 have hf := frozen_of_row w g 0 _ _ h
 go_simp
 rw [run_store _ _ _ _ _ rfl]
 go_simp
theorem xset {w W : World} {g3 g4 g5 gt gw : Nat} {v4 v5 u : Value} {xs ys : List UInt8} (h : lQ w g3 g4 g5 gt v4 v5 W) (h4 : Cln w W xs v4) (h5 : Cln w W ys v5) (hg : W.heap[gw]? = some (.cells #[u] 34 (0, 0))) (hw : w.heap.size <= gw) (v : Value)
  (hn : g3 ≠ gw /\ g4 ≠ gw /\ g5 ≠ gw /\ (∀ b off n c, v4 = .slice (some ⟨b, off, none⟩) n c -> b ≠ gw) /\ (∀ b off n c, v5 = .slice (some ⟨b, off, none⟩) n c -> b ≠ gw)) :
  (W.setCell ⟨gw, 0, none⟩ v).heap[gw]? = some (.cells #[v] 34 (0, 0)) /\ lQ w g3 g4 g5 gt v4 v5 (W.setCell ⟨gw, 0, none⟩ v) /\ Cln w (W.setCell ⟨gw, 0, none⟩ v) xs v4 /\ Cln w (W.setCell ⟨gw, 0, none⟩ v) ys v5 :=
 ⟨one_setCell hg, ⟨h.1.setCell (p := ⟨gw, 0, none⟩) hw _, (heap_setCell_other _ _ _ _ hn.1).trans h.2.1, (heap_setCell_other _ _ _ _ hn.2.1).trans h.2.2.1, (heap_setCell_other _ _ _ _ hn.2.2.1).trans h.2.2.2⟩,
  ⟨SliceAt.setOther h4.1 hn.2.2.2.1, fun b off n c e => ⟨(h4.2.1 b off n c e).1, by have := (h4.2.1 b off n c e).2; simpa using this⟩, h4.2.2⟩,
  ⟨SliceAt.setOther h5.1 hn.2.2.2.2, fun b off n c e => ⟨(h5.2.1 b off n c e).1, by have := (h5.2.1 b off n c e).2; simpa using this⟩, h5.2.2⟩⟩
set_option maxHeartbeats 16000000 in
set_option maxRecDepth 10000 in
theorem xU (gk gt : Nat) (bd : Int) (s : UInt8) (v : Value) (xs : List UInt8) (w : World) (hs : oD w gk gt bd) (hv : SliceAt w v xs) (hl : xs.length <= 1000000) : Calls Tryz.prog 9 #[.pointer (some ⟨gk, 0, none⟩), .int .u8 (s.toNat : Int), v] w fun e w' =>
  ∃ gw g3 g4 g5 v4 v5, e = .returned (.func (.func 26) #[] #[.pointer (some ⟨gw, 0, none⟩)]) /\ w'.heap[gw]? = some (.cells #[.func (.func 38) #[] #[.pointer (some ⟨g4, 0, none⟩), .pointer (some ⟨g5, 0, none⟩), .pointer (some ⟨g3, 0, none⟩)]] 34 (0, 0)) /\ lQ w g3 g4 g5 gt v4 v5 w' /\ w.heap.size <= g3 /\ w.heap.size <= g4 /\ w.heap.size <= g5 /\ w.heap.size <= gw /\ Cln w w' (s :: xs) v4 /\ Cln w w' (S.bhd s) v5 := by
 obtain ⟨af, lf, cf, hvv, zz1, zz2⟩ := hv.form
 have HS := hide hs
 have HV := hide hv
 clear hs hv zz1 zz2
 subst hvv
 go_enter Tryz.func9, Tryz.ntmps9
 go_upto_region 1 with fail
 refine wp_region_noPanic ?_
 refine wp_region_held_drew (S := fun W => Below w.heap.size w W) follows ((Below.refl _ _).drew) (fun hHeld => ?_)
 clear hHeld
 have HB := hide (show Below w.heap.size w w.drew from (Below.refl _ _).drew)
 have hHeld : Below w.heap.size w w.drew := HB.out
 generalize w.drew = Z0 at HB hHeld ⊢
 refine tq 0 ?_
 simp only [uA]
 refine tq 1 ?_
 simp only [uA]
 refine tq 2 ?_
 simp only [uA]
 refine tk 3 ?_ rfl (Or.inl ⟨by rfl, ?_⟩) ?_
 rotate_left
 ·intro w hSw
  have ck := (hSw.cell (p := ⟨gk, 0, none⟩) (aa HS.out)).trans (aK HS.out).1
  clear hSw
  go_simp
  all_goals with_reducible rfl
 simp only [uA]
 refine tq 4 ?_
 simp only [uA]
 refine tq 5 ?_
 simp only [uA]
 refine tq 7 ?_
 simp only [uA]
 refine rdy [6, 10] ?_
 refine AllReadyH.cons (o := ⟨_, _, _, _, _, _⟩) rfl (fun K hK => ?_) ?_
 focus
  skip
  go_simp
  refine (iW s _ xs Z0 (HV.out.below HB.out (lr _)) hl).mono ?_
  rintro e Z1 ⟨g, c, rfl, _, hlt, hsl, hb⟩
  have H1 := hide (hsl _ rfl)
  clear hsl hlt
  have HB' := hide (HB.out.trans (hb.mono HB.out.size))
  clear HB
  have HB := HB'
  clear HB'
  clear hb
  have hZ := HB.out
  refine hK.out _ _ hZ (fun hHeld => ?_)
  clear hK K hHeld hZ
  try simp only [uA]
  refine rdy [8, 10] ?_
  refine AllReadyH.cons (o := ⟨_, _, _, _, _, _⟩) rfl (fun K hK => ?_) ?_
  focus
   skip
   go_simp
   refine (kE s Z1).mono ?_
   rintro e Z2 ⟨v2, rfl, hs2, hf2, hb⟩
   have H2 := hide hs2
   have F2 := hide hf2
   clear hs2 hf2
   have HB' := hide (HB.out.trans (hb.mono HB.out.size))
   clear HB
   have HB := HB'
   clear HB'
   have H1' := hide (H1.out.below hb (lr _))
   clear H1
   have H1 := H1'
   clear H1'
   clear hb
   have hZ := HB.out
   refine hK.out _ _ hZ (fun hHeld => ?_)
   clear hK K hHeld hZ
   try simp only [uA]
   refine rdy [9, 10] ?_
   refine AllReadyH.cons (o := ⟨_, _, _, _, _, _⟩) rfl (fun K hK => ?_) ?_
   focus
    skip
    go_simp
    refine (jR gt _ v2 (s :: xs) (S.bhd s) Z2 H1.out H2.out (Or.inr ⟨_, _, _, _, rfl⟩) F2.out).mono ?_
    rintro e Z3 ⟨g3, g4, g5, v4, v5, rfl, hrg, G3, G4, G5, hc4, hc5⟩
    have hb := hrg.1
    have hsz := HB.out.size
    have H3 := hide (hrg.lift HB.out)
    have C4 := hide (hc4.lift hsz)
    have C5 := hide (hc5.lift hsz)
    replace G3 := ltr hsz G3
    replace G4 := ltr hsz G4
    replace G5 := ltr hsz G5
    clear hrg hc4 hc5 hsz
    have HB' := hide (HB.out.trans (hb.mono HB.out.size))
    clear HB
    have HB := HB'
    clear HB'
    have H1' := hide (H1.out.below hb (lr _))
    clear H1
    have H1 := H1'
    clear H1'
    have H2' := hide (H2.out.below hb (lr _))
    clear H2
    have H2 := H2'
    clear H2'
    clear hb
    have hZ := HB.out
    refine hK.out _ _ hZ (fun hHeld => ?_)
    clear hK K hHeld hZ
    try simp only [uA]
    refine r1 10 fun K hK => ?_
    go_simp
    have hb : Below Z3.heap.size Z3 (Z3.alloc (.cells #[.nilFunc] 34)) := ba ..
    have hg : (Z3.alloc (.cells #[.nilFunc] 34)).heap[Z3.heap.size]? = some (.cells #[.nilFunc] 34 (0, 0)) := heap_alloc_new _ _
    generalize Z3.alloc (.cells #[.nilFunc] 34) = Z4 at hb hg ⊢
    obtain ⟨gw, hgw⟩ : ∃ gw, gw = Z3.heap.size := ⟨_, rfl⟩
    rw [<- hgw] at hg ⊢
    have GW : w.heap.size <= gw := by rw [hgw]; exact HB.out.size
    have N3 := hide (show g3 ≠ gw /\ g4 ≠ gw /\ g5 ≠ gw /\ (∀ b off n c, v4 = .slice (some ⟨b, off, none⟩) n c -> b ≠ gw) /\ (∀ b off n c, v5 = .slice (some ⟨b, off, none⟩) n c -> b ≠ gw) from by
     have k3 := aa H3.out.2.1
     have k4 := aa H3.out.2.2.1
     have k5 := aa H3.out.2.2.2
     exact ⟨by omega, by omega, by omega, fun b off n c e => by have := (C4.out.2.1 b off n c e).2; omega, fun b off n c e => by have := (C5.out.2.1 b off n c e).2; omega⟩)
    clear hgw
    have HB' := hide (HB.out.trans (hb.mono HB.out.size))
    clear HB
    have HB := HB'
    clear HB'
    have H1' := hide (H1.out.below hb (lr _))
    clear H1
    have H1 := H1'
    clear H1'
    have H2' := hide (H2.out.below hb (lr _))
    clear H2
    have H2 := H2'
    clear H2'
    have H3' := hide (H3.out.then hb)
    clear H3
    have H3 := H3'
    clear H3'
    have C4' := hide (C4.out.then hb)
    have C5' := hide (C5.out.then hb)
    clear C4 C5
    have C4 := C4'
    have C5 := C5'
    clear C4' C5'
    have HG := hide hg
    clear hb hg
    have hZ := HB.out
    refine hK.out _ _ hZ (fun hHeld => ?_)
    clear hK K hHeld hZ
    try simp only [uA]
   rotate_left
   focus
    refine c1 fun K hK => ?_
    go_simp
    have hb : Below Z2.heap.size Z2 (Z2.alloc (.cells #[.nilFunc] 34)) := ba ..
    have hg : (Z2.alloc (.cells #[.nilFunc] 34)).heap[Z2.heap.size]? = some (.cells #[.nilFunc] 34 (0, 0)) := heap_alloc_new _ _
    generalize Z2.alloc (.cells #[.nilFunc] 34) = Z3 at hb hg ⊢
    obtain ⟨gw, hgw⟩ : ∃ gw, gw = Z2.heap.size := ⟨_, rfl⟩
    rw [<- hgw] at hg ⊢
    have GW : w.heap.size <= gw := by rw [hgw]; exact HB.out.size
    clear hgw
    have HB' := hide (HB.out.trans (hb.mono HB.out.size))
    clear HB
    have HB := HB'
    clear HB'
    have H1' := hide (H1.out.below hb (lr _))
    clear H1
    have H1 := H1'
    clear H1'
    have H2' := hide (H2.out.below hb (lr _))
    clear H2
    have H2 := H2'
    clear H2'
    have HG := hide hg
    clear hb hg
    have hZ := HB.out
    refine hK.out _ _ hZ (fun hHeld => ?_)
    clear hK K hHeld hZ
    try simp only [uA]
    refine r1 9 fun K hK => ?_
    go_simp
    refine (jR gt _ v2 (s :: xs) (S.bhd s) Z3 H1.out H2.out (Or.inr ⟨_, _, _, _, rfl⟩) F2.out).mono ?_
    rintro e Z4 ⟨g3, g4, g5, v4, v5, rfl, hrg, G3, G4, G5, hc4, hc5⟩
    have hb := hrg.1
    have N3 := hide (show g3 ≠ gw /\ g4 ≠ gw /\ g5 ≠ gw /\ (∀ b off n c, v4 = .slice (some ⟨b, off, none⟩) n c -> b ≠ gw) /\ (∀ b off n c, v5 = .slice (some ⟨b, off, none⟩) n c -> b ≠ gw) from by
     have h9 := aa HG.out
     exact ⟨by omega, by omega, by omega, fun b off n c e => by have := (hc4.2.1 b off n c e).1; omega, fun b off n c e => by have := (hc5.2.1 b off n c e).1; omega⟩)
    have hsz := HB.out.size
    have H3 := hide (hrg.lift HB.out)
    have C4 := hide (hc4.lift hsz)
    have C5 := hide (hc5.lift hsz)
    replace G3 := ltr hsz G3
    replace G4 := ltr hsz G4
    replace G5 := ltr hsz G5
    clear hrg hc4 hc5 hsz
    have HB' := hide (HB.out.trans (hb.mono HB.out.size))
    clear HB
    have HB := HB'
    clear HB'
    have H1' := hide (H1.out.below hb (lr _))
    clear H1
    have H1 := H1'
    clear H1'
    have H2' := hide (H2.out.below hb (lr _))
    clear H2
    have H2 := H2'
    clear H2'
    have HG' := hide ((hb.block _ (aa HG.out)).trans HG.out)
    clear HG
    have HG := HG'
    clear HG'
    clear hb
    have hZ := HB.out
    refine hK.out _ _ hZ (fun hHeld => ?_)
    clear hK K hHeld hZ
    try simp only [uA]
  rotate_left 2
  focus
   refine c1 fun K hK => ?_
   go_simp
   have hb : Below Z1.heap.size Z1 (Z1.alloc (.cells #[.nilFunc] 34)) := ba ..
   have hg : (Z1.alloc (.cells #[.nilFunc] 34)).heap[Z1.heap.size]? = some (.cells #[.nilFunc] 34 (0, 0)) := heap_alloc_new _ _
   generalize Z1.alloc (.cells #[.nilFunc] 34) = Z2 at hb hg ⊢
   obtain ⟨gw, hgw⟩ : ∃ gw, gw = Z1.heap.size := ⟨_, rfl⟩
   rw [<- hgw] at hg ⊢
   have GW : w.heap.size <= gw := by rw [hgw]; exact HB.out.size
   clear hgw
   have HB' := hide (HB.out.trans (hb.mono HB.out.size))
   clear HB
   have HB := HB'
   clear HB'
   have H1' := hide (H1.out.below hb (lr _))
   clear H1
   have H1 := H1'
   clear H1'
   have HG := hide hg
   clear hb hg
   have hZ := HB.out
   refine hK.out _ _ hZ (fun hHeld => ?_)
   clear hK K hHeld hZ
   try simp only [uA]
   refine r1 8 fun K hK => ?_
   go_simp
   refine (kE s Z2).mono ?_
   rintro e Z3 ⟨v2, rfl, hs2, hf2, hb⟩
   have H2 := hide hs2
   have F2 := hide hf2
   clear hs2 hf2
   have HB' := hide (HB.out.trans (hb.mono HB.out.size))
   clear HB
   have HB := HB'
   clear HB'
   have H1' := hide (H1.out.below hb (lr _))
   clear H1
   have H1 := H1'
   clear H1'
   have HG' := hide ((hb.block _ (aa HG.out)).trans HG.out)
   clear HG
   have HG := HG'
   clear HG'
   clear hb
   have hZ := HB.out
   refine hK.out _ _ hZ (fun hHeld => ?_)
   clear hK K hHeld hZ
   try simp only [uA]
   refine r1 9 fun K hK => ?_
   go_simp
   refine (jR gt _ v2 (s :: xs) (S.bhd s) Z3 H1.out H2.out (Or.inr ⟨_, _, _, _, rfl⟩) F2.out).mono ?_
   rintro e Z4 ⟨g3, g4, g5, v4, v5, rfl, hrg, G3, G4, G5, hc4, hc5⟩
   have hb := hrg.1
   have N3 := hide (show g3 ≠ gw /\ g4 ≠ gw /\ g5 ≠ gw /\ (∀ b off n c, v4 = .slice (some ⟨b, off, none⟩) n c -> b ≠ gw) /\ (∀ b off n c, v5 = .slice (some ⟨b, off, none⟩) n c -> b ≠ gw) from by
    have h9 := aa HG.out
    exact ⟨by omega, by omega, by omega, fun b off n c e => by have := (hc4.2.1 b off n c e).1; omega, fun b off n c e => by have := (hc5.2.1 b off n c e).1; omega⟩)
   have hsz := HB.out.size
   have H3 := hide (hrg.lift HB.out)
   have C4 := hide (hc4.lift hsz)
   have C5 := hide (hc5.lift hsz)
   replace G3 := ltr hsz G3
   replace G4 := ltr hsz G4
   replace G5 := ltr hsz G5
   clear hrg hc4 hc5 hsz
   have HB' := hide (HB.out.trans (hb.mono HB.out.size))
   clear HB
   have HB := HB'
   clear HB'
   have H1' := hide (H1.out.below hb (lr _))
   clear H1
   have H1 := H1'
   clear H1'
   have H2' := hide (H2.out.below hb (lr _))
   clear H2
   have H2 := H2'
   clear H2'
   have HG' := hide ((hb.block _ (aa HG.out)).trans HG.out)
   clear HG
   have HG := HG'
   clear HG'
   clear hb
   have hZ := HB.out
   refine hK.out _ _ hZ (fun hHeld => ?_)
   clear hK K hHeld hZ
   try simp only [uA]
 rotate_left 3
 focus
  refine c1 fun K hK => ?_
  go_simp
  have hb : Below Z0.heap.size Z0 (Z0.alloc (.cells #[.nilFunc] 34)) := ba ..
  have hg : (Z0.alloc (.cells #[.nilFunc] 34)).heap[Z0.heap.size]? = some (.cells #[.nilFunc] 34 (0, 0)) := heap_alloc_new _ _
  generalize Z0.alloc (.cells #[.nilFunc] 34) = Z1 at hb hg ⊢
  obtain ⟨gw, hgw⟩ : ∃ gw, gw = Z0.heap.size := ⟨_, rfl⟩
  rw [<- hgw] at hg ⊢
  have GW : w.heap.size <= gw := by rw [hgw]; exact HB.out.size
  clear hgw
  have HB' := hide (HB.out.trans (hb.mono HB.out.size))
  clear HB
  have HB := HB'
  clear HB'
  have HG := hide hg
  clear hb hg
  have hZ := HB.out
  refine hK.out _ _ hZ (fun hHeld => ?_)
  clear hK K hHeld hZ
  try simp only [uA]
  refine r1 6 fun K hK => ?_
  go_simp
  refine (iW s _ xs Z1 (HV.out.below HB.out (lr _)) hl).mono ?_
  rintro e Z2 ⟨g, c, rfl, _, hlt, hsl, hb⟩
  have H1 := hide (hsl _ rfl)
  clear hsl hlt
  have HB' := hide (HB.out.trans (hb.mono HB.out.size))
  clear HB
  have HB := HB'
  clear HB'
  have HG' := hide ((hb.block _ (aa HG.out)).trans HG.out)
  clear HG
  have HG := HG'
  clear HG'
  clear hb
  have hZ := HB.out
  refine hK.out _ _ hZ (fun hHeld => ?_)
  clear hK K hHeld hZ
  try simp only [uA]
  refine r1 8 fun K hK => ?_
  go_simp
  refine (kE s Z2).mono ?_
  rintro e Z3 ⟨v2, rfl, hs2, hf2, hb⟩
  have H2 := hide hs2
  have F2 := hide hf2
  clear hs2 hf2
  have HB' := hide (HB.out.trans (hb.mono HB.out.size))
  clear HB
  have HB := HB'
  clear HB'
  have H1' := hide (H1.out.below hb (lr _))
  clear H1
  have H1 := H1'
  clear H1'
  have HG' := hide ((hb.block _ (aa HG.out)).trans HG.out)
  clear HG
  have HG := HG'
  clear HG'
  clear hb
  have hZ := HB.out
  refine hK.out _ _ hZ (fun hHeld => ?_)
  clear hK K hHeld hZ
  try simp only [uA]
  refine r1 9 fun K hK => ?_
  go_simp
  refine (jR gt _ v2 (s :: xs) (S.bhd s) Z3 H1.out H2.out (Or.inr ⟨_, _, _, _, rfl⟩) F2.out).mono ?_
  rintro e Z4 ⟨g3, g4, g5, v4, v5, rfl, hrg, G3, G4, G5, hc4, hc5⟩
  have hb := hrg.1
  have N3 := hide (show g3 ≠ gw /\ g4 ≠ gw /\ g5 ≠ gw /\ (∀ b off n c, v4 = .slice (some ⟨b, off, none⟩) n c -> b ≠ gw) /\ (∀ b off n c, v5 = .slice (some ⟨b, off, none⟩) n c -> b ≠ gw) from by
   have h9 := aa HG.out
   exact ⟨by omega, by omega, by omega, fun b off n c e => by have := (hc4.2.1 b off n c e).1; omega, fun b off n c e => by have := (hc5.2.1 b off n c e).1; omega⟩)
  have hsz := HB.out.size
  have H3 := hide (hrg.lift HB.out)
  have C4 := hide (hc4.lift hsz)
  have C5 := hide (hc5.lift hsz)
  replace G3 := ltr hsz G3
  replace G4 := ltr hsz G4
  replace G5 := ltr hsz G5
  clear hrg hc4 hc5 hsz
  have HB' := hide (HB.out.trans (hb.mono HB.out.size))
  clear HB
  have HB := HB'
  clear HB'
  have H1' := hide (H1.out.below hb (lr _))
  clear H1
  have H1 := H1'
  clear H1'
  have H2' := hide (H2.out.below hb (lr _))
  clear H2
  have H2 := H2'
  clear H2'
  have HG' := hide ((hb.block _ (aa HG.out)).trans HG.out)
  clear HG
  have HG := HG'
  clear HG'
  clear hb
  have hZ := HB.out
  refine hK.out _ _ hZ (fun hHeld => ?_)
  clear hK K hHeld hZ
  try simp only [uA]
 all_goals
  refine rdy [11] ?_
  refine dH (o := ⟨_, _, _, _, _, _⟩) rfl rfl 34 (.tmp 7) (.tmp 17) rfl _ (storeFn HG.out _ _) AllReadyH.nil ⟨HB.out.setCell (p := ⟨gw, 0, none⟩) GW _, fun hHeld => ?_⟩
  clear hHeld
  simp only [Act.put]
  have X := hide (xset H3.out C4.out C5.out HG.out GW (.func (.func 38) #[] #[.pointer (some ⟨g4, 0, none⟩), .pointer (some ⟨g5, 0, none⟩), .pointer (some ⟨g3, 0, none⟩)]) N3.out)
  clear H3 C4 C5 HG H1 H2 HB N3
  refine wpAnyH_done (by kernel_rfl) ?_ _
  refine NoPanic.normal ?_
  go_wp2_with fail
  go_ret
  exact ⟨gw, g3, g4, g5, _, _, rfl, X.out.1, X.out.2.1, G3, G4, G5, GW, X.out.2.2.1, X.out.2.2.2⟩
end Go.Proofs.YteealihknndclabGreatDoor
namespace Go.Proofs.YteealihknndclabGreatDoor
open Go.RowKit
theorem FJ (a b : UInt8) (k v : List UInt8) (hk : k ≠ []) : S.hand [⟨a :: k, v, 0⟩] [b] (S.bhd b) = if a = b then [⟨a :: k, v, 0⟩] else [] := by
 obtain ⟨x, k, rfl⟩ := List.exists_cons_of_ne_nil hk
 have ha := a.toNat_lt
 have hb := b.toNat_lt
 have e1 : S.bU (a :: x :: k) [b] = if a < b then -1 else 1 := by
  rw [S.gq]
  split
  ·rfl
  ·split
   ·rfl
   ·exact S.iA x k
 have e2 : S.rank ([(⟨a :: x :: k, v, 0⟩ : S.Ent)].map (·.key)) [b] = if a < b then 1 else 0 := by
  unfold S.rank
  simp only [List.map_cons, List.map_nil, List.countP_cons, List.countP_nil, e1]
  split <;> simp
 unfold S.hand
 rw [e2]
 by_cases h1 : a < b
 ·have : ¬ a = b := fun e => by subst e; exact UInt8.lt_irrefl _ h1
  simp [h1, this]
 ·rw [if_neg h1]
  have e3 : S.blw (S.bhd b) (a :: x :: k) = decide (a = b) := by
   unfold S.blw S.bhd
   by_cases h2 : b.toNat = 255
   ·have : a = b := by
     apply UInt8.toNat_inj.1
     have h3 : ¬ a.toNat < b.toNat := h1
     omega
    simp [h2, this]
   ·rw [if_neg h2]
    have e4 : (b + 1).toNat = b.toNat + 1 := by rw [UInt8.toNat_add]; simp; omega
    have e5 : Lib.compareBytes (a :: x :: k) [b + 1] = if a < b + 1 then -1 else 1 := by
     show S.bU (a :: x :: k) [b + 1] = _
     rw [S.gq]
     split
     ·rfl
     ·split
      ·rfl
      ·exact S.iA x k
    rw [e5]
    have h3 : ¬ a.toNat < b.toNat := h1
    by_cases h4 : a = b
    ·subst h4
     have : a < a + 1 := by show a.toNat < (a + 1).toNat; omega
     simp [this]
    ·have h5 : a.toNat ≠ b.toNat := fun e => h4 (UInt8.toNat_inj.1 e)
     have : ¬ a < b + 1 := by show ¬ a.toNat < (b + 1).toNat; omega
     simp [this, h4]
  rw [List.drop_zero]
  by_cases h4 : a = b
  ·rw [if_pos h4, List.takeWhile_cons_of_pos (by rw [e3]; simp [h4])]
   rfl
  ·rw [if_neg h4, List.takeWhile_cons_of_neg (by rw [e3]; simp [h4])]
def KvO (w0 w : World) (o : Ow) (gk gt gs n : Nat) (b : Int) (es : List S.Ent) : Prop := BtO w0 w o gt gs n es /\ oD w gk gt b /\ ¬ o.has gk /\ w0.heap.size <= gk /\ w0.heap.size <= gt /\ w0.heap.size <= gs
theorem KvO.then {w0 w W : World} {o : Ow} {gk gt gs n : Nat} {b : Int} {es : List S.Ent} (h : KvO w0 w o gk gt gs n b es) (hb : Below w.heap.size w W) : KvO w0 W o gk gt gs n b es := ⟨h.1.then hb, h.2.1.below hb, h.2.2⟩
set_option maxHeartbeats 8000000 in
set_option maxRecDepth 10000 in
theorem qo (b : Int) (h0 : 0 <= b) (h2 : b <= 98304) (w : World) (hK : KAt w) (h1 : 1 < w.heap.size) :
  Calls Tryz.prog 6 #[.int .i64 b] w fun e w' => ∃ o gk gt gs, e = .returned (.tuple #[o.ptr, .pointer (some ⟨gk, 0, none⟩), .bool true]) /\ KvO w w' o gk gt gs 2 b [] := by
 have HK := hide hK
 have HP : Hid (1 < w.heap.size) := h1
 have HB := hide (And.intro h0 h2)
 clear hK h1 h0 h2
 go_enter Tryz.func6, Tryz.ntmps6
 go_wp2_with fail
 refine (new_any 8192 w (by omega) (by omega)).mono ?_
 rintro e w1 ⟨o, rfl, hd, ho, b1⟩
 have D1 : Hid (Dsk w1 o (S.Dk.new 8192)) := ⟨hd, HK.out.below b1 HK.out.pos, fun e => by have := ho 1 e; have := HP.out; omega⟩
 have O1 := hide ho
 have B1 := hide b1
 have gU : o.ptr = .pointer (some ⟨o.g, 0, none⟩) := rfl
 rw [gU]
 clear hd ho b1
 go_wp2_with fail
 rw [<- gU]
 refine (vX w w1 o 8192 (by omega) D1.out O1.out B1.out HP.out).mono ?_
 rintro e w2 ⟨rfl, o2, d2, pg, hg2, hb2⟩
 have P2 := hide hb2
 have hp2' : o2.ptr = o.ptr := by unfold Ow.ptr; rw [hg2]
 have HG2 := hide hg2
 have HP2 := hide hp2'
 clear hb2 hp2' hg2 gU
 rw [<- HP2.out]
 go_wp2_with fail
 refine (Fv w w2 o2 d2 0 2 pg [] P2.out b HB.out.1 HB.out.2).mono ?_
 rintro e w3 ⟨gk, gt, gs, rfl, hk, ht, hs, hgk, hgt, hgs, hb⟩
 have hpt : o2.ptr = .pointer (some ⟨o2.g, 0, none⟩) := rfl
 have RES : Hid (KvO w w3 o2 gk gt gs 2 b []) := ⟨⟨d2, 0, 2, pg, P2.out.then hb, ht, hs, fun e => by have := P2.out.pgs.dk.dk.lt gt e; omega, fun e => by have := P2.out.pgs.dk.dk.lt gs e; omega, lr _⟩, hk, fun e => by have := P2.out.pgs.dk.dk.lt gk e; omega, ltr P2.out.pgs.below.size hgk, ltr P2.out.pgs.below.size hgt, ltr P2.out.pgs.below.size hgs⟩
 clear hk ht hs hgk hgt hgs hb
 go_wp2_with fail
 exact bodyPost_ret (v := .tuple #[o2.ptr, .pointer (some ⟨gk, 0, none⟩), .bool true]) (by simp [results, Tryz.results6]; rfl) rfl ⟨o2, gk, gt, gs, rfl, RES.out⟩
structure KcV where
 sp : UInt8
 ka : Option Addr
 kn : Nat
 kc : Nat
 va : Option Addr
 vn : Nat
 vc : Nat
 dr : Bool
def dN (x : KcV) : List Value := [.int .u8 (x.sp.toNat : Int), .slice x.ka x.kn x.kc, .slice x.va x.vn x.vc, .bool x.dr]
theorem mr (x : KcV) : (dN x).length = 4 := rfl
def KcV.good (x : KcV) : Bool := decide (1 <= x.kn) && decide (x.kn <= 39) && decide (x.vn <= 400)
theorem Fw {w : World} {b off i : Nat} {x : KcV} (h : ∀ (r : Nat) u, (dN x)[r]? = some u -> w.cell? ⟨b, off + (i * 4 + r), none⟩ = some u) :
  w.cell? ⟨b, off + i * 4, none⟩ = some (.int .u8 (x.sp.toNat : Int)) /\ w.cell? ⟨b, off + i * 4 + 1, none⟩ = some (.slice x.ka x.kn x.kc) /\ w.cell? ⟨b, off + i * 4 + 2, none⟩ = some (.slice x.va x.vn x.vc) /\ w.cell? ⟨b, off + i * 4 + 3, none⟩ = some (.bool x.dr) :=
 ⟨h 0 _ rfl, by rw [Nat.add_assoc]; exact h 1 _ rfl, by rw [Nat.add_assoc]; exact h 2 _ rfl, by rw [Nat.add_assoc]; exact h 3 _ rfl⟩
theorem ou {w : World} {g : Nat} {a b c d : Value} {t : TypeId} (h : w.heap[g]? = some (.cells #[a, b, c, d] t (0, 0))) : w.cell? ⟨g, 0, none⟩ = some a /\ w.cell? ⟨g, 1, none⟩ = some b /\ w.cell? ⟨g, 2, none⟩ = some c /\ w.cell? ⟨g, 3, none⟩ = some d :=
 ⟨by rw [cell_of_row w g 0 _ _ _ h]; rfl, by rw [cell_of_row w g 1 _ _ _ h]; rfl, by rw [cell_of_row w g 2 _ _ _ h]; rfl, by rw [cell_of_row w g 3 _ _ _ h]; rfl⟩
set_option maxHeartbeats 4000000 in
set_option maxRecDepth 10000 in
theorem iN (v : Value) (d : List KcV) (w : World) (hd : Els dN w v d) :
  Calls Tryz.prog 18 #[v] w fun e w' => e = .returned (.bool (d.all KcV.good && decide (d.length <= 80))) /\ Below w.heap.size w w' := by
 have HD := hide hd
 obtain ⟨ao, cap, rfl, hbig⟩ := hd.form
 obtain ⟨n, hn⟩ : ∃ n, n = d.length := ⟨_, rfl⟩
 obtain ⟨r, hr⟩ : ∃ r, r = (d.all KcV.good && decide (d.length <= 80)) := ⟨_, rfl⟩
 rw [<- hr]
 rw [<- hn] at hbig ⊢
 have HN := hide hn
 have HR := hide hr
 clear hd hr hn
 go_enter Tryz.func18, Tryz.ntmps18
 go_wp2_with fail
 go_loopw [7] (fun i wr => ∃ k : Nat, k <= n /\ i = .int .i64 (k : Int) /\ Hid (Below w.heap.size w wr) /\ Hid ((d.take k).all KcV.good = true)) (fun i _ => n - (intOf i).toNat)
 case atStart => exact ⟨0, by omega, rfl, Below.refl _ _, rfl⟩
 case round =>
 obtain ⟨k, hk, rfl, BW, AL⟩ := hrel
 by_cases hlt : k < n
 ·have hkd : k < d.length := by have := HN.out; omega
  obtain ⟨b, off, cap', hv, hcap, hb, hc⟩ := HD.out.at mr k d[k] (List.getElem?_eq_getElem hkd)
  injection hv with hv1 hv2 hv3
  subst hv1 hv3
  obtain ⟨t0, t1, t2, t3⟩ := Fw hc
  have u0 := (BW.out.cell (p := ⟨b, off + k * 4, none⟩) hb).trans t0
  have u1 := (BW.out.cell (p := ⟨b, off + k * 4 + 1, none⟩) hb).trans t1
  have u2 := (BW.out.cell (p := ⟨b, off + k * 4 + 2, none⟩) hb).trans t2
  have u3 := (BW.out.cell (p := ⟨b, off + k * 4 + 3, none⟩) hb).trans t3
  have hkI : (k : Int) < (n : Int) := by omega
  have hk0 : (0 : Int) <= (k : Int) := by omega
  obtain ⟨x, hx⟩ : ∃ x, x = d[k] := ⟨_, rfl⟩
  rw [<- hx] at u0 u1 u2 u3
  have AT : Hid (d[k]? = some x) := by rw [hx]; exact List.getElem?_eq_getElem hkd
  obtain ⟨sp, ka, kn, kc, va, vn, vc, dr⟩ := x
  simp only at u0 u1 u2 u3
  clear t0 t1 t2 t3 hc hx hv2 hcap
  go_upto_region 4 with fail
  obtain ⟨W, hW⟩ : ∃ W, W = wr.alloc (.cells #[.int .u8 (sp.toNat : Int), .slice ka kn kc, .slice va vn vc, .bool dr] 30) := ⟨_, rfl⟩
  rw [<- hW]
  have bW : Below wr.heap.size wr W := by rw [hW]; exact ba ..
  have rW : W.heap[wr.heap.size]? = some (.cells #[.int .u8 (sp.toNat : Int), .slice ka kn kc, .slice va vn vc, .bool dr] 30 (0, 0)) := by rw [hW]; exact heap_alloc_new _ _
  obtain ⟨gb, hgb⟩ : ∃ gb, gb = wr.heap.size := ⟨_, rfl⟩
  rw [<- hgb] at rW ⊢
  obtain ⟨x0, x1, x2, x3⟩ := ou rW
  have BWW := hide (BW.out.trans (bW.mono BW.out.size))
  clear hW bW rW hgb u0 u1 u2 u3 BW
  have NO : Hid (¬ (1 <= kn /\ kn <= 39 /\ vn <= 400) -> r = false) := fun hno => by
   rw [HR.out]
   have : d.all KcV.good = false := by
    rw [List.all_eq_false]
    refine ⟨_, List.mem_of_getElem? AT.out, ?_⟩
    simp [KcV.good]
    omega
   rw [this]
   rfl
  by_cases h1 : kn < 1
  ·have q1 : decide ((kn : Int) < 1) = true := decide_eq_true (by omega)
   have q2 : (kn : Int) < 1 := by omega
   have q3 : (kn : Int) = 0 := by omega
   have hr0 := NO.out (by omega)
   subst hr0
   clear q3
   go_wp2_with fail
   go_ret
   exact ⟨rfl, BWW.out⟩
  ·have q1 : decide ((kn : Int) < 1) = false := decide_eq_false (by omega)
   have q2 : ¬ (kn : Int) < 1 := by omega
   by_cases h2 : 39 < kn
   ·have q3 : decide ((39 : Int) < (kn : Int)) = true := decide_eq_true (by omega)
    have q4 : (39 : Int) < (kn : Int) := by omega
    have hr0 := NO.out (by omega)
    subst hr0
    go_wp2_with fail
    go_ret
    exact ⟨rfl, BWW.out⟩
   ·have q3 : decide ((39 : Int) < (kn : Int)) = false := decide_eq_false (by omega)
    have q4 : ¬ (39 : Int) < (kn : Int) := by omega
    by_cases h3 : 400 < vn
    ·have q5 : decide ((400 : Int) < (vn : Int)) = true := decide_eq_true (by omega)
     have q6 : (400 : Int) < (vn : Int) := by omega
     have hr0 := NO.out (by omega)
     subst hr0
     go_wp2_with fail
     go_ret
     exact ⟨rfl, BWW.out⟩
    ·have q5 : decide ((400 : Int) < (vn : Int)) = false := decide_eq_false (by omega)
     have q6 : ¬ (400 : Int) < (vn : Int) := by omega
     have AL2 : Hid ((d.take (k + 1)).all KcV.good = true) := by
      show (d.take (k + 1)).all KcV.good = true
      rw [List.take_add_one, AT.out, List.all_append, AL.out]
      simp [KcV.good]
      omega
     go_wp2_with fail
     go_roundw
     case rel => exact ⟨k + 1, by omega, by go_num, BWW, AL2⟩
     case measure => simp [intOf]; omega
 ·obtain rfl : k = n := by omega
  have HRR : Hid (r = decide (k <= 80)) := by
   show r = decide (k <= 80)
   have e : d.take k = d := List.take_of_length_le (by have := HN.out; omega)
   have a := AL.out
   rw [e] at a
   rw [HR.out, a, HN.out, Bool.true_and]
  go_wp2_with fail
  go_ret
  refine ⟨?_, BW.out⟩
  rw [HRR.out]
  simp
  try omega
attribute [local go_sem] Oper.semAt_some
def S.tr (c : UInt8 × S.Cg) : S.Cg := ⟨c.1 :: c.2.key, c.2.val, c.2.dr⟩
structure qH (w : World) (x : KcV) (c : UInt8 × S.Cg) : Prop where
 sp : x.sp = c.1
 key : SliceAt w (.slice x.ka x.kn x.kc) c.2.key
 val : SliceAt w (.slice x.va x.vn x.vc) c.2.val
 dr : x.dr = c.2.dr
def jK (w : World) (d : List KcV) (cs : List (UInt8 × S.Cg)) : Prop := d.length = cs.length /\ ∀ (i : Nat) x c, d[i]? = some x -> cs[i]? = some c -> qH w x c
def lT (w : World) (g n : Nat) (l : List ChV) : Prop := ∃ cur, w.heap[g]? = some (.cells cur 77 (0, 0)) /\ l.length <= n /\ cur.size = n * 3 /\ ∀ j x, l[j]? = some x -> ∀ (r : Nat) u, (bg x)[r]? = some u -> cur[j * 3 + r]? = some u
theorem lT.lt {w : World} {g n : Nat} {l : List ChV} (h : lT w g n l) : g < w.heap.size := by
 obtain ⟨cur, hr, _⟩ := h
 exact aa hr
theorem lT.below {w W : World} {g n : Nat} {l : List ChV} (h : lT w g n l) (hb : Below w.heap.size w W) : lT W g n l := by
 obtain ⟨cur, hr, q⟩ := h
 exact ⟨cur, (hb.block g (aa hr)).trans hr, q⟩
theorem lT.store {w : World} {g n : Nat} {l : List ChV} (h : lT w g n l) (k : Nat) (hk : k < n) (x : ChV) (hl : l.length = k) :
  ∃ w', (Instr.storeAt 77 (.pointer (some ⟨g, k * 3, none⟩)) (.agg (bg x).toArray)).run Tryz.prog w = .ok () w' /\ lT w' g n (l ++ [x]) /\ Chg (fun k => k = g) w w' := by
 obtain ⟨cur, hr, q0, q3, q4⟩ := h
 have hth : w.there g (k * 3) (bg x).toArray.size := fun i hi => by
  have hi : i < 3 := hi
  refine ⟨?_, frozen_of_row _ _ _ _ _ hr⟩
  rw [cell_of_row _ _ _ _ _ _ hr, Array.getElem?_eq_getElem (by omega)]
  rfl
 have hrun := run_storeAt_mid (P := Tryz.prog) w g (k * 3) 77 (bg x).toArray hth (by rw [size34', List.size_toArray, gD]) (all_oneCell_toArray (fun v hv => nu [x] v (by simpa using hv)))
 have e : w.setCells g (k * 3) (bg x).toArray.toList = ((w.setCell ⟨g, k * 3, none⟩ (.slice x.ka x.kn x.kc)).setCell ⟨g, k * 3 + 1, none⟩ (.slice x.va x.vn x.vc)).setCell ⟨g, k * 3 + 1 + 1, none⟩ (.bool x.dr) := rfl
 rw [e] at hrun
 have r1 := heap_setCell_same w g (k * 3) _ _ (.slice x.ka x.kn x.kc) hr
 have r2 := heap_setCell_same _ g (k * 3 + 1) _ _ (.slice x.va x.vn x.vc) r1
 have r3 := heap_setCell_same _ g (k * 3 + 1 + 1) _ _ (.bool x.dr) r2
 refine ⟨_, hrun, ⟨_, r3, by rw [List.length_append]; simp; omega, by simpa using q3, fun j y hy r u hu => ?_⟩, (((Chg.refl (fun k => k = g) w).setCell g _ _ (fun _ => rfl)).setCell g _ _ (fun _ => rfl)).setCell g _ _ (fun _ => rfl)⟩
 have hr3 : r < 3 := by have := (List.getElem?_eq_some_iff.1 hu).1; rw [gD] at this; exact this
 by_cases hj : j < l.length
 ·rw [List.getElem?_append_left hj] at hy
  have h0 := q4 j y hy r u hu
  rw [Array.getElem?_setIfInBounds_ne (by omega), Array.getElem?_setIfInBounds_ne (by omega), Array.getElem?_setIfInBounds_ne (by omega)]
  exact h0
 ·have hj2 : j = k := by
   have := (List.getElem?_eq_some_iff.1 hy).1
   rw [List.length_append] at this
   simp at this
   omega
  subst hj2
  rw [List.getElem?_append_right (by omega)] at hy
  rw [show j - l.length = 0 by omega] at hy
  simp at hy
  subst hy
  match r, hu with
  | 0, hu =>
   cases hu
   rw [show j * 3 + 0 = j * 3 from rfl, Array.getElem?_setIfInBounds_ne (by omega), Array.getElem?_setIfInBounds_ne (by omega), Array.getElem?_setIfInBounds_self_of_lt (by omega)]
  | 1, hu =>
   cases hu
   rw [Array.getElem?_setIfInBounds_ne (by omega), Array.getElem?_setIfInBounds_self_of_lt (by rw [Array.size_setIfInBounds]; omega)]
  | 2, hu =>
   cases hu
   rw [Array.getElem?_setIfInBounds_self_of_lt (by rw [Array.size_setIfInBounds, Array.size_setIfInBounds]; omega)]
def fZ (w0 w : World) (g : Nat) (d : List ChV) (cs : List S.Cg) : Prop := d.length = cs.length /\ ∀ (i : Nat) x c, d[i]? = some x -> cs[i]? = some c -> SliceAt w0 (.slice x.va x.vn x.vc) c.val /\ x.dr = c.dr /\ ∃ gk, gk ≠ g /\ gk < w.heap.size /\ ∀ W : World, W.heap[gk]? = w.heap[gk]? -> SliceAt W (.slice x.ka x.kn x.kc) c.key
theorem fZ.chg {w0 w W : World} {g : Nat} {d : List ChV} {cs : List S.Cg} (h : fZ w0 w g d cs) (hc : ∀ k, k < w.heap.size -> k ≠ g -> W.heap[k]? = w.heap[k]?) (hs : w.heap.size <= W.heap.size) : fZ w0 W g d cs :=
 ⟨h.1, fun i x c hx hcx => by
  obtain ⟨h1, h2, gk, h3, h4, h5⟩ := h.2 i x c hx hcx
  exact ⟨h1, h2, gk, h3, Nat.lt_of_lt_of_le h4 hs, fun V hV => h5 V (hV.trans (hc gk h4 h3))⟩⟩
theorem fZ.below {w0 w W : World} {g : Nat} {d : List ChV} {cs : List S.Cg} (h : fZ w0 w g d cs) (hb : Below w.heap.size w W) : fZ w0 W g d cs := h.chg (fun k hk _ => hb.block k hk) hb.size
theorem fZ.snoc {w0 w : World} {g : Nat} {d : List ChV} {cs : List S.Cg} {x : ChV} {c : S.Cg} (h : fZ w0 w g d cs) (h1 : SliceAt w0 (.slice x.va x.vn x.vc) c.val) (h2 : x.dr = c.dr) (h3 : ∃ gk, gk ≠ g /\ gk < w.heap.size /\ ∀ W : World, W.heap[gk]? = w.heap[gk]? -> SliceAt W (.slice x.ka x.kn x.kc) c.key) : fZ w0 w g (d ++ [x]) (cs ++ [c]) := by
 refine ⟨by simp [h.1], fun i y c' hy hc' => ?_⟩
 by_cases hi : i < d.length
 ·rw [List.getElem?_append_left hi] at hy
  rw [List.getElem?_append_left (by have := h.1; omega)] at hc'
  exact h.2 i y c' hy hc'
 ·have hl := h.1
  have hi2 : i = d.length := by
   have := (List.getElem?_eq_some_iff.1 hy).1
   simp at this; omega
  subst hi2
  rw [List.getElem?_append_right (lr _)] at hy
  rw [List.getElem?_append_right (by omega), hl] at hc'
  simp at hy hc'
  subst hy hc'
  exact ⟨h1, h2, h3⟩
theorem fZ.are {w0 w : World} {g : Nat} {d : List ChV} {cs : List S.Cg} (h : fZ w0 w g d cs) (hb : Below w0.heap.size w0 w) : dL w d cs :=
 ⟨h.1, fun i x c hx hc => by
  obtain ⟨h1, h2, gk, _, _, h5⟩ := h.2 i x c hx hc
  exact ⟨h5 w rfl, h1.below hb (lr _), h2⟩⟩
theorem lT.els {w : World} {g n : Nat} {l : List ChV} (h : lT w g n l) (hl : l.length = n) : ∀ j u, (l.flatMap bg)[j]? = some u -> w.cell? ⟨g, 0 + j, none⟩ = some u := by
 obtain ⟨cur, hr, q0, q3, q4⟩ := h
 intro j u hj
 have hlt : j < l.length * 3 := by have := (List.getElem?_eq_some_iff.1 hj).1; rw [fq] at this; exact this
 have hx : l[j / 3]? = some (l[j / 3]'(by omega)) := List.getElem?_eq_getElem (by omega)
 have h2 := flat_get gD l (j / 3) (j % 3) _ hx (by omega)
 rw [show j / 3 * 3 + j % 3 = j by omega, hj] at h2
 rw [Nat.zero_add, cell_of_row _ _ _ _ _ _ hr]
 have h3 := q4 _ _ hx (j % 3) u h2.symm
 rwa [show j / 3 * 3 + j % 3 = j by omega] at h3
set_option maxHeartbeats 16000000 in
set_option maxRecDepth 100000 in
theorem gP (v : Value) (d : List KcV) (cs : List (UInt8 × S.Cg)) (w : World) (hd : Els dN w v d) (hc : jK w d cs) (hl : d.length <= 100000) (hkl : ∀ c ∈ cs, c.2.key.length <= 1000000) :
  Calls Tryz.prog 19 #[v] w fun e w' => ∃ g d', e = .returned (.slice (some ⟨g, 0, none⟩) d.length d.length) /\ w.heap.size <= g /\ d'.length = d.length /\ lT w' g d.length d' /\ dL w' d' (cs.map S.tr) /\ Below w.heap.size w w' := by
 have HD := hide hd
 obtain ⟨ao, cap, rfl, hbig⟩ := hd.form
 obtain ⟨n, hn⟩ : ∃ n, n = d.length := ⟨_, rfl⟩
 rw [<- hn] at hbig hl ⊢
 have HN := hide hn
 have HC := hide hc
 have HKL := hide hkl
 have HL := hide hl
 obtain ⟨i0, hi, hz, hs, hb⟩ := info_parts zx
 obtain ⟨w1, hmk, hown, hgr⟩ := run_makeSlice_full (P := Tryz.prog) (w := w) w.heap.size 57 77 i0 _ 3 Tryz.underlying57 hi hz hs .i64 .i64 n (by omega) (by rw [hb]; omega) (by simp [maxLen]; omega) (lr _)
 have B1 : Hid (Below w.heap.size w w1) := ((Chg.refl (fun k => w.heap.size <= k) w).grown hgr (fun k _ e => by simp at e)).below _ (lr _) (fun k hk e => by omega)
 have CI1 : Hid (lT w1 w.heap.size n []) := by
  rcases hown.2 with ⟨e, _⟩ | ⟨g', c', cur, e, _, h3, h4, _, h6, _⟩
  ·simp at e
  ·simp only [Value.slice.injEq, Option.some.injEq, Addr.mk.injEq] at e
   obtain ⟨⟨rfl, _, _⟩, _, rfl⟩ := e
   exact ⟨cur, h3, Nat.zero_le _, h6, fun j x hx => by simp at hx⟩
 obtain ⟨g, hg⟩ : ∃ g, g = w.heap.size := ⟨_, rfl⟩
 have AR1 : Hid (fZ w w1 g [] ((cs.take 0).map S.tr)) := ⟨by simp, fun i x c hx => by simp at hx⟩
 have HG : Hid (w.heap.size <= g) := Nat.le_of_eq hg.symm
 rw [<- hg] at hmk CI1
 clear hd hc hn hi hz hs hb hown hgr hkl hl hg
 clear i0
 go_enter Tryz.func19, Tryz.ntmps19
 go_wp2_with (first | (with_reducible refine au ⟨some 8, .makeSlice 57 (.tmp 7) (.tmp 7), 57, "kv.go:98", #[{ on := 1, ground := Ground.data }, { on := 1, ground := Ground.data }], none⟩ ?_; refine mF rfl 57 _ _ rfl _ _ rfl rfl _ _ hmk ?_))
 clear hmk
 go_loopw [11] (fun i wr => ∃ k : Nat, k <= n /\ i = .int .i64 (k : Int) /\ Hid (Below w.heap.size w wr) /\ ∃ d1 : List ChV, d1.length = k /\ Hid (lT wr g n d1) /\ Hid (fZ w wr g d1 ((cs.take k).map S.tr))) (fun i _ => n - (intOf i).toNat)
 case atStart => exact ⟨0, by omega, rfl, B1, [], rfl, CI1, AR1⟩
 case round =>
 obtain ⟨k, hk, rfl, BW, d1, hd1, CI, AR⟩ := hrel
 by_cases hlt : k < n
 ·have hkd : k < d.length := by have := HN.out; omega
  have hkc : k < cs.length := by have := HC.out.1; omega
  obtain ⟨b, off, cap', hv, hcap, hb, hc⟩ := HD.out.at mr k d[k] (List.getElem?_eq_getElem hkd)
  injection hv with hv1 hv2 hv3
  subst hv1 hv3
  obtain ⟨t0, t1, t2, t3⟩ := Fw hc
  have u0 := (BW.out.cell (p := ⟨b, off + k * 4, none⟩) hb).trans t0
  have u1 := (BW.out.cell (p := ⟨b, off + k * 4 + 1, none⟩) hb).trans t1
  have u2 := (BW.out.cell (p := ⟨b, off + k * 4 + 2, none⟩) hb).trans t2
  have u3 := (BW.out.cell (p := ⟨b, off + k * 4 + 3, none⟩) hb).trans t3
  have hkI : (k : Int) < (n : Int) := by omega
  have hk0 : (0 : Int) <= (k : Int) := by omega
  obtain ⟨x, hx⟩ : ∃ x, x = d[k] := ⟨_, rfl⟩
  obtain ⟨c, hcx⟩ : ∃ c, c = cs[k] := ⟨_, rfl⟩
  have KI : Hid (qH w x c) := by rw [hx, hcx]; exact HC.out.2 k _ _ (List.getElem?_eq_getElem hkd) (List.getElem?_eq_getElem hkc)
  have CK : Hid (cs[k]? = some c) := by rw [hcx]; exact List.getElem?_eq_getElem hkc
  rw [<- hx] at u0 u1 u2 u3
  obtain ⟨sp, ka, kn, kc, va, vn, vc, dr⟩ := x
  obtain ⟨sp', key, val, dr'⟩ := c
  obtain rfl : sp = sp' := KI.out.sp
  obtain rfl : dr = dr' := KI.out.dr
  simp only at u0 u1 u2 u3
  have KLN : Hid (key.length <= 1000000) := HKL.out _ (List.mem_of_getElem? CK.out)
  have HK1 := hide hd1
  clear t0 t1 t2 t3 hc hx hcx hv2 hcap
  go_upto_region 5 with fail
  obtain ⟨W, hW⟩ : ∃ W, W = wr.alloc (.cells #[.int .u8 (sp.toNat : Int), .slice ka kn kc, .slice va vn vc, .bool dr] 30) := ⟨_, rfl⟩
  rw [<- hW]
  have bW : Below wr.heap.size wr W := by rw [hW]; exact ba ..
  have rW : W.heap[wr.heap.size]? = some (.cells #[.int .u8 (sp.toNat : Int), .slice ka kn kc, .slice va vn vc, .bool dr] 30 (0, 0)) := by rw [hW]; exact heap_alloc_new _ _
  obtain ⟨gb, hgb⟩ : ∃ gb, gb = wr.heap.size := ⟨_, rfl⟩
  have NG : Hid (gb ≠ g) := by have := CI.out.lt; show gb ≠ g; omega
  rw [<- hgb] at rW ⊢
  have CW := hide (CI.out.below bW)
  have AW := hide (AR.out.below bW)
  have BWW := hide (BW.out.trans (bW.mono BW.out.size))
  have KX : Hid (SliceAt W (.slice ka kn kc) key) := KI.out.key.below BWW.out (lr _)
  have VX : Hid (SliceAt W (.slice va vn vc) val) := KI.out.val.below BWW.out (lr _)
  have RW := hide rW
  clear hW bW rW hgb u0 u1 u2 u3 BW CI AR
  refine wp_region_noPanic ?_
  refine wp_region_held_drew (S := (fun Z => Z.heap[gb]? = some (.cells #[.int .u8 (sp.toNat : Int), .slice ka kn kc, .slice va vn vc, .bool dr] 30 (0, 0)))) follows RW.out (fun hHeld => ?_)
  have CZ : Hid (lT W.drew g n d1) := CW.out
  have AZ : Hid (fZ w W.drew g d1 ((cs.take k).map S.tr)) := AW.out
  have BZ : Hid (Below w.heap.size w W.drew) := BWW.out.drew
  have KZ : Hid (SliceAt W.drew (.slice ka kn kc) key) := KX.out
  have VZ : Hid (SliceAt W.drew (.slice va vn vc) val) := VX.out
  clear CW AW BWW KX VX RW
  generalize W.drew = Z0 at CZ AZ BZ KZ VZ hHeld ⊢
  refine tq 0 ?_
  simp only [uA]
  refine tq 1 ?_
  simp only [uA]
  refine tq 2 ?_
  simp only [uA]
  refine tk 3 ?_ rfl (Or.inl ⟨by rfl, ?_⟩) ?_
  rotate_left
  ·intro w hSw
   obtain ⟨x0, x1, x2, x3⟩ := ou hSw
   clear hSw
   go_simp
   all_goals with_reducible rfl
  simp only [uA]
  refine tq 4 ?_
  simp only [uA]
  refine tk 5 ?_ rfl (Or.inl ⟨by rfl, ?_⟩) ?_
  rotate_left
  ·intro w hSw
   obtain ⟨x0, x1, x2, x3⟩ := ou hSw
   clear hSw
   go_simp
   all_goals with_reducible rfl
  simp only [uA]
  refine tq 7 ?_
  simp only [uA]
  refine tk 8 ?_ rfl (Or.inl ⟨by rfl, ?_⟩) ?_
  rotate_left
  ·intro w hSw
   obtain ⟨x0, x1, x2, x3⟩ := ou hSw
   clear hSw
   go_simp
   all_goals with_reducible rfl
  simp only [uA]
  refine tq 9 ?_
  simp only [uA]
  refine tk 10 ?_ rfl (Or.inl ⟨by rfl, ?_⟩) ?_
  rotate_left
  ·intro w hSw
   obtain ⟨x0, x1, x2, x3⟩ := ou hSw
   clear hSw
   go_simp
   all_goals with_reducible rfl
  simp only [uA]
  refine r1 6 fun K hK => ?_
  go_simp
  refine (iW sp _ key Z0 KZ.out KLN.out).mono ?_
  rintro e Z1 ⟨gn, cn, rfl, hgn, hrow, hsn, b1⟩
  have C1 := hide (CZ.out.below b1)
  have A1 := hide (AZ.out.below b1)
  have B1 := hide (BZ.out.trans (b1.mono BZ.out.size))
  have V1 := hide (VZ.out.below b1 (lr _))
  have K1 : Hid (gn ≠ g /\ gn < Z1.heap.size /\ ∀ W, W.heap[gn]? = Z1.heap[gn]? -> SliceAt W (.slice (some ⟨gn, 0, none⟩) (sp :: key).length cn) (sp :: key)) := ⟨by have := CZ.out.lt; omega, hrow, hsn⟩
  have h1 : Z1.heap[gb]? = _ := (b1.block gb (aa hHeld)).trans hHeld
  clear hgn hrow hsn b1 CZ AZ BZ KZ VZ hHeld
  refine hK.out _ _ h1 (fun hHeld => ?_)
  clear hK K h1
  try simp only [uA]
  refine tq 11 ?_
  simp only [uA]
  refine tq 12 ?_
  simp only [uA]
  refine rdy [13] ?_
  obtain ⟨W3, hst, hci, hcg⟩ := C1.out.store k hlt ⟨some ⟨gn, 0, none⟩, key.length + 1, cn, va, vn, vc, dr⟩ HK1.out
  have W3H : W3.heap[gb]? = _ := (hcg.block gb (aa hHeld) NG.out).trans hHeld
  have A2 := hide ((A1.out.snoc (x := ⟨some ⟨gn, 0, none⟩, key.length + 1, cn, va, vn, vc, dr⟩) (c := ⟨sp :: key, val, dr⟩) KI.out.val rfl ⟨gn, K1.out⟩).chg (fun j hj hne => hcg.block j hj hne) hcg.size)
  have B2 := hide (B1.out.trans (hcg.below _ B1.out.size (fun j hj e => by have := HG.out; omega)))
  have C2 := hide hci
  refine dH (o := ⟨_, _, _, _, _, _⟩) rfl rfl 77 (.tmp 28) (.tmp 27) rfl W3 hst AllReadyH.nil ⟨W3H, fun hHeld => ?_⟩
  simp only [Act.put]
  refine wpAnyH_done (by kernel_rfl) ?_ _
  refine NoPanic.normal ?_
  clear hHeld
  have A3 : Hid (fZ w W3 g (d1 ++ [⟨some ⟨gn, 0, none⟩, key.length + 1, cn, va, vn, vc, dr⟩]) ((cs.take (k + 1)).map S.tr)) := by
   have e1 : (cs.take (k + 1)).map S.tr = (cs.take k).map S.tr ++ [⟨sp :: key, val, dr⟩] := by rw [List.take_add_one, CK.out]; simp [S.tr]
   rw [e1]
   exact A2.out
  go_wp2_with fail
  go_roundw
  case rel => exact ⟨k + 1, by omega, by go_num, B2, _, by simp [HK1.out], C2, A3⟩
  case measure => simp [intOf]; omega
 ·obtain rfl : k = n := by omega
  have e1 : cs.take k = cs := List.take_of_length_le (by have := HC.out.1; have := HN.out; omega)
  rw [e1] at AR
  have HD1 := hide hd1
  go_wp2_with fail
  go_ret
  exact ⟨g, d1, rfl, HG.out, HD1.out, CI.out, AR.out.are BW.out, BW.out⟩
end Go.Proofs.YteealihknndclabGreatDoor
namespace Go.Proofs.YteealihknndclabGreatDoor
open Go.RowKit
open Go.Shelf
attribute [local go_sem] Oper.semAt_some
theorem Chg.putObj {p : Nat -> Prop} {w W : World} {l : Nat} {o' : Obj} (h : Chg p w W) (hl : w.heap.size <= l) : Chg p w (W.putObj l o') := by
 refine ⟨h.os, h.tape, h.output, by rw [World.putObj_size]; exact h.size, fun k hk hn => ?_⟩
 rw [World.putObj_heap_other (by omega)]
 exact h.block k hk hn
theorem gQ {W : World} {l g : Nat} {o o' : Obj} {cs : Array Value} {t : TypeId} {fr : Nat × Nat} (hg : W.heap[g]? = some (.cells cs t fr)) (hl : W.heap[l]? = some o) (hn : o.isCells = false) : (W.putObj l o').heap[g]? = some (.cells cs t fr) := by
 by_cases e : g = l
 ·subst e; rw [hg] at hl; injection hl with hl; rw [<- hl] at hn; simp [Obj.isCells] at hn
 ·rw [World.putObj_heap_other e]; exact hg
theorem kK {n : Nat} {w W : World} {l : Nat} {o' : Obj} (h : Below n w W) (hl : n <= l) : Below n w (W.putObj l o') :=
 ⟨h.os, h.tape, h.output, by rw [World.putObj_size]; exact h.size, fun k hk => by rw [World.putObj_heap_other (by omega)]; exact h.block k hk⟩
theorem FW (f : Fn) (x y : Array Value) (W : World) : (binOp .eql 34 (.func f x y) .nilFunc).run Tryz.prog W = .ok (.bool false) W := by
 have h : ∀ d : Nat, (Op.equalIn (d + 1) 34 (.func f x y) .nilFunc).run Tryz.prog W = .ok false W := fun d => by
  simp [Op.equalIn, run_underlying Tryz.underlying34]
 simp only [binOp]
 simp [Op.equal, Op.maxDepth, h 9999]
def noDef (o : Oper) : Bool := match o.op with | .defer _ => false | _ => true
theorem xK {l : List Oper} (h : l.all noDef = true) (i : Nat) (o : Oper) (ho : l.toArray[i]? = some o) (c : Call) : o.op ≠ .defer c := fun e => by
 have := List.all_eq_true.1 h o (List.mem_of_getElem? (by simpa using ho))
 rw [noDef, e] at this
 cases this
theorem yS {fn : Func} {p : Tmp} {ty : TypeId} (h : fn.results = #[.cell p ty]) (tmps : Array Value) (w : World) (g : Nat) (v : Value)
  (hp : tmps.getD p undef = .pointer (some ⟨g, 0, none⟩)) (hl : (loadVar ty ⟨g, 0, none⟩).run Tryz.prog w = .ok v w) :
  (results fn tmps).run Tryz.prog w = .ok v w := by
 have hp' : tmps[p]?.getD undef = .pointer (some ⟨g, 0, none⟩) := by simpa using hp
 simp [results, h, hp', asAddr, hl]
theorem pE {P : Program} {c : Code} {Q : Exit -> Act -> World -> Prop} {a : Act} {w : World} (h : ∀ T, T = a.tmps -> c.wp P Q { tmps := T, defers := a.defers } w) : c.wp P Q a w := h a.tmps rfl
theorem jJ.grows (B : Nat) (es : List S.Ent) (pre : List EnV) (x : EnV) {V W : World} (h : jJ B es pre x V) (hb : Below V.heap.size V W) : jJ B es pre x W := by
 obtain ⟨e, h1, h2⟩ := h
 exact ⟨e, h1, h2.below hb⟩
end Go.Proofs.YteealihknndclabGreatDoor
