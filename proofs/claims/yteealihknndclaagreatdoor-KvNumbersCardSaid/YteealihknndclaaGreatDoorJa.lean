/- pages: small functions: isPage, home, spare, fits, settle, bytes.Equal, keep. -/
/- readPage: a page is its eight sectors. -/
/- writePage: a page is written sector by sector. -/
/- has: whether a page is in a set. -/
/- Sets of pages in memory; setIn of no records. -/
import Derived.Test.YteealihknndclaaGreatDoorBy
import Derived.Test.YteealihknndclaaGreatDoorGm
import Derived.Test.YteealihknndclaaGreatDoorGt
import Derived.Laws.BitsAllLaws
import Derived.Test.YteealihknndclaaGreatDoorGv
import Derived.Great.BuildSlice
import Derived.Shelf.SlSortCmp.WholeK
import Derived.Shelf.SlicesG.Cmp
import Derived.Shelf.Lay
import Derived.Ground.SlsfProg
import Derived.Ground.SlgcProg
import Derived.Test.YteealihknndclaaGreatDoorProg
namespace Go.Proofs.YteealihknndclaaGreatDoor
open Go.RowKit

set_option maxRecDepth 10000 in
theorem mq (n : Nat) (h : n < 512) (w : World) : Calls Tryz.prog 128 #[.int .i64 (n : Int)] w fun e w' => e = .returned (.bool true) /\ w = w' := by
 have q1 : (0 : Int) <= (n : Int) := by omega
 have q2 : (n : Int) < 512 := by omega
 go_enter Tryz.func128, Tryz.ntmps128
 go_wp2_with fail
 go_ret
 exact ⟨rfl, rfl⟩
set_option maxRecDepth 10000 in
theorem wZ (k : Nat) (h : k <= 1000) (w : World) : Calls Tryz.prog 130 #[.int .i64 (k : Int)] w fun e w' => e = .returned (.int .i64 ((4101 + k * 8 : Nat) : Int)) /\ w = w' := by
 have q1 : IntKind.i64.wrap ((k : Int) * 8) = (k : Int) * 8 := by rw [IntKind.wrap_i64]; omega
 have q2 : IntKind.i64.wrap (4101 + (k : Int) * 8) = 4101 + (k : Int) * 8 := by rw [IntKind.wrap_i64]; omega
 have q3 : ((4101 + k * 8 : Nat) : Int) = 4101 + (k : Int) * 8 := by omega
 rw [q3]
 clear q3
 go_enter Tryz.func130, Tryz.ntmps130
 go_wp2_with fail
 go_ret
 exact ⟨rfl, rfl⟩
set_option maxRecDepth 10000 in
theorem zQ (k : Nat) (h : k <= 1000) (w : World) : Calls Tryz.prog 137 #[.int .i64 (k : Int)] w fun e w' => e = .returned (.int .i64 ((5 + k * 8 : Nat) : Int)) /\ w = w' := by
 have q1 : IntKind.i64.wrap ((k : Int) * 8) = (k : Int) * 8 := by rw [IntKind.wrap_i64]; omega
 have q2 : IntKind.i64.wrap (5 + (k : Int) * 8) = 5 + (k : Int) * 8 := by rw [IntKind.wrap_i64]; omega
 have q3 : ((5 + k * 8 : Nat) : Int) = 5 + (k : Int) * 8 := by omega
 rw [q3]
 clear q3
 go_enter Tryz.func137, Tryz.ntmps137
 go_wp2_with fail
 go_ret
 exact ⟨rfl, rfl⟩
set_option maxRecDepth 10000 in
theorem wy (o : Ow) (d : S.Dk) (w : World) (hd : bB w o d) (h : 7680 <= d.safe.length) : Calls Tryz.prog 69 #[o.ptr] w fun e w' => e = .returned (.bool true) /\ w = w' := by
 have HD := hide hd
 have HL : Hid (7680 <= d.safe.length) := h
 have hp : o.ptr = .pointer (some ⟨o.g, 0, none⟩) := rfl
 clear hd h
 rw [hp]
 go_enter Tryz.func69, Tryz.ntmps69
 go_wp2_with fail
 rw [<- hp]
 refine (oW o d w HD.out).mono ?_
 rintro e w1 ⟨rfl, rfl⟩
 obtain ⟨L, hL⟩ : ∃ L, L = d.safe.length := ⟨_, rfl⟩
 rw [<- hL]
 have q : (7680 : Int) <= (L : Int) := by have := HL.out; omega
 have q2 : decide ((7680 : Int) <= (L : Int)) = true := decide_eq_true q
 clear hL
 go_wp2_with fail
 go_ret
 exact ⟨rfl, rfl⟩
set_option maxRecDepth 10000 in
theorem oV (o : Ow) (d : S.Dk) (w : World) (hd : bB w o d) (h : d.pend = []) : Calls Tryz.prog 70 #[o.ptr] w fun e w' => e = .returned (.int .i64 0) /\ w = w' := by
 have HD := hide hd
 have HP := hide h
 clear hd h
 go_enter Tryz.func70, Tryz.ntmps70
 go_wp2_with fail
 refine (pu o d w HD.out).mono ?_
 rintro e w1 ⟨rfl, rfl⟩
 rw [HP.out]
 go_wp2_with fail
 go_ret
 exact ⟨rfl, rfl⟩
set_option maxRecDepth 10000 in
theorem vM (o : Ow) (d : S.Dk) (k : Nat) (ao : Option Addr) (cap : Nat) (t : List UInt8) (w : World) (hd : bB w o d) (h : k < d.safe.length) (ht : t.length = 128) (hb : d.pend.length <= 999999) (hv : ∀ W, Chg (fun k => k = o.g) w W -> SliceAt W (.slice ao 128 cap) t) :
  Calls Tryz.prog 101 #[o.ptr, .int .i64 (k : Int), .slice ao 128 cap] w (Does d [.write k t, .flush] o w) := by
 have HD := hide hd
 have HO : Hid (k < d.safe.length) := h
 have HV := hide hv
 clear hd h hv
 go_enter Tryz.func101, Tryz.ntmps101
 go_wp2_with fail
 refine (qj o d k ao cap t w HD.out HO.out ht (by omega) HV.out).mono ?_
 intro e w1 hdo
 obtain ⟨b, d1, o1, rfl, h1, h2, h3⟩ := hdo.start
 have hp : d1.pend.length <= 1000000 := by
  have := S.Dk.plan_pend [.write k t] d
  rw [h1] at this
  simp at this
  omega
 have HP := hide hp
 have H1 := hide h1
 have H2 := hide h2
 have H3 := hide h3
 have hg : o1.ptr = o.ptr := by unfold Ow.ptr; rw [h3.g]
 rw [<- hg]
 clear hdo h1 h2 h3 hp hg
 cases b with
 | false =>
  have E : S.why false = 13 := rfl
  rw [E]
  go_wp2_with fail
  go_ret
  exact Does.stop (l := [.flush]) H1.out H2.out H3.out
 | true =>
  have E : S.why true = 0 := rfl
  rw [E]
  go_wp2_with fail
  refine (ry o1 d1 w1 H2.out HP.out).mono ?_
  intro e w2 hdo
  have h4 : Does d ([.write k t] ++ [.flush]) o w e w2 := Does.on H1.out H3.out hdo
  obtain ⟨b, d2, o2, rfl, h5, h6, h7⟩ := h4.start
  have H4 := hide h4
  clear h4 h5 h6 h7 hdo
  generalize S.why b = y at H4 ⊢
  go_wp2_with fail
  go_ret
  exact H4.out
end Go.Proofs.YteealihknndclaaGreatDoor
namespace Go.Proofs.YteealihknndclaaGreatDoor
open Go.RowKit

namespace S
def secs (ss : List (List UInt8)) (f : Nat) : Nat -> List UInt8
 | 0 => []
 | i + 1 => secs ss f i ++ ss.getD (f + i) []
theorem vz {ss : List (List UInt8)} (h : ∀ i, i < ss.length -> (ss.getD i []).length = 128) (f i : Nat) (hf : f + i <= ss.length) : (secs ss f i).length = i * 128 := by
 induction i with
 | zero => rfl
 | succ i ih => rw [secs, List.length_append, ih (by omega), h _ (by omega)]; omega
def ik (ss : List (List UInt8)) (f : Nat) : List UInt8 := secs ss f 8
end S
theorem Ct (r : Nat) (hr : r <= 140737488355328) (w : World) : (Instr.makeSlice 32 (.int .i64 0) (.int .i64 (r : Int))).run Tryz.prog w = .ok (.slice (some ⟨w.heap.size, 0, none⟩) 0 r) (w.alloc (.cells (S.v8 (S.zeros r)) 5)) := by
 obtain ⟨i, hi, hz0, hz1, hz2⟩ := info_parts info5
 have h := run_make (P := Tryz.prog) w 32 5 i (.int .u8 0) Tryz.underlying32 hi hz0 .i64 .i64 0 (r : Int) (by omega) (by omega) (by rw [hz2]; omega) (by omega)
 rw [h, hz1]
 have e : madeCells (Value.int .u8 0).cells (((r : Int)).toNat * 1) = S.v8 (S.zeros r) := by
  apply Array.ext'
  simp [madeCells, S.v8, S.zeros, Value.cells]
  apply List.ext_getElem
  ·simp
  ·intro j h1 h2
   simp [Nat.mod_one]
 rw [e]
 rfl
set_option maxHeartbeats 4000000 in
set_option maxRecDepth 10000 in
theorem mO (o : Ow) (d : S.Dk) (f : Nat) (w : World) (hd : bB w o d) (hok : ∀ i, i < d.seen.length -> (d.seen.getD i []).length = 128) (hf : f + 8 <= d.safe.length) :
  Calls Tryz.prog 138 #[o.ptr, .int .i64 (f : Int)] w fun e w' => ∃ g, e = .returned (.slice (some ⟨g, 0, none⟩) 1024 1024) /\ w.heap.size <= g /\ Room w' g 1024 (S.ik d.seen f) /\ Below w.heap.size w w' := by
 have hns := hd.n
 have hff : f <= 8192 := by omega
 have HLT : Hid (∀ k, o.has k -> k < w.heap.size) := hd.lt
 have HOK := hide hok
 have HF : Hid (f + 8 <= d.safe.length) := hf
 have HSL : Hid (d.seen.length = d.safe.length) := S.Dk.seen_length d
 have hmk : ∀ w : World, (Instr.makeSlice 32 (.int .i64 0) (.int .i64 1024)).run Tryz.prog w = .ok (.slice (some ⟨w.heap.size, 0, none⟩) 0 1024) (w.alloc (.cells (S.v8 (S.zeros 1024)) 5)) := fun w => Ct 1024 (by omega) w
 obtain ⟨w1, hw1⟩ : ∃ w1, w1 = w.alloc (.cells (S.v8 (S.zeros 1024)) 5) := ⟨_, rfl⟩
 have b1 : Below w.heap.size w w1 := by rw [hw1]; exact ba ..
 have r1 : w1.heap[w.heap.size]? = some (.cells (S.v8 (S.zeros 1024)) 5 (0, 0)) := by rw [hw1]; exact heap_alloc_new _ _
 have B1 := hide b1
 have R1 : Hid (Room w1 w.heap.size 1024 []) := ⟨_, r1, by rw [S.bn, S.zeros_length], by simp, by simp [S.v8l]⟩
 have D1 := hide (hd.below b1)
 obtain ⟨g, hg⟩ : ∃ g, g = w.heap.size := ⟨_, rfl⟩
 rw [<- hg] at R1
 have HG := hide hg
 clear b1 r1 hd hok hf hns
 go_enter Tryz.func138, Tryz.ntmps138
 go_upto_region 3 with fail
 rw [<- hw1, <- hg]
 clear hw1 hg hmk
 go_loopw [5, 6] (fun b i wr => ∃ k : Nat, k <= 8 /\ b = .slice (some ⟨g, 0, none⟩) (k * 128) 1024 /\ i = .int .i64 ((f : Int) + (k : Int)) /\ Room wr g 1024 (S.secs d.seen f k) /\ bB wr o d /\ Below w.heap.size w wr) (fun _ i _ => f + 8 - (intOf i).toNat)
 case atStart => exact ⟨0, by omega, by simp, by simp, R1.out, D1.out, B1.out⟩
 case round =>
 obtain ⟨k, hk, rfl, rfl, hr, hd, hb⟩ := hrel
 have RR := hide hr
 have DD := hide hd
 have BB := hide hb
 clear hr hd hb R1 D1 B1
 have q0 : IntKind.i64.wrap ((f : Int) + 8) = (f : Int) + 8 := by rw [IntKind.wrap_i64]; omega
 by_cases hlt : k < 8
 ·have q1 : (f : Int) + (k : Int) < (f : Int) + 8 := by omega
  have q2 : IntKind.i64.wrap ((f : Int) + (k : Int) + 1) = (f : Int) + (k : Int) + 1 := by rw [IntKind.wrap_i64]; omega
  have q3 : (k : Int) < 8 := by omega
  go_wp2_with fail
  have ef : (f : Int) + (k : Int) = ((f + k : Nat) : Int) := by omega
  have RD := kQ o d (f + k) wr DD.out (by have := HF.out; omega)
  rw [<- ef] at RD
  refine RD.mono ?_
  rintro e w2 ⟨rfl, hr2, b2⟩
  have hsl := S.vz HOK.out f k (by rw [HSL.out]; have := HF.out; omega)
  have hs1 := HOK.out (f + k) (by rw [HSL.out]; have := HF.out; omega)
  have R2 := hide (RR.out.below b2 (by obtain ⟨cur, h1, _⟩ := RR.out; exact ae h1))
  have S2 : Hid (SliceAt w2 (.slice (some ⟨wr.heap.size, 0, none⟩) 128 128) (d.seen.getD (f + k) [])) := aG hr2 hs1.symm (by omega)
  have D2 := hide (DD.out.below b2)
  have B2 := hide (BB.out.trans (b2.mono BB.out.size))
  have APP := hide (kP w2 g 1024 (.slice (some ⟨wr.heap.size, 0, none⟩) 128 128) (S.secs d.seen f k) (d.seen.getD (f + k) []) 32 R2.out S2.out (by rw [hsl, hs1]; omega))
  rw [hsl] at APP
  have HE : Hid ((S.secs d.seen f k ++ d.seen.getD (f + k) []).length = (k + 1) * 128) := by show (S.secs d.seen f k ++ d.seen.getD (f + k) []).length = (k + 1) * 128; rw [List.length_append, hsl, hs1]; omega
  clear hr2 b2 RD ef hsl hs1 RR DD BB R2 S2
  go_wp2_with (at_builtin; (refine aU rfl (.tmp 23) (.tmp 24) 32 32 rfl _ _ rfl rfl APP.out ?_; rintro v3 w3 ⟨rfl, hr3, b3⟩; rw [HE.out]; have R3 := hide hr3; have B3 := hide b3; clear hr3 b3))
  have D3 : Hid (bB w3 o d) := D2.out.chg (Chg.ofBelow (p := fun k => g <= k) B3.out (fun _ _ e => e)) (fun k hk e => by have := HLT.out k hk; rw [HG.out] at e; omega)
  have B4 : Hid (Below w.heap.size w w3) := B2.out.trans (B3.out.mono (by rw [HG.out]; exact lr _))
  clear APP
  go_roundw
  case rel => exact ⟨k + 1, by omega, rfl, by go_num, R3.out, D3.out, B4.out⟩
  case measure => simp [intOf]; omega
 ·obtain rfl : k = 8 := by omega
  have q1 : ¬ ((f : Int) + 8 < (f : Int) + 8) := by omega
  go_wp2_with fail
  go_ret
  exact ⟨g, rfl, by rw [HG.out]; exact lr _, RR.out, BB.out⟩
end Go.Proofs.YteealihknndclaaGreatDoor
namespace Go.Proofs.YteealihknndclaaGreatDoor
open Go.RowKit

namespace S
def gu (f : Nat) (x : List UInt8) (i : Nat) : Ws := (List.range i).map fun j => (f + j, (x.drop (j * 128)).take 128)
theorem rT (f : Nat) (x : List UInt8) (i : Nat) : (gu f x i).length = i := by simp [gu]
theorem pz (f : Nat) (x : List UInt8) (i : Nat) : gu f x (i + 1) = gu f x i ++ [(f + i, (x.drop (i * 128)).take 128)] := by simp [gu, List.range_succ]
theorem xm (f : Nat) (x : List UInt8) (i m : Nat) (h : i <= m) : ∃ r, gu f x m = gu f x i ++ r := by
 induction m with
 | zero => exact ⟨[], by rw [show i = 0 from by omega]; simp⟩
 | succ m ih =>
  by_cases e : i = m + 1
  ·exact ⟨[], by rw [e, List.append_nil]⟩
  ·obtain ⟨r, hr⟩ := ih (by omega)
   exact ⟨r ++ [_], by rw [pz, hr, List.append_assoc]⟩
end S
set_option maxHeartbeats 4000000 in
set_option maxRecDepth 10000 in
theorem writePage_do (o : Ow) (d : S.Dk) (f : Nat) (bk off cap : Nat) (x : List UInt8) (w : World) (hd : bB w o d) (hf : f + 8 <= d.safe.length) (hv : SliceAt w (.slice (some ⟨bk, off, none⟩) 1024 cap) x) (hfar : ¬ o.has bk) (hpe : d.pend.length <= 900000) :
  Calls Tryz.prog 129 #[o.ptr, .int .i64 (f : Int), .slice (some ⟨bk, off, none⟩) 1024 cap] w (Does d (S.gu f x 8).acts o w) := by
 have hns := hd.n
 have hff : f <= 8192 := by omega
 have hcap := hv.le_cap
 obtain ⟨_, _, _, hve, hxl, _⟩ := hv.form
 simp only [Value.slice.injEq] at hve
 obtain ⟨-, rfl, -⟩ := hve
 have HXL := hide hxl
 have HV := hide hv
 have HF : Hid (f + 8 <= d.safe.length) := hf
 have HFAR := hide hfar
 have HD := hide hd
 have HBW : Hid (bk < w.heap.size) := by obtain ⟨b, o', e, h1, _⟩ := hv.src (by omega); simp only [Option.some.injEq, Addr.mk.injEq] at e; rw [e.1]; exact h1
 clear hd hf hv hfar hns hxl
 go_enter Tryz.func129, Tryz.ntmps129
 go_wp2_with fail
 go_loopw [9] (fun i wr => ∃ (k : Nat) (d1 : S.Dk) (o1 : Ow), k <= 8 /\ i = .int .i64 (k : Int) /\ Hid (d.plan (S.gu f x k).acts = (d1, true)) /\ bB wr o1 d1 /\ fE o w o1 wr) (fun i _ => 8 - (intOf i).toNat)
 case atStart => exact ⟨0, d, o, by omega, rfl, rfl, HD.out, fE.refl _ _⟩
 case round =>
 obtain ⟨k, d1, o1, hk, rfl, hpl, hdk, hto⟩ := hrel
 have HDK := hide hdk
 have HTO := hide hto
 have hpt : o1.ptr = o.ptr := by unfold Ow.ptr; rw [hto.g]
 have HPT := hide hpt
 have hlen1 : d1.safe.length = d.safe.length := by have := S.Dk.plan_len (S.gu f x k).acts d; rw [hpl.out] at this; exact this
 have HL1 := hide hlen1
 have CG : d1.pend.length <= 900000 + k := by have := S.Dk.plan_pend (S.gu f x k).acts d; rw [hpl.out] at this; simp [S.Ws.acts, S.rT] at this; omega
 have HPE1 := hide CG
 clear hdk hto hpt hlen1 CG HD
 by_cases hlt : k < 8
 ·have q1 : (k : Int) < 8 := by omega
  have q0 : (0 : Int) <= (k : Int) := by omega
  have q2 : IntKind.i64.wrap ((k : Int) + 1) = (k : Int) + 1 := by rw [IntKind.wrap_i64]; omega
  have q3 : IntKind.i64.wrap ((f : Int) + (k : Int)) = (f : Int) + (k : Int) := by rw [IntKind.wrap_i64]; omega
  obtain ⟨A, hA⟩ : ∃ A : Nat, A = k * 128 := ⟨_, rfl⟩
  obtain ⟨B, hB⟩ : ∃ B : Nat, B = k * 128 + 128 := ⟨_, rfl⟩
  have q4 : IntKind.i64.wrap ((k : Int) * 128) = (A : Int) := by rw [IntKind.wrap_i64]; omega
  have q5 : IntKind.i64.wrap (((k : Int) + 1) * 128) = (B : Int) := by rw [IntKind.wrap_i64]; omega
  have q6 : (0 : Int) <= (A : Int) := by omega
  have q7 : (A : Int) <= (B : Int) := by omega
  have q8 : (B : Int) <= (cap : Int) := by omega
  have hcA : ¬ cap = A := by omega
  have hBA : B - A = 128 := by omega
  have qba : (B : Int) - (A : Int) = 128 := by omega
  have HAK : Hid (A = k * 128) := hA
  have HBK : Hid (B = k * 128 + 128) := hB
  clear hA hB
  go_wp2_with fail
  have ef : (f : Int) + (k : Int) = ((f + k : Nat) : Int) := by omega
  have hb1 : ¬ o1.has bk := fun e => by
   rcases HTO.out.own bk e with e | e
   ·exact HFAR.out e
   ·have := HBW.out; omega
  have hsl : ∀ W, Chg (fun k => k = o1.g) wr W -> SliceAt W (.slice (some ⟨bk, off + A, none⟩) 128 (cap - A)) ((x.drop A).take 128) := fun W hW => by
   have h1 : SliceAt wr (.slice (some ⟨bk, off, none⟩) 1024 cap) x := HV.out.dk HTO.out (fun a e => by simp only [Option.some.injEq] at e; rw [<- e]; exact HFAR.out)
   have h2 : fE o1 wr o1 W := ⟨rfl, hW.mono (fun k _ e => Or.inl e), fun _ e => Or.inl e⟩
   have h3 : SliceAt W (.slice (some ⟨bk, off, none⟩) 1024 cap) x := h1.dk h2 (fun a e => by simp only [Option.some.injEq] at e; rw [<- e]; exact hb1)
   have h4 := jT h3 A B (by omega) (by have := HBK.out; omega)
   rw [if_neg hcA, hBA, List.drop_take, hBA] at h4
   simp only [Option.map_some, Addr.add_lit] at h4
   exact h4
  have HSL := hide hsl
  clear hsl hb1
  rw [<- HPT.out, ef]
  refine (qj o1 d1 (f + k) (some ⟨bk, off + A, none⟩) (cap - A) ((x.drop A).take 128) wr HDK.out (by rw [HL1.out]; have := HF.out; omega) (by rw [List.length_take, List.length_drop, <- HXL.out]; have := HAK.out; omega) (by have := HPE1.out; omega) HSL.out).mono ?_
  intro e w1 hdo
  obtain ⟨b, d2, o2, rfl, h1, h2, h3⟩ := hdo.start
  have EP : Hid (S.gu f x (k + 1) = S.gu f x k ++ [(f + k, (x.drop A).take 128)]) := by rw [HAK.out]; exact S.pz f x k
  have hpl2 : d.plan (S.gu f x (k + 1)).acts = (d2, b) := by
   rw [EP.out, S.jC, S.Dk.plan_app, hpl.out]
   exact h1
  have HPL2 := hide hpl2
  have H2 := hide h2
  have H3 := hide (HTO.out.trans h3)
  have hp2 : o2.ptr = o1.ptr := by unfold Ow.ptr; rw [h3.g]
  clear hdo h1 h2 h3 HDK HSL hpl2 ef
  cases b with
  | false =>
   have E : S.why false = 13 := rfl
   rw [E]
   obtain ⟨r, hr⟩ := S.xm f x (k + 1) 8 (by omega)
   have HR : Hid ((S.gu f x 8).acts = (S.gu f x (k + 1)).acts ++ S.Ws.acts r) := by rw [hr]; exact S.jC _ _
   clear hr
   go_wp2_with fail
   go_ret
   rw [HR.out]
   exact Does.stop HPL2.out H2.out H3.out
  | true =>
   have E : S.why true = 0 := rfl
   rw [E]
   rw [HPT.out]
   clear hp2
   go_wp2_with fail
   go_roundw
   case rel => exact ⟨k + 1, d2, o2, by omega, by go_num, HPL2.out, H2.out, H3.out⟩
   case measure => simp [intOf]; omega
 ·obtain rfl : k = 8 := by omega
  have q1 : ¬ ((8 : Int) < 8) := by omega
  go_wp2_with fail
  go_ret
  exact ⟨by rw [hpl.out]; rfl, o1, by rw [hpl.out]; exact HDK.out, HTO.out⟩
end Go.Proofs.YteealihknndclaaGreatDoor
namespace Go.Proofs.YteealihknndclaaGreatDoor
open Go.RowKit

namespace S
def bit (s : List UInt8) (n : Nat) : Bool := bits BinOp.and IntKind.u8 (((s.getD (n / 8) 0).toNat : Int) / 2 ^ (n % 8)) 1 == 1
theorem zn (s : List UInt8) (n : Nat) : bit s n = decide ((s.getD (n / 8) 0).toNat / 2 ^ (n % 8) % 2 = 1) := by
 unfold bit
 generalize (s.getD (n / 8) 0) = x
 generalize n % 8 = r
 have h1 : ((x.toNat : Int) / 2 ^ r) = ((x.toNat / 2 ^ r : Nat) : Int) := by push_cast; rfl
 have h2 : x.toNat / 2 ^ r < 256 := Nat.lt_of_le_of_lt (Nat.div_le_self _ _) x.toNat_lt
 rw [h1, show (1 : Int) = ((1 : Nat) : Int) from rfl, u8_and_nat _ _ h2 (by omega), Nat.and_one_is_mod]
 by_cases h : x.toNat / 2 ^ r % 2 = 1
 ·rw [h]; rfl
 ·rw [decide_eq_false h]
  have h3 : x.toNat / 2 ^ r % 2 = 0 := by omega
  rw [h3]
  rfl
end S
set_option maxHeartbeats 4000000 in
set_option maxRecDepth 10000 in
theorem bit_any (C : Array Value) (s : List UInt8) (n : Nat) (w : World) (hC : C = S.v8 s) (hs : s.length = 64) (hn : n < 512) :
  Calls Tryz.prog 177 #[.agg C, .int .i64 (n : Int)] w fun e w' => e = .returned (.bool (S.bit s n)) /\ Below w.heap.size w w' := by
 obtain ⟨w1, hw1⟩ : ∃ w1, w1 = w.alloc (.cells C 149) := ⟨_, rfl⟩
 have r1 : w1.heap[w.heap.size]? = some (.cells (S.v8 s) 149 (0, 0)) := by rw [hw1, hC]; exact heap_alloc_new _ _
 obtain ⟨q, hq⟩ : ∃ q : Nat, q = n / 8 := ⟨_, rfl⟩
 obtain ⟨r, hr⟩ : ∃ r : Nat, r = n % 8 := ⟨_, rfl⟩
 have c1 := dE r1 q (by omega)
 obtain ⟨x, hx⟩ : ∃ x, x = s.getD q 0 := ⟨_, rfl⟩
 rw [<- hx] at c1
 have q1 : (n : Int) / 8 = (q : Int) := by omega
 have q2 : (n : Int) % 8 = (r : Int) := by omega
 have q3 : (0 : Int) <= (q : Int) := by omega
 have q4 : (q : Int) < 64 := by omega
 have q5 : (0 : Int) <= (r : Int) := by omega
 have q6 : (r : Int) < 8 := by omega
 have q7 : (0 : Int) <= (n : Int) := by omega
 rw [hw1] at c1
 have HB : Hid (Below w.heap.size w (w.alloc (.cells C 149))) := ba ..
 have HE : Hid (S.bit s n = (bits BinOp.and IntKind.u8 ((x.toNat : Int) / 2 ^ r) 1 == 1)) := by rw [hx, hq, hr]; rfl
 clear r1 hC hs hq hr hx
 go_enter Tryz.func177, Tryz.ntmps177
 go_wp2_with fail
 go_ret
 exact ⟨by rw [HE.out]; rfl, HB.out⟩
end Go.Proofs.YteealihknndclaaGreatDoor
namespace Go.Proofs.YteealihknndclaaGreatDoor
open Go.RowKit

theorem wU : (Tryz.prog.info? 149).map (·.size) = some 64 := by kernel_rfl
theorem iO (w : World) : (Instr.alloc 149 true (.tuple #[])).run Tryz.prog w = .ok (.pointer (some ⟨w.heap.size, 0, none⟩)) (w.alloc (.cells (S.v8 (S.zeros 64)) 149)) := by
 have h1 : (Tryz.prog.info? 149).map (fun i => (i.size, i.bytes)) = some (64, 64) := by kernel_rfl
 have h2 : (Tryz.prog.info? 149).bind (·.zero) = some (.agg (S.v8 (S.zeros 64))) := by kernel_rfl
 obtain ⟨i, hi, hz, _, _⟩ := dW h1 h2
 simp [Instr.alloc, zeroValue, typeInfo, hi, hz, newVar, newRow, Value.cells]
theorem kX {w : World} {g : Nat} {xs : List UInt8} (h : w.heap[g]? = some (.cells (S.v8 xs) 149 (0, 0))) (hl : xs.length = 64) : (Instr.loadAt 149 (.pointer (some ⟨g, 0, none⟩))).run Tryz.prog w = .ok (.agg (S.v8 xs)) w := by
 rw [S.jN] at h ⊢
 exact run_loadAt_mid (P := Tryz.prog) w _ 0 149 _ _ (aY h) Tryz.underlying149 rfl (by rw [wU, S.ai, hl])
theorem lL {w : World} {g : Nat} {xs : List UInt8} (h : w.heap[g]? = some (.cells (S.v8 xs) 149 (0, 0))) (hl : xs.length = 64) : (loadVar 149 ⟨g, 0, none⟩).run Tryz.prog w = .ok (.agg (S.v8 xs)) w := by
 rw [S.jN] at h ⊢
 exact run_loadVar_mid (P := Tryz.prog) w g 0 149 _ _ (aY h) Tryz.underlying149 rfl (by rw [wU, S.ai, hl])
theorem mJ {w : World} {g : Nat} {xs ys : List UInt8} (h : w.heap[g]? = some (.cells (S.v8 xs) 149 (0, 0))) (hx : xs.length = 64) (hy : ys.length = 64) :
  ∃ w', (Instr.storeAt 149 (.pointer (some ⟨g, 0, none⟩)) (.agg (S.v8 ys))).run Tryz.prog w = .ok () w' /\ w'.heap[g]? = some (.cells (S.v8 ys) 149 (0, 0)) /\ Chg (fun k => k = g) w w' := by
 have hr := run_storeVar_row (P := Tryz.prog) w g 149 149 _ (S.v8 ys) h (by rw [wU, S.bn, hy]) (by rw [S.bn, S.bn, hx, hy]) (S.jW _)
 refine ⟨w.setRow g (S.v8 ys), ?_, setRow_heap w g _ _ _ _ h, Chg.setRow (p := fun k => k = g) g _ rfl⟩
 simp only [Instr.storeAt, Instr.sureAddr, Sem.run_bind, Sem.run_pure, Result.andThen_ok, hr]
theorem uK (w : World) (ys : List UInt8) (hy : ys.length = 64) : ∃ w', (Instr.storeAt 149 (.pointer (some ⟨w.heap.size, 0, none⟩)) (.agg (S.v8 ys))).run Tryz.prog (w.alloc (.cells (S.v8 (S.zeros 64)) 149)) = .ok () w' /\ w'.heap[w.heap.size]? = some (.cells (S.v8 ys) 149 (0, 0)) /\ Below w.heap.size w w' := by
 obtain ⟨w', h1, h2, h3⟩ := mJ (w := w.alloc (.cells (S.v8 (S.zeros 64)) 149)) (g := w.heap.size) (xs := S.zeros 64) (ys := ys) (heap_alloc_new _ _) (S.zeros_length _) hy
 have b : Below w.heap.size w (w.alloc (.cells (S.v8 (S.zeros 64)) 149)) := ba ..
 exact ⟨w', h1, h2, b.trans (h3.base b.size (lr _))⟩
set_option maxHeartbeats 4000000 in
set_option maxRecDepth 10000 in
theorem zJ (al : Option Addr) (cl : Nat) (w : World) :
  Calls Tryz.prog 114 #[.slice al 0 cl] w fun e w' => e = .returned (.tuple #[.agg (S.v8 (S.zeros 64)), .bool true]) /\ Below w.heap.size w w' := by
 have kK := iO w
 obtain ⟨w1, hw1⟩ : ∃ w1, w1 = w.alloc (.cells (S.v8 (S.zeros 64)) 149) := ⟨_, rfl⟩
 have jo := iO w1
 obtain ⟨w2, hw2⟩ : ∃ w2, w2 = w1.alloc (.cells (S.v8 (S.zeros 64)) 149) := ⟨_, rfl⟩
 have b1 : Below w.heap.size w w1 := by rw [hw1]; exact ba ..
 have b2 : Below w1.heap.size w1 w2 := by rw [hw2]; exact ba ..
 have r1 : w1.heap[w.heap.size]? = some (.cells (S.v8 (S.zeros 64)) 149 (0, 0)) := by rw [hw1]; exact heap_alloc_new _ _
 have r2 : w2.heap[w1.heap.size]? = some (.cells (S.v8 (S.zeros 64)) 149 (0, 0)) := by rw [hw2]; exact heap_alloc_new _ _
 have r12 : w2.heap[w.heap.size]? = some (.cells (S.v8 (S.zeros 64)) 149 (0, 0)) := (b2.block _ (ae r1)).trans r1
 have ld := kX r2 (S.zeros_length _)
 obtain ⟨w3, hst, r3, c3⟩ := mJ (ys := S.zeros 64) r12 (S.zeros_length _) (S.zeros_length _)
 have R3 := hide r3
 have B3 : Hid (Below w.heap.size w w3) := by
  have h := b1.trans (b2.mono b1.size)
  exact h.trans (c3.base h.size (lr _))
 rw [<- hw1] at kK
 rw [<- hw2] at jo
 obtain ⟨g1, hg1⟩ : ∃ g1, g1 = w.heap.size := ⟨_, rfl⟩
 obtain ⟨g2, hg2⟩ : ∃ g2, g2 = w1.heap.size := ⟨_, rfl⟩
 rw [<- hg1] at kK hst R3
 rw [<- hg2] at jo ld
 obtain ⟨Z, hZ⟩ : ∃ Z, Z = S.v8 (S.zeros 64) := ⟨_, rfl⟩
 rw [<- hZ] at ld hst ⊢
 have HZ := hide hZ
 clear b1 b2 r1 r2 r12 r3 c3 hw1 hw2 hg1 hg2 hZ
 go_enter Tryz.func114, Tryz.ntmps114
 go_wp2_with (first | (with_reducible refine aD ⟨some 2, .alloc 149, 0, "set.go:23", #[], none⟩ ?_; refine aA rfl 149 rfl (.pointer (some ⟨g1, 0, none⟩)) w1 kK ?_) | (with_reducible refine aD ⟨some 4, .alloc 149, 0, "set.go:24", #[], none⟩ ?_; refine aA rfl 149 rfl (.pointer (some ⟨g2, 0, none⟩)) w2 jo ?_) | (with_reducible refine aD ⟨some 10, .load 149 (.tmp 4), 149, "set.go:27", #[], none⟩ ?_; refine aC rfl 149 (.tmp 4) rfl (.pointer (some ⟨g2, 0, none⟩)) rfl (.agg Z) ld ?_) | (with_reducible refine aD ⟨none, .store 149 (.tmp 2) (.tmp 10), 0, "set.go:27", #[{ on := 0, ground := Ground.data }, { on := 0, ground := Ground.phase }], none⟩ ?_; refine aB rfl 149 (.tmp 2) (.tmp 10) rfl (.pointer (some ⟨g1, 0, none⟩)) (.agg Z) rfl rfl w3 hst ?_))
 refine bodyPost_ret (bM Tryz.results114 _ _ g1 (.agg Z) rfl (by rw [HZ.out]; exact lL R3.out (S.zeros_length _))) rfl ⟨rfl, B3.out⟩
structure Wi (B : Nat) (w : World) (g : Nat) (bs : List UInt8) : Prop where
 is : ∃ v, gT w g v bs /\ ∀ k, v.ownBlock = some k -> B <= k
 at_ : B <= g
 base : B <= w.heap.size
theorem Wi.below {B : Nat} {w W : World} {g : Nat} {bs : List UInt8} (h : Wi B w g bs) (hb : Below w.heap.size w W) : Wi B W g bs := by
 obtain ⟨v, h1, h2⟩ := h.is
 exact ⟨⟨v, h1.below hb, h2⟩, h.at_, ltr h.base hb.size⟩
theorem size144 : (Tryz.prog.info? 144).map (·.size) = some 2 := by kernel_rfl
theorem set2 {w : World} {g : Nat} {a b : Value} {t : TypeId} (a' b' : Value) (h : w.heap[g]? = some (.cells #[a, b] t (0, 0))) : ((w.setCell ⟨g, 0, none⟩ a').setCell ⟨g, 1, none⟩ b').heap[g]? = some (.cells #[a', b'] t (0, 0)) := by
 have h1 := heap_setCell_same w g 0 _ _ a' h
 rw [heap_setCell_same _ g 1 _ _ b' h1]
 rfl
theorem chg2 (w : World) (g : Nat) (a b : Value) : Chg (fun k => k = g) w ((w.setCell ⟨g, 0, none⟩ a).setCell ⟨g, 1, none⟩ b) := ((Chg.refl (fun k => k = g) _).setCell g 0 a (fun _ => rfl)).setCell g 1 b (fun _ => rfl)
theorem CB : (Tryz.prog.info? 144).map (fun i => (i.zero, i.size, i.bytes)) = some (some (.agg #[.int .i64 0, .slice none 0 0]), 2, 32) := by kernel_rfl
end Go.Proofs.YteealihknndclaaGreatDoor
namespace Go.Proofs.YteealihknndclaaGreatDoor
open Go.RowKit

end Go.Proofs.YteealihknndclaaGreatDoor
namespace Go.Proofs.YteealihknndclaaGreatDoor
open Go.RowKit

end Go.Proofs.YteealihknndclaaGreatDoor
namespace Go.Proofs
open Go.Shelf Go.RowKit Go.Lib Go.Sort
shelf_lay_g SlLaysF0.n6 Slsf 6 at Tryz 125 as Tryz.sortSheets
shelf_lay_g SlLaysC2.n5 Slgc 5 at Tryz 127 as Tryz.cmpInt
end Go.Proofs
namespace Go.Proofs.YteealihknndclaaGreatDoor
open Go.Shelf Go.RowKit Go.Lib Go.Sort

abbrev ShV := Int × Option Addr × Nat × Nat
def ShV.list (x : ShV) : Value := .slice x.2.1 x.2.2.1 x.2.2.2
theorem vT (x y : ShV) : ltOf xX x y = decide (x.1 < y.1) := by
 unfold ltOf xX Lib.compareInt
 by_cases h1 : x.1 < y.1
 ·simp [h1]
 ·by_cases h2 : y.1 < x.1 <;> simp [h1, h2]
theorem swoSh : SWO (ltOf xX) where
 irrefl x := by rw [vT]; simp
 trans x y z h1 h2 := by rw [vT] at *; simp at *; omega
 ntrans x y z h1 h2 := by rw [vT] at *; simp at *; omega

theorem yU (w : World) : (isAgg 144).run Tryz.prog w = .ok true w := by kernel_rfl
end Go.Proofs.YteealihknndclaaGreatDoor
namespace Go.Proofs.YteealihknndclaaGreatDoor
open Go.RowKit

structure ShR (w : World) (g : Nat) (d : List ShV) : Prop where
 row : ∃ cur, w.heap[g]? = some (.cells cur 144 (0, 0)) /\ cur.toList.take (d.length * 2) = d.flatMap di
theorem ShR.cells {w : World} {g : Nat} {d : List ShV} (h : ShR w g d) (i : Nat) (x : ShV) (hx : d[i]? = some x) : w.cell? ⟨g, i * 2, none⟩ = some (.int .i64 x.1) /\ w.cell? ⟨g, i * 2 + 1, none⟩ = some x.list := by
 obtain ⟨cur, h1, h2⟩ := h.row
 have hl : i < d.length := (List.getElem?_eq_some_iff.1 hx).1
 obtain ⟨e0, e1⟩ := rH d i x hx
 rw [<- h2, List.getElem?_take, if_pos (by omega)] at e0 e1
 exact ⟨by rw [cell_of_row w g _ _ 144 _ h1]; simpa using e0, by rw [cell_of_row w g _ _ 144 _ h1]; simpa using e1⟩
theorem ShR.lt {w : World} {g : Nat} {d : List ShV} (h : ShR w g d) : g < w.heap.size := by obtain ⟨cur, h1, _⟩ := h.row; exact aa h1
theorem ShR.below {w W : World} {g : Nat} {d : List ShV} (h : ShR w g d) (hb : Below w.heap.size w W) : ShR W g d := by
 obtain ⟨cur, h1, h2⟩ := h.row
 exact ⟨cur, (hb.block g (aa h1)).trans h1, h2⟩
open Go.Sort (flatK size_flatK get_flatK HoldsK)

end Go.Proofs.YteealihknndclaaGreatDoor
namespace Go.Proofs.YteealihknndclaaGreatDoor
open Go.RowKit

namespace S
end S
end Go.Proofs.YteealihknndclaaGreatDoor
namespace Go.Proofs.YteealihknndclaaGreatDoor
open Go.RowKit

theorem info3 : (Tryz.prog.info? 3).map (fun i => (i.zero, i.size, i.bytes)) = some (some (.int .i64 0), 1, 8) := by kernel_rfl
end Go.Proofs.YteealihknndclaaGreatDoor
namespace Go.Proofs.YteealihknndclaaGreatDoor
open Go.RowKit

namespace S
def put (ss : List (List UInt8)) (f : Nat) (x : List UInt8) : Nat -> List (List UInt8)
 | 0 => ss
 | i + 1 => (put ss f x i).set (f + i) ((x.drop (i * 128)).take 128)
theorem qP (ss : List (List UInt8)) (f : Nat) (x : List UInt8) (i : Nat) : (put ss f x i).length = ss.length := by
 induction i with
 | zero => rfl
 | succ i ih => rw [put, List.length_set, ih]
theorem put_at (ss : List (List UInt8)) (f : Nat) (x : List UInt8) (i j : Nat) (hf : f + i <= ss.length) (h : j < i) : (put ss f x i).getD (f + j) [] = (x.drop (j * 128)).take 128 := by
 induction i with
 | zero => omega
 | succ i ih =>
 by_cases e : j = i
 ·subst e
  rw [put, List.getD_eq_getElem?_getD, List.getElem?_set_self (by rw [qP]; omega)]
  rfl
 ·rw [put, List.getD_eq_getElem?_getD, List.getElem?_set_ne (by omega), <- List.getD_eq_getElem?_getD, ih (by omega) (by omega)]
end S
theorem Lo.beside {w0 w w2 : World} {o o2 : Ow} {d d2 : S.Dk} {g f c p t : Nat} {rs : List (List UInt8)} {tv : Value} (h : Lo w0 w o d g f c p t rs tv) (hd : bi w2 o2 d2) (hm : dG o w o2 w2) (hp : d2.pend = []) (hl : d2.safe.length = d.safe.length) (hs : ∀ j, f <= j -> j < f + c -> d2.safe.getD j [] = d.safe.getD j []) : Lo w0 w2 o2 d2 g f c p t rs tv := by
 have hg : g < w.heap.size := aa h.log.lg.row
 have ht : ∀ k, tv.ownBlock = some k -> k < w.heap.size := fun k hk => h.log.lg.text.lt hk
 have hpt : o2.ptr = o.ptr := by unfold Ow.ptr; rw [hm.g]
 refine ⟨⟨h.log.dk.to hd hm, hp, h.log.good.stay hl hs, by rw [hpt]; exact h.log.lg.chg hm.chg h.log.no h.log.far, fun e => ?_, h.log.pos, fun k hk e => ?_, h.log.tpos⟩, fun k e => ?_, h.gb, h.tb, h.below.trans (hm.chg.below _ h.below.size (fun k hk e => by have := h.ob k e; omega)), h.pos⟩
 ·rcases hm.own g e with e | e
 ·exact h.log.no e
 ·omega
 ·rcases hm.own k e with e | e
 ·exact h.log.far k hk e
 ·have := ht k hk; omega
 ·rcases hm.own k e with e | e
 ·exact h.ob k e
 ·exact ltr h.below.size e
namespace S
def bE (s : List UInt8) (n : Nat) : List UInt8 := s.set (n / 8) (s.getD (n / 8) 0 ||| UInt8.ofNat (2 ^ (n % 8)))
theorem dC (s : List UInt8) (n : Nat) : (bE s n).length = s.length := by unfold bE; rw [List.length_set]
def aJ (ns : List Nat) : List UInt8 := ns.foldl bE (zeros 64)
theorem or_bits (r : Nat) (x : UInt8) (h : r < 8) : bits BinOp.or IntKind.u8 (x.toNat : Int) (IntKind.u8.wrap (2 ^ r)) = ((x ||| UInt8.ofNat (2 ^ r)).toNat : Int) := by
 have e : IntKind.u8.wrap (2 ^ r) = (((UInt8.ofNat (2 ^ r)).toNat : Nat) : Int) := by
 match r, h with
 | 0, _ => rfl
 | 1, _ => rfl
 | 2, _ => rfl
 | 3, _ => rfl
 | 4, _ => rfl
 | 5, _ => rfl
 | 6, _ => rfl
 | 7, _ => rfl
 rw [e, u8_or_nat _ _ (UInt8.toNat_lt x) (UInt8.toNat_lt _), UInt8.toNat_or]
def pgs (d : List ShV) : List Nat := d.map (fun x => x.1.toNat)
end S
theorem ownsRow_below {w W : World} {base : Nat} {e : TypeId} {size : Nat} {v : Value} {n : Nat} {xs : List Value} (h : w.ownsRow base e size v n xs) (hb : Below w.heap.size w W) : W.ownsRow base e size v n xs := by
 refine ⟨h.1, ?_⟩
 rcases h.2 with h2 | ⟨g, cap, cur, h1, h2, h3, h4⟩
 ·exact Or.inl h2
 ·exact Or.inr ⟨g, cap, cur, h1, h2, (hb.block g (aa h3)).trans h3, h4⟩
namespace S
def ints (l : List Nat) : List Value := l.map (fun n : Nat => Value.int .i64 (n : Int))
end S
end Go.Proofs.YteealihknndclaaGreatDoor
namespace Go.Proofs.YteealihknndclaaGreatDoor
namespace S
theorem uH (s : List UInt8) (hs : s.length = 64) (n m : Nat) (hn : n < 512) : bit (bE s n) m = (bit s m || decide (m = n)) := by
 rw [qx, qx]
 unfold bE
 have hr : n % 8 < 8 := Nat.mod_lt _ (by omega)
 have hr' : m % 8 < 8 := Nat.mod_lt _ (by omega)
 by_cases hq : m / 8 = n / 8
 ·rw [hq, List.getD_eq_getElem?_getD, List.getElem?_set_self (by omega), Option.getD_some]
 have key : ∀ a b : Fin 8, (UInt8.ofNat (2 ^ a.val)).toNat.testBit b.val = decide (b.val = a.val) := by decide
 rw [<- Nat.testBit_eq_decide_div_mod_eq, <- Nat.testBit_eq_decide_div_mod_eq, UInt8.toNat_or, Nat.testBit_or, key ⟨n % 8, hr⟩ ⟨m % 8, hr'⟩]
 congr 1
 apply decide_eq_decide.2
 constructor
 ·intro h
  have h : m % 8 = n % 8 := h
  omega
 ·rintro rfl
  rfl
 ·rw [List.getD_eq_getElem?_getD, List.getElem?_set_ne (fun e => hq e.symm), <- List.getD_eq_getElem?_getD]
 have : ¬ m = n := fun e => hq (by rw [e])
 rw [decide_eq_false this, Bool.or_false]
theorem Df (ns : List Nat) (s : List UInt8) (hs : s.length = 64) (h : ∀ n ∈ ns, n < 512) (m : Nat) : bit (ns.foldl bE s) m = (bit s m || decide (m ∈ ns)) := by
 induction ns generalizing s with
 | nil => simp
 | cons n r ih =>
 rw [List.foldl_cons, ih _ (by rw [dC]; exact hs) (fun x hx => h x (List.mem_cons_of_mem _ hx)), uH s hs n m (h n List.mem_cons_self), Bool.or_assoc]
 congr 1
 simp [List.mem_cons]
theorem si (ns : List Nat) (h : ∀ n ∈ ns, n < 512) (m : Nat) : bit (aJ ns) m = decide (m ∈ ns) := by
 unfold aJ
 rw [Df ns _ (zeros_length _) h, lY, Bool.false_or]
end S
end Go.Proofs.YteealihknndclaaGreatDoor
namespace Go.Proofs.YteealihknndclaaGreatDoor
open Go.RowKit

namespace S
def oo (xs : List (List UInt8)) (k : Nat) : List Act := (List.range k).flatMap (fun i => (dJ (4101 + i * 8) (xs.getD i []) 8).acts)
end S
end Go.Proofs.YteealihknndclaaGreatDoor
namespace Go.Proofs.YteealihknndclaaGreatDoor
namespace S
def dB (f : Nat -> Nat) (xs : List (List UInt8)) (k : Nat) : Ws := (List.range k).flatMap fun i => dJ (f i) (xs.getD i []) 8
theorem gH (f : Nat -> Nat) (xs : List (List UInt8)) (k : Nat) : dB f xs (k + 1) = dB f xs k ++ dJ (f k) (xs.getD k []) 8 := by
 unfold dB
 rw [List.range_succ, List.flatMap_append, List.flatMap_singleton]
def bK (ss : List (List UInt8)) (f : Nat -> Nat) (xs : List (List UInt8)) : Nat -> List (List UInt8)
 | 0 => ss
 | k + 1 => put (bK ss f xs k) (f k) (xs.getD k []) 8
theorem Br (ss : List (List UInt8)) (p : Ws) (f : Nat) (x : List UInt8) (i : Nat) : over ss (p ++ dJ f x i) = put (over ss p) f x i := by
 induction i with
 | zero => show over ss (p ++ []) = _; rw [List.append_nil]; rfl
 | succ i ih => rw [kU, <- List.append_assoc, lS, ih]; rfl
theorem qR (ss : List (List UInt8)) (f : Nat -> Nat) (xs : List (List UInt8)) (k : Nat) : over ss (dB f xs k) = bK ss f xs k := by
 induction k with
 | zero => rfl
 | succ k ih => rw [gH, Br, ih]; rfl
theorem jv (d : Dk) (f : Nat -> Nat) (xs : List (List UInt8)) (k : Nat) (hp : d.pend = []) : d.acts ((dB f xs k).acts ++ [.flush]) = { d with safe := bK d.safe f xs k, pend := [] } := by
 rw [Dk.acts_app, Dk.acts_writes, hp, List.nil_append]
 show ({ d with safe := over d.safe (dB f xs k), pend := [] } : Dk) = _
 rw [qR]
theorem Dk.plan_alike {d d' : Dk} {l : List Act} (h : d.plan l = (d', true)) : d'.Alike (d.acts l) := by
 obtain ⟨n, _, h1, h2, _⟩ := Dk.plan_first l d
 rw [h] at h1 h2
 have := h2 rfl
 rw [this, List.take_length] at h1
 exact h1
theorem Dk.plan_pages {d d' : Dk} {f : Nat -> Nat} {xs : List (List UInt8)} {k : Nat} (hp : d.pend = []) (h : d.plan (dB f xs k).acts = (d', true)) : d'.safe = d.safe /\ d'.seen = bK d.safe f xs k := by
 have a := Dk.plan_alike h
 rw [Dk.acts_writes, hp, List.nil_append] at a
 refine ⟨a.safe, ?_⟩
 rw [a.seen]
 exact qR _ _ _ _
theorem Dk.plan_flushed {d d' : Dk} {f : Nat -> Nat} {xs : List (List UInt8)} {k : Nat} (hp : d.pend = []) (h : d.plan ((dB f xs k).acts ++ [.flush]) = (d', true)) : d'.safe = bK d.safe f xs k /\ d'.pend = [] := by
 have a := Dk.plan_alike h
 rw [jv d f xs k hp] at a
 exact ⟨a.safe, a.pend⟩
theorem Dk.plan_no {d d' : Dk} {k l : List Act} (h : d.plan k = (d', false)) : d.plan (k ++ l) = (d', false) := by
 rw [Dk.plan_app, h]
 rfl
theorem Dk.plan_yes {d d' : Dk} {k l : List Act} (h : d.plan k = (d', true)) : d.plan (k ++ l) = d'.plan l := by
 rw [Dk.plan_app, h, if_pos rfl]
def bN (ns : List Nat) (i : Nat) : Nat := 5 + ns.getD i 0 * 8
def fF (d : Dk) (p t : Nat) (ns : List Nat) (xs : List (List UInt8)) : List Act := ((dB (bN ns) xs ns.length).acts ++ [.flush]) ++ commitActs { d with safe := bK d.safe (bN ns) xs ns.length, pend := [] } 1 4 p t [aJ ns] []
theorem getD_lt {ns : List Nat} (h : ∀ n ∈ ns, n < 512) (i : Nat) (hi : i < ns.length) : ns.getD i 0 < 512 := by
 rw [List.getD_eq_getElem?_getD, List.getElem?_eq_getElem hi, Option.getD_some]
 exact h _ (List.getElem_mem hi)
theorem setL_ne (ns : List Nat) (h : ∀ n ∈ ns, n < 512) (hne : ns ≠ []) : (aJ ns == zeros 64) = false := by
 refine beq_false_of_ne (fun e => ?_)
 cases ns with
 | nil => exact hne rfl
 | cons n r =>
 have h1 := si (n :: r) h n
 rw [e, lY] at h1
 simp at h1
theorem apart (ns : List Nat) (hp : ns.Pairwise (· < ·)) (i j : Nat) (hi : i < ns.length) (hj : j < ns.length) (h : i ≠ j) : bN ns i + 8 <= bN ns j \/ bN ns j + 8 <= bN ns i := by
 unfold bN
 rw [List.getD_eq_getElem?_getD, List.getD_eq_getElem?_getD, List.getElem?_eq_getElem hi, List.getElem?_eq_getElem hj, Option.getD_some, Option.getD_some]
 rw [List.pairwise_iff_getElem] at hp
 rcases Nat.lt_or_gt_of_ne h with e | e
 ·have := hp i j hi hj e; omega
 ·have := hp j i hj hi e; omega
end S
end Go.Proofs.YteealihknndclaaGreatDoor
namespace Go.Proofs.YteealihknndclaaGreatDoor
open Go.RowKit

end Go.Proofs.YteealihknndclaaGreatDoor
namespace Go.Proofs.YteealihknndclaaGreatDoor
open Go.RowKit

theorem set_row {w : World} {g : Nat} {xs : List UInt8} {t : TypeId} (h : w.heap[g]? = some (.cells (S.v8 xs) t (0, 0))) (hl : xs.length = 64) : SliceAt w (.slice (some ⟨g, 0, none⟩) 64 64) xs :=
 Or.inr (Or.inr ⟨g, 0, 64, by rw [hl], by omega, by omega, aa h, fun j hj => by rw [Nat.zero_add]; exact bH h j hj⟩)
structure Pn (w0 w : World) (o : Ow) (d : S.Dk) (p t : Nat) (pg : Nat -> List UInt8) : Prop where
 dk : Dsk w o d
 pend : d.pend = []
 len : 7680 <= d.safe.length
 mark : d.safe.getD 0 [] = S.fu
 log : S.Good d.safe 1 4 p t []
 home : ∀ n, n < 512 -> S.bQ d.safe (5 + n * 8) = pg n
 ob : ∀ k, o.has k -> w0.heap.size <= k
 below : Below w0.heap.size w0 w
 pos : 1 < w0.heap.size
theorem Pg.n {w0 w : World} {o : Ow} {d : S.Dk} {p t : Nat} {pg : Nat -> List UInt8} (h : Pg w0 w o d p t pg) : Pn w0 w o d p t pg := ⟨h.dk, h.pend, h.len, h.mark, h.log, h.home, h.ob, h.below, h.pos⟩
theorem Pn.then {w0 w W : World} {o : Ow} {d : S.Dk} {p t : Nat} {pg : Nat -> List UInt8} (h : Pn w0 w o d p t pg) (hb : Below w.heap.size w W) : Pn w0 W o d p t pg :=
 ⟨h.dk.below hb, h.pend, h.len, h.mark, h.log, h.home, h.ob, h.below.trans (hb.mono h.below.size), h.pos⟩
theorem Pn.seen {w0 w : World} {o : Ow} {d : S.Dk} {p t : Nat} {pg : Nat -> List UInt8} (h : Pn w0 w o d p t pg) : d.seen = d.safe := S.Dk.seen_flushed d h.pend
set_option maxHeartbeats 4000000 in
set_option maxRecDepth 10000 in
theorem Ff (w0 w : World) (o : Ow) (d : S.Dk) (p t : Nat) (pg : Nat -> List UInt8) (h : Pn w0 w o d p t pg) :
 Calls Tryz.prog 71 #[o.ptr] w fun e w' => ∃ g tv, e = .returned (.tuple #[.pointer (some ⟨g, 0, none⟩), .agg (S.v8 (S.zeros 64)), .int .i64 0]) /\ Lo w0 w' o d g 1 4 p t [] tv /\ w.heap.size <= g /\ (∀ k, tv.ownBlock = some k -> w.heap.size <= k) /\ Below w.heap.size w w' := by
 have gQ := dO w
 obtain ⟨w1, hw1⟩ : ∃ w1, w1 = w.alloc (.cells (S.v8 (S.zeros 64)) 149) := ⟨_, rfl⟩
 have b1 : Below w.heap.size w w1 := by rw [hw1]; exact ba ..
 have r1 : w1.heap[w.heap.size]? = some (.cells (S.v8 (S.zeros 64)) 149 (0, 0)) := by rw [hw1]; exact heap_alloc_new _ _
 rw [<- hw1] at gQ
 obtain ⟨g3, hg3⟩ : ∃ g3, g3 = w.heap.size := ⟨_, rfl⟩
 rw [<- hg3] at gQ r1
 have R1 := hide r1
 have B1 := hide b1
 have P1 := hide (h.then b1)
 have HLT : Hid (∀ k, o.has k -> k < g3) := fun k hk => by rw [hg3]; exact h.dk.dk.lt k hk
 have HG3 : Hid (w.heap.size <= g3) := by rw [hg3]; exact lr _
 have Gp : Hid (g3 = w.heap.size) := hg3
 have HW0 : Hid (w0.heap.size <= w.heap.size) := h.below.size
 clear b1 r1 hw1 hg3 h
 go_enter Tryz.func71, Tryz.ntmps71
 go_wp2_with (with_reducible refine ak ⟨some 3, .alloc 149, 0, "place.go:70", #[], none⟩ ?_; refine af rfl 149 rfl (.pointer (some ⟨g3, 0, none⟩)) w1 gQ ?_)
 clear gQ
 refine (jI o d 0 w1 P1.out.dk.dk (by have := P1.out.len; omega)).mono ?_
 rintro e w2 ⟨rfl, hr2, b2⟩
 rw [P1.out.seen, P1.out.mark] at hr2
 have cv := aP (ay (n := 128) hr2 S.dA.symm (by rw [S.dA]; omega))
 have P2 := hide (P1.out.then b2)
 have R2 : Hid (w2.heap[g3]? = some (.cells (S.v8 (S.zeros 64)) 149 (0, 0))) := (b2.block g3 (aa R1.out)).trans R1.out
 have B2 := hide (B1.out.trans (b2.mono B1.out.size))
 have hq : S.fu = [112, 97, 103, 101, 115, 32, 116, 104, 97, 116, 32, 97, 114, 101, 32, 112, 117, 116, 32, 116, 111, 103, 101, 116, 104, 101, 114, 32, 46, 46, 46, 32, 112, 97, 103, 101, 115, 32, 116, 104, 97, 116, 32, 97, 114, 101, 32, 112, 117, 116, 32, 116, 111, 103, 101, 116, 104, 101, 114, 32, 46, 46, 46, 32].append [112, 97, 103, 101, 115, 32, 116, 104, 97, 116, 32, 97, 114, 101, 32, 112, 117, 116, 32, 116, 111, 103, 101, 116, 104, 101, 114, 32, 46, 46, 46, 32, 112, 97, 103, 101, 115, 32, 116, 104, 97, 116, 32, 97, 114, 101, 32, 112, 117, 116, 32, 116, 111, 103, 101, 116, 104, 101, 114, 32, 46, 46, 46, 32] := rfl
 clear hr2 b2 R1 B1 P1
 go_wp2_with fail
 clear cv hq
 refine (vB w0 w2 o d 1 4 p t [] P2.out.dk P2.out.pend P2.out.log P2.out.ob P2.out.below P2.out.pos).mono ?_
 rintro e w4 ⟨g, tv, rfl, hlo, hgb, htb, b4⟩
 have LO4 := hide hlo
 have G4 : Hid (g3 < g /\ w.heap.size <= g /\ (∀ k, tv.ownBlock = some k -> g3 < k /\ w.heap.size <= k)) := by
 have h1 := aa R2.out
 have h2 := Gp.out
 exact ⟨by omega, by omega, fun k hk => by have := htb k hk; exact ⟨by omega, by omega⟩⟩
 have R4 : Hid (w4.heap[g3]? = some (.cells (S.v8 (S.zeros 64)) 149 (0, 0))) := (b4.block g3 (aa R2.out)).trans R2.out
 have B4 := hide (B2.out.trans (b4.mono B2.out.size))
 clear hlo hgb htb b4 R2 B2 P2
 go_wp2_with fail
 refine (mE w0 w4 o d g 1 4 p t [] tv LO4.out (by simp)).mono ?_
 rintro e w5 ⟨lv, us, rfl, hrec, b5⟩
 obtain ⟨al, cl, hlv⟩ := hrec.lists.shape
 subst hlv
 have hul : us.length = 0 := hrec.copies.len
 rw [hul]
 have LO5 := hide (LO4.out.then b5)
 have R5 : Hid (w5.heap[g3]? = some (.cells (S.v8 (S.zeros 64)) 149 (0, 0))) := (b5.block g3 (aa R4.out)).trans R4.out
 have B5 := hide (B4.out.trans (b5.mono B4.out.size))
 clear hrec b5 hul LO4 R4 B4
 go_wp2_with fail
 refine (tO al cl w5).mono ?_
 rintro e w6 ⟨rfl, b6⟩
 have LO6 := hide (LO5.out.then b6)
 have R6 : Hid (w6.heap[g3]? = some (.cells (S.v8 (S.zeros 64)) 149 (0, 0))) := (b6.block g3 (aa R5.out)).trans R5.out
 have B6 := hide (B5.out.trans (b6.mono B5.out.size))
 clear b6 LO5 R5 B5
 have fC := dO w6
 obtain ⟨w9, jc, r9, b9⟩ := kZ w6 (S.zeros 64) (S.zeros_length _)
 have R9 := hide r9
 have LO9 := hide (LO6.out.then b9)
 have R39 : Hid (w9.heap[g3]? = some (.cells (S.v8 (S.zeros 64)) 149 (0, 0))) := (b9.block g3 (aa R6.out)).trans R6.out
 have B9 := hide (B6.out.trans (b9.mono B6.out.size))
 have h36 := aa R6.out
 have N93 : Hid (¬ w6.heap.size = g3) := fun e => by omega
 have NG3 : Hid (∀ k, (o.has k \/ k = g \/ tv.ownBlock = some k \/ k < w0.heap.size) -> ¬ k = g3) := fun k hk e => by
 subst e
 rcases hk with hk | hk | hk | hk
 ·exact absurd (HLT.out _ hk) (Nat.lt_irrefl _)
 ·have := G4.out.1; omega
 ·have := (G4.out.2.2 _ hk).1; omega
 ·have := HW0.out; have := HG3.out; omega
 obtain ⟨w7, hw7⟩ : ∃ w7, w7 = w6.alloc (.cells (S.v8 (S.zeros 64)) 149) := ⟨_, rfl⟩
 rw [<- hw7] at fC jc
 obtain ⟨g9, hg9⟩ : ∃ g9, g9 = w6.heap.size := ⟨_, rfl⟩
 rw [<- hg9] at fC jc R9 N93
 clear r9 b9 h36 LO6 R6 B6 hg9 hw7
 go_upto_region 10 with (first | (with_reducible refine ak ⟨some 9, .alloc 149, 0, "place.go:78", #[], none⟩ ?_; refine af rfl 149 rfl (.pointer (some ⟨g9, 0, none⟩)) w7 fC ?_) | (with_reducible refine ak ⟨none, .store 149 (.tmp 9) (.tmp 33), 0, "place.go:78", #[{ on := 6, ground := Ground.data }, { on := 4, ground := Ground.data }, { on := 2, ground := Ground.chain }, { on := 0, ground := Ground.phase }, { on := 1, ground := Ground.phase }, { on := 2, ground := Ground.phase }, { on := 3, ground := Ground.phase }, { on := 4, ground := Ground.phase }, { on := 5, ground := Ground.textOnly Departure.lateStores }, { on := 6, ground := Ground.phase }], none⟩ ?_; refine ah rfl 149 (.tmp 9) (.tmp 33) rfl (.pointer (some ⟨g9, 0, none⟩)) (.agg (S.v8 (S.zeros 64))) rfl rfl w9 jc ?_))
 clear fC jc
 refine wp_region_noPanic ?_
 refine wp_region_held_drew (S := (fun W => W.heap[g9]? = some (.cells (S.v8 (S.zeros 64)) 149 (0, 0)))) follows R9.out (fun hHeld => ?_)
 have LOd := hide (LO9.out.then (Below.refl w9.heap.size w9).drew)
 have B9d : Hid (Below w.heap.size w w9.drew) := B9.out.drew
 have R3d : Hid (w9.drew.heap[g3]? = some (.cells (S.v8 (S.zeros 64)) 149 (0, 0))) := R39.out
 clear LO9 B9 R9 R39
 generalize w9.drew = Z1 at LOd B9d R3d hHeld ⊢
 refine tq 0 ?_
 simp only [uA]
 refine wpAnyH_take (i := 1) (oi := ⟨_, _, _, _, _, _⟩) (v := .agg (S.v8 (S.zeros 64))) rfl (by kernel_rfl) (by kernel_rfl) (by kernel_rfl) (fun _ _ _ h => h) (dK (by kernel_rfl) (.tmp 9) rfl g9 rfl (S.zeros_length _) (fun W hW => hW)) (by assumption) ?_
 simp only [uA]
 refine tq 2 ?_
 simp only [uA]
 obtain ⟨Z2, hst, r3, c3⟩ := jQ (ys := S.zeros 64) R3d.out (S.zeros_length _) (S.zeros_length _)
 have R3 := hide r3
 have LO2 : Hid (Lo w0 Z2 o d g 1 4 p t [] tv) := LOd.out.chg c3 NG3.out
 have B2 : Hid (Below w.heap.size w Z2) := B9d.out.trans (c3.base B9d.out.size HG3.out)
 have a2 : Z2.heap[g9]? = some (.cells (S.v8 (S.zeros 64)) 149 (0, 0)) := c3.row hHeld N93.out
 refine rdy [3] ?_
 refine fe (o := ⟨_, _, _, _, _, _⟩) rfl rfl 149 (.tmp 3) (.tmp 39) rfl Z2 hst AllReadyH.nil ⟨a2, fun hHeld => ?_⟩
 simp only [Act.put]
 clear hst r3 c3 LOd B9d R3d a2
 refine tq 4 ?_
 simp only [uA]
 refine wpAnyH_done (by kernel_rfl) ?_ _
 refine NoPanic.normal ?_
 clear hHeld
 go_wp2_with fail
 refine bodyPost_ret (kT Tryz.results71 _ _ g3 (.agg (S.v8 (S.zeros 64))) rfl (iT R3.out (S.zeros_length _))) rfl ⟨g, tv, rfl, LO2.out, G4.out.2.1, fun k hk => (G4.out.2.2 k hk).2, B2.out⟩
set_option maxHeartbeats 4000000 in
set_option maxRecDepth 10000 in
theorem pread_n (w0 w : World) (o : Ow) (d : S.Dk) (p t gs n : Nat) (pg : Nat -> List UInt8) (h : Pn w0 w o d p t pg) (hs : dX w gs o) (hn : n < 512) :
 Calls Tryz.prog 140 #[.pointer (some ⟨gs, 0, none⟩), .int .i64 (n : Int)] w fun e w' => ∃ gp, e = .returned (.tuple #[.slice (some ⟨gp, 0, none⟩) 1024 1024, .int .i64 0]) /\ w.heap.size <= gp /\ Room w' gp 1024 (pg n) /\ Pn w0 w' o d p t pg /\ dX w' gs o /\ Below w.heap.size w w' := by
 have P0 := hide h
 have S0 := hide hs
 clear h hs
 go_enter Tryz.func140, Tryz.ntmps140
 go_wp2_with fail
 refine (kr n hn w).mono ?_
 rintro e w1 ⟨rfl, rfl⟩
 have c0 := iI S0.out
 go_wp2_with fail
 have gP : o.ptr = .pointer (some ⟨o.g, 0, none⟩) := rfl
 rw [<- gP]
 refine (Ff w0 w o d p t pg P0.out).mono ?_
 rintro e w1 ⟨g, tv, rfl, hlo, hgb, htb, b1⟩
 have P1 := hide (P0.out.then b1)
 have B1 := hide b1
 have S1 : Hid (dX w1 gs o) := (b1.block gs (aa S0.out)).trans S0.out
 clear hlo hgb htb b1 P0 S0 c0
 have hal := dO w1
 obtain ⟨w3, hst, r3, b3⟩ := kZ w1 (S.zeros 64) (S.zeros_length _)
 have P3 := hide (P1.out.then b3)
 have B3 := hide (B1.out.trans (b3.mono B1.out.size))
 have S3 : Hid (dX w3 gs o) := (b3.block gs (aa S1.out)).trans S1.out
 obtain ⟨w2, hw2⟩ : ∃ w2, w2 = w1.alloc (.cells (S.v8 (S.zeros 64)) 149) := ⟨_, rfl⟩
 rw [<- hw2] at hal hst
 have ld := iE r3 (S.zeros_length _)
 obtain ⟨g2, hg2⟩ : ∃ g2, g2 = w1.heap.size := ⟨_, rfl⟩
 rw [<- hg2] at hal hst ld
 obtain ⟨Z, hZ⟩ : ∃ Z, Z = S.v8 (S.zeros 64) := ⟨_, rfl⟩
 rw [<- hZ] at hst ld ⊢
 have HZ := hide hZ
 clear r3 b3 hw2 hg2 hZ P1 B1 S1 gP
 go_wp2_with (first | (with_reducible refine ak ⟨some 7, .alloc 149, 0, "pages.go:60", #[], none⟩ ?_; refine af rfl 149 rfl (.pointer (some ⟨g2, 0, none⟩)) w2 hal ?_) | (with_reducible refine ak ⟨none, .store 149 (.tmp 7) (.tmp 19), 0, "pages.go:60", #[{ on := 9, ground := Ground.data }, { on := 7, ground := Ground.data }, { on := 10, ground := Ground.chain }, { on := 0, ground := Ground.phase }, { on := 1, ground := Ground.phase }, { on := 2, ground := Ground.phase }, { on := 3, ground := Ground.phase }, { on := 4, ground := Ground.phase }, { on := 5, ground := Ground.phase }, { on := 6, ground := Ground.phase }, { on := 7, ground := Ground.phase }, { on := 8, ground := Ground.textOnly Departure.lateStores }, { on := 9, ground := Ground.phase }, { on := 10, ground := Ground.phase }], none⟩ ?_; refine ah rfl 149 (.tmp 7) (.tmp 19) rfl (.pointer (some ⟨g2, 0, none⟩)) (.agg Z) rfl rfl w3 hst ?_) | (with_reducible refine ak ⟨some 24, .load 149 (.tmp 7), 149, "pages.go:64", #[], none⟩ ?_; refine au rfl 149 (.tmp 7) rfl (.pointer (some ⟨g2, 0, none⟩)) rfl (.agg Z) ld ?_))
 clear hal hst ld
 refine (vV Z (S.zeros 64) n w3 HZ.out (S.zeros_length _) hn).mono ?_
 rintro e w6 ⟨rfl, b6⟩
 rw [S.lY]
 have P6 := hide (P3.out.then b6)
 have B6 := hide (B3.out.trans (b6.mono B3.out.size))
 have ST6 : Hid (dX w6 gs o) := (b6.block gs (aa S3.out)).trans S3.out
 clear b6 P3 B3 S3
 go_upto_region 8 with fail
 refine wp_region_noPanic ?_
 refine wp_region_held_drew (S := (fun W => W.heap[gs]? = some (.cells #[.pointer (some ⟨o.g, 0, none⟩)] 153 (0, 0)))) follows ST6.out (fun hHeld => ?_)
 have P6d := hide (P6.out.then (Below.refl w6.heap.size w6).drew)
 have B6d : Hid (Below w.heap.size w w6.drew) := B6.out.drew
 clear P6 B6 ST6
 generalize w6.drew = Z1 at P6d B6d hHeld ⊢
 refine tq 0 ?_
 simp only [uA]
 refine tq 1 ?_
 simp only [uA]
 refine tq 2 ?_
 simp only [uA]
 refine tk 3 ?_ rfl (Or.inl ⟨by rfl, ?_⟩) ?_
 rotate_left
 ·intro w hSw
 have c0 := iI hSw
 clear hSw
 go_simp
 all_goals with_reducible rfl
 simp only [uA]
 refine tq 4 ?_
 simp only [uA]
 refine r1 5 fun K hK => ?_
 go_simp
 refine (oK n (by omega) Z1).mono ?_
 rintro e Z2 ⟨rfl, rfl⟩
 refine hK.out _ _ hHeld (fun hHeld => ?_)
 clear hK K
 try simp only [uA]
 refine r1 6 fun K hK => ?_
 go_simp
 have RP := iK o d (5 + n * 8) Z1 P6d.out.dk.dk (fun i hi => by rw [P6d.out.seen] at hi ⊢; exact P6d.out.dk.dk.ok.len i hi) (by have := P6d.out.len; omega)
 rw [P6d.out.seen, P6d.out.home n hn, show o.ptr = .pointer (some ⟨o.g, 0, none⟩) from rfl] at RP
 try rw [show ((5 + n * 8 : Nat) : Int) = 5 + (n : Int) * 8 by omega] at RP
 refine RP.mono ?_
 rintro e Z2 ⟨gp, rfl, hgp, hrm, b2⟩
 have a2 : Z2.heap[gs]? = some (.cells #[.pointer (some ⟨o.g, 0, none⟩)] 153 (0, 0)) := (b2.block gs (aa hHeld)).trans hHeld
 have P7 := hide (P6d.out.then b2)
 have RM := hide hrm
 have GP : Hid (w.heap.size <= gp) := ltr B6d.out.size hgp
 have ST7 := hide a2
 have B7 : Hid (Below w.heap.size w Z2) := B6d.out.trans (b2.mono B6d.out.size)
 clear RP hgp hrm b2 hHeld P6d B6d
 refine hK.out _ _ a2 (fun hHeld => ?_)
 clear hK K
 try simp only [uA]
 clear a2
 refine tq 7 ?_
 simp only [uA]
 refine tq 8 ?_
 simp only [uA]
 refine wpAnyH_done (by kernel_rfl) ?_ _
 refine NoPanic.normal ?_
 clear hHeld
 go_wp2_with fail
 go_ret2
 exact ⟨gp, rfl, GP.out, RM.out, P7.out, ST7.out, B7.out⟩
end Go.Proofs.YteealihknndclaaGreatDoor
