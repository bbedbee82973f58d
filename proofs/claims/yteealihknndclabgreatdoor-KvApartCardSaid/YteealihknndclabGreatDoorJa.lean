/- pages: small functions: isPage, home, spare, fits, settle, bytes.Equal, keep. -/
/- readPage: a page is its eight sectors. -/
/- writePage: a page is written sector by sector. -/
/- has: whether a page is in a set. -/
/- Sets of pages in memory; setIn of no records. -/
import Derived.Test.YteealihknndclabGreatDoorBy
import Derived.Test.YteealihknndclabGreatDoorGl
import Derived.Test.YteealihknndclabGreatDoorGt
import Derived.Laws.BitsAllLaws
import Derived.Test.YteealihknndclabGreatDoorGv
import Derived.Great.BuildSlice
namespace Go.Proofs.YteealihknndclabGreatDoor
open Go.RowKit

set_option maxRecDepth 10000 in
theorem kF (n : Nat) (h : n < 512) (w : World) : Calls Tryz.prog 95 #[.int .i64 (n : Int)] w fun e w' => e = .returned (.bool true) /\ w = w' := by
 have q1 : (0 : Int) <= (n : Int) := by omega
 have q2 : (n : Int) < 512 := by omega
 go_enter Tryz.func95, Tryz.ntmps95
 go_wp2_with fail
 go_ret
 exact ⟨rfl, rfl⟩
set_option maxRecDepth 10000 in
theorem mR (k : Nat) (h : k <= 1000) (w : World) : Calls Tryz.prog 97 #[.int .i64 (k : Int)] w fun e w' => e = .returned (.int .i64 ((4101 + k * 8 : Nat) : Int)) /\ w = w' := by
 have q1 : IntKind.i64.wrap ((k : Int) * 8) = (k : Int) * 8 := by rw [IntKind.wrap_i64]; omega
 have q2 : IntKind.i64.wrap (4101 + (k : Int) * 8) = 4101 + (k : Int) * 8 := by rw [IntKind.wrap_i64]; omega
 have q3 : ((4101 + k * 8 : Nat) : Int) = 4101 + (k : Int) * 8 := by omega
 rw [q3]
 clear q3
 go_enter Tryz.func97, Tryz.ntmps97
 go_wp2_with fail
 go_ret
 exact ⟨rfl, rfl⟩
set_option maxRecDepth 10000 in
theorem pq (k : Nat) (h : k <= 1000) (w : World) : Calls Tryz.prog 105 #[.int .i64 (k : Int)] w fun e w' => e = .returned (.int .i64 ((5 + k * 8 : Nat) : Int)) /\ w = w' := by
 have q1 : IntKind.i64.wrap ((k : Int) * 8) = (k : Int) * 8 := by rw [IntKind.wrap_i64]; omega
 have q2 : IntKind.i64.wrap (5 + (k : Int) * 8) = 5 + (k : Int) * 8 := by rw [IntKind.wrap_i64]; omega
 have q3 : ((5 + k * 8 : Nat) : Int) = 5 + (k : Int) * 8 := by omega
 rw [q3]
 clear q3
 go_enter Tryz.func105, Tryz.ntmps105
 go_wp2_with fail
 go_ret
 exact ⟨rfl, rfl⟩
set_option maxRecDepth 10000 in
theorem yj (o : Ow) (d : S.Dk) (w : World) (hd : aZ w o d) (h : 7680 <= d.safe.length) : Calls Tryz.prog 66 #[o.ptr] w fun e w' => e = .returned (.bool true) /\ w = w' := by
 have HD := hide hd
 have HL : Hid (7680 <= d.safe.length) := h
 have hp : o.ptr = .pointer (some ⟨o.g, 0, none⟩) := rfl
 clear hd h
 rw [hp]
 go_enter Tryz.func66, Tryz.ntmps66
 go_wp2_with fail
 rw [<- hp]
 refine (qb o d w HD.out).mono ?_
 rintro e w1 ⟨rfl, rfl⟩
 obtain ⟨L, hL⟩ : ∃ L, L = d.safe.length := ⟨_, rfl⟩
 rw [<- hL]
 have q : (7680 : Int) <= (L : Int) := by have := HL.out; omega
 have q2 : decide ((7680 : Int) <= (L : Int)) = true := decide_eq_true q
 clear hL
 go_wp2_with fail
 go_ret
 exact ⟨rfl, rfl⟩
set_option maxRecDepth 10000 in
theorem kU (o : Ow) (d : S.Dk) (w : World) (hd : aZ w o d) (h : d.pend = []) : Calls Tryz.prog 70 #[o.ptr] w fun e w' => e = .returned (.int .i64 0) /\ w = w' := by
 have HD := hide hd
 have HP := hide h
 clear hd h
 go_enter Tryz.func70, Tryz.ntmps70
 go_wp2_with fail
 refine (qj o d w HD.out).mono ?_
 rintro e w1 ⟨rfl, rfl⟩
 rw [HP.out]
 go_wp2_with fail
 go_ret
 exact ⟨rfl, rfl⟩
set_option maxRecDepth 10000 in
theorem xB (o : Ow) (d : S.Dk) (k : Nat) (ao : Option Addr) (cap : Nat) (t : List UInt8) (w : World) (hd : aZ w o d) (h : k < d.safe.length) (ht : t.length = 128) (hb : d.pend.length <= 999999) (hv : ∀ W, Chg (fun k => k = o.g) w W -> SliceAt W (.slice ao 128 cap) t) :
  Calls Tryz.prog 67 #[o.ptr, .int .i64 (k : Int), .slice ao 128 cap] w (Does d [.write k t, .flush] o w) := by
 have HD := hide hd
 have HO : Hid (k < d.safe.length) := h
 have HV := hide hv
 clear hd h hv
 go_enter Tryz.func67, Tryz.ntmps67
 go_wp2_with fail
 refine (qU o d k ao cap t w HD.out HO.out ht (by omega) HV.out).mono ?_
 intro e w1 hdo
 obtain ⟨b, d1, o1, rfl, h1, h2, h3⟩ := hdo.start
 have hp : d1.pend.length <= 1000000 := by
  have := S.Dk.plan_pend [.write k t] d
  rw [h1] at this
  simp at this
  omega
 have HP := hide hp
 have H1 := hide h1
 have H2 := hide h2
 have H3 := hide h3
 have hg : o1.ptr = o.ptr := by unfold Ow.ptr; rw [h3.g]
 rw [<- hg]
 clear hdo h1 h2 h3 hp hg
 cases b with
 | false =>
  have E : S.why false = 13 := rfl
  rw [E]
  go_wp2_with fail
  go_ret
  exact Does.stop (l := [.flush]) H1.out H2.out H3.out
 | true =>
  have E : S.why true = 0 := rfl
  rw [E]
  go_wp2_with fail
  refine (lD o1 d1 w1 H2.out HP.out).mono ?_
  intro e w2 hdo
  have h4 : Does d ([.write k t] ++ [.flush]) o w e w2 := Does.on H1.out H3.out hdo
  obtain ⟨b, d2, o2, rfl, h5, h6, h7⟩ := h4.start
  have H4 := hide h4
  clear h4 h5 h6 h7 hdo
  generalize S.why b = y at H4 ⊢
  go_wp2_with fail
  go_ret
  exact H4.out
end Go.Proofs.YteealihknndclabGreatDoor
namespace Go.Proofs.YteealihknndclabGreatDoor
open Go.RowKit

namespace S
def secs (ss : List (List UInt8)) (f : Nat) : Nat -> List UInt8
 | 0 => []
 | i + 1 => secs ss f i ++ ss.getD (f + i) []
theorem wV {ss : List (List UInt8)} (h : ∀ i, i < ss.length -> (ss.getD i []).length = 128) (f i : Nat) (hf : f + i <= ss.length) : (secs ss f i).length = i * 128 := by
 induction i with
 | zero => rfl
 | succ i ih => rw [secs, List.length_append, ih (by omega), h _ (by omega)]; omega
def bT (ss : List (List UInt8)) (f : Nat) : List UInt8 := secs ss f 8
end S
theorem Fg (r : Nat) (hr : r <= 140737488355328) (w : World) : (Instr.makeSlice 22 (.int .i64 0) (.int .i64 (r : Int))).run Tryz.prog w = .ok (.slice (some ⟨w.heap.size, 0, none⟩) 0 r) (w.alloc (.cells (S.v8 (S.zeros r)) 5)) := by
 obtain ⟨i, hi, hz0, hz1, hz2⟩ := info_parts info5
 have h := run_make (P := Tryz.prog) w 22 5 i (.int .u8 0) Tryz.underlying22 hi hz0 .i64 .i64 0 (r : Int) (by omega) (by omega) (by rw [hz2]; omega) (by omega)
 rw [h, hz1]
 have e : madeCells (Value.int .u8 0).cells (((r : Int)).toNat * 1) = S.v8 (S.zeros r) := by
  apply Array.ext'
  simp [madeCells, S.v8, S.zeros, Value.cells]
  apply List.ext_getElem
  ·simp
  ·intro j h1 h2
   simp [Nat.mod_one]
 rw [e]
 rfl
set_option maxHeartbeats 4000000 in
set_option maxRecDepth 10000 in
theorem iT (o : Ow) (d : S.Dk) (f : Nat) (w : World) (hd : aZ w o d) (hok : ∀ i, i < d.seen.length -> (d.seen.getD i []).length = 128) (hf : f + 8 <= d.safe.length) :
  Calls Tryz.prog 106 #[o.ptr, .int .i64 (f : Int)] w fun e w' => ∃ g, e = .returned (.slice (some ⟨g, 0, none⟩) 1024 1024) /\ w.heap.size <= g /\ Room w' g 1024 (S.bT d.seen f) /\ Below w.heap.size w w' := by
 have hns := hd.n
 have hff : f <= 8192 := by omega
 have HLT : Hid (∀ k, o.has k -> k < w.heap.size) := hd.lt
 have HOK := hide hok
 have HF : Hid (f + 8 <= d.safe.length) := hf
 have HSL : Hid (d.seen.length = d.safe.length) := S.Dk.seen_length d
 have hmk : ∀ w : World, (Instr.makeSlice 22 (.int .i64 0) (.int .i64 1024)).run Tryz.prog w = .ok (.slice (some ⟨w.heap.size, 0, none⟩) 0 1024) (w.alloc (.cells (S.v8 (S.zeros 1024)) 5)) := fun w => Fg 1024 (by omega) w
 obtain ⟨w1, hw1⟩ : ∃ w1, w1 = w.alloc (.cells (S.v8 (S.zeros 1024)) 5) := ⟨_, rfl⟩
 have b1 : Below w.heap.size w w1 := by rw [hw1]; exact ba ..
 have r1 : w1.heap[w.heap.size]? = some (.cells (S.v8 (S.zeros 1024)) 5 (0, 0)) := by rw [hw1]; exact heap_alloc_new _ _
 have B1 := hide b1
 have R1 : Hid (Room w1 w.heap.size 1024 []) := ⟨_, r1, by rw [S.aU, S.zeros_length], by simp, by simp [S.v8l]⟩
 have D1 := hide (hd.below b1)
 obtain ⟨g, hg⟩ : ∃ g, g = w.heap.size := ⟨_, rfl⟩
 rw [<- hg] at R1
 have HG := hide hg
 clear b1 r1 hd hok hf hns
 go_enter Tryz.func106, Tryz.ntmps106
 go_upto_region 3 with fail
 rw [<- hw1, <- hg]
 clear hw1 hg hmk
 go_loopw [5, 6] (fun b i wr => ∃ k : Nat, k <= 8 /\ b = .slice (some ⟨g, 0, none⟩) (k * 128) 1024 /\ i = .int .i64 ((f : Int) + (k : Int)) /\ Room wr g 1024 (S.secs d.seen f k) /\ aZ wr o d /\ Below w.heap.size w wr) (fun _ i _ => f + 8 - (intOf i).toNat)
 case atStart => exact ⟨0, by omega, by simp, by simp, R1.out, D1.out, B1.out⟩
 case round =>
 obtain ⟨k, hk, rfl, rfl, hr, hd, hb⟩ := hrel
 have RR := hide hr
 have DD := hide hd
 have BB := hide hb
 clear hr hd hb R1 D1 B1
 have q0 : IntKind.i64.wrap ((f : Int) + 8) = (f : Int) + 8 := by rw [IntKind.wrap_i64]; omega
 by_cases hlt : k < 8
 ·have q1 : (f : Int) + (k : Int) < (f : Int) + 8 := by omega
  have q2 : IntKind.i64.wrap ((f : Int) + (k : Int) + 1) = (f : Int) + (k : Int) + 1 := by rw [IntKind.wrap_i64]; omega
  have q3 : (k : Int) < 8 := by omega
  go_wp2_with fail
  have ef : (f : Int) + (k : Int) = ((f + k : Nat) : Int) := by omega
  have RD := jP o d (f + k) wr DD.out (by have := HF.out; omega)
  rw [<- ef] at RD
  refine RD.mono ?_
  rintro e w2 ⟨rfl, hr2, b2⟩
  have hsl := S.wV HOK.out f k (by rw [HSL.out]; have := HF.out; omega)
  have hs1 := HOK.out (f + k) (by rw [HSL.out]; have := HF.out; omega)
  have R2 := hide (RR.out.below b2 (by obtain ⟨cur, h1, _⟩ := RR.out; exact aa h1))
  have S2 : Hid (SliceAt w2 (.slice (some ⟨wr.heap.size, 0, none⟩) 128 128) (d.seen.getD (f + k) [])) := az hr2 hs1.symm (by omega)
  have D2 := hide (DD.out.below b2)
  have B2 := hide (BB.out.trans (b2.mono BB.out.size))
  have APP := hide (kV w2 g 1024 (.slice (some ⟨wr.heap.size, 0, none⟩) 128 128) (S.secs d.seen f k) (d.seen.getD (f + k) []) 22 R2.out S2.out (by rw [hsl, hs1]; omega))
  rw [hsl] at APP
  have HE : Hid ((S.secs d.seen f k ++ d.seen.getD (f + k) []).length = (k + 1) * 128) := by show (S.secs d.seen f k ++ d.seen.getD (f + k) []).length = (k + 1) * 128; rw [List.length_append, hsl, hs1]; omega
  clear hr2 b2 RD ef hsl hs1 RR DD BB R2 S2
  go_wp2_with (at_builtin; (refine aA rfl (.tmp 23) (.tmp 24) 22 22 rfl _ _ rfl rfl APP.out ?_; rintro v3 w3 ⟨rfl, hr3, b3⟩; rw [HE.out]; have R3 := hide hr3; have B3 := hide b3; clear hr3 b3))
  have D3 : Hid (aZ w3 o d) := D2.out.chg (Chg.ofBelow (p := fun k => g <= k) B3.out (fun _ _ e => e)) (fun k hk e => by have := HLT.out k hk; rw [HG.out] at e; omega)
  have B4 : Hid (Below w.heap.size w w3) := B2.out.trans (B3.out.mono (by rw [HG.out]; exact lr _))
  clear APP
  go_roundw
  case rel => exact ⟨k + 1, by omega, rfl, by go_num, R3.out, D3.out, B4.out⟩
  case measure => simp [intOf]; omega
 ·obtain rfl : k = 8 := by omega
  have q1 : ¬ ((f : Int) + 8 < (f : Int) + 8) := by omega
  go_wp2_with fail
  go_ret
  exact ⟨g, rfl, by rw [HG.out]; exact lr _, RR.out, BB.out⟩
end Go.Proofs.YteealihknndclabGreatDoor
namespace Go.Proofs.YteealihknndclabGreatDoor
open Go.RowKit

namespace S
def dP (f : Nat) (x : List UInt8) (i : Nat) : Ws := (List.range i).map fun j => (f + j, (x.drop (j * 128)).take 128)
theorem jF (f : Nat) (x : List UInt8) (i : Nat) : (dP f x i).length = i := by simp [dP]
theorem kY (f : Nat) (x : List UInt8) (i : Nat) : dP f x (i + 1) = dP f x i ++ [(f + i, (x.drop (i * 128)).take 128)] := by simp [dP, List.range_succ]
theorem yX (f : Nat) (x : List UInt8) (i m : Nat) (h : i <= m) : ∃ r, dP f x m = dP f x i ++ r := by
 induction m with
 | zero => exact ⟨[], by rw [show i = 0 from by omega]; simp⟩
 | succ m ih =>
  by_cases e : i = m + 1
  ·exact ⟨[], by rw [e, List.append_nil]⟩
  ·obtain ⟨r, hr⟩ := ih (by omega)
   exact ⟨r ++ [_], by rw [kY, hr, List.append_assoc]⟩
end S
set_option maxHeartbeats 4000000 in
set_option maxRecDepth 10000 in
theorem nH (o : Ow) (d : S.Dk) (f : Nat) (bk off cap : Nat) (x : List UInt8) (w : World) (hd : aZ w o d) (hf : f + 8 <= d.safe.length) (hv : SliceAt w (.slice (some ⟨bk, off, none⟩) 1024 cap) x) (hfar : ¬ o.has bk) (hpe : d.pend.length <= 900000) :
  Calls Tryz.prog 96 #[o.ptr, .int .i64 (f : Int), .slice (some ⟨bk, off, none⟩) 1024 cap] w (Does d (S.dP f x 8).acts o w) := by
 have hns := hd.n
 have hff : f <= 8192 := by omega
 have hcap := hv.le_cap
 obtain ⟨_, _, _, hve, hxl, _⟩ := hv.form
 simp only [Value.slice.injEq] at hve
 obtain ⟨-, rfl, -⟩ := hve
 have HXL := hide hxl
 have HV := hide hv
 have HF : Hid (f + 8 <= d.safe.length) := hf
 have HFAR := hide hfar
 have HD := hide hd
 have HBW : Hid (bk < w.heap.size) := by obtain ⟨b, o', e, h1, _⟩ := hv.src (by omega); simp only [Option.some.injEq, Addr.mk.injEq] at e; rw [e.1]; exact h1
 clear hd hf hv hfar hns hxl
 go_enter Tryz.func96, Tryz.ntmps96
 go_wp2_with fail
 go_loopw [9] (fun i wr => ∃ (k : Nat) (d1 : S.Dk) (o1 : Ow), k <= 8 /\ i = .int .i64 (k : Int) /\ Hid (d.plan (S.dP f x k).acts = (d1, true)) /\ aZ wr o1 d1 /\ dK o w o1 wr) (fun i _ => 8 - (intOf i).toNat)
 case atStart => exact ⟨0, d, o, by omega, rfl, rfl, HD.out, dK.refl _ _⟩
 case round =>
 obtain ⟨k, d1, o1, hk, rfl, hpl, hdk, hto⟩ := hrel
 have HDK := hide hdk
 have HTO := hide hto
 have hpt : o1.ptr = o.ptr := by unfold Ow.ptr; rw [hto.g]
 have HPT := hide hpt
 have hlen1 : d1.safe.length = d.safe.length := by have := S.Dk.plan_len (S.dP f x k).acts d; rw [hpl.out] at this; exact this
 have HL1 := hide hlen1
 have FC : d1.pend.length <= 900000 + k := by have := S.Dk.plan_pend (S.dP f x k).acts d; rw [hpl.out] at this; simp [S.Ws.acts, S.jF] at this; omega
 have HPE1 := hide FC
 clear hdk hto hpt hlen1 FC HD
 by_cases hlt : k < 8
 ·have q1 : (k : Int) < 8 := by omega
  have q0 : (0 : Int) <= (k : Int) := by omega
  have q2 : IntKind.i64.wrap ((k : Int) + 1) = (k : Int) + 1 := by rw [IntKind.wrap_i64]; omega
  have q3 : IntKind.i64.wrap ((f : Int) + (k : Int)) = (f : Int) + (k : Int) := by rw [IntKind.wrap_i64]; omega
  obtain ⟨A, hA⟩ : ∃ A : Nat, A = k * 128 := ⟨_, rfl⟩
  obtain ⟨B, hB⟩ : ∃ B : Nat, B = k * 128 + 128 := ⟨_, rfl⟩
  have q4 : IntKind.i64.wrap ((k : Int) * 128) = (A : Int) := by rw [IntKind.wrap_i64]; omega
  have q5 : IntKind.i64.wrap (((k : Int) + 1) * 128) = (B : Int) := by rw [IntKind.wrap_i64]; omega
  have q6 : (0 : Int) <= (A : Int) := by omega
  have q7 : (A : Int) <= (B : Int) := by omega
  have q8 : (B : Int) <= (cap : Int) := by omega
  have hcA : ¬ cap = A := by omega
  have hBA : B - A = 128 := by omega
  have qba : (B : Int) - (A : Int) = 128 := by omega
  have HAK : Hid (A = k * 128) := hA
  have HBK : Hid (B = k * 128 + 128) := hB
  clear hA hB
  go_wp2_with fail
  have ef : (f : Int) + (k : Int) = ((f + k : Nat) : Int) := by omega
  have hb1 : ¬ o1.has bk := fun e => by
   rcases HTO.out.own bk e with e | e
   ·exact HFAR.out e
   ·have := HBW.out; omega
  have hsl : ∀ W, Chg (fun k => k = o1.g) wr W -> SliceAt W (.slice (some ⟨bk, off + A, none⟩) 128 (cap - A)) ((x.drop A).take 128) := fun W hW => by
   have h1 : SliceAt wr (.slice (some ⟨bk, off, none⟩) 1024 cap) x := HV.out.dk HTO.out (fun a e => by simp only [Option.some.injEq] at e; rw [<- e]; exact HFAR.out)
   have h2 : dK o1 wr o1 W := ⟨rfl, hW.mono (fun k _ e => Or.inl e), fun _ e => Or.inl e⟩
   have h3 : SliceAt W (.slice (some ⟨bk, off, none⟩) 1024 cap) x := h1.dk h2 (fun a e => by simp only [Option.some.injEq] at e; rw [<- e]; exact hb1)
   have h4 := jS h3 A B (by omega) (by have := HBK.out; omega)
   rw [if_neg hcA, hBA, List.drop_take, hBA] at h4
   simp only [Option.map_some, Addr.add_lit] at h4
   exact h4
  have HSL := hide hsl
  clear hsl hb1
  rw [<- HPT.out, ef]
  refine (qU o1 d1 (f + k) (some ⟨bk, off + A, none⟩) (cap - A) ((x.drop A).take 128) wr HDK.out (by rw [HL1.out]; have := HF.out; omega) (by rw [List.length_take, List.length_drop, <- HXL.out]; have := HAK.out; omega) (by have := HPE1.out; omega) HSL.out).mono ?_
  intro e w1 hdo
  obtain ⟨b, d2, o2, rfl, h1, h2, h3⟩ := hdo.start
  have EP : Hid (S.dP f x (k + 1) = S.dP f x k ++ [(f + k, (x.drop A).take 128)]) := by rw [HAK.out]; exact S.kY f x k
  have hpl2 : d.plan (S.dP f x (k + 1)).acts = (d2, b) := by
   rw [EP.out, S.jB, S.Dk.plan_app, hpl.out]
   exact h1
  have HPL2 := hide hpl2
  have H2 := hide h2
  have H3 := hide (HTO.out.trans h3)
  have hp2 : o2.ptr = o1.ptr := by unfold Ow.ptr; rw [h3.g]
  clear hdo h1 h2 h3 HDK HSL hpl2 ef
  cases b with
  | false =>
   have E : S.why false = 13 := rfl
   rw [E]
   obtain ⟨r, hr⟩ := S.yX f x (k + 1) 8 (by omega)
   have HR : Hid ((S.dP f x 8).acts = (S.dP f x (k + 1)).acts ++ S.Ws.acts r) := by rw [hr]; exact S.jB _ _
   clear hr
   go_wp2_with fail
   go_ret
   rw [HR.out]
   exact Does.stop HPL2.out H2.out H3.out
  | true =>
   have E : S.why true = 0 := rfl
   rw [E]
   rw [HPT.out]
   clear hp2
   go_wp2_with fail
   go_roundw
   case rel => exact ⟨k + 1, d2, o2, by omega, by go_num, HPL2.out, H2.out, H3.out⟩
   case measure => simp [intOf]; omega
 ·obtain rfl : k = 8 := by omega
  have q1 : ¬ ((8 : Int) < 8) := by omega
  go_wp2_with fail
  go_ret
  exact ⟨by rw [hpl.out]; rfl, o1, by rw [hpl.out]; exact HDK.out, HTO.out⟩
end Go.Proofs.YteealihknndclabGreatDoor
namespace Go.Proofs.YteealihknndclabGreatDoor
open Go.RowKit

namespace S
def bit (s : List UInt8) (n : Nat) : Bool := bits BinOp.and IntKind.u8 (((s.getD (n / 8) 0).toNat : Int) / 2 ^ (n % 8)) 1 == 1
theorem qQ (s : List UInt8) (n : Nat) : bit s n = decide ((s.getD (n / 8) 0).toNat / 2 ^ (n % 8) % 2 = 1) := by
 unfold bit
 generalize (s.getD (n / 8) 0) = x
 generalize n % 8 = r
 have h1 : ((x.toNat : Int) / 2 ^ r) = ((x.toNat / 2 ^ r : Nat) : Int) := by push_cast; rfl
 have h2 : x.toNat / 2 ^ r < 256 := Nat.lt_of_le_of_lt (Nat.div_le_self _ _) x.toNat_lt
 rw [h1, show (1 : Int) = ((1 : Nat) : Int) from rfl, u8_and_nat _ _ h2 (by omega), Nat.and_one_is_mod]
 by_cases h : x.toNat / 2 ^ r % 2 = 1
 ·rw [h]; rfl
 ·rw [decide_eq_false h]
  have h3 : x.toNat / 2 ^ r % 2 = 0 := by omega
  rw [h3]
  rfl
end S
set_option maxHeartbeats 4000000 in
set_option maxRecDepth 10000 in
theorem wH (C : Array Value) (s : List UInt8) (n : Nat) (w : World) (hC : C = S.v8 s) (hs : s.length = 64) (hn : n < 512) :
  Calls Tryz.prog 148 #[.agg C, .int .i64 (n : Int)] w fun e w' => e = .returned (.bool (S.bit s n)) /\ Below w.heap.size w w' := by
 obtain ⟨w1, hw1⟩ : ∃ w1, w1 = w.alloc (.cells C 135) := ⟨_, rfl⟩
 have r1 : w1.heap[w.heap.size]? = some (.cells (S.v8 s) 135 (0, 0)) := by rw [hw1, hC]; exact heap_alloc_new _ _
 obtain ⟨q, hq⟩ : ∃ q : Nat, q = n / 8 := ⟨_, rfl⟩
 obtain ⟨r, hr⟩ : ∃ r : Nat, r = n % 8 := ⟨_, rfl⟩
 have c1 := bL r1 q (by omega)
 obtain ⟨x, hx⟩ : ∃ x, x = s.getD q 0 := ⟨_, rfl⟩
 rw [<- hx] at c1
 have q1 : (n : Int) / 8 = (q : Int) := by omega
 have q2 : (n : Int) % 8 = (r : Int) := by omega
 have q3 : (0 : Int) <= (q : Int) := by omega
 have q4 : (q : Int) < 64 := by omega
 have q5 : (0 : Int) <= (r : Int) := by omega
 have q6 : (r : Int) < 8 := by omega
 have q7 : (0 : Int) <= (n : Int) := by omega
 rw [hw1] at c1
 have HB : Hid (Below w.heap.size w (w.alloc (.cells C 135))) := ba ..
 have HE : Hid (S.bit s n = (bits BinOp.and IntKind.u8 ((x.toNat : Int) / 2 ^ r) 1 == 1)) := by rw [hx, hq, hr]; rfl
 clear r1 hC hs hq hr hx
 go_enter Tryz.func148, Tryz.ntmps148
 go_wp2_with fail
 go_ret
 exact ⟨by rw [HE.out]; rfl, HB.out⟩
end Go.Proofs.YteealihknndclabGreatDoor
namespace Go.Proofs.YteealihknndclabGreatDoor
open Go.RowKit

theorem yP : (Tryz.prog.info? 135).map (·.size) = some 64 := by kernel_rfl
theorem dV (w : World) : (Instr.alloc 135 true (.tuple #[])).run Tryz.prog w = .ok (.pointer (some ⟨w.heap.size, 0, none⟩)) (w.alloc (.cells (S.v8 (S.zeros 64)) 135)) := by
 have h1 : (Tryz.prog.info? 135).map (fun i => (i.size, i.bytes)) = some (64, 64) := by kernel_rfl
 have h2 : (Tryz.prog.info? 135).bind (·.zero) = some (.agg (S.v8 (S.zeros 64))) := by kernel_rfl
 obtain ⟨i, hi, hz, _, _⟩ := bZ h1 h2
 simp [Instr.alloc, zeroValue, typeInfo, hi, hz, newVar, newRow, Value.cells]
theorem iM {w : World} {g : Nat} {xs : List UInt8} (h : w.heap[g]? = some (.cells (S.v8 xs) 135 (0, 0))) (hl : xs.length = 64) : (Instr.loadAt 135 (.pointer (some ⟨g, 0, none⟩))).run Tryz.prog w = .ok (.agg (S.v8 xs)) w := by
 rw [S.jL] at h ⊢
 exact run_loadAt_mid (P := Tryz.prog) w _ 0 135 _ _ (aH h) Tryz.underlying135 rfl (by rw [yP, S.ae, hl])
theorem jd {w : World} {g : Nat} {xs : List UInt8} (h : w.heap[g]? = some (.cells (S.v8 xs) 135 (0, 0))) (hl : xs.length = 64) : (loadVar 135 ⟨g, 0, none⟩).run Tryz.prog w = .ok (.agg (S.v8 xs)) w := by
 rw [S.jL] at h ⊢
 exact run_loadVar_mid (P := Tryz.prog) w g 0 135 _ _ (aH h) Tryz.underlying135 rfl (by rw [yP, S.ae, hl])
theorem jW {w : World} {g : Nat} {xs ys : List UInt8} (h : w.heap[g]? = some (.cells (S.v8 xs) 135 (0, 0))) (hx : xs.length = 64) (hy : ys.length = 64) :
  ∃ w', (Instr.storeAt 135 (.pointer (some ⟨g, 0, none⟩)) (.agg (S.v8 ys))).run Tryz.prog w = .ok () w' /\ w'.heap[g]? = some (.cells (S.v8 ys) 135 (0, 0)) /\ Chg (fun k => k = g) w w' := by
 have hr := run_storeVar_row (P := Tryz.prog) w g 135 135 _ (S.v8 ys) h (by rw [yP, S.aU, hy]) (by rw [S.aU, S.aU, hx, hy]) (S.jU _)
 refine ⟨w.setRow g (S.v8 ys), ?_, setRow_heap w g _ _ _ _ h, Chg.setRow (p := fun k => k = g) g _ rfl⟩
 simp only [Instr.storeAt, Instr.sureAddr, Sem.run_bind, Sem.run_pure, Result.andThen_ok, hr]
theorem lq (w : World) (ys : List UInt8) (hy : ys.length = 64) : ∃ w', (Instr.storeAt 135 (.pointer (some ⟨w.heap.size, 0, none⟩)) (.agg (S.v8 ys))).run Tryz.prog (w.alloc (.cells (S.v8 (S.zeros 64)) 135)) = .ok () w' /\ w'.heap[w.heap.size]? = some (.cells (S.v8 ys) 135 (0, 0)) /\ Below w.heap.size w w' := by
 obtain ⟨w', h1, h2, h3⟩ := jW (w := w.alloc (.cells (S.v8 (S.zeros 64)) 135)) (g := w.heap.size) (xs := S.zeros 64) (ys := ys) (heap_alloc_new _ _) (S.zeros_length _) hy
 have b : Below w.heap.size w (w.alloc (.cells (S.v8 (S.zeros 64)) 135)) := ba ..
 exact ⟨w', h1, h2, b.trans (h3.base b.size (lr _))⟩
set_option maxHeartbeats 4000000 in
set_option maxRecDepth 10000 in
theorem uz (al : Option Addr) (cl : Nat) (w : World) :
  Calls Tryz.prog 117 #[.slice al 0 cl] w fun e w' => e = .returned (.tuple #[.agg (S.v8 (S.zeros 64)), .bool true]) /\ Below w.heap.size w w' := by
 have gV := dV w
 obtain ⟨w1, hw1⟩ : ∃ w1, w1 = w.alloc (.cells (S.v8 (S.zeros 64)) 135) := ⟨_, rfl⟩
 have fF := dV w1
 obtain ⟨w2, hw2⟩ : ∃ w2, w2 = w1.alloc (.cells (S.v8 (S.zeros 64)) 135) := ⟨_, rfl⟩
 have b1 : Below w.heap.size w w1 := by rw [hw1]; exact ba ..
 have b2 : Below w1.heap.size w1 w2 := by rw [hw2]; exact ba ..
 have r1 : w1.heap[w.heap.size]? = some (.cells (S.v8 (S.zeros 64)) 135 (0, 0)) := by rw [hw1]; exact heap_alloc_new _ _
 have r2 : w2.heap[w1.heap.size]? = some (.cells (S.v8 (S.zeros 64)) 135 (0, 0)) := by rw [hw2]; exact heap_alloc_new _ _
 have r12 : w2.heap[w.heap.size]? = some (.cells (S.v8 (S.zeros 64)) 135 (0, 0)) := (b2.block _ (aa r1)).trans r1
 have ld := iM r2 (S.zeros_length _)
 obtain ⟨w3, hst, r3, c3⟩ := jW (ys := S.zeros 64) r12 (S.zeros_length _) (S.zeros_length _)
 have R3 := hide r3
 have B3 : Hid (Below w.heap.size w w3) := by
  have h := b1.trans (b2.mono b1.size)
  exact h.trans (c3.base h.size (lr _))
 rw [<- hw1] at gV
 rw [<- hw2] at fF
 obtain ⟨g1, hg1⟩ : ∃ g1, g1 = w.heap.size := ⟨_, rfl⟩
 obtain ⟨g2, hg2⟩ : ∃ g2, g2 = w1.heap.size := ⟨_, rfl⟩
 rw [<- hg1] at gV hst R3
 rw [<- hg2] at fF ld
 obtain ⟨Z, hZ⟩ : ∃ Z, Z = S.v8 (S.zeros 64) := ⟨_, rfl⟩
 rw [<- hZ] at ld hst ⊢
 have HZ := hide hZ
 clear b1 b2 r1 r2 r12 r3 c3 hw1 hw2 hg1 hg2 hZ
 go_enter Tryz.func117, Tryz.ntmps117
 go_wp2_with (first | (with_reducible refine au ⟨some 2, .alloc 135, 0, "set.go:23", #[], none⟩ ?_; refine ah rfl 135 rfl (.pointer (some ⟨g1, 0, none⟩)) w1 gV ?_) | (with_reducible refine au ⟨some 4, .alloc 135, 0, "set.go:24", #[], none⟩ ?_; refine ah rfl 135 rfl (.pointer (some ⟨g2, 0, none⟩)) w2 fF ?_) | (with_reducible refine au ⟨some 10, .load 135 (.tmp 4), 135, "set.go:27", #[], none⟩ ?_; refine ay rfl 135 (.tmp 4) rfl (.pointer (some ⟨g2, 0, none⟩)) rfl (.agg Z) ld ?_) | (with_reducible refine au ⟨none, .store 135 (.tmp 2) (.tmp 10), 0, "set.go:27", #[{ on := 0, ground := Ground.data }, { on := 0, ground := Ground.phase }], none⟩ ?_; refine ai rfl 135 (.tmp 2) (.tmp 10) rfl (.pointer (some ⟨g1, 0, none⟩)) (.agg Z) rfl rfl w3 hst ?_))
 refine bodyPost_ret (aW Tryz.results117 _ _ g1 (.agg Z) rfl (by rw [HZ.out]; exact jd R3.out (S.zeros_length _))) rfl ⟨rfl, B3.out⟩
namespace S
def fC : List UInt8 := [112, 97, 103, 101, 115, 32, 116, 104, 97, 116, 32, 97, 114, 101, 32, 112, 117, 116, 32, 116, 111, 103, 101, 116, 104, 101, 114, 32, 46, 46, 46, 32, 112, 97, 103, 101, 115, 32, 116, 104, 97, 116, 32, 97, 114, 101, 32, 112, 117, 116, 32, 116, 111, 103, 101, 116, 104, 101, 114, 32, 46, 46, 46, 32].append [112, 97, 103, 101, 115, 32, 116, 104, 97, 116, 32, 97, 114, 101, 32, 112, 117, 116, 32, 116, 111, 103, 101, 116, 104, 101, 114, 32, 46, 46, 46, 32, 112, 97, 103, 101, 115, 32, 116, 104, 97, 116, 32, 97, 114, 101, 32, 112, 117, 116, 32, 116, 111, 103, 101, 116, 104, 101, 114, 32, 46, 46, 46, 32]
set_option maxRecDepth 100000 in
theorem dD : fC.length = 128 := rfl
end S
theorem kX {fn : Func} {p u v : Tmp} {ty : TypeId} (h : fn.results = #[.tmp u, .cell p ty, .tmp v]) (tmps : Array Value) (w : World) (g : Nat) (x : Value)
  (hp : tmps.getD p undef = .pointer (some ⟨g, 0, none⟩)) (hl : (loadVar ty ⟨g, 0, none⟩).run Tryz.prog w = .ok x w) :
  (results fn tmps).run Tryz.prog w = .ok (.tuple #[tmps.getD u undef, x, tmps.getD v undef]) w := by
 have hp' : tmps[p]?.getD undef = .pointer (some ⟨g, 0, none⟩) := by simpa using hp
 simp [results, h, hp', asAddr, hl]
theorem dQ {ops : Array Oper} {T : World -> Prop} {op : Oper} {a : Act} (hw : Region.wanted op (yielded ops a.tmps) = true) (x : Operand) (ho : op.op = .load 135 x) (g : Nat) (hx : a.eval x = .pointer (some ⟨g, 0, none⟩)) {xs : List UInt8} (hl : xs.length = 64) (hS : ∀ w, T w -> w.heap[g]? = some (.cells (S.v8 xs) 135 (0, 0))) : YieldsIf Tryz.prog ops T op (.agg (S.v8 xs)) a :=
 Or.inl ⟨hw, fun w hw' => by
  unfold execOp
  simp only [ho, Sem.run_bind, hx, iM (hS w hw') hl, Result.andThen_ok, Sem.run_pure]⟩
structure Pg (w0 w : World) (o : Ow) (d : S.Dk) (p t : Nat) (pg : Nat -> List UInt8) : Prop where
 dk : Dsk w o d
 pend : d.pend = []
 left : d.left = none
 len : 7680 <= d.safe.length
 mark : d.safe.getD 0 [] = S.fC
 log : S.Good d.safe 1 4 p t []
 home : ∀ n, n < 512 -> S.bT d.safe (5 + n * 8) = pg n
 ob : ∀ k, o.has k -> w0.heap.size <= k
 below : Below w0.heap.size w0 w
 pos : 1 < w0.heap.size
theorem Pg.then {w0 w W : World} {o : Ow} {d : S.Dk} {p t : Nat} {pg : Nat -> List UInt8} (h : Pg w0 w o d p t pg) (hb : Below w.heap.size w W) : Pg w0 W o d p t pg :=
 ⟨h.dk.below hb, h.pend, h.left, h.len, h.mark, h.log, h.home, h.ob, h.below.trans (hb.mono h.below.size), h.pos⟩
theorem Pg.seen {w0 w : World} {o : Ow} {d : S.Dk} {p t : Nat} {pg : Nat -> List UInt8} (h : Pg w0 w o d p t pg) : d.seen = d.safe := S.Dk.seen_flushed d h.pend
set_option maxHeartbeats 4000000 in
set_option maxRecDepth 10000 in
theorem look_go (w0 w : World) (o : Ow) (d : S.Dk) (p t : Nat) (pg : Nat -> List UInt8) (h : Pg w0 w o d p t pg) :
  Calls Tryz.prog 71 #[o.ptr] w fun e w' => ∃ g tv, e = .returned (.tuple #[.pointer (some ⟨g, 0, none⟩), .agg (S.v8 (S.zeros 64)), .int .i64 0]) /\ Lo w0 w' o d g 1 4 p t [] tv /\ w.heap.size <= g /\ (∀ k, tv.ownBlock = some k -> w.heap.size <= k) /\ Below w.heap.size w w' := by
 have gV := dV w
 obtain ⟨w1, hw1⟩ : ∃ w1, w1 = w.alloc (.cells (S.v8 (S.zeros 64)) 135) := ⟨_, rfl⟩
 have b1 : Below w.heap.size w w1 := by rw [hw1]; exact ba ..
 have r1 : w1.heap[w.heap.size]? = some (.cells (S.v8 (S.zeros 64)) 135 (0, 0)) := by rw [hw1]; exact heap_alloc_new _ _
 rw [<- hw1] at gV
 obtain ⟨g3, hg3⟩ : ∃ g3, g3 = w.heap.size := ⟨_, rfl⟩
 rw [<- hg3] at gV r1
 have R1 := hide r1
 have B1 := hide b1
 have P1 := hide (h.then b1)
 have HLT : Hid (∀ k, o.has k -> k < g3) := fun k hk => by rw [hg3]; exact h.dk.dk.lt k hk
 have HG3 : Hid (w.heap.size <= g3) := by rw [hg3]; exact lr _
 have Gv : Hid (g3 = w.heap.size) := hg3
 have HW0 : Hid (w0.heap.size <= w.heap.size) := h.below.size
 clear b1 r1 hw1 hg3 h
 go_enter Tryz.func71, Tryz.ntmps71
 go_wp2_with (with_reducible refine au ⟨some 3, .alloc 135, 0, "place.go:70", #[], none⟩ ?_; refine ah rfl 135 rfl (.pointer (some ⟨g3, 0, none⟩)) w1 gV ?_)
 clear gV
 refine (jP o d 0 w1 P1.out.dk.dk (by have := P1.out.len; omega)).mono ?_
 rintro e w2 ⟨rfl, hr2, b2⟩
 rw [P1.out.seen, P1.out.mark] at hr2
 have cv := dx (az (n := 128) hr2 S.dD.symm (by rw [S.dD]; omega))
 have P2 := hide (P1.out.then b2)
 have R2 : Hid (w2.heap[g3]? = some (.cells (S.v8 (S.zeros 64)) 135 (0, 0))) := (b2.block g3 (aa R1.out)).trans R1.out
 have B2 := hide (B1.out.trans (b2.mono B1.out.size))
 have hq : S.fC = [112, 97, 103, 101, 115, 32, 116, 104, 97, 116, 32, 97, 114, 101, 32, 112, 117, 116, 32, 116, 111, 103, 101, 116, 104, 101, 114, 32, 46, 46, 46, 32, 112, 97, 103, 101, 115, 32, 116, 104, 97, 116, 32, 97, 114, 101, 32, 112, 117, 116, 32, 116, 111, 103, 101, 116, 104, 101, 114, 32, 46, 46, 46, 32].append [112, 97, 103, 101, 115, 32, 116, 104, 97, 116, 32, 97, 114, 101, 32, 112, 117, 116, 32, 116, 111, 103, 101, 116, 104, 101, 114, 32, 46, 46, 46, 32, 112, 97, 103, 101, 115, 32, 116, 104, 97, 116, 32, 97, 114, 101, 32, 112, 117, 116, 32, 116, 111, 103, 101, 116, 104, 101, 114, 32, 46, 46, 46, 32] := rfl
 clear hr2 b2 R1 B1 P1
 go_wp2_with fail
 clear cv hq
 refine (vO w0 w2 o d 1 4 p t [] P2.out.dk P2.out.pend P2.out.log P2.out.ob P2.out.below P2.out.pos).mono ?_
 rintro e w4 ⟨g, tv, rfl, hlo, hgb, htb, b4⟩
 have LO4 := hide hlo
 have G4 : Hid (g3 < g /\ w.heap.size <= g /\ (∀ k, tv.ownBlock = some k -> g3 < k /\ w.heap.size <= k)) := by
  have h1 := aa R2.out
  have h2 := Gv.out
  exact ⟨by omega, by omega, fun k hk => by have := htb k hk; exact ⟨by omega, by omega⟩⟩
 have R4 : Hid (w4.heap[g3]? = some (.cells (S.v8 (S.zeros 64)) 135 (0, 0))) := (b4.block g3 (aa R2.out)).trans R2.out
 have B4 := hide (B2.out.trans (b4.mono B2.out.size))
 clear hlo hgb htb b4 R2 B2 P2
 go_wp2_with fail
 refine (mP w0 w4 o d g 1 4 p t [] tv LO4.out (by simp)).mono ?_
 rintro e w5 ⟨lv, us, rfl, hrec, b5⟩
 obtain ⟨al, cl, hlv⟩ := hrec.lists.shape
 subst hlv
 have hul : us.length = 0 := hrec.copies.len
 rw [hul]
 have LO5 := hide (LO4.out.then b5)
 have R5 : Hid (w5.heap[g3]? = some (.cells (S.v8 (S.zeros 64)) 135 (0, 0))) := (b5.block g3 (aa R4.out)).trans R4.out
 have B5 := hide (B4.out.trans (b5.mono B4.out.size))
 clear hrec b5 hul LO4 R4 B4
 go_wp2_with fail
 refine (uz al cl w5).mono ?_
 rintro e w6 ⟨rfl, b6⟩
 have LO6 := hide (LO5.out.then b6)
 have R6 : Hid (w6.heap[g3]? = some (.cells (S.v8 (S.zeros 64)) 135 (0, 0))) := (b6.block g3 (aa R5.out)).trans R5.out
 have B6 := hide (B5.out.trans (b6.mono B5.out.size))
 clear b6 LO5 R5 B5
 have fF := dV w6
 obtain ⟨w9, jl, r9, b9⟩ := lq w6 (S.zeros 64) (S.zeros_length _)
 have R9 := hide r9
 have LO9 := hide (LO6.out.then b9)
 have R39 : Hid (w9.heap[g3]? = some (.cells (S.v8 (S.zeros 64)) 135 (0, 0))) := (b9.block g3 (aa R6.out)).trans R6.out
 have B9 := hide (B6.out.trans (b9.mono B6.out.size))
 have h36 := aa R6.out
 have N93 : Hid (¬ w6.heap.size = g3) := fun e => by omega
 have NG3 : Hid (∀ k, (o.has k \/ k = g \/ tv.ownBlock = some k \/ k < w0.heap.size) -> ¬ k = g3) := fun k hk e => by
  subst e
  rcases hk with hk | hk | hk | hk
  ·exact absurd (HLT.out _ hk) (Nat.lt_irrefl _)
  ·have := G4.out.1; omega
  ·have := (G4.out.2.2 _ hk).1; omega
  ·have := HW0.out; have := HG3.out; omega
 obtain ⟨w7, hw7⟩ : ∃ w7, w7 = w6.alloc (.cells (S.v8 (S.zeros 64)) 135) := ⟨_, rfl⟩
 rw [<- hw7] at fF jl
 obtain ⟨g9, hg9⟩ : ∃ g9, g9 = w6.heap.size := ⟨_, rfl⟩
 rw [<- hg9] at fF jl R9 N93
 clear r9 b9 h36 LO6 R6 B6 hg9 hw7
 go_upto_region 10 with (first | (with_reducible refine au ⟨some 9, .alloc 135, 0, "place.go:78", #[], none⟩ ?_; refine ah rfl 135 rfl (.pointer (some ⟨g9, 0, none⟩)) w7 fF ?_) | (with_reducible refine au ⟨none, .store 135 (.tmp 9) (.tmp 33), 0, "place.go:78", #[{ on := 6, ground := Ground.data }, { on := 4, ground := Ground.data }, { on := 2, ground := Ground.chain }, { on := 0, ground := Ground.phase }, { on := 1, ground := Ground.phase }, { on := 2, ground := Ground.phase }, { on := 3, ground := Ground.phase }, { on := 4, ground := Ground.phase }, { on := 5, ground := Ground.textOnly Departure.lateStores }, { on := 6, ground := Ground.phase }], none⟩ ?_; refine ai rfl 135 (.tmp 9) (.tmp 33) rfl (.pointer (some ⟨g9, 0, none⟩)) (.agg (S.v8 (S.zeros 64))) rfl rfl w9 jl ?_))
 clear fF jl
 refine wp_region_noPanic ?_
 refine wp_region_held_drew (S := (fun W => W.heap[g9]? = some (.cells (S.v8 (S.zeros 64)) 135 (0, 0)))) follows R9.out (fun hHeld => ?_)
 have LOd := hide (LO9.out.then (Below.refl w9.heap.size w9).drew)
 have B9d : Hid (Below w.heap.size w w9.drew) := B9.out.drew
 have R3d : Hid (w9.drew.heap[g3]? = some (.cells (S.v8 (S.zeros 64)) 135 (0, 0))) := R39.out
 clear LO9 B9 R9 R39
 generalize w9.drew = Z1 at LOd B9d R3d hHeld ⊢
 refine tq 0 ?_
 simp only [uA]
 refine wpAnyH_take (i := 1) (oi := ⟨_, _, _, _, _, _⟩) (v := .agg (S.v8 (S.zeros 64))) rfl (by kernel_rfl) (by kernel_rfl) (by kernel_rfl) (fun _ _ _ h => h) (dQ (by kernel_rfl) (.tmp 9) rfl g9 rfl (S.zeros_length _) (fun W hW => hW)) (by assumption) ?_
 simp only [uA]
 refine tq 2 ?_
 simp only [uA]
 obtain ⟨Z2, hst, r3, c3⟩ := jW (ys := S.zeros 64) R3d.out (S.zeros_length _) (S.zeros_length _)
 have R3 := hide r3
 have LO2 : Hid (Lo w0 Z2 o d g 1 4 p t [] tv) := LOd.out.chg c3 NG3.out
 have B2 : Hid (Below w.heap.size w Z2) := B9d.out.trans (c3.base B9d.out.size HG3.out)
 have a2 : Z2.heap[g9]? = some (.cells (S.v8 (S.zeros 64)) 135 (0, 0)) := c3.row hHeld N93.out
 refine rdy [3] ?_
 refine dH (o := ⟨_, _, _, _, _, _⟩) rfl rfl 135 (.tmp 3) (.tmp 39) rfl Z2 hst AllReadyH.nil ⟨a2, fun hHeld => ?_⟩
 simp only [Act.put]
 clear hst r3 c3 LOd B9d R3d a2
 refine tq 4 ?_
 simp only [uA]
 refine wpAnyH_done (by kernel_rfl) ?_ _
 refine NoPanic.normal ?_
 clear hHeld
 go_wp2_with fail
 refine bodyPost_ret (kX Tryz.results71 _ _ g3 (.agg (S.v8 (S.zeros 64))) rfl (jd R3.out (S.zeros_length _))) rfl ⟨g, tv, rfl, LO2.out, G4.out.2.1, fun k hk => (G4.out.2.2 k hk).2, B2.out⟩
end Go.Proofs.YteealihknndclabGreatDoor
namespace Go.Proofs.YteealihknndclabGreatDoor
open Go.RowKit

def eD (w : World) (gs : Nat) (o : Ow) : Prop := w.heap[gs]? = some (.cells #[.pointer (some ⟨o.g, 0, none⟩)] 134 (0, 0))
theorem iQ {w : World} {gs : Nat} {v : Value} (h : w.heap[gs]? = some (.cells #[v] 134 (0, 0))) : w.cell? ⟨gs, 0, none⟩ = some v := by
 rw [cell_of_row w gs 0 _ 134 (0, 0) h]; rfl
namespace S
theorem mE (n : Nat) : bit (zeros 64) n = false := by
 rw [qQ]
 have : (zeros 64).getD (n / 8) 0 = 0 := by
  rw [List.getD_eq_getElem?_getD]
  unfold zeros
  rw [List.getElem?_replicate]
  split <;> rfl
 rw [this]
 simp
end S
set_option maxHeartbeats 4000000 in
set_option maxRecDepth 10000 in
theorem xA (w0 w : World) (o : Ow) (d : S.Dk) (p t : Nat) (pg : Nat -> List UInt8) (h : Pg w0 w o d p t pg) :
  Calls Tryz.prog 41 #[o.ptr] w fun e w' => ∃ gs, e = .returned (.tuple #[.pointer (some ⟨gs, 0, none⟩), .int .i64 0]) /\ eD w' gs o /\ w.heap.size <= gs /\ Pg w0 w' o d p t pg /\ Below w.heap.size w w' := by
 have P0 := hide h
 clear h
 go_enter Tryz.func41, Tryz.ntmps41
 go_wp2_with fail
 refine (yj o d w P0.out.dk.dk P0.out.len).mono ?_
 rintro e w1 ⟨rfl, rfl⟩
 go_wp2_with fail
 refine (kU o d w P0.out.dk.dk P0.out.pend).mono ?_
 rintro e w1 ⟨rfl, rfl⟩
 go_wp2_with fail
 refine (look_go w0 w o d p t pg P0.out).mono ?_
 rintro e w1 ⟨g, tv, rfl, hlo, hgb, htb, b1⟩
 have P1 := hide (P0.out.then b1)
 have B1 := hide b1
 clear hlo hgb htb b1 P0
 have hal := dV w1
 obtain ⟨w3, hst, r3, b3⟩ := lq w1 (S.zeros 64) (S.zeros_length _)
 have P3 := hide (P1.out.then b3)
 have B3 := hide (B1.out.trans (b3.mono B1.out.size))
 obtain ⟨w2, hw2⟩ : ∃ w2, w2 = w1.alloc (.cells (S.v8 (S.zeros 64)) 135) := ⟨_, rfl⟩
 rw [<- hw2] at hal hst
 obtain ⟨g2, hg2⟩ : ∃ g2, g2 = w1.heap.size := ⟨_, rfl⟩
 rw [<- hg2] at hal hst
 obtain ⟨Z, hZ⟩ : ∃ Z, Z = S.v8 (S.zeros 64) := ⟨_, rfl⟩
 rw [<- hZ] at hst ⊢
 have gU : o.ptr = .pointer (some ⟨o.g, 0, none⟩) := rfl
 rw [gU]
 obtain ⟨w4, hw4⟩ : ∃ w4, w4 = w3.alloc (.cells #[.pointer (some ⟨o.g, 0, none⟩)] 134) := ⟨_, rfl⟩
 have b4 : Below w3.heap.size w3 w4 := by rw [hw4]; exact ba ..
 have R4 : Hid (eD w4 w3.heap.size o) := by rw [hw4]; exact heap_alloc_new _ _
 have P4 := hide (P3.out.then b4)
 have B4 := hide (B3.out.trans (b4.mono B3.out.size))
 have HG : Hid (w.heap.size <= w3.heap.size) := B3.out.size
 clear r3 b3 b4 hw2 hg2 hZ P1 B1 P3 B3 gU
 go_wp2_with (first | (with_reducible refine au ⟨some 6, .alloc 135, 0, "pages.go:49", #[], none⟩ ?_; refine ah rfl 135 rfl (.pointer (some ⟨g2, 0, none⟩)) w2 hal ?_) | (with_reducible refine au ⟨none, .store 135 (.tmp 6) (.tmp 20), 0, "pages.go:49", #[{ on := 6, ground := Ground.data }, { on := 4, ground := Ground.data }, { on := 7, ground := Ground.chain }, { on := 0, ground := Ground.phase }, { on := 1, ground := Ground.phase }, { on := 2, ground := Ground.phase }, { on := 3, ground := Ground.phase }, { on := 4, ground := Ground.phase }, { on := 5, ground := Ground.textOnly Departure.lateStores }, { on := 6, ground := Ground.phase }, { on := 7, ground := Ground.phase }], none⟩ ?_; refine ai rfl 135 (.tmp 6) (.tmp 20) rfl (.pointer (some ⟨g2, 0, none⟩)) (.agg Z) rfl rfl w3 hst ?_))
 rw [<- hw4]
 go_ret2
 exact ⟨w3.heap.size, rfl, R4.out, HG.out, P4.out, B4.out⟩
set_option maxHeartbeats 4000000 in
set_option maxRecDepth 10000 in
theorem qG (o : Ow) (d : S.Dk) (w : World) (hd : aZ w o d) (hl : 7680 <= d.safe.length) (hp : d.pend = []) (hz : ∀ j, 5 <= j -> j < 4101 -> d.seen.getD j [] = S.zeros 128) :
  Calls Tryz.prog 68 #[o.ptr] w fun e w' => e = .returned (.int .i64 0) /\ aZ w' o d /\ Below w.heap.size w w' := by
 have hmk : ∀ w : World, (Instr.makeSlice 22 (.int .i64 128) (.int .i64 128)).run Tryz.prog w = .ok (.slice (some ⟨w.heap.size, 0, none⟩) 128 128) (w.alloc (.cells (S.v8 (S.zeros 128)) 5)) := fun w => di 128 (by omega) w
 obtain ⟨w1, hw1⟩ : ∃ w1, w1 = w.alloc (.cells (S.v8 (S.zeros 128)) 5) := ⟨_, rfl⟩
 have b1 : Below w.heap.size w w1 := by rw [hw1]; exact ba ..
 have R1 : Hid (w1.heap[w.heap.size]? = some (.cells (S.v8 (S.zeros 128)) 5 (0, 0))) := by rw [hw1]; exact heap_alloc_new _ _
 have B1 := hide b1
 have D1 := hide (hd.below b1)
 have HL : Hid (7680 <= d.safe.length) := hl
 have HP := hide hp
 have HZ := hide hz
 obtain ⟨gz, hgz⟩ : ∃ gz, gz = w.heap.size := ⟨_, rfl⟩
 rw [<- hgz] at R1
 clear b1 hd hl hp hz
 go_enter Tryz.func68, Tryz.ntmps68
 go_upto_region 3 with fail
 rw [<- hw1, <- hgz]
 clear hw1 hgz hmk
 go_loopw [4] (fun i wr => ∃ k : Nat, 5 <= k /\ k <= 4101 /\ i = .int .i64 (k : Int) /\ aZ wr o d /\ wr.heap[gz]? = some (.cells (S.v8 (S.zeros 128)) 5 (0, 0)) /\ Below w.heap.size w wr) (fun i _ => 4101 - (intOf i).toNat)
 case atStart => exact ⟨5, by omega, by omega, rfl, D1.out, R1.out, B1.out⟩
 case round =>
 obtain ⟨k, hk5, hk, rfl, hdk, hr, hb⟩ := hrel
 have DD := hide hdk
 have RR := hide hr
 have BB := hide hb
 clear hdk hr hb D1 R1 B1
 by_cases hlt : k < 4101
 ·have q1 : (k : Int) < 4101 := by omega
  have q2 : IntKind.i64.wrap ((k : Int) + 1) = (k : Int) + 1 := by rw [IntKind.wrap_i64]; omega
  go_wp2_with fail
  refine (jP o d k wr DD.out (by have := HL.out; omega)).mono ?_
  rintro e w2 ⟨rfl, hr2, b2⟩
  rw [HZ.out k hk5 hlt] at hr2
  have S2 : Hid (SliceAt w2 (.slice (some ⟨wr.heap.size, 0, none⟩) 128 128) (S.zeros 128)) := az hr2 (S.zeros_length _).symm (by rw [S.zeros_length]; omega)
  have R2 : Hid (w2.heap[gz]? = some (.cells (S.v8 (S.zeros 128)) 5 (0, 0))) := (b2.block gz (aa RR.out)).trans RR.out
  have T2 : Hid (SliceAt w2 (.slice (some ⟨gz, 0, none⟩) 128 128) (S.zeros 128)) := az R2.out (S.zeros_length _).symm (by rw [S.zeros_length]; omega)
  have D2 := hide (DD.out.below b2)
  have B2 := hide (BB.out.trans (b2.mono BB.out.size))
  clear hr2 b2 DD RR BB
  go_wp2_with fail
  refine (ig _ _ _ _ w2 S2.out T2.out).mono ?_
  rintro e w3 ⟨rfl, rfl⟩
  rw [decide_eq_true rfl]
  go_wp2_with fail
  go_roundw
  case rel => exact ⟨k + 1, by omega, by omega, by go_num, D2.out, R2.out, B2.out⟩
  case measure => simp [intOf]; omega
 ·obtain rfl : k = 4101 := by omega
  go_wp2_with fail
  refine (kU o d wr DD.out HP.out).mono ?_
  rintro e w2 ⟨rfl, rfl⟩
  go_wp2_with fail
  go_ret
  exact ⟨rfl, DD.out, BB.out⟩
namespace S
def kz (n : Nat) : Dk := { safe := (formed (List.replicate n (zeros 128)) 1 4).set 0 fC, pend := [], left := none }
theorem Fb (n : Nat) : (Dk.new n).seen = List.replicate n (zeros 128) := rfl
theorem nR (n k : Nat) (h : k < n) : (List.replicate n (zeros 128)).getD k [] = zeros 128 := by
 rw [List.getD_eq_getElem?_getD, List.getElem?_replicate, if_pos h]
 rfl
theorem yR {ss : List (List UInt8)} {f i : Nat} (h : ∀ j, f <= j -> j < f + i -> ss.getD j [] = zeros 128) : secs ss f i = zeros (i * 128) := by
 induction i with
 | zero => rfl
 | succ i ih =>
  rw [secs, ih (fun j h1 h2 => h j h1 (by omega)), h (f + i) (by omega) (by omega)]
  unfold zeros
  rw [List.replicate_append_replicate]
  congr 1
  omega
theorem zm (n : Nat) (h : 7680 <= n) : (kz n).safe.length = n /\ (kz n).safe.getD 0 [] = fC /\ Good (kz n).safe 1 4 0 0 [] /\ ∀ k, k < 512 -> bT (kz n).safe (5 + k * 8) = zeros 1024 := by
 have hf := pI (ss := List.replicate n (zeros 128)) (f := 1) (c := 4) (by simp; omega) (by omega)
 have hl : (formed (List.replicate n (zeros 128)) 1 4).length = n := by rw [hf.1]; simp
 have hg : Good (formed (List.replicate n (zeros 128)) 1 4) 1 4 0 0 [] := yf (by simp; omega) (by omega) (by omega) (fun k h1 h2 => nR n (1 + k) (by omega))
 have hs : ∀ j, j ≠ 0 -> (kz n).safe.getD j [] = (formed (List.replicate n (zeros 128)) 1 4).getD j [] := fun j hj => by
  show ((formed (List.replicate n (zeros 128)) 1 4).set 0 fC).getD j [] = _
  rw [List.getD_eq_getElem?_getD, List.getElem?_set_ne (by omega), <- List.getD_eq_getElem?_getD]
 refine ⟨by show ((formed (List.replicate n (zeros 128)) 1 4).set 0 fC).length = n; rw [List.length_set, hl], ?_, hg.stay (by show ((formed (List.replicate n (zeros 128)) 1 4).set 0 fC).length = _; rw [List.length_set]) (fun j h1 h2 => hs j (by omega)), fun k hk => ?_⟩
 ·show ((formed (List.replicate n (zeros 128)) 1 4).set 0 fC).getD 0 [] = fC
  rw [List.getD_eq_getElem?_getD, List.getElem?_set_self (by omega)]
  rfl
 ·unfold bT
  rw [yR (fun j h1 h2 => by rw [hs j (by omega), hf.2.2.2 j (by omega) (by omega)]; exact nR n j (by omega))]
end S
theorem rz {w : World} {g : Nat} {xs : List UInt8} {fr : Nat × Nat} (h : w.heap[g]? = some (.cells (S.v8 xs) 5 fr)) (hl : xs.length <= 140737488355328) : SliceAt w (.slice (some ⟨g, 0, none⟩) xs.length xs.length) xs :=
 Or.inr (Or.inr ⟨g, 0, xs.length, rfl, lr _, hl, aa h, fun j hj => by
  rw [Nat.zero_add, cell_of_row w g j _ 5 fr h]
  simp [S.v8, hj]⟩)
set_option maxHeartbeats 8000000 in
set_option maxRecDepth 20000 in
theorem xC (w0 w : World) (o : Ow) (n : Nat) (hn : 7680 <= n) (hd : Dsk w o (S.Dk.new n)) (ho : ∀ k, o.has k -> w0.heap.size <= k) (hb : Below w0.heap.size w0 w) (h0 : 1 < w0.heap.size) :
  Calls Tryz.prog 40 #[o.ptr] w fun e w' => e = .returned (.int .i64 0) /\ ∃ o', o'.g = o.g /\ Pg w0 w' o' (S.kz n) 0 0 (fun _ => S.zeros 1024) := by
 have HD := hide hd
 have HO := hide ho
 have HB := hide hb
 have HL : Hid ((S.Dk.new n).safe.length = n) := by show (List.replicate n (S.zeros 128)).length = n; simp
 clear hd ho hb
 have hmk : ∀ w : World, (Instr.makeSlice 22 (.int .i64 128) (.int .i64 128)).run Tryz.prog w = .ok (.slice (some ⟨w.heap.size, 0, none⟩) 128 128) (w.alloc (.cells (S.v8 (S.zeros 128)) 5)) := fun w => di 128 (by omega) w
 go_enter Tryz.func40, Tryz.ntmps40
 go_wp2_with fail
 refine (yj o (S.Dk.new n) w HD.out.dk (by rw [HL.out]; exact hn)).mono ?_
 rintro e w1 ⟨rfl, rfl⟩
 obtain ⟨w1, hw1⟩ : ∃ w1, w1 = w.alloc (.cells (S.v8 (S.zeros 128)) 5) := ⟨_, rfl⟩
 have b1 : Below w.heap.size w w1 := by rw [hw1]; exact ba ..
 have r1 : w1.heap[w.heap.size]? = some (.cells (S.v8 (S.zeros 128)) 5 (0, 0)) := by rw [hw1]; exact heap_alloc_new _ _
 have D1 := hide (HD.out.below b1)
 have B1 : Hid (Below w0.heap.size w0 w1) := HB.out.trans (b1.mono HB.out.size)
 have SV1 : Hid (∀ W, Chg (fun k => k = o.g) w1 W -> SliceAt W (.slice (some ⟨w.heap.size, 0, none⟩) 128 128) (S.zeros 128)) := fun W hW => az (hW.row r1 (fun e => by have := HD.out.dk.lt o.g (Or.inl rfl); omega)) (S.zeros_length _).symm (by rw [S.zeros_length]; omega)
 obtain ⟨gz, hgz⟩ : ∃ gz, gz = w.heap.size := ⟨_, rfl⟩
 rw [<- hgz] at SV1
 clear b1 r1
 go_wp2_with fail
 rw [<- hw1, <- hgz]
 clear hw1 hgz hmk
 refine (xB o (S.Dk.new n) 0 (some ⟨gz, 0, none⟩) 128 (S.zeros 128) w1 D1.out.dk (by rw [HL.out]; omega) (S.zeros_length _) (by show 0 <= 999999; omega) SV1.out).mono ?_
 intro e w2 hdo
 obtain ⟨h1, o2, h2, h3⟩ := hdo
 have pg1 := S.Dk.plan_goes [.write 0 (S.zeros 128), .flush] (S.Dk.new n) rfl
 have pa1 : (S.Dk.new n).acts [.write 0 (S.zeros 128), .flush] = S.Dk.new n := by
  show ({ safe := (List.replicate n (S.zeros 128)).set 0 (S.zeros 128), pend := [], left := none } : S.Dk) = { safe := List.replicate n (S.zeros 128), pend := [], left := none }
  rw [List.set_replicate_self]
 rw [pg1.2, pa1] at h2
 rw [pg1.1] at h1
 subst h1
 have D2 := hide (D1.out.to h2 h3)
 have B2 : Hid (Below w0.heap.size w0 w2) := B1.out.trans (h3.chg.below _ B1.out.size (fun k hk e => by have := HO.out k e; omega))
 have O2 : Hid (∀ k, o2.has k -> w0.heap.size <= k) := fun k e => by
  rcases h3.own k e with e | e
  ·exact HO.out k e
  ·exact ltr B1.out.size e
 have PT2 : Hid (o2.g = o.g) := h3.g
 have hp2 : o2.ptr = o.ptr := by unfold Ow.ptr; rw [h3.g]
 rw [<- hp2]
 clear h2 h3 pg1 pa1 D1 B1 SV1 HD HO HB hp2
 have E0 : S.why true = 0 := rfl
 rw [E0]
 go_wp2_with fail
 refine (qG o2 (S.Dk.new n) w2 D2.out.dk (by rw [HL.out]; exact hn) rfl (fun j h1 h2 => S.nR n j (by omega))).mono ?_
 rintro e w3 ⟨rfl, hd3, b3⟩
 have D3 := hide (D2.out.below b3)
 have B3 : Hid (Below w0.heap.size w0 w3) := B2.out.trans (b3.mono B2.out.size)
 clear hd3 b3 D2 B2
 go_wp2_with fail
 refine (zC o2 (S.Dk.new n) 1 4 w3 D3.out (by rw [HL.out]; omega) (by omega) (Nat.zero_le _) (fun k h1 h2 => S.nR n (1 + k) (by omega))).mono ?_
 intro e w4 hdo
 obtain ⟨h1, o4, h2, h3⟩ := hdo
 have pg1 := S.Dk.plan_goes (S.iB 1 4) (S.Dk.new n) rfl
 obtain ⟨d4, hd4⟩ : ∃ d4 : S.Dk, d4 = { safe := S.formed (List.replicate n (S.zeros 128)) 1 4, pend := [], left := none } := ⟨_, rfl⟩
 have pa1 : (S.Dk.new n).acts (S.iB 1 4) = d4 := by rw [S.FR, S.Fb, hd4]; rfl
 rw [pg1.2, pa1] at h2
 rw [pg1.1] at h1
 subst h1
 have D4 := hide (D3.out.to h2 h3)
 have B4 : Hid (Below w0.heap.size w0 w4) := B3.out.trans (h3.chg.below _ B3.out.size (fun k hk e => by have := O2.out k e; omega))
 have O4 : Hid (∀ k, o4.has k -> w0.heap.size <= k) := fun k e => by
  rcases h3.own k e with e | e
  ·exact O2.out k e
  ·exact ltr B3.out.size e
 have PT4 : Hid (o4.g = o.g) := h3.g.trans PT2.out
 have HD4 := hide hd4
 have L4 : Hid (d4.safe.length = n) := by rw [hd4]; show (S.formed (List.replicate n (S.zeros 128)) 1 4).length = n; rw [(S.pI (f := 1) (c := 4) (by simp; omega) (by omega)).1]; simp
 have hp4 : o4.ptr = o2.ptr := by unfold Ow.ptr; rw [h3.g]
 rw [<- hp4]
 clear h2 h3 pg1 pa1 D3 B3 O2 PT2 hp4 hd4
 rw [E0]
 obtain ⟨C, hC⟩ : ∃ C, C = ((S.fC.map fun x => (x.toNat : Int)).map (Value.int .u8)).toArray := ⟨_, rfl⟩
 have ev : C = S.v8 S.fC := by rw [hC, List.map_map]; rfl
 obtain ⟨w5a, hw5a⟩ : ∃ w5a, w5a = w4.alloc (.cells C 5) := ⟨_, rfl⟩
 obtain ⟨w5, hw5⟩ : ∃ w5, w5 = w4.alloc (.cells C 5 (C.size, C.size + 1)) := ⟨_, rfl⟩
 have hcv := Lib.run_convert_bytes_const (P := Tryz.prog) w4 22 5 C 128 128 Tryz.underlying22 Tryz.underlying5
 rw [<- hw5a, <- hw5] at hcv
 have b5 : Below w4.heap.size w4 w5 := by rw [hw5]; exact ba ..
 have r5 : w5.heap[w4.heap.size]? = some (.cells (S.v8 S.fC) 5 (C.size, C.size + 1)) := by rw [hw5, <- ev]; exact heap_alloc_new _ _
 have D5 := hide (D4.out.below b5)
 have B5 : Hid (Below w0.heap.size w0 w5) := B4.out.trans (b5.mono B4.out.size)
 have SV5 : Hid (∀ W, Chg (fun k => k = o4.g) w5 W -> SliceAt W (.slice (some ⟨w4.heap.size, 0, none⟩) 128 128) S.fC) := fun W hW => by
  have := rz (hW.row r5 (fun e => by have := D4.out.dk.lt o4.g (Or.inl rfl); omega)) (by rw [S.dD]; omega)
  rw [S.dD] at this
  exact this
 have HW5 := hide hw5a
 have HC := hide hC
 clear b5 r5 ev hw5 hw5a hC
 go_wp2_with (with_reducible refine au ⟨some 26, .buildSlice 22 128 ([(0, .const (Value.int IntKind.u8 112)), (1, .const (Value.int IntKind.u8 97)), (2, .const (Value.int IntKind.u8 103)), (3, .const (Value.int IntKind.u8 101)), (4, .const (Value.int IntKind.u8 115)), (5, .const (Value.int IntKind.u8 32)), (6, .const (Value.int IntKind.u8 116)), (7, .const (Value.int IntKind.u8 104)), (8, .const (Value.int IntKind.u8 97)), (9, .const (Value.int IntKind.u8 116)), (10, .const (Value.int IntKind.u8 32)), (11, .const (Value.int IntKind.u8 97)), (12, .const (Value.int IntKind.u8 114)), (13, .const (Value.int IntKind.u8 101)), (14, .const (Value.int IntKind.u8 32)), (15, .const (Value.int IntKind.u8 112)), (16, .const (Value.int IntKind.u8 117)), (17, .const (Value.int IntKind.u8 116)), (18, .const (Value.int IntKind.u8 32)), (19, .const (Value.int IntKind.u8 116)), (20, .const (Value.int IntKind.u8 111)), (21, .const (Value.int IntKind.u8 103)), (22, .const (Value.int IntKind.u8 101)), (23, .const (Value.int IntKind.u8 116)), (24, .const (Value.int IntKind.u8 104)), (25, .const (Value.int IntKind.u8 101)), (26, .const (Value.int IntKind.u8 114)), (27, .const (Value.int IntKind.u8 32)), (28, .const (Value.int IntKind.u8 46)), (29, .const (Value.int IntKind.u8 46)), (30, .const (Value.int IntKind.u8 46)), (31, .const (Value.int IntKind.u8 32)), (32, .const (Value.int IntKind.u8 112)), (33, .const (Value.int IntKind.u8 97)), (34, .const (Value.int IntKind.u8 103)), (35, .const (Value.int IntKind.u8 101)), (36, .const (Value.int IntKind.u8 115)), (37, .const (Value.int IntKind.u8 32)), (38, .const (Value.int IntKind.u8 116)), (39, .const (Value.int IntKind.u8 104)), (40, .const (Value.int IntKind.u8 97)), (41, .const (Value.int IntKind.u8 116)), (42, .const (Value.int IntKind.u8 32)), (43, .const (Value.int IntKind.u8 97)), (44, .const (Value.int IntKind.u8 114)), (45, .const (Value.int IntKind.u8 101)), (46, .const (Value.int IntKind.u8 32)), (47, .const (Value.int IntKind.u8 112)), (48, .const (Value.int IntKind.u8 117)), (49, .const (Value.int IntKind.u8 116)), (50, .const (Value.int IntKind.u8 32)), (51, .const (Value.int IntKind.u8 116)), (52, .const (Value.int IntKind.u8 111)), (53, .const (Value.int IntKind.u8 103)), (54, .const (Value.int IntKind.u8 101)), (55, .const (Value.int IntKind.u8 116)), (56, .const (Value.int IntKind.u8 104)), (57, .const (Value.int IntKind.u8 101)), (58, .const (Value.int IntKind.u8 114)), (59, .const (Value.int IntKind.u8 32)), (60, .const (Value.int IntKind.u8 46)), (61, .const (Value.int IntKind.u8 46)), (62, .const (Value.int IntKind.u8 46)), (63, .const (Value.int IntKind.u8 32))].append [(64, .const (Value.int IntKind.u8 112)), (65, .const (Value.int IntKind.u8 97)), (66, .const (Value.int IntKind.u8 103)), (67, .const (Value.int IntKind.u8 101)), (68, .const (Value.int IntKind.u8 115)), (69, .const (Value.int IntKind.u8 32)), (70, .const (Value.int IntKind.u8 116)), (71, .const (Value.int IntKind.u8 104)), (72, .const (Value.int IntKind.u8 97)), (73, .const (Value.int IntKind.u8 116)), (74, .const (Value.int IntKind.u8 32)), (75, .const (Value.int IntKind.u8 97)), (76, .const (Value.int IntKind.u8 114)), (77, .const (Value.int IntKind.u8 101)), (78, .const (Value.int IntKind.u8 32)), (79, .const (Value.int IntKind.u8 112)), (80, .const (Value.int IntKind.u8 117)), (81, .const (Value.int IntKind.u8 116)), (82, .const (Value.int IntKind.u8 32)), (83, .const (Value.int IntKind.u8 116)), (84, .const (Value.int IntKind.u8 111)), (85, .const (Value.int IntKind.u8 103)), (86, .const (Value.int IntKind.u8 101)), (87, .const (Value.int IntKind.u8 116)), (88, .const (Value.int IntKind.u8 104)), (89, .const (Value.int IntKind.u8 101)), (90, .const (Value.int IntKind.u8 114)), (91, .const (Value.int IntKind.u8 32)), (92, .const (Value.int IntKind.u8 46)), (93, .const (Value.int IntKind.u8 46)), (94, .const (Value.int IntKind.u8 46)), (95, .const (Value.int IntKind.u8 32)), (96, .const (Value.int IntKind.u8 112)), (97, .const (Value.int IntKind.u8 97)), (98, .const (Value.int IntKind.u8 103)), (99, .const (Value.int IntKind.u8 101)), (100, .const (Value.int IntKind.u8 115)), (101, .const (Value.int IntKind.u8 32)), (102, .const (Value.int IntKind.u8 116)), (103, .const (Value.int IntKind.u8 104)), (104, .const (Value.int IntKind.u8 97)), (105, .const (Value.int IntKind.u8 116)), (106, .const (Value.int IntKind.u8 32)), (107, .const (Value.int IntKind.u8 97)), (108, .const (Value.int IntKind.u8 114)), (109, .const (Value.int IntKind.u8 101)), (110, .const (Value.int IntKind.u8 32)), (111, .const (Value.int IntKind.u8 112)), (112, .const (Value.int IntKind.u8 117)), (113, .const (Value.int IntKind.u8 116)), (114, .const (Value.int IntKind.u8 32)), (115, .const (Value.int IntKind.u8 116)), (116, .const (Value.int IntKind.u8 111)), (117, .const (Value.int IntKind.u8 103)), (118, .const (Value.int IntKind.u8 101)), (119, .const (Value.int IntKind.u8 116)), (120, .const (Value.int IntKind.u8 104)), (121, .const (Value.int IntKind.u8 101)), (122, .const (Value.int IntKind.u8 114)), (123, .const (Value.int IntKind.u8 32)), (124, .const (Value.int IntKind.u8 46)), (125, .const (Value.int IntKind.u8 46)), (126, .const (Value.int IntKind.u8 46)), (127, .const (Value.int IntKind.u8 32))]).toArray, 22, "pages.go:33", #[], none⟩ ?_; refine wpList_buildFlat rfl 22 5 128 _ rfl .u8 (S.fC.map fun x => (x.toNat : Int)) Tryz.underlying22 (by kernel_rfl) (by kernel_rfl) (by kernel_rfl) (by omega) (by omega) (by kernel_rfl) ?_; rw [<- HC.out, <- HW5.out])
 clear hcv
 refine (xB o4 d4 0 (some ⟨w4.heap.size, 0, none⟩) 128 S.fC w5 D5.out.dk (by rw [L4.out]; omega) S.dD (by rw [HD4.out]; show 0 <= 999999; omega) SV5.out).mono ?_
 intro e w6 hdo
 obtain ⟨h1, o6, h2, h3⟩ := hdo
 have pg1 := S.Dk.plan_goes [.write 0 S.fC, .flush] d4 (by rw [HD4.out])
 have pa1 : d4.acts [.write 0 S.fC, .flush] = S.kz n := by rw [HD4.out]; rfl
 rw [pg1.2, pa1] at h2
 rw [pg1.1] at h1
 subst h1
 have mf := S.zm n hn
 have PF : Hid (Pg w0 w6 o6 (S.kz n) 0 0 (fun _ => S.zeros 1024)) := ⟨D5.out.to h2 h3, rfl, rfl, by rw [mf.1]; exact hn, mf.2.1, mf.2.2.1, mf.2.2.2, (fun k e => by
  rcases h3.own k e with e | e
  ·exact O4.out k e
  ·exact ltr B5.out.size e), B5.out.trans (h3.chg.below _ B5.out.size (fun k hk e => by have := O4.out k e; omega)), h0⟩
 have PT6 : Hid (o6.g = o.g) := h3.g.trans PT4.out
 clear h2 h3 pg1 pa1 mf
 rw [E0]
 go_wp2_with fail
 go_ret
 exact ⟨rfl, o6, PT6.out, PF.out⟩
end Go.Proofs.YteealihknndclabGreatDoor
namespace Go.Proofs.YteealihknndclabGreatDoor
open Go.RowKit

theorem equal57 (xs ys : List UInt8) (hx : xs.length = 64) (hy : ys.length = 64) (w : World) : (Op.equalIn 10000 135 (.agg (S.v8 xs)) (.agg (S.v8 ys))).run Tryz.prog w = .ok (xs == ys) w :=
 run_equalIn_bytes (P := Tryz.prog) w 9998 135 5 64 Tryz.underlying135 Tryz.underlying5 (fun _ => by kernel_rfl) xs ys hx hy
theorem AO (w : World) : (Instr.build 135 #[]).run Tryz.prog w = .ok (.agg (S.v8 (S.zeros 64))) w := run_build w 135 _ _ (by kernel_rfl)
theorem kR {w : World} {ops : Array Oper} {rest : List Oper} {o : Oper} {a : Act} {Q : Exit -> Act -> World -> Prop} (hgd : o.guard = none) (x y : Operand) (ho : o.op = .binOp .eql 135 x y 135) (xs ys : List UInt8) (C D : Array Value) (hC : C = S.v8 xs) (hD : D = S.v8 ys) (hx : a.eval x = .agg C) (hy : a.eval y = .agg D) (hxl : xs.length = 64) (hyl : ys.length = 64) (b : Bool) (hb : (xs == ys) = b)
  (h : wpList Tryz.prog ops Q rest (a.put o.dst (.bool b)) w) : wpList Tryz.prog ops Q (o :: rest) a w := by
 subst hC hD hb
 have hm : Tryz.prog.eqGuardType Tryz.prog.depth 135 = false := by kernel_rfl
 have hr := equal57 xs ys hxl hyl w
 refine wpList_step fun _ hK => ?_
 rw [if_pos (by simp [Region.wanted, hgd])]
 unfold Oper.wp execOp
 simp only [ho, hx, hy, Sem.run_bind, run_eqGuard_agg w _ _ _ _ _ _ hm, run_eql_struct, hr, Result.andThen_ok]
 exact hK _ _ h
set_option maxHeartbeats 4000000 in
set_option maxRecDepth 10000 in
theorem sU (dv lv : Value) (w : World) :
  Calls Tryz.prog 61 #[dv, lv, .agg (S.v8 (S.zeros 64))] w fun e w' => e = .returned (.int .i64 0) /\ Below w.heap.size w w' := by
 obtain ⟨Z, hZ⟩ : ∃ Z, Z = S.v8 (S.zeros 64) := ⟨_, rfl⟩
 obtain ⟨w1, hw1⟩ : ∃ w1, w1 = w.alloc (.cells Z 135) := ⟨_, rfl⟩
 have b1 : Below w.heap.size w w1 := by rw [hw1]; exact ba ..
 have r1 : w1.heap[w.heap.size]? = some (.cells (S.v8 (S.zeros 64)) 135 (0, 0)) := by rw [hw1, hZ]; exact heap_alloc_new _ _
 have ld := iM r1 (S.zeros_length _)
 have hbd := AO w1
 rw [<- hZ] at ld hbd ⊢
 have HZ := hide hZ
 have B1 := hide b1
 have HW := hide hw1
 clear b1 r1 hZ hw1
 go_enter Tryz.func61, Tryz.ntmps61
 go_wp2_with (first | (rw [<- HW.out]; with_reducible refine au ⟨some 11, .load 135 (.tmp 5), 135, "place.go:97", #[], none⟩ ?_; refine ay rfl 135 (.tmp 5) rfl (.pointer (some ⟨w.heap.size, 0, none⟩)) rfl (.agg Z) ld ?_) | (with_reducible refine au ⟨some 12, .build 135 #[], 135, "place.go:97", #[], none⟩ ?_; refine aG rfl 135 [] rfl [] rfl (.agg Z) hbd ?_) | (with_reducible refine au ⟨some 13, .binOp BinOp.eql 135 (.tmp 11) (.tmp 12) 135, 4, "place.go:97", #[{ on := 0, ground := Ground.data }, { on := 1, ground := Ground.data }], none⟩ ?_; refine kR rfl (.tmp 11) (.tmp 12) rfl (S.zeros 64) (S.zeros 64) Z Z HZ.out HZ.out rfl rfl (S.zeros_length _) (S.zeros_length _) true (beq_self_eq_true _) ?_))
 go_ret
 exact ⟨rfl, B1.out⟩
end Go.Proofs.YteealihknndclabGreatDoor
