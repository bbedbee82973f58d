/- putText: the text is written, sector by sector, and flushed. -/
/- turn: a head is made the one that holds; the other one is made blank. -/
/- The parts of a Log in memory: what is read of it, what is stored in it; what its calls change. -/
import Derived.Test.YteealihknndclabGreatDoorGr
namespace Go.Proofs.YteealihknndclabGreatDoor
open Go.RowKit

namespace S
theorem yJ (f c : Nat) (x : List UInt8) (s i m : Nat) (h : i <= m) : ∃ r, dB f c x s m = dB f c x s i ++ r := by
 induction m with
 | zero => exact ⟨[], by rw [show i = 0 from by omega]; simp⟩
 | succ m ih =>
  by_cases e : i = m + 1
  ·exact ⟨[], by rw [e, List.append_nil]⟩
  ·obtain ⟨r, hr⟩ := ih (by omega)
   exact ⟨r ++ [_], by rw [pX, hr, List.append_assoc]⟩
theorem jB (a b : Ws) : Ws.acts (a ++ b) = Ws.acts a ++ Ws.acts b := by simp [Ws.acts]
theorem Em (T y : List UInt8) (hT : T.length = 8) (hy : y.length <= 120) : splice (splice (zeros 128) 0 T) 8 y = T ++ (y ++ zeros (120 - y.length)) := by
 rw [dS, hT]
 unfold splice
 rw [List.take_left' hT, List.drop_append, List.drop_eq_nil_of_le (by omega), hT, List.nil_append]
 unfold zeros
 rw [List.drop_replicate, show 128 - 8 - (8 + y.length - 8) = 120 - y.length from by omega]
end S
theorem SliceAt.dk {w W : World} {ao : Option Addr} {n c : Nat} {xs : List UInt8} {o o1 : Ow} (h : SliceAt w (.slice ao n c) xs) (ht : dK o w o1 W) (hb : ∀ a, ao = some a -> ¬ o.has a.block) : SliceAt W (.slice ao n c) xs := by
 rcases h with h | h | ⟨b, off, cap, e, h1, h2, h3, h4⟩
 ·exact Or.inl h
 ·exact Or.inr (Or.inl h)
 ·simp only [Value.slice.injEq] at e
  obtain ⟨rfl, rfl, rfl⟩ := e
  have hk := ht.chg.block b h3 (hb _ rfl)
  exact Or.inr (Or.inr ⟨b, off, c, rfl, h1, h2, Nat.lt_of_lt_of_le h3 ht.chg.size, fun j hj => (World.cell?_of_block hk).trans (h4 j hj)⟩)
set_option maxHeartbeats 1600000 in
set_option maxRecDepth 10000 in
theorem vM (p : Value) (f c : Nat) (ao : Option Addr) (n cp u : Nat) (w : World) (hn : n <= u) :
  Calls Tryz.prog 144 #[arv p f c, .slice ao n cp, .int .i64 (u : Int)] w fun e w' => e = .returned (.int .i64 0) /\ Below w.heap.size w w' := by
 have q1 : (n : Int) <= (u : Int) := by omega
 have HB : Hid (Below w.heap.size w (w.alloc (.cells #[p, .int .i64 (f : Int), .int .i64 (c : Int)] 182))) := ba ..
 unfold arv
 clear hn
 go_enter Tryz.func144, Tryz.ntmps144
 go_wp2_with fail
 go_ret
 exact ⟨rfl, HB.out⟩
set_option maxHeartbeats 4000000 in
set_option maxRecDepth 10000 in
theorem xx (o : Ow) (d : S.Dk) (f c : Nat) (ao : Option Addr) (n cp u : Nat) (x : List UInt8) (s m : Nat) (w : World) (hd : aZ w o d) (hf : f + c <= d.safe.length) (hv : SliceAt w (.slice ao n cp) x) (hfar : ∀ a, ao = some a -> ¬ o.has a.block) (hun : u < n) (hnx : n = x.length) (hr : n <= (c - 2) * 120) (hpe : d.pend.length <= 100)
  (hs : s = u / 120) (hm : s + m = (n + 119) / 120) :
  Calls Tryz.prog 144 #[arv o.ptr f c, .slice ao n cp, .int .i64 (u : Int)] w (Does d ((S.dB f c x s m).acts ++ [.flush]) o w) := by
 have hns := hd.n
 have hcc : c <= 8192 := by omega
 have hff : f <= 8192 := by omega
 have HF : Hid (f + c <= d.safe.length) := hf
 have hcap := hv.le_cap
 have HLT : Hid (∀ k, o.has k -> k < w.heap.size) := hd.lt
 obtain ⟨w0, hw0, HA, HB, HZ⟩ := lL w o.ptr f c
 have HD0 := hide (hd.below HB.out)
 have HV0 := hide (hv.below HB.out (lr _))
 have HFAR := hide hfar
 have HNX := hide hnx
 obtain ⟨ga, hga⟩ : ∃ ga, ga = w.heap.size := ⟨_, rfl⟩
 rw [<- hga] at HA
 have HGA : Hid (ga = w.heap.size) := hga
 have HNG : Hid (¬ o.has ga) := fun e => by have := HLT.out _ e; omega
 have hxb : n <= 1000000 := by omega
 have hmm : m <= 8192 := by omega
 have hsb : s <= 8192 := by omega
 have q0 : ¬ ((n : Int) <= (u : Int)) := by omega
 have q00 : (0 : Int) <= (u : Int) := by omega
 have q1 : (u : Int) / 120 = (s : Int) := by omega
 have hub : (u : Int) <= 1000000 := by omega
 have HSM : Hid (s + m = (n + 119) / 120) := hm
 have hm1 : 0 < m := by omega
 have HM1 : Hid (0 < m) := hm1
 obtain ⟨A0, hA0⟩ : ∃ A0 : Nat, A0 = s * 120 := ⟨_, rfl⟩
 have q2 : (s : Int) * 120 = (A0 : Int) := by rw [hA0]; omega
 have HA0 := hide hA0
 obtain ⟨a0, a1, a2⟩ := HA.out.cells
 unfold arv
 clear hd hf hv hfar hnx hs hm hA0 hm1 hun
 go_enter Tryz.func144, Tryz.ntmps144
 go_upto_region 3 with fail
 rw [<- hw0, <- hga]
 clear hw0 hga
 go_wp2_with fail
 clear q1 q2 a0 a1 a2 q0
 go_loopw [7] (fun st wr => ∃ (A i : Nat) (d1 : S.Dk) (o1 : Ow), st = .int .i64 (A : Int) /\ Hid (A = (s + i) * 120) /\ i <= m /\ Hid (d.plan (S.dB f c x s i).acts = (d1, true)) /\ aZ wr o1 d1 /\ dK o w0 o1 wr) (fun st _ => n + 120 - (intOf st).toNat)
 case atStart => exact ⟨A0, 0, d, o, rfl, by show A0 = (s + 0) * 120; rw [HA0.out, Nat.add_zero], Nat.zero_le _, rfl, HD0.out, dK.refl _ _⟩
 case round =>
  obtain ⟨A, i, d1, o1, rfl, hA, hi, hpl, hdk, hto⟩ := hrel
  have HDK := hide hdk
  have HTO := hide hto
  have AR := hide (HA.out.dk hto HNG.out)
  obtain ⟨a0, a1, a2⟩ := AR.out.cells
  have hpt : o1.ptr = o.ptr := by unfold Ow.ptr; rw [hto.g]
  have HPT := hide hpt
  have hlen1 : d1.safe.length = d.safe.length := by have := S.Dk.plan_len (S.dB f c x s i).acts d; rw [hpl.out] at this; exact this
  have HL1 := hide hlen1
  have FC : d1.pend.length <= 100 + i := by have := S.Dk.plan_pend (S.dB f c x s i).acts d; rw [hpl.out] at this; simp [S.Ws.acts, S.bB] at this; omega
  have HPE1 := hide FC
  clear hdk hto hpt hlen1 FC
  by_cases hlt : A < n
  ·have him : i < m := by have := hA.out; have := HSM.out; omega
   have hAn : (A : Int) < (n : Int) := by omega
   have hA1 : (0 : Int) <= (A : Int) := by omega
   obtain ⟨K, hK⟩ : ∃ K : Nat, K = s + i := ⟨_, rfl⟩
   have hKc : 2 + K < c := by have := hA.out; omega
   have qd : (A : Int) / 120 = (K : Int) := by have := hA.out; omega
   have qw : IntKind.i64.wrap ((A : Int) + 120) = (A : Int) + 120 := by rw [IntKind.wrap_i64]; omega
   have HKK := hide hK
   have HAK : Hid (A = K * 120) := by show A = K * 120; rw [hK]; exact hA.out
   have hmk : ∀ w : World, (Instr.makeSlice 22 (.int .i64 128) (.int .i64 128)).run Tryz.prog w = .ok (.slice (some ⟨w.heap.size, 0, none⟩) 128 128) (w.alloc (.cells (S.v8 (S.zeros 128)) 5)) := fun w => di 128 (by omega) w
   obtain ⟨w1, hw1⟩ : ∃ w1, w1 = wr.alloc (.cells (S.v8 (S.zeros 128)) 5) := ⟨_, rfl⟩
   have b1 : Below wr.heap.size wr w1 := by rw [hw1]; exact ba ..
   have R1 : Hid (w1.heap[wr.heap.size]? = some (.cells (S.v8 (S.zeros 128)) 5 (0, 0))) := by rw [hw1]; exact heap_alloc_new _ _
   have Z1 : Hid (w1.heap.size = wr.heap.size + 1) := by show w1.heap.size = _; rw [hw1]; simp
   have B1 := hide b1
   obtain ⟨gb, hgb⟩ : ∃ gb, gb = wr.heap.size := ⟨_, rfl⟩
   rw [<- hgb] at R1 Z1
   have GB := hide hgb
   have A1 := (AR.out.below b1 (aa AR.out)).cells
   rw [hw1] at A1
   obtain ⟨d0, d1', d2⟩ := A1
   clear hK b1
   go_upto_region 8 with fail
   try rw [<- hw1]
   rw [<- hgb]
   try rw [<- hw1] at d0 d1' d2
   clear hmk hw1 hgb a0 a1 a2
   go_wp2_with fail
   have eK : (2 : Int) + (K : Int) = ((2 + K : Nat) : Int) := by omega
   rw [eK]
   refine (qJ o.ptr f c (2 + K) w1 (by omega) (by omega) (by omega)).mono ?_
   rintro e w2 ⟨gt, rfl, g2, r2, b2⟩
   clear eK d0 d1' d2
   have tl := S.aV f c (2 + K)
   have R2 : Hid (w2.heap[gb]? = some (.cells (S.v8l (S.zeros 128)).toArray 5 (0, 0))) := (b2.block gb (by have := Z1.out; omega)).trans R1.out
   have B2 : Hid (Below wr.heap.size wr w2) := B1.out.trans (b2.mono B1.out.size)
   have HST : Hid (Src w2 (some ⟨gt, 0, none⟩) (S.tag f c (2 + K))) := fun _ => ⟨gt, 0, rfl, aa r2, fun j hj => by rw [Nat.zero_add]; exact bL r2 j hj⟩
   obtain ⟨T, hT⟩ : ∃ T, T = S.tag f c (2 + K) := ⟨_, rfl⟩
   rw [<- hT] at HST tl
   have HT := hide hT
   have HTL := hide tl
   have HN1 : Hid ((S.v8l T).length = Nat.min 8 128) := by show (S.v8l T).length = Nat.min 8 128; rw [S.ae, tl]; rfl
   have HF1 : Hid (0 + (S.v8l T).length <= (S.v8l (S.zeros 128)).length) := by show 0 + (S.v8l T).length <= (S.v8l (S.zeros 128)).length; rw [S.ae, S.ae, S.zeros_length, tl]; omega
   have LG : Hid (wr.heap.size <= gb) := by show wr.heap.size <= gb; rw [GB.out]; exact lr _
   clear g2 r2 b2 hT R1 tl
   go_upto_region 9 with (refine wpList_copy_splice rfl (.tmp 28) (.tmp 31) 22 22 rfl 5 Tryz.underlying22 kP _ _ _ _ _ _ rfl rfl gb 0 (S.v8l (S.zeros 128)) 5 R2.out (S.v8l T) HN1.out (eZ gb HST.out (Below.refl _ _)) HF1.out (S.df _) wr.heap.size wr B2.out LG.out ?_; intro w3 HG2 hB2; have HG3 := hide (jg HG2); clear HG2; have B3 := hide hB2; clear hB2)
   obtain ⟨Y, hY⟩ : ∃ Y, Y = splice (S.zeros 128) 0 T := ⟨_, rfl⟩
   have hYl : Y.length = 128 := by rw [hY, dS, List.length_append, S.zeros_length, HTL.out]
   have R3 : Hid (w3.heap[gb]? = some (.cells (S.v8l Y).toArray 5 (0, 0))) := by rw [hY]; exact HG3.out
   have HY := hide hY
   obtain ⟨xs, hxs⟩ : ∃ xs, xs = (x.drop A).take 120 := ⟨_, rfl⟩
   have hxl : xs.length = min 120 (n - A) := by rw [hxs, List.length_take, List.length_drop, HNX.out]
   have HXS := hide hxs
   have VW := (HV0.out.dk HTO.out HFAR.out).below B3.out (lr _)
   have PF := jS VW A n (by omega) (lr _)
   obtain ⟨bk, off, rfl, hz1, hz2, hz3⟩ := VW.src (by rw [<- HNX.out]; omega)
   have HSX : Hid (Src w3 (some ⟨bk, off + A, none⟩) xs) := fun _ => ⟨bk, off + A, rfl, hz1, fun j hj => by
    have h1 := hz3 (A + j) (by rw [<- HNX.out]; omega)
    rw [<- Nat.add_assoc] at h1
    rw [h1, HXS.out]
    congr 4
    rw [List.getD_eq_getElem?_getD, List.getD_eq_getElem?_getD, List.getElem?_take, if_pos (by omega), List.getElem?_drop]⟩
   have HN2 : Hid ((S.v8l xs).length = Nat.min (n - A) 120) := by show (S.v8l xs).length = min (n - A) 120; rw [S.ae, hxl]; omega
   have HF2 : Hid (8 + (S.v8l xs).length <= (S.v8l Y).length) := by show 8 + (S.v8l xs).length <= (S.v8l Y).length; rw [S.ae, S.ae, hYl, hxl]; omega
   have HCP : Hid (0 < (S.v8l xs).length -> some (⟨gb, 8, none⟩ : Addr) = some ⟨gb, 8, none⟩ /\ ∃ ad, some (⟨bk, off + A, none⟩ : Addr) = some ad /\ ∀ j v, (S.v8l xs)[j]? = some v -> w3.cell? (ad.add j) = some v) := fun hp => ⟨rfl, (eZ gb HSX.out (Below.refl _ _) hp).2⟩
   have HXL : Hid (xs.length <= 120) := by show xs.length <= 120; rw [hxl]; omega
   have hcA : ¬ cp = A := by omega
   have qc : (A : Int) <= (cp : Int) := by omega
   have qn : (A : Int) <= (n : Int) := by omega
   have qnc : (n : Int) <= (cp : Int) := by omega
   clear hY HG3 hYl R2 HST HN1 HF1 hxs hxl VW PF hz1 hz2 hz3
   refine wp_region_noPanic ?_
   refine wp_region_held_drew (S := (fun _ => True)) follows trivial (fun hHeld => ?_)
   have B3d : Hid (Below wr.heap.size wr w3.drew) := B3.out.drew
   have R3d : Hid (w3.drew.heap[gb]? = some (.cells (S.v8l Y).toArray 5 (0, 0))) := R3.out
   have HCPd : Hid (0 < (S.v8l xs).length -> some (⟨gb, 8, none⟩ : Addr) = some ⟨gb, 8, none⟩ /\ ∃ ad, some (⟨bk, off + A, none⟩ : Addr) = some ad /\ ∀ j v, (S.v8l xs)[j]? = some v -> w3.drew.cell? (ad.add j) = some v) := HCP.out
   clear B3 R3 HCP HSX
   generalize w3.drew = Z3 at B3d R3d HCPd hHeld ⊢
   refine tq 0 ?_
   simp only [uA]
   refine tq 1 ?_
   simp only [uA]
   refine tq 2 ?_
   simp only [uA]
   refine tq 3 ?_
   simp only [uA]
   refine tq 4 ?_
   simp only [uA]
   refine r1 5 fun K hK => ?_
   refine step_copy_splice rfl (.tmp 34) (.tmp 37) 22 22 rfl 5 Tryz.underlying22 kP _ _ _ _ _ _ rfl rfl gb 8 (S.v8l Y) 5 R3d.out (S.v8l xs) HN2.out HCPd.out HF2.out (S.df _) wr.heap.size wr B3d.out LG.out ?_
   intro w4 HG4 hB4
   have R4 := hide (wT HG4)
   have B4 := hide hB4
   clear HG4 hB4
   refine hK.out _ _ trivial (fun hHeld => ?_)
   clear hK K 
   try simp only [uA]
   refine wpAnyH_done (by kernel_rfl) ?_ _
   refine NoPanic.normal ?_
   clear hHeld R3d HCPd B3d
   have ES : Hid (splice Y 8 xs = S.iG f c (2 + K) x (K * 120)) := by
    show splice Y 8 xs = S.iG f c (2 + K) x (K * 120)
    rw [HY.out, S.Em T xs HTL.out HXL.out, S.iG, <- HT.out, <- HAK.out, <- HXS.out]
   have R4' : Hid (w4.heap[gb]? = some (.cells (S.v8 (S.iG f c (2 + K) x (K * 120))) 5 (0, 0))) := by rw [<- ES.out]; exact R4.out
   have AR4 := hide (AR.out.below B4.out (aa AR.out))
   have DK4 := hide (HDK.out.below B4.out)
   have NG4 : Hid (¬ gb = o1.g) := fun e => by have := HDK.out.lt o1.g (Or.inl rfl); have := GB.out; omega
   obtain ⟨a0, a1, a2⟩ := AR4.out.cells
   clear R4
   go_wp2_with fail
   have eK : (2 : Int) + (K : Int) = ((2 + K : Nat) : Int) := by omega
   rw [eK, <- HPT.out]
   have hsl := S.gL f c (2 + K) x (K * 120)
   refine (wN o1 d1 f c (2 + K) (some ⟨gb, 0, none⟩) 128 (S.iG f c (2 + K) x (K * 120)) w4 DK4.out (by rw [HL1.out]; have := HF.out; omega) hsl (by have := HPE1.out; omega) (fun W hW => az (hW.row R4'.out NG4.out) hsl.symm (by rw [hsl]; omega))).mono ?_
   intro e w5 hdo
   rw [HPT.out]
   clear eK hsl
   obtain ⟨b, d5, o5, rfl, h1, h2, h3⟩ := hdo.start
   have T5 := hide (HTO.out.trans (h3.after B4.out))
   have D5 := hide h2
   have PL5 : Hid (d.plan (S.dB f c x s (i + 1)).acts = (d5, b)) := by
    show d.plan (S.dB f c x s (i + 1)).acts = (d5, b)
    rw [S.pX, S.jB, S.Dk.plan_app, hpl.out, <- HKK.out]
    exact h1
   clear hdo h1 h2 h3 a0 a1 a2
   cases b with
   | false =>
    have E : S.why false = 13 := rfl
    rw [E]
    go_wp2_with fail
    go_ret
    obtain ⟨r, hr⟩ := S.yJ f c x s (i + 1) m (by omega)
    rw [hr, S.jB, List.append_assoc]
    exact (Does.stop PL5.out D5.out T5.out).after HB.out
   | true =>
    have E : S.why true = 0 := rfl
    rw [E]
    have HA5 : Hid (A + 120 = (s + (i + 1)) * 120) := by show A + 120 = _; rw [hA.out]; omega
    go_wp2_with fail
    go_roundw
    case rel => exact ⟨A + 120, i + 1, d5, o5, by go_num, HA5, by omega, PL5, D5.out, T5.out⟩
    case measure => simp [intOf]; omega
  ·have him : i = m := by have := hA.out; have := HSM.out; have := HM1.out; omega
   have hAn : ¬ ((A : Int) < (n : Int)) := by omega
   have HIM := hide him
   clear him
   rw [<- HPT.out] at a0
   go_wp2_with fail
   refine (lD o1 d1 wr HDK.out (by have := HPE1.out; omega)).mono ?_
   intro e w5 hdo
   have pl : d.plan (S.dB f c x s m).acts = (d1, true) := by rw [<- HIM.out]; exact hpl.out
   have h4 : Does d ((S.dB f c x s m).acts ++ [.flush]) o w e w5 := (Does.on pl HTO.out hdo).after HB.out
   obtain ⟨b, d2, o2, rfl, h5, h6, h7⟩ := h4.start
   have H4 := hide h4
   clear h4 h5 h6 h7 hdo pl
   generalize S.why b = y at H4 ⊢
   go_wp2_with fail
   go_ret
   exact H4.out
end Go.Proofs.YteealihknndclabGreatDoor
namespace Go.Proofs.YteealihknndclabGreatDoor
open Go.RowKit

set_option maxHeartbeats 4000000 in
set_option maxRecDepth 10000 in
theorem DU (o : Ow) (d : S.Dk) (f c q : Nat) (h : S.Hd) (w : World) (hd : Dsk w o d) (hf : f + c <= d.safe.length) (h4 : 4 <= c) (hq : q <= 1) (ho : h.Ok) (hpe : d.pend.length <= 100) :
  Calls Tryz.prog 145 #[arv o.ptr f c, .int .i64 (q : Int), hdv h] w (Does d [.write (f + q) (S.aC f c q h), .flush, .write (f + (1 - q)) (S.blank f c (1 - q)), .flush] o w) := by
 have hns := hd.dk.n
 have HF : Hid (f + c <= d.safe.length) := hf
 have HOK := hide ho
 have HLT : Hid (∀ k, o.has k -> k < w.heap.size) := hd.dk.lt
 obtain ⟨w0, hw0, HA, HHD, HB, HZ⟩ := zR w o.ptr f c h
 have HX0 : Hid (ug w0 o d w.heap.size (w.heap.size + 1) f c h) := ⟨hd.below HB.out, HA.out, HHD.out⟩
 obtain ⟨ga, hga⟩ : ∃ ga, ga = w.heap.size := ⟨_, rfl⟩
 obtain ⟨gh, hgh⟩ : ∃ gh, gh = w.heap.size + 1 := ⟨_, rfl⟩
 rw [<- hgh, <- hga] at HX0
 have HGA : Hid (ga = w.heap.size /\ gh = w.heap.size + 1) := ⟨hga, hgh⟩
 have HNO : Hid (¬ o.has ga /\ ¬ o.has gh) := ⟨fun e => by have := HLT.out _ e; omega, fun e => by have := HLT.out _ e; omega⟩
 obtain ⟨C, hC⟩ : ∃ C, C = (S.hc h).toArray := ⟨_, rfl⟩
 rw [<- hC] at hw0
 unfold arv
 have eC : hdv h = .agg C := by rw [hC]; rfl
 rw [eC]
 clear hC eC hd HA HHD ho
 go_enter Tryz.func145, Tryz.ntmps145
 go_wp2_with fail
 rw [<- hw0, <- hgh, <- hga]
 clear hw0 hga hgh
 refine wp_region_noPanic ?_
 refine wp_region_held_drew (S := (fun W => eX W ga o.ptr f c /\ bQ W gh h)) follows ⟨HX0.out.ar, HX0.out.hd⟩ (fun hHeld => ?_)
 have X0 := hide (HX0.out.below (W := w0.drew) (Below.refl _ _).drew)
 have B0 : Hid (Below w.heap.size w w0.drew) := HB.out.drew
 clear HX0 HB
 generalize w0.drew = Z1 at X0 B0 hHeld ⊢
 refine wpAnyH_take (i := 0) (oi := ⟨_, _, _, _, _, _⟩) (v := .agg #[o.ptr, .int .i64 (f : Int), .int .i64 (c : Int)]) rfl (by kernel_rfl) (by kernel_rfl) (by kernel_rfl) (fun _ _ _ h => h) (yieldsIf_load_mid (by kernel_rfl) 182 (.tmp 3) rfl ga 0 rfl [o.ptr, .int .i64 (f : Int), .int .i64 (c : Int)] _ (fun W hW => aH hW.1) Tryz.underlying182 rfl (by kernel_rfl)) (by assumption) ?_
 simp only [uA]
 refine tq 1 ?_
 simp only [uA]
 refine wpAnyH_take (i := 2) (oi := ⟨_, _, _, _, _, _⟩) (v := .agg #[o.ptr, .int .i64 (f : Int), .int .i64 (c : Int)]) rfl (by kernel_rfl) (by kernel_rfl) (by kernel_rfl) (fun _ _ _ h => h) (yieldsIf_load_mid (by kernel_rfl) 182 (.tmp 3) rfl ga 0 rfl [o.ptr, .int .i64 (f : Int), .int .i64 (c : Int)] _ (fun W hW => aH hW.1) Tryz.underlying182 rfl (by kernel_rfl)) (by assumption) ?_
 simp only [uA]
 refine tq 3 ?_
 simp only [uA]
 refine wpAnyH_take (i := 4) (oi := ⟨_, _, _, _, _, _⟩) (v := hdv h) rfl (by kernel_rfl) (by kernel_rfl) (by kernel_rfl) (fun _ _ _ h => h) (yieldsIf_load_mid (by kernel_rfl) 186 (.tmp 5) rfl gh 0 rfl (S.hc h) _ (fun W hW => aH hW.2) Tryz.underlying186 rfl (by rw [jv, S.aD HOK.out.sl])) (by assumption) ?_
 simp only [uA]
 refine r1 5 fun K hK => ?_
 go_simp
 refine (jm o.ptr f c q h Z1 (by have := HF.out; omega) (by have := HF.out; omega) (by omega) HOK.out X0.out.dk.k).mono ?_
 rintro e Z2 ⟨gs, rfl, g2, r2, b2⟩
 have X2 := hide (X0.out.below b2)
 have B2 : Hid (Below w.heap.size w Z2) := B0.out.trans (b2.mono B0.out.size)
 have R2 := hide r2
 have NG2 : Hid (¬ gs = o.g) := fun e => by have := HLT.out o.g (Or.inl rfl); have := B0.out.size; omega
 clear g2 r2 b2 hHeld
 refine hK.out _ _ ⟨X2.out.ar, X2.out.hd⟩ (fun hHeld => ?_)
 clear hK K 
 try simp only [uA]
 clear X0 B0
 refine r1 6 fun K hK => ?_
 go_simp
 refine (mg o d f c q (some ⟨gs, 0, none⟩) 128 (S.aC f c q h) Z2 X2.out.dk.dk (by have := HF.out; omega) (S.aT HOK.out) (by omega) (fun W hW => az (hW.row R2.out NG2.out) (S.aT HOK.out).symm (by rw [S.aT HOK.out]; omega))).mono ?_
 intro e Z3 hdo
 obtain ⟨b, d3, o3, rfl, h1, h2, h3⟩ := hdo.start
 have A3 : eX Z3 ga o.ptr f c := X2.out.ar.dk h3 HNO.out.1
 have H3 : bQ Z3 gh h := h3.chg.row X2.out.hd HNO.out.2
 have D3 := hide (X2.out.dk.to h2 h3)
 have T3 := hide (h3.after B2.out)
 have P3 := hide h1
 have HA3 := hide A3
 have HN3 : Hid (¬ o3.has ga) := fun e => by
  rcases h3.own ga e with e | e
  ·exact HNO.out.1 e
  ·have := aa X2.out.ar; omega
 clear hdo h1 h2 h3 hHeld
 refine hK.out _ _ ⟨A3, H3⟩ (fun hHeld => ?_)
 clear hK K 
 try simp only [uA]
 clear A3 H3 X2 R2 NG2 B2
 obtain ⟨y, hy⟩ : ∃ y, y = S.why b := ⟨_, rfl⟩
 rw [<- hy]
 have HYB := hide hy
 clear hy
 refine tq 7 ?_
 simp only [uA]
 refine wpAnyH_done (by kernel_rfl) ?_ _
 refine NoPanic.normal ?_
 clear hHeld
 cases b with
 | false =>
  have E : y = 13 := HYB.out
  subst E
  go_wp2_with fail
  go_ret
  exact Does.stop (l := [.write (f + (1 - q)) (S.blank f c (1 - q)), .flush]) P3.out D3.out.dk T3.out
 | true =>
  have E : y = 0 := HYB.out
  subst E
  have HL3 : Hid (d3.safe.length = d.safe.length) := by
   have := S.Dk.plan_len [.write (f + q) (S.aC f c q h), .flush] d
   rw [P3.out] at this
   exact this
  have HPE3 : Hid (d3.pend.length <= 102) := by
   have := S.Dk.plan_pend [.write (f + q) (S.aC f c q h), .flush] d
   rw [P3.out] at this
   simp at this
   show d3.pend.length <= 102
   omega
  have HPT : Hid (o3.ptr = o.ptr) := by show o3.ptr = o.ptr; unfold Ow.ptr; rw [T3.out.g]
  go_wp2_with fail
  refine wp_region_noPanic ?_
  refine wp_region_held_drew (S := (fun W => eX W ga o.ptr f c)) follows HA3.out (fun hHeld => ?_)
  have DD := hide (D3.out.below (W := Z3.drew) (Below.refl _ _).drew)
  have BD : Hid (Below Z3.heap.size Z3 Z3.drew) := (Below.refl _ _).drew
  have HLT3 : Hid (∀ k, o3.has k -> k < Z3.drew.heap.size) := DD.out.dk.lt
  clear HA3
  generalize Z3.drew = Z4 at DD BD HLT3 hHeld ⊢
  refine wpAnyH_take (i := 0) (oi := ⟨_, _, _, _, _, _⟩) (v := .agg #[o.ptr, .int .i64 (f : Int), .int .i64 (c : Int)]) rfl (by kernel_rfl) (by kernel_rfl) (by kernel_rfl) (fun _ _ _ h => h) (yieldsIf_load_mid (by kernel_rfl) 182 (.tmp 3) rfl ga 0 rfl [o.ptr, .int .i64 (f : Int), .int .i64 (c : Int)] _ (fun W hW => aH hW) Tryz.underlying182 rfl (by kernel_rfl)) (by assumption) ?_
  simp only [uA]
  refine tq 1 ?_
  simp only [uA]
  refine wpAnyH_take (i := 3) (oi := ⟨_, _, _, _, _, _⟩) (v := .agg #[o.ptr, .int .i64 (f : Int), .int .i64 (c : Int)]) rfl (by kernel_rfl) (by kernel_rfl) (by kernel_rfl) (fun _ _ _ h => h) (yieldsIf_load_mid (by kernel_rfl) 182 (.tmp 3) rfl ga 0 rfl [o.ptr, .int .i64 (f : Int), .int .i64 (c : Int)] _ (fun W hW => aH hW) Tryz.underlying182 rfl (by kernel_rfl)) (by assumption) ?_
  simp only [uA]
  refine tq 4 ?_
  simp only [uA]
  refine r1 2 fun K hK => ?_
  go_simp
  refine (pz q Z4 hq).mono ?_
  rintro e Z9 ⟨rfl, rfl⟩
  refine hK.out _ _ hHeld (fun hHeld => ?_)
  clear hK K 
  try simp only [uA]
  refine r1 5 fun K hK => ?_
  go_simp
  refine (pz q Z4 hq).mono ?_
  rintro e Z9 ⟨rfl, rfl⟩
  refine hK.out _ _ hHeld (fun hHeld => ?_)
  clear hK K 
  try simp only [uA]
  refine r1 6 fun K hK => ?_
  go_simp
  refine (pO o.ptr f c (1 - q) Z4 (by have := HF.out; omega) (by have := HF.out; omega) (by omega)).mono ?_
  rintro e Z5 ⟨gb, rfl, g5, r5, b5⟩
  have A5 : eX Z5 ga o.ptr f c := eX.below hHeld b5 (aa hHeld)
  have D5 := hide (DD.out.below b5)
  have B5 : Hid (Below Z3.heap.size Z3 Z5) := BD.out.trans (b5.mono BD.out.size)
  have R5 := hide r5
  have NG5 : Hid (¬ gb = o3.g) := fun e => by have := HLT3.out o3.g (Or.inl rfl); omega
  clear g5 r5 b5 hHeld
  refine hK.out _ _ A5 (fun hHeld => ?_)
  clear hK K 
  try simp only [uA]
  clear DD BD A5
  refine r1 7 fun K hK => ?_
  go_simp
  rw [<- HPT.out]
  refine (mg o3 d3 f c (1 - q) (some ⟨gb, 0, none⟩) 128 (S.blank f c (1 - q)) Z5 D5.out.dk (by rw [HL3.out]; have := HF.out; omega) (S.aI _ _ _) (by have := HPE3.out; omega) (fun W hW => az (hW.row R5.out NG5.out) (S.aI f c (1 - q)).symm (by rw [S.aI]; omega))).mono ?_
  rw [HPT.out]
  intro e Z6 hdo
  obtain ⟨b, d6, o6, rfl, h1, h2, h3⟩ := hdo.start
  have A6 : eX Z6 ga o.ptr f c := eX.dk hHeld h3 HN3.out
  have H6 : Hid (Does d ([.write (f + q) (S.aC f c q h), .flush] ++ [.write (f + (1 - q)) (S.blank f c (1 - q)), .flush]) o w (.returned (.int .i64 (S.why b))) Z6) := Does.on P3.out T3.out (hdo.after B5.out)
  clear hdo h1 h2 h3 hHeld
  refine hK.out _ _ A6 (fun hHeld => ?_)
  clear hK K 
  try simp only [uA]
  clear A6
  generalize S.why b = y at H6 ⊢
  refine tq 8 ?_
  simp only [uA]
  refine wpAnyH_done (by kernel_rfl) ?_ _
  refine NoPanic.normal ?_
  clear hHeld
  go_wp2_with fail
  go_ret
  exact H6.out
end Go.Proofs.YteealihknndclabGreatDoor
namespace Go.Proofs.YteealihknndclabGreatDoor
open Go.RowKit

theorem aS.cell {w : World} {g : Nat} {p : Value} {f c : Nat} {h : S.Hd} {tv : Value} {op : Bool} (a : aS w g p f c h tv op) (j : Nat) : w.cell? ⟨g, j, none⟩ = (S.lc p f c h tv op)[j]? := by
 rw [cell_of_row w g j _ _ _ a]; simp
theorem aS.area {w : World} {g : Nat} {p : Value} {f c : Nat} {h : S.Hd} {tv : Value} {op : Bool} (a : aS w g p f c h tv op) : w.rangeAt g 0 [p, .int .i64 (f : Int), .int .i64 (c : Int)] := fun j v hv => by
 rw [Nat.zero_add, a.cell, S.lc, List.getElem?_append_left (List.getElem?_eq_some_iff.1 hv).1]
 exact hv
theorem aS.head {w : World} {g : Nat} {p : Value} {f c : Nat} {h : S.Hd} {tv : Value} {op : Bool} (a : aS w g p f c h tv op) : w.rangeAt g 3 (S.hc h) := fun j v hv => by
 rw [a.cell, S.lc, List.getElem?_append_right (by simp), List.getElem?_append_left (by have := (List.getElem?_eq_some_iff.1 hv).1; simp; omega)]
 simpa using hv
theorem aS.used {w : World} {g : Nat} {p : Value} {f c : Nat} {h : S.Hd} {tv : Value} {op : Bool} (a : aS w g p f c h tv op) : w.cell? ⟨g, 4, none⟩ = some (.int .i64 (h.used : Int)) := by rw [a.cell]; rfl
theorem aS.text {w : World} {g : Nat} {p : Value} {f c : Nat} {h : S.Hd} {tv : Value} {op : Bool} (a : aS w g p f c h tv op) (hl : h.sl.length = 32) : w.cell? ⟨g, 37, none⟩ = some tv := by
 rw [a.cell, S.lc, List.getElem?_append_right (by simp), List.getElem?_append_right (by simp [S.aD hl]), S.aD hl]
 rfl
theorem aS.opened {w : World} {g : Nat} {p : Value} {f c : Nat} {h : S.Hd} {tv : Value} {op : Bool} (a : aS w g p f c h tv op) (hl : h.sl.length = 32) : w.cell? ⟨g, 38, none⟩ = some (.bool op) := by
 rw [a.cell, S.lc, List.getElem?_append_right (by simp), List.getElem?_append_right (by simp [S.aD hl]), S.aD hl]
 rfl
theorem aS.setOpen {w : World} {g : Nat} {p : Value} {f c : Nat} {h : S.Hd} {tv : Value} {op : Bool} (a : aS w g p f c h tv op) (hl : h.sl.length = 32) (b : Bool) : aS (w.setCell ⟨g, 38, none⟩ (.bool b)) g p f c h tv b := by
 unfold aS
 rw [heap_setCell_same w g 38 _ _ _ a]
 congr 2
 apply Array.ext'
 simp only [Array.toList_setIfInBounds, S.lc]
 rw [List.set_append_right _ _ (by simp), List.set_append_right _ _ (by simp [S.aD hl]), S.aD hl]
 rfl
theorem aS.setText {w : World} {g : Nat} {p : Value} {f c : Nat} {h : S.Hd} {tv : Value} {op : Bool} (a : aS w g p f c h tv op) (hl : h.sl.length = 32) (tv' : Value) : aS (w.setCell ⟨g, 37, none⟩ tv') g p f c h tv' op := by
 unfold aS
 rw [heap_setCell_same w g 37 _ _ _ a]
 congr 2
 apply Array.ext'
 simp only [Array.toList_setIfInBounds, S.lc]
 rw [List.set_append_right _ _ (by simp), List.set_append_right _ _ (by simp [S.aD hl]), S.aD hl]
 rfl
theorem aS.loadHead {w : World} {g : Nat} {p : Value} {f c : Nat} {h : S.Hd} {tv : Value} {op : Bool} (a : aS w g p f c h tv op) (hl : h.sl.length = 32) : (Instr.loadAt 186 (.pointer (some ⟨g, 3, none⟩))).run Tryz.prog w = .ok (hdv h) w :=
 run_loadAt_mid (P := Tryz.prog) w g 3 186 _ _ a.head Tryz.underlying186 rfl (by rw [jv, S.aD hl])
theorem aS.storeHead {w : World} {g : Nat} {p : Value} {f c : Nat} {h h' : S.Hd} {tv : Value} {op : Bool} (a : aS w g p f c h tv op) (hl : h.sl.length = 32) (hl' : h'.sl.length = 32) :
  ∃ w', (Instr.storeAt 186 (.pointer (some ⟨g, 3, none⟩)) (hdv h')).run Tryz.prog w = .ok () w' /\ aS w' g p f c h' tv op /\ Chg (fun k => k = g) w w' := by
 have hz : (S.lc p f c h tv op).length = 39 := S.pF _ _ _ _ _ hl
 have hth : w.there g 3 (S.hc h').toArray.size := fun j hj => by
  rw [List.size_toArray, S.aD hl'] at hj
  refine ⟨?_, frozen_of_row _ _ _ _ _ a⟩
  rw [a.cell, List.getElem?_eq_getElem (by omega)]
  rfl
 have hr := run_storeAt_mid (P := Tryz.prog) w g 3 186 (S.hc h').toArray hth (by rw [jv, List.size_toArray, S.aD hl']) (S.FI _)
 refine ⟨_, hr, ?_, Chg.setCells (p := fun k => k = g) g (fun _ => rfl) _ _ (Chg.refl _ _)⟩
 obtain ⟨cc, h3, h4⟩ := iR (w := w) (S.hc h') 3 a
 have r1 := World.rangeAt_setCells_same w g 3 (S.hc h') (by rw [List.size_toArray] at hth; exact hth)
 have r0 := World.rangeAt_setCells_apart (cs := [p, .int .i64 (f : Int), .int .i64 (c : Int)]) (b' := g) (o' := 0) a.area g 3 (S.hc h') (Or.inr (Or.inl (by simp)))
 have r2 := World.rangeAt_setCells_apart (cs := [tv, .bool op]) (b' := g) (o' := 37) (fun j v hv => by
  rcases j with _ | _ | j
  ·rw [<- hv]; exact a.text hl
  ·rw [<- hv]; exact a.opened hl
  ·simp at hv) g 3 (S.hc h') (Or.inr (Or.inr (by rw [S.aD hl']; omega)))
 show (w.setCells g 3 (S.hc h')).heap[g]? = _
 rw [h3]
 have hsz : cc.size = 39 := by rw [h4, List.size_toArray, hz]
 have hz' : (S.lc p f c h' tv op).length = 39 := S.pF _ _ _ _ _ hl'
 have hcc : ∀ k, (w.setCells g 3 (S.hc h')).cell? ⟨g, k, none⟩ = cc.toList[k]? := fun k => by rw [cell_of_row _ g k _ _ _ h3]; simp
 have e : cc = (S.lc p f c h' tv op).toArray := by
  apply Array.ext'
  apply List.ext_getElem?
  intro j
  show cc.toList[j]? = (S.lc p f c h' tv op)[j]?
  rw [<- hcc]
  by_cases j3 : j < 3
  ·rw [S.lc, List.getElem?_append_left (by simp; omega), List.getElem?_eq_getElem (by simp; omega)]
   have := r0 j _ (List.getElem?_eq_getElem (by simp; omega))
   rw [Nat.zero_add] at this
   exact this
  ·by_cases j37 : j < 37
   ·rw [S.lc, List.getElem?_append_right (by simp; omega), List.getElem?_append_left (by simp [S.aD hl']; omega), List.getElem?_eq_getElem (by simp [S.aD hl']; omega)]
    have := r1 (j - 3) _ (List.getElem?_eq_getElem (by rw [S.aD hl']; omega))
    rw [show 3 + (j - 3) = j from by omega] at this
    exact this
   ·by_cases j39 : j < 39
    ·have hj : j = 37 \/ j = 38 := by omega
     rcases hj with rfl | rfl
     ·rw [S.lc, List.getElem?_append_right (by simp), List.getElem?_append_right (by simp [S.aD hl']), S.aD hl']
      exact r2 0 _ rfl
     ·rw [S.lc, List.getElem?_append_right (by simp), List.getElem?_append_right (by simp [S.aD hl']), S.aD hl']
      exact r2 1 _ rfl
    ·rw [hcc, List.getElem?_eq_none (by rw [Array.length_toList, hsz]; omega), List.getElem?_eq_none (by rw [hz']; omega)]
 rw [e]
structure gG (o : Ow) (g : Nat) (w : World) (o' : Ow) (w' : World) : Prop where
 ptr : o'.g = o.g
 chg : Chg (fun k => o.has k \/ k = g) w w'
 own : ∀ k, o'.has k -> o.has k \/ w.heap.size <= k
theorem gG.refl (o : Ow) (g : Nat) (w : World) : gG o g w o w := ⟨rfl, Chg.refl _ _, fun _ h => Or.inl h⟩
theorem gG.ofDk {o o' : Ow} {g : Nat} {w w' : World} (h : dK o w o' w') : gG o g w o' w' := ⟨h.g, h.chg.mono fun _ _ e => Or.inl e, h.own⟩
theorem gG.trans {o o1 o2 : Ow} {g : Nat} {w w1 w2 : World} (h : gG o g w o1 w1) (k : gG o1 g w1 o2 w2) : gG o g w o2 w2 :=
 ⟨k.ptr.trans h.ptr, h.chg.trans k.chg (fun j hj e => by
  rcases e with e | e
  ·rcases h.own j e with e | e
   ·exact Or.inl e
   ·omega
  ·exact Or.inr e), fun j e => by
  rcases k.own j e with e | e
  ·exact h.own j e
  ·exact Or.inr (ltr h.chg.size e)⟩
theorem gG.then {o o1 : Ow} {g : Nat} {w w1 w2 : World} (h : gG o g w o1 w1) (hc : Chg (fun k => k = g) w1 w2) : gG o g w o1 w2 :=
 h.trans ⟨rfl, hc.mono fun _ _ e => Or.inr e, fun _ e => Or.inl e⟩
theorem gG.after {o o1 : Ow} {g : Nat} {w w0 w1 : World} (h : gG o g w0 o1 w1) (hb : Below w.heap.size w w0) : gG o g w o1 w1 :=
 gG.trans ⟨rfl, Chg.ofBelow' hb, fun _ e => Or.inl e⟩ h
theorem gG.below {o o1 : Ow} {g : Nat} {w w1 w2 : World} (h : gG o g w o1 w1) (hb : Below w1.heap.size w1 w2) : gG o g w o1 w2 :=
 h.trans ⟨rfl, Chg.ofBelow' hb, fun _ e => Or.inl e⟩
namespace S
def iO (f c : Nat) (x : List UInt8) (u : Nat) : Ws := if x.length <= u then [] else dB f c x (u / 120) ((x.length + 119) / 120 - u / 120)
end S
theorem yU (o : Ow) (d : S.Dk) (f c : Nat) (ao : Option Addr) (n cp u : Nat) (x : List UInt8) (w : World) (hd : aZ w o d) (hf : f + c <= d.safe.length) (hv : SliceAt w (.slice ao n cp) x) (hfar : ∀ a, ao = some a -> ¬ o.has a.block) (hnx : n = x.length) (hr : n <= (c - 2) * 120) (hpe : d.pend.length <= 100) :
  Calls Tryz.prog 144 #[arv o.ptr f c, .slice ao n cp, .int .i64 (u : Int)] w (Does d (S.eG (S.iO f c x u)) o w) := by
 by_cases h : n <= u
 ·refine (vM o.ptr f c ao n cp u w h).mono ?_
  rintro e w' ⟨rfl, hb⟩
  have e1 : S.iO f c x u = [] := by unfold S.iO; rw [if_pos (by omega)]
  rw [e1]
  exact ⟨rfl, o, hd.below hb, (dK.refl o w).then hb⟩
 ·have e1 : S.iO f c x u = S.dB f c x (u / 120) ((n + 119) / 120 - u / 120) := by unfold S.iO; rw [if_neg (by omega), <- hnx]
  have hne : S.iO f c x u ≠ [] := fun e => by
   have := S.bB f c x (u / 120) ((n + 119) / 120 - u / 120)
   rw [<- e1, e] at this
   simp at this
   omega
  have e2 : S.eG (S.iO f c x u) = (S.dB f c x (u / 120) ((n + 119) / 120 - u / 120)).acts ++ [.flush] := by unfold S.eG; rw [if_neg hne, e1]
  rw [e2]
  exact xx o d f c ao n cp u x (u / 120) ((n + 119) / 120 - u / 120) w hd hf hv hfar (by omega) hnx hr hpe rfl (by omega)
end Go.Proofs.YteealihknndclabGreatDoor
