/- textOf: the text that a head tells of. -/
/- areaOf: the area of some sectors, if the disk has them. -/
/- A Log in memory; Open. -/
import Derived.Test.YteealihknndclabGreatDoorGp
import Derived.Laws.StructEq
namespace Go.Proofs.YteealihknndclabGreatDoor
open Go.RowKit

theorem zR (w : World) (p : Value) (f c : Nat) (h : S.Hd) : ∃ w0, w0 = (w.alloc (.cells #[p, .int .i64 (f : Int), .int .i64 (c : Int)] 182)).alloc (.cells (S.hc h).toArray 186) /\ Hid (eX w0 w.heap.size p f c) /\ Hid (bQ w0 (w.heap.size + 1) h) /\ Hid (Below w.heap.size w w0) /\ Hid (w0.heap.size = w.heap.size + 2) := by
 refine ⟨_, rfl, ?_, ?_, (ba ..).alloc (by simp) _, by show ((w.alloc _).alloc _).heap.size = _; simp⟩
 ·show ((w.alloc _).alloc _).heap[w.heap.size]? = _
  rw [heap_alloc_old _ _ (by simp)]
  exact heap_alloc_new _ _
 ·show ((w.alloc _).alloc _).heap[w.heap.size + 1]? = _
  rw [show w.heap.size + 1 = (w.alloc (.cells #[p, .int .i64 (f : Int), .int .i64 (c : Int)] 182)).heap.size from by simp]
  exact heap_alloc_new _ _
theorem dz.take {w : World} {ao : Option Addr} {n c : Nat} {bs : List UInt8} (h : dz w (.slice ao n c) bs) (k : Nat) (hk : k <= n) : dz w (.slice ao k c) (bs.take k) := by
 refine ⟨by rw [S.ae, Nat.mul_one], ?_⟩
 have hsh : n = bs.length := by
  rcases h.2 with ⟨h1, h2⟩ | ⟨g, cap, cur, h1, _⟩
  ·simp only [Value.slice.injEq] at h1; omega
  ·simp only [Value.slice.injEq] at h1; omega
 have hlt : (bs.take k).length = k := by rw [List.length_take]; omega
 rcases h.2 with ⟨h1, h2⟩ | ⟨g, cap, cur, h1, h3, h4, h5, h6, h7, h8⟩
 ·simp only [Value.slice.injEq] at h1
  left
  have : k = 0 := by omega
  subst this
  exact ⟨by rw [h1.1, h1.2.2], by simp⟩
 ·simp only [Value.slice.injEq] at h1
  refine Or.inr ⟨g, cap, cur, by rw [h1.1, h1.2.2, hlt], h3, h4, by rw [hlt]; omega, h6, h7, ?_⟩
  rw [hlt]
  have e : S.v8l (bs.take k) = (S.v8l bs).take k := by simp [S.v8l, List.map_take]
  rw [e, <- h8, List.take_take]
  congr 1
  omega
theorem j6 (ao : Option Addr) (n m c : Nat) : (Value.slice ao n c).ownBlock = (Value.slice ao m c).ownBlock := by cases ao <;> rfl
structure ug (w : World) (o : Ow) (d : S.Dk) (ga gh : Nat) (f c : Nat) (h : S.Hd) : Prop where
 dk : Dsk w o d
 ar : eX w ga o.ptr f c
 hd : bQ w gh h
theorem ug.below {w W : World} {o : Ow} {d : S.Dk} {ga gh f c : Nat} {h : S.Hd} (x : ug w o d ga gh f c h) (hb : Below w.heap.size w W) : ug W o d ga gh f c h :=
 ⟨x.dk.below hb, x.ar.below hb (aa x.ar), x.hd.below hb (aa x.hd)⟩
set_option maxHeartbeats 4000000 in
set_option maxRecDepth 10000 in
theorem yK (o : Ow) (d : S.Dk) (f c : Nat) (h : S.Hd) (rs : List (List UInt8)) (w : World) (hd : Dsk w o d) (hn : f + c <= d.safe.length) (h4 : 4 <= c) (hu : h.used = (S.enc rs).length) (hsl : h.sl = S.dY rs) (hr : (S.enc rs).length <= S.room c)
  (hown : ∀ k, 2 <= k -> k < c -> S.oC f c k (d.seen.getD (f + k) [])) (htx : S.tu d.seen f (S.enc rs)) :
  Calls Tryz.prog 156 #[arv o.ptr f c, hdv h] w fun e w' => ∃ tv, e = .returned (.tuple #[tv, .bool true]) /\ dz w' tv (S.enc rs) /\ (∀ k, tv.ownBlock = some k -> w.heap.size <= k) /\ Below w.heap.size w w' := by
 have hns := hd.dk.n
 have HN : Hid (f + c <= d.safe.length) := hn
 have hcc : c <= 8192 := by omega
 have hff : f <= 8192 := by omega
 have HOWN := hide hown
 have HTX := hide htx
 have HSL := hide hsl
 obtain ⟨w0, hw0, HA, HH, HB, HZ⟩ := zR w o.ptr f c h
 have HX0 : Hid (ug w0 o d w.heap.size (w.heap.size + 1) f c h) := ⟨hd.below HB.out, HA.out, HH.out⟩
 obtain ⟨ga, hga⟩ : ∃ ga, ga = w.heap.size := ⟨_, rfl⟩
 obtain ⟨gh, hgh⟩ : ∃ gh, gh = w.heap.size + 1 := ⟨_, rfl⟩
 rw [<- hgh, <- hga] at HX0
 obtain ⟨C, hC⟩ : ∃ C, C = (S.hc h).toArray := ⟨_, rfl⟩
 rw [<- hC] at hw0
 unfold arv hdv
 rw [<- hC]
 obtain ⟨U, hU⟩ : ∃ U, U = (S.enc rs).length := ⟨_, rfl⟩
 have HU : Hid (h.used = U /\ U = (S.enc rs).length) := ⟨hu.trans hU.symm, hU⟩
 have hrm : U <= (c - 2) * 120 := by rw [hU]; exact hr
 have hroom : S.room c = (c - 2) * 120 := rfl
 clear hC hd hown htx hsl hu hr hn HA HH hU
 go_enter Tryz.func156, Tryz.ntmps156
 go_wp2_with fail
 rw [<- hw0, <- hgh, <- hga]
 have HGA : Hid (ga = w.heap.size /\ gh = w.heap.size + 1) := ⟨hga, hgh⟩
 clear hw0 hga hgh
 refine wp_region_noPanic ?_
 refine wp_region_held_drew (S := (fun W => ug W o d ga gh f c h)) follows (HX0.out.below (Below.refl _ _).drew) (fun hHeld => ?_)
 have B0 : Hid (Below w.heap.size w w0.drew) := HB.out.drew
 clear HX0 HB
 generalize w0.drew = Z1 at B0 hHeld ⊢
 refine tq 0 ?_
 simp only [uA]
 refine tk 1 ?_ rfl (Or.inl ⟨by rfl, ?_⟩) ?_
 rotate_left
 ·intro w hSw
  have c1 := (ug.hd hSw).used
  rw [HU.out.1] at c1
  clear hSw
  go_simp
  all_goals with_reducible rfl
 simp only [uA]
 refine wpAnyH_take (i := 2) (oi := ⟨_, _, _, _, _, _⟩) (v := .agg #[o.ptr, .int .i64 (f : Int), .int .i64 (c : Int)]) rfl (by kernel_rfl) (by kernel_rfl) (by kernel_rfl) (fun _ _ _ h => h) (yieldsIf_load_mid (by kernel_rfl) 182 (.tmp 2) rfl ga 0 rfl [o.ptr, .int .i64 (f : Int), .int .i64 (c : Int)] _ (fun W hW => aH hW.ar) Tryz.underlying182 rfl (by kernel_rfl)) (by assumption) ?_
 simp only [uA]
 refine r1 3 fun K hK => ?_
 go_simp
 refine (xk o.ptr f c Z1 (by omega) (by omega)).mono ?_
 rintro e Z2 ⟨rfl, b2⟩
 have a2 := ug.below hHeld b2
 clear hHeld
 refine hK.out _ _ a2 (fun hHeld => ?_)
 clear hK K 
 try simp only [uA]
 have B2 : Hid (Below w.heap.size w Z2) := B0.out.trans (b2.mono B0.out.size)
 clear a2 b2 B0
 have q0 : ((S.room c : Nat) : Int) = ((c : Int) - 2) * 120 := by rw [hroom]; omega
 have q1 : ¬ (((c : Int) - 2) * 120 < (U : Int)) := by omega
 rw [q0]
 clear q0
 refine tq 4 ?_
 simp only [uA]
 refine wpAnyH_done (by kernel_rfl) ?_ _
 refine NoPanic.normal ?_
 have HX2 := hide hHeld
 clear hHeld
 go_wp2_with fail
 go_loopw [6, 7] (fun tx i wr => ∃ (ao : Option Addr) (n cp k j : Nat) (acc : List UInt8), tx = .slice ao n cp /\ i = .int .i64 (k : Int) /\ 2 <= k /\ k <= c /\ n = acc.length /\ n = j * 120 /\ j <= k - 2 /\ (j = k - 2 \/ U <= j * 120) /\ Hid (∀ i, i < acc.length -> i < U -> acc.getD i 0 = (S.enc rs).getD i 0) /\ dz wr (.slice ao n cp) acc /\ (∀ b, (Value.slice ao n cp).ownBlock = some b -> Z2.heap.size <= b) /\ Below Z2.heap.size Z2 wr) (fun _ i _ => c - (intOf i).toNat)
 case atStart => exact ⟨none, 0, 0, 2, 0, [], rfl, rfl, by omega, by omega, rfl, by omega, by omega, by omega, fun i hi => absurd hi (Nat.not_lt_zero _), wR _, (fun b hb => by cases hb), Below.refl _ _⟩
 case round =>
  obtain ⟨ao, n, cp, k, j, acc, rfl, rfl, hk2, hkc, hna, hnj, hjk, hju, hacc, hur, hob, hb⟩ := hrel
  have XW := hide (HX2.out.below hb)
  have UR := hide hur
  have OB := hide hob
  have BB := hide hb
  obtain ⟨a0, a1, a2⟩ := XW.out.ar.cells
  have hus := XW.out.hd.used
  rw [HU.out.1] at hus
  by_cases hlt : k < c
  ·have q1 : (k : Int) < (c : Int) := by omega
   have q4 : IntKind.i64.wrap ((k : Int) + 1) = (k : Int) + 1 := by rw [IntKind.wrap_i64]; omega
   have HNA := hide hna
   have HNJ := hide hnj
   have HJU := hide hju
   have hnb : n <= 1000000 := by omega
   clear hur hob hb hna hus hnj hju
   go_wp2_with fail
   refine (qK o d f c k wr XW.out.dk.dk (by have := HN.out; omega)).mono ?_
   rintro e w1 ⟨gb, rfl, g1, r1, b1⟩
   have OWN := HOWN.out k hk2 hlt
   obtain ⟨s, hs⟩ : ∃ s, s = d.seen.getD (f + k) [] := ⟨_, rfl⟩
   rw [<- hs] at r1 OWN
   have HS : Hid (s = d.seen.getD (f + k) []) := hs
   have HSL1 : Hid (s.length = 128) := OWN.1
   have X1 := hide (XW.out.below b1)
   have UR1 : Hid (dz w1 (.slice ao n cp) acc) := UR.out.kept fun b hbk => b1.block b (UR.out.lt hbk)
   have B1 : Hid (Below Z2.heap.size Z2 w1) := BB.out.trans (b1.mono BB.out.size)
   have R1 := hide r1
   have HOW := hide OWN
   clear a0 a1 a2 hs
   obtain ⟨a0, a1, a2⟩ := X1.out.ar.cells
   clear g1 r1 b1 OWN
   go_wp2_with fail
   refine (Ey o.ptr f c k gb s w1 (by omega) (by omega) (by omega) R1.out HOW.out).mono ?_
   rintro e w2 ⟨rfl, b2⟩
   have X2 := hide (X1.out.below b2)
   have ur2 : dz w2 (.slice ao n cp) acc := UR1.out.kept fun b hbk => b2.block b (UR1.out.lt hbk)
   have UR2 := hide ur2
   have B2' : Hid (Below Z2.heap.size Z2 w2) := B1.out.trans (b2.mono B1.out.size)
   have r2 : w2.heap[gb]? = some (.cells (S.v8 s) 5 (0, 0)) := (b2.block gb (aa R1.out)).trans R1.out
   have hus := X2.out.hd.used
   rw [HU.out.1] at hus
   have hsb := az r2 HSL1.out.symm (by rw [HSL1.out]; omega)
   have hp8 := lW hsb (by rw [HSL1.out]) 8 (by omega)
   have e8 : (if 128 = 8 then (some (⟨gb, 0, none⟩ : Addr)) else Option.map (fun x => x.add 8) (some (⟨gb, 0, none⟩ : Addr))) = some ⟨gb, 8, none⟩ := by
    rw [if_neg (by omega), Option.map_some, Addr.add_lit]
   rw [e8] at hp8
   have HP8 : Hid (SliceAt w2 (.slice (some ⟨gb, 8, none⟩) 120 120) (s.drop 8)) := hp8
   clear a0 a1 a2 b2 r2 hsb hp8 e8
   have hdl : (s.drop 8).length = 120 := by rw [List.length_drop, HSL1.out]
   by_cases hl : n < U
   ·have HJ2 : Hid (j = k - 2) := by show j = k - 2; have := HNJ.out; have := HJU.out; omega
    have q5 : (n : Int) < (U : Int) := by omega
    have HLN : Hid (acc.length + (s.drop 8).length <= 140737488355328) := by show acc.length + _ <= _; rw [hdl, <- HNA.out]; omega
    have Gw : Hid (∀ i, i < (acc ++ s.drop 8).length -> i < U -> (acc ++ s.drop 8).getD i 0 = (S.enc rs).getD i 0) := fun i hi hiU => by
     rw [S.pR]
     by_cases hia : i < acc.length
     ·rw [if_pos hia]
      exact hacc.out i hia hiU
     ·rw [if_neg hia]
      have hi' : i < acc.length + 120 := by rw [List.length_append, hdl] at hi; exact hi
      have hna := HNA.out
      have hnj := HNJ.out
      have hj2 := HJ2.out
      have h1 := HTX.out i (by rw [<- HU.out.2]; exact hiU)
      rw [<- h1, show 2 + i / 120 = k from by omega, <- HS.out]
      rw [List.getD_eq_getElem?_getD, List.getElem?_drop, <- List.getD_eq_getElem?_getD]
      congr 1
      omega
    have HNL : Hid ((acc ++ s.drop 8).length = n + 120) := by show (acc ++ s.drop 8).length = n + 120; rw [List.length_append, hdl, <- HNA.out]
    obtain ⟨ACC, hACC⟩ : ∃ A, A = acc ++ s.drop 8 := ⟨_, rfl⟩
    rw [<- hACC] at Gw HNL
    have HAE := hide hACC
    clear hdl hACC
    go_wp2_with (at_builtin; (refine aA rfl (.tmp 33) (.tmp 35) 22 22 rfl _ _ rfl rfl (bf w2 _ _ acc (s.drop 8) 22 UR2.out HP8.out HLN.out) ?_; rw [<- HAE.out]; rintro v3 w3 ⟨hu3, hg3, ho3⟩; have HU3 := hide hu3; have HG3 := hide hg3; have HO3 := hide ho3; clear hu3 hg3 ho3; obtain ⟨a3, c3, hv3⟩ := HU3.out.shape; subst hv3))
    have B3 : Hid (Below Z2.heap.size Z2 w3) := (B2'.out).grown HG3.out B2'.out.size (fun b hbk => OB.out b hbk)
    have OB3 : Hid (∀ b, (Value.slice a3 ACC.length c3).ownBlock = some b -> Z2.heap.size <= b) := fun b hbk => by
     rcases HO3.out b hbk with h' | h'
     ·exact OB.out b h'
     ·exact ltr B2'.out.size h'
    go_roundw
    case rel => exact ⟨a3, _, c3, k + 1, j + 1, ACC, rfl, by go_num, by omega, by omega, rfl, by rw [HNL.out, HNJ.out]; omega, by have := HJ2.out; omega, Or.inl (by have := HJ2.out; omega), Gw, HU3.out, OB3.out, B3.out⟩
    case measure => simp [intOf]; omega
   ·have q5 : ¬ (n : Int) < (U : Int) := by omega
    clear hdl
    have HR2 : Hid (U <= j * 120) := by show U <= j * 120; rw [<- HNJ.out]; omega
    go_wp2_with fail
    go_roundw
    case rel => exact ⟨ao, n, cp, k + 1, j, acc, rfl, by go_num, by omega, by omega, HNA.out, HNJ.out, by omega, Or.inr HR2.out, hacc, UR2.out, OB.out, B2'.out⟩
    case measure => simp [intOf]; omega
  ·have q1 : ¬ (k : Int) < (c : Int) := by omega
   have hUn : U <= n := by omega
   have q2 : (0 : Int) <= (U : Int) := by omega
   have q3 : (U : Int) <= (n : Int) := by omega
   have hcap := (hur.sliceAt (by omega)).le_cap
   have q4 : (U : Int) <= (cp : Int) := by omega
   have hx : acc.take U = S.enc rs := by
    apply List.ext_getElem?
    intro i
    by_cases hi : i < U
    ·have h1 := hacc.out i (by omega) hi
     rw [List.getElem?_take, if_pos hi]
     rw [List.getD_eq_getElem?_getD, List.getD_eq_getElem?_getD, List.getElem?_eq_getElem (by omega), List.getElem?_eq_getElem (by rw [<- HU.out.2]; exact hi)] at h1
     rw [List.getElem?_eq_getElem (by omega), List.getElem?_eq_getElem (by rw [<- HU.out.2]; exact hi)]
     simpa using h1
    ·rw [List.getElem?_eq_none (by rw [List.length_take]; omega), List.getElem?_eq_none (by rw [<- HU.out.2]; omega)]
   have hut := hur.take U hUn
   rw [hx] at hut
   have UT := hide hut
   have ST := hide (hut.sliceAt (by rw [<- HU.out.2]; omega))
   have hsd := XW.out.hd.seal (by rw [HSL.out]; exact S.fB _)
   rw [HSL.out] at hsd
   obtain ⟨DV, hDV⟩ : ∃ D, D = S.v8 (S.dY rs) := ⟨_, rfl⟩
   rw [<- hDV] at hsd
   have HDV : Hid (DV = S.v8 (S.dY rs)) := hDV
   clear hur hob hb hna hx hut hDV a0 a1 hnj hju
   go_wp2_with (with_reducible refine au ⟨some 44, .load 184 (.tmp 43), 184, "area.go:150", #[{ on := 2, ground := Ground.data }], none⟩ ?_; refine ay rfl 184 (.tmp 43) rfl (.pointer (some ⟨gh, 2, none⟩)) rfl (.agg DV) hsd ?_)
   rw [HDV.out]
   refine (wX _ rs _ wr ST.out (by rw [<- HU.out.2]; omega) (S.fB _) XW.out.dk.k).mono ?_
   rintro e w3 ⟨rfl, b3⟩
   rw [beq_self_eq_true]
   have U3 : Hid (dz w3 (.slice ao U cp) (S.enc rs)) := UT.out.kept fun b hbk => b3.block b (UT.out.lt hbk)
   have B3 : Hid (Below w.heap.size w w3) := B2.out.trans ((BB.out.trans (b3.mono BB.out.size)).mono B2.out.size)
   clear b3
   go_wp2_with fail
   go_ret2
   exact ⟨.slice ao U cp, rfl, U3.out, fun b hbk => ltr B2.out.size (OB.out b ((j6 ao n U cp).trans hbk)), B3.out⟩
end Go.Proofs.YteealihknndclabGreatDoor
namespace Go.Proofs.YteealihknndclabGreatDoor
open Go.RowKit

set_option maxHeartbeats 1600000 in
theorem sZ (o : Ow) (d : S.Dk) (f c : Nat) (w : World) (hd : aZ w o d) (h4 : 4 <= c) (hn : f + c <= d.safe.length) :
  Calls Tryz.prog 113 #[o.ptr, .int .i64 (f : Int), .int .i64 (c : Int)] w fun e w' => e = .returned (.tuple #[arv o.ptr f c, .int .i64 0]) /\ Below w.heap.size w w' := by
 have hns := hd.n
 obtain ⟨N, hN⟩ : ∃ N, N = d.safe.length := ⟨_, rfl⟩
 have q1 : ¬ (f : Int) < 0 := by omega
 have q2 : ¬ (c : Int) < 4 := by omega
 have q3 : ¬ ((N : Int) - (c : Int)) < (f : Int) := by omega
 have q4 : (N : Int) <= 8192 := by omega
 have q5 : (c : Int) <= 8192 := by omega
 obtain ⟨w0, hw0⟩ : ∃ w0, w0 = w.alloc (.cells #[.pointer none, .int .i64 0, .int .i64 0] 182) := ⟨_, rfl⟩
 have HB : Hid (Below w.heap.size w w0) := by rw [hw0]; exact ba ..
 have HD := hide (hd.below HB.out)
 have HN := hide hN
 have HR : Hid (w0.heap[w.heap.size]? = some (.cells #[.pointer none, .int .i64 0, .int .i64 0] 182 (0, 0))) := by rw [hw0]; exact heap_alloc_new _ _
 clear hd hn hN
 unfold Ow.ptr
 go_enter Tryz.func113, Tryz.ntmps113
 go_wp2_with fail
 rw [<- hw0]
 have hp : Value.pointer (some ⟨o.g, 0, none⟩) = o.ptr := rfl
 refine (qb o d w0 HD.out).mono ?_
 rintro e w1 ⟨rfl, rfl⟩
 rw [<- HN.out, hw0]
 clear hw0 HD HR hp HN
 go_wp2_with fail
 exact bodyPost_ret (v := .tuple #[arv o.ptr f c, .int .i64 0]) (by simp [results, Tryz.results113, go_sem, arv, Ow.ptr]) rfl ⟨rfl, ba ..⟩
end Go.Proofs.YteealihknndclabGreatDoor
namespace Go.Proofs.YteealihknndclabGreatDoor
open Go.RowKit

namespace S
def lc (p : Value) (f c : Nat) (h : Hd) (tv : Value) (op : Bool) : List Value := [p, .int .i64 (f : Int), .int .i64 (c : Int)] ++ (hc h ++ [tv, .bool op])
theorem pF (p : Value) (f c : Nat) {h : Hd} (tv : Value) (op : Bool) (hl : h.sl.length = 32) : (lc p f c h tv op).length = 39 := by simp [lc, aD hl]
end S
def aS (w : World) (g : Nat) (p : Value) (f c : Nat) (h : S.Hd) (tv : Value) (op : Bool) : Prop := w.heap[g]? = some (.cells (S.lc p f c h tv op).toArray 188 (0, 0))
theorem info75l : (Tryz.prog.info? 188).map (fun i => (i.size, i.bytes)) = some (39, 104) := by kernel_rfl
theorem zero75l : (Tryz.prog.info? 188).bind (·.zero) = some (.agg (S.lc (.pointer none) 0 0 S.Hd.none (.slice none 0 0) false).toArray) := by kernel_rfl
set_option maxRecDepth 100000 in
theorem Gf (parts : List (Nat × Value)) : Tryz.prog.built 188 parts = Instr.fill ((#[(0, 3), (3, 34), (37, 1), (38, 1)] : Array (Nat × Nat))[·]?) (S.lc (.pointer none) 0 0 S.Hd.none (.slice none 0 0) false).toArray parts := by
 obtain ⟨i, hi, hz, _, _⟩ := bZ info75l zero75l
 unfold Program.built
 rw [hi, Tryz.underlying188]
 simp only [hz]
 rfl
theorem mq {tab : Nat -> Option (Nat × Nat)} {cs : Array Value} {i : Nat} {v : Value} {rest : List (Nat × Value)} (off n : Nat) (ht : tab i = some (off, n)) (hs : v.cells.size = n) (hle : off + n <= cs.size) :
  Instr.fill tab cs ((i, v) :: rest) = Instr.fill tab (v.cells.zipIdx.foldl (fun cs (x : Value × Nat) => cs.setIfInBounds (off + x.2) x.1) cs) rest := by
 conv => lhs; unfold Instr.fill
 simp only [ht]
 rw [if_neg (by simp [hs]; omega)]
set_option maxRecDepth 100000 in
theorem Gi (p : Value) (f c : Nat) (h : S.Hd) (tv : Value) (op : Bool) (hl : h.sl.length = 32) (h1 : tv.cells = #[tv]) (w : World) :
  (Instr.build 188 #[(0, arv p f c), (1, hdv h), (2, tv), (3, .bool op)]).run Tryz.prog w = .ok (.agg (S.lc p f c h tv op).toArray) w :=
 run_build w 188 _ _ (by
  have hz : (S.lc (.pointer none) 0 0 S.Hd.none (.slice none 0 0) false).length = 39 := S.pF _ _ _ _ _ (S.zeros_length _)
  have hh : (S.hc h).length = 34 := S.aD hl
  have hn : (S.hc S.Hd.none).length = 34 := S.aD (S.zeros_length _)
  have cA : (arv p f c).cells = #[p, .int .i64 (f : Int), .int .i64 (c : Int)] := rfl
  have cH : (hdv h).cells = (S.hc h).toArray := rfl
  have cB : (Value.bool op).cells = #[.bool op] := rfl
  have e0 := nU [] [.pointer none, .int .i64 0, .int .i64 0] (S.hc S.Hd.none ++ [.slice none 0 0, .bool false]) #[p, .int .i64 (f : Int), .int .i64 (c : Int)] 0 rfl rfl
  have e1 := nU [p, .int .i64 (f : Int), .int .i64 (c : Int)] (S.hc S.Hd.none) [.slice none 0 0, .bool false] (S.hc h).toArray 3 rfl (by rw [hn, List.size_toArray, hh])
  have e2 := nU ([p, .int .i64 (f : Int), .int .i64 (c : Int)] ++ S.hc h) [.slice none 0 0] [.bool false] #[tv] 37 (by simp [hh]) rfl
  have e3 := nU ([p, .int .i64 (f : Int), .int .i64 (c : Int)] ++ (S.hc h ++ [tv])) [.bool false] [] #[.bool op] 38 (by simp [hh]) rfl
  simp only [List.append_assoc, List.nil_append, List.cons_append, List.append_nil] at e0 e1 e2 e3
  rw [Gf]
  have z0 : (S.lc (.pointer none) 0 0 S.Hd.none (.slice none 0 0) false) = (Value.pointer none :: .int .i64 0 :: .int .i64 0 :: (S.hc S.Hd.none ++ [.slice none 0 0, .bool false])) := rfl
  rw [z0]
  rw [mq 0 3 rfl (by rw [cA]; rfl) (by simp), cA, e0]
  rw [mq 3 34 rfl (by rw [cH, List.size_toArray, hh]) (by simp [hn]), cH, e1]
  rw [mq 37 1 rfl (by rw [h1]; rfl) (by simp [hh]), h1, e2]
  rw [mq 38 1 rfl (by rw [cB]; rfl) (by simp [hh]), cB, e3]
  rfl)
theorem aS.below {w W : World} {g : Nat} {p : Value} {f c : Nat} {h : S.Hd} {tv : Value} {op : Bool} {B : Nat} (a : aS w g p f c h tv op) (hb : Below B w W) (hB : g < B) : aS W g p f c h tv op := (hb.block g hB).trans a
theorem aS.chg {q : Nat -> Prop} {w W : World} {g : Nat} {p : Value} {f c : Nat} {h : S.Hd} {tv : Value} {op : Bool} (a : aS w g p f c h tv op) (hc : Chg q w W) (hq : ¬ q g) : aS W g p f c h tv op := hc.row a hq
structure tC (w : World) (g : Nat) (p : Value) (f c t : Nat) (rs : List (List UInt8)) (tv : Value) : Prop where
 row : aS w g p f c (S.cZ t rs) tv true
 text : dz w tv (S.enc rs)
 sep : tv.ownBlock ≠ some g
theorem tC.chg {q : Nat -> Prop} {w W : World} {g : Nat} {p : Value} {f c t : Nat} {rs : List (List UInt8)} {tv : Value} (x : tC w g p f c t rs tv) (hc : Chg q w W) (hg : ¬ q g) (ht : ∀ k, tv.ownBlock = some k -> ¬ q k) : tC W g p f c t rs tv :=
 ⟨x.row.chg hc hg, x.text.chg hc ht, x.sep⟩
theorem tC.below {w W : World} {g : Nat} {p : Value} {f c t : Nat} {rs : List (List UInt8)} {tv : Value} (x : tC w g p f c t rs tv) (hb : Below w.heap.size w W) : tC W g p f c t rs tv :=
 x.chg (q := fun _ => False) (Chg.ofBelow' hb) (fun e => e) (fun _ _ e => e)
theorem yF {w : World} {tv : Value} {bs : List UInt8} (h : dz w tv bs) : tv.cells = #[tv] := by
 obtain ⟨ao, c, rfl⟩ := h.shape
 rfl
set_option maxHeartbeats 4000000 in
set_option maxRecDepth 10000 in
theorem EE (o : Ow) (d : S.Dk) (f c p t : Nat) (rs : List (List UInt8)) (w : World) (hd : Dsk w o d) (hg : S.Good d.seen f c p t rs) :
  Calls Tryz.prog 116 #[o.ptr, .int .i64 (f : Int), .int .i64 (c : Int)] w fun e w' => ∃ g tv, e = .returned (.tuple #[.pointer (some ⟨g, 0, none⟩), .int .i64 0]) /\ tC w' g o.ptr f c t rs tv /\ w.heap.size <= g /\ (∀ k, tv.ownBlock = some k -> w.heap.size <= k) /\ Below w.heap.size w w' := by
 have hfc := hg.few
 rw [S.Dk.seen_length] at hfc
 have hns := hd.dk.n
 have HG := hide hg
 have HF : Hid (f + c <= d.safe.length) := hfc
 have h4 := hg.four
 have HD := hide hd
 have HP : Hid (1 < w.heap.size) := hd.k.pos
 have HLT : Hid (∀ k, o.has k -> k < w.heap.size) := hd.dk.lt
 clear hg hd
 have gU : o.ptr = .pointer (some ⟨o.g, 0, none⟩) := rfl
 rw [gU]
 go_enter Tryz.func116, Tryz.ntmps116
 go_wp2_with fail
 rw [<- gU]
 refine (sZ o d f c w HD.out.dk h4 HF.out).mono ?_
 rintro e w1 ⟨rfl, b1⟩
 have D1 := HD.out.below b1
 obtain ⟨w2, hw2⟩ : ∃ w2, w2 = w1.alloc (.cells #[o.ptr, .int .i64 (f : Int), .int .i64 (c : Int)] 182) := ⟨_, rfl⟩
 have b2 : Below w1.heap.size w1 w2 := by rw [hw2]; exact ba ..
 have A2 : eX w2 w1.heap.size o.ptr f c := by show w2.heap[w1.heap.size]? = _; rw [hw2]; exact heap_alloc_new _ _
 have HD2 := hide (D1.below b2)
 have HA2 := hide A2
 have HB2 : Hid (Below w.heap.size w w2) := b1.trans (b2.mono b1.size)
 obtain ⟨ga, hga⟩ : ∃ ga, ga = w1.heap.size := ⟨_, rfl⟩
 rw [<- hga] at HA2
 unfold arv
 have HS1 : Hid (w.heap.size <= ga) := by show _ <= ga; rw [hga]; exact b1.size
 clear b1 D1 b2 A2 HD
 have hPP : ∃ PP, PP = o.ptr := ⟨_, rfl⟩
 go_wp2_with fail
 rw [<- gU, <- hw2, <- hga]
 clear hw2 hga hPP gU
 refine (qz o d f c w2 HD2.out (by have := HF.out; omega) (by omega) _ _ rfl rfl).mono ?_
 rintro e w3 ⟨rfl, b3⟩
 rw [HG.out.cur]
 have hok := HG.out.hd
 have HOK := hide hok
 have HD3 := hide (HD2.out.below b3)
 have A3 := HA2.out.below b3 (aa HA2.out)
 have B3 := HB2.out.trans (b3.mono HB2.out.size)
 have hal := iZ w3
 have hd4 : bQ (w3.alloc (.cells (S.hc S.Hd.none).toArray 186)) w3.heap.size S.Hd.none := heap_alloc_new _ _
 obtain ⟨w5, hst, hd5, c5⟩ := dC (h := S.cZ t rs) hd4 (S.zeros_length _) hok.sl
 have b34 : Below w3.heap.size w3 (w3.alloc (.cells (S.hc S.Hd.none).toArray 186)) := ba ..
 have b5 : Below w3.heap.size w3 w5 := b34.trans (c5.base b34.size (lr _))
 have HX5 : Hid (ug w5 o d ga w3.heap.size f c (S.cZ t rs)) := ⟨HD3.out.below b5, A3.below b5 (aa A3), hd5⟩
 have HB5 : Hid (Below w.heap.size w w5) := B3.trans (b5.mono B3.size)
 obtain ⟨gh, hgh⟩ : ∃ gh, gh = w3.heap.size := ⟨_, rfl⟩
 rw [<- hgh] at HX5 hal hst
 have ld := HX5.out.hd.load hok.sl
 obtain ⟨HV, hHV⟩ : ∃ X, X = hdv (S.cZ t rs) := ⟨_, rfl⟩
 rw [<- hHV] at ld hst
 have HHV : Hid (HV = hdv (S.cZ t rs)) := hHV
 obtain ⟨HC0, fV⟩ : ∃ X, X = (S.hc S.Hd.none).toArray := ⟨_, rfl⟩
 rw [<- fV] at hal hst
 obtain ⟨a0, a1, a2⟩ := HX5.out.ar.cells
 have ecv : curv (some (S.cZ t rs, p)) = .tuple #[HV, .int .i64 (p : Int), .bool true] := by rw [hHV]; rfl
 rw [ecv]
 clear hok b3 A3 B3 hd4 hd5 c5 b34 b5 hgh hHV fV HD3 HD2 HA2 ecv
 go_wp2_with (first | (with_reducible refine au ⟨some 10, .alloc 186, 0, "wal.go:38", #[], none⟩ ?_; refine ah rfl 186 rfl (.pointer (some ⟨gh, 0, none⟩)) (w3.alloc (.cells HC0 186)) hal ?_) | (with_reducible refine au ⟨none, .store 186 (.tmp 10) (.tmp 27), 0, "wal.go:38", #[{ on := 6, ground := Ground.data }, { on := 3, ground := Ground.data }, { on := 1, ground := Ground.chain }, { on := 0, ground := Ground.phase }, { on := 1, ground := Ground.phase }, { on := 2, ground := Ground.phase }, { on := 3, ground := Ground.phase }, { on := 4, ground := Ground.textOnly Departure.lateStores }, { on := 5, ground := Ground.textOnly Departure.lateStores }, { on := 6, ground := Ground.phase }], none⟩ ?_; refine ai rfl 186 (.tmp 10) (.tmp 27) rfl (.pointer (some ⟨gh, 0, none⟩)) HV rfl rfl w5 hst ?_) | (with_reducible refine au ⟨some 34, .load 186 (.tmp 10), 186, "wal.go:42", #[], none⟩ ?_; refine ay rfl 186 (.tmp 10) rfl (.pointer (some ⟨gh, 0, none⟩)) rfl HV ld ?_))
 rw [HHV.out]
 refine (yK o d f c (S.cZ t rs) rs w5 HX5.out.dk HF.out h4 rfl rfl HG.out.room HG.out.own HG.out.text).mono ?_
 rintro e w6 ⟨tv, rfl, u6, o6, b6⟩
 rw [<- HHV.out]
 have HX6 := hide (HX5.out.below b6)
 have HB6 := hide (HB5.out.trans (b6.mono HB5.out.size))
 have HU6 := hide u6
 have HO6 : Hid (∀ k, tv.ownBlock = some k -> w.heap.size <= k) := fun k hk => ltr HB5.out.size (o6 k hk)
 have ld6 := HX6.out.hd.load HOK.out.sl
 rw [<- HHV.out] at ld6
 clear a0 a1 a2
 obtain ⟨a0, a1, a2⟩ := HX6.out.ar.cells
 have hbd := Gi o.ptr f c (S.cZ t rs) tv true HOK.out.sl (yF u6) w6
 rw [<- HHV.out] at hbd
 unfold arv at hbd
 obtain ⟨LC, hLC⟩ : ∃ X, X = (S.lc o.ptr f c (S.cZ t rs) tv true).toArray := ⟨_, rfl⟩
 rw [<- hLC] at hbd
 have HLC : Hid (LC = (S.lc o.ptr f c (S.cZ t rs) tv true).toArray) := hLC
 have h6t : ∀ k, tv.ownBlock = some k -> k < w6.heap.size := fun k hk => u6.lt hk
 have H6T := hide h6t
 obtain ⟨tao, tcp, htv⟩ := u6.shape
 subst htv
 clear hal hst ld u6 o6 b6 hLC h6t
 go_wp2_with (first | (with_reducible refine au ⟨some 41, .load 186 (.tmp 10), 186, "wal.go:46", #[], none⟩ ?_; refine ay rfl 186 (.tmp 10) rfl (.pointer (some ⟨gh, 0, none⟩)) rfl HV ld6 ?_) | (with_reducible refine au ⟨some 43, .build 188 #[(0, .tmp 40), (1, .tmp 41), (2, .tmp 42), (3, .const (Value.bool true))], 188, "wal.go:46", #[{ on := 0, ground := Ground.data }, { on := 1, ground := Ground.data }, { on := 2, ground := Ground.data }], none⟩ ?_; refine aG rfl 188 [(0, Operand.tmp 40), (1, Operand.tmp 41), (2, Operand.tmp 42), (3, Operand.const (Value.bool true))] rfl [(0, .agg #[o.ptr, .int .i64 (f : Int), .int .i64 (c : Int)]), (1, HV), (2, .slice tao (S.enc rs).length tcp), (3, .bool true)] rfl (.agg LC) hbd ?_))
 go_ret2
 refine ⟨w6.heap.size, .slice tao (S.enc rs).length tcp, rfl, ⟨?_, ?_, fun e => ?_⟩, HB6.out.size, HO6.out, HB6.out.alloc HB6.out.size _⟩
 ·show (w6.alloc (.cells LC 188)).heap[w6.heap.size]? = _
  rw [HLC.out]
  exact heap_alloc_new _ _
 ·exact HU6.out.kept fun k hk => heap_alloc_old _ _ (H6T.out k hk)
 ·have := H6T.out _ e
  omega
theorem sN {d : Nat} {xs ys : Array Value} {f : Field} {fs : List Field} {a b : Value} {w : World} (hn : f.name ≠ "_") (pa : (part f.type xs f.offset).run Tryz.prog w = .ok a w) (pb : (part f.type ys f.offset).run Tryz.prog w = .ok b w) (e : (Op.equalIn d f.type a b).run Tryz.prog w = .ok true w) :
  (Op.eqFields d xs ys (f :: fs)).run Tryz.prog w = (Op.eqFields d xs ys fs).run Tryz.prog w := by
 rw [Op.eqFields, if_pos hn]
 simp only [Sem.run_bind, pa, pb, e, Result.andThen_ok]
 rfl
set_option maxRecDepth 100000 in
theorem yo (h : S.Hd) (hl : h.sl.length = 32) (w : World) : (Op.equalIn 10000 186 (hdv h) (hdv h)).run Tryz.prog w = .ok true w := by
 have hS : Tryz.prog.underlying 186 = some (.struct (Tryz.prog.fieldsOf 186)) := by kernel_rfl
 have hp : Tryz.prog.stoodInHeld 186 = false := by kernel_rfl
 unfold hdv
 rw [show (10000 : Nat) = 9999 + 1 from rfl, run_equalIn_agg w 9999 186 _ _ hS hp]
 simp only [Program.fieldsOf, Tryz.underlying186]
 have p0 : (part 153 (S.hc h).toArray 0).run Tryz.prog w = .ok (.int .u64 (h.turn : Int)) w := by
  simp [part, S.hc]
 have p1 : (part 3 (S.hc h).toArray 1).run Tryz.prog w = .ok (.int .i64 (h.used : Int)) w := by
  simp [part, S.hc]
 have p2 : (part 184 (S.hc h).toArray 2).run Tryz.prog w = .ok (.agg (S.v8 h.sl)) w := by
  have e : (S.hc h).toArray.extract 2 34 = S.v8 h.sl := by
   apply Array.ext'
   rw [Array.toList_extract, S.jL]
   show List.take (34 - 2) (List.drop 2 (S.hc h)) = S.v8l h.sl
   rw [show List.drop 2 (S.hc h) = S.v8l h.sl from rfl, List.take_of_length_le (by rw [S.ae, hl]; omega)]
  have ag : (isAgg 184).run Tryz.prog w = .ok true w := by kernel_rfl
  have sz : (sizeOf 184).run Tryz.prog w = .ok 32 w := by kernel_rfl
  simp only [part, Sem.run_bind, ag, sz, Result.andThen_ok, if_true, Sem.run_pure]
  rw [e]
 have e0 : (Op.equalIn 9999 153 (.int .u64 (h.turn : Int)) (.int .u64 (h.turn : Int))).run Tryz.prog w = .ok true w := by
  rw [show (9999 : Nat) = 9998 + 1 from rfl, run_equalIn_int w 9998 153 .u64 .u64 _ _ Tryz.underlying153, beq_self_eq_true]
 have e1 : (Op.equalIn 9999 3 (.int .i64 (h.used : Int)) (.int .i64 (h.used : Int))).run Tryz.prog w = .ok true w := by
  rw [show (9999 : Nat) = 9998 + 1 from rfl, run_equalIn_int w 9998 3 .i64 .i64 _ _ Tryz.underlying3, beq_self_eq_true]
 have e2 : (Op.equalIn 9999 184 (.agg (S.v8 h.sl)) (.agg (S.v8 h.sl))).run Tryz.prog w = .ok true w := by
  have := run_equalIn_bytes (P := Tryz.prog) w 9997 184 5 32 Tryz.underlying184 Tryz.underlying5 (fun _ => by kernel_rfl) h.sl h.sl hl hl
  rw [beq_self_eq_true] at this
  exact this
 rw [sN (by decide) p0 p0 e0, sN (by decide) p1 p1 e1, sN (by decide) p2 p2 e2]
 rfl
end Go.Proofs.YteealihknndclabGreatDoor
namespace Go.Proofs.YteealihknndclabGreatDoor
open Go.RowKit

def Does2 (x : Value) (d : S.Dk) (l : List S.Act) (o : Ow) (w : World) (e : Ending) (w' : World) : Prop :=
 e = .returned (.tuple #[x, .int .i64 (S.why (d.plan l).2)]) /\ ∃ o', aZ w' o' (d.plan l).1 /\ dK o w o' w'
theorem qC {w : World} {ops : Array Oper} {rest : List Oper} {o : Oper} {a : Act} {Q : Exit -> Act -> World -> Prop} (hw : Region.wanted o (yielded ops a.tmps) = true) (t t2 : TypeId) (x y : Operand) (ho : o.op = .binOp .neq t x y t2) (xs ys : Array Value) (hx : a.eval x = .agg xs) (hy : a.eval y = .agg ys) (b : Bool)
  (hm : Tryz.prog.eqGuardType Tryz.prog.depth t = false) (hr : (Op.equalIn 10000 t (.agg xs) (.agg ys)).run Tryz.prog w = .ok b w) (h : wpList Tryz.prog ops Q rest (a.put o.dst (.bool (!b))) w) : wpList Tryz.prog ops Q (o :: rest) a w := by
 refine wpList_step fun _ hK => ?_
 rw [if_pos hw]
 unfold Oper.wp execOp
 simp only [ho, hx, hy, Sem.run_bind, run_eqGuard_agg w _ _ _ _ _ _ hm, run_neq_struct, hr, Result.andThen_ok]
 exact hK _ _ h
set_option maxHeartbeats 4000000 in
set_option maxRecDepth 10000 in
theorem Bj (o : Ow) (d : S.Dk) (f c p t : Nat) (rs : List (List UInt8)) (w : World) (hd : Dsk w o d) (hpe : d.pend = []) (hg : S.Good d.safe f c p t rs) :
  Calls Tryz.prog 143 #[arv o.ptr f c, hdv (S.cZ t rs)] w (Does2 (.int .i64 ((1 - p : Nat) : Int)) d (S.dR f c (1 - p) (d.safe.getD (f + (1 - p)) [])) o w) := by
 have hns := hd.dk.n
 have hfc := hg.few
 have h4 := hg.four
 have h8 := hg.most
 have hp1 := hg.place
 have HF : Hid (f + c <= d.safe.length) := hfc
 have HG := hide hg
 have HPE := hide hpe
 have vg : Hid (d.seen = d.safe) := d.seen_flushed hpe
 have HOK := hide hg.hd
 have HLT : Hid (∀ k, o.has k -> k < w.heap.size) := hd.dk.lt
 obtain ⟨h, hh⟩ : ∃ h, h = S.cZ t rs := ⟨_, rfl⟩
 rw [<- hh] at HOK ⊢
 have HH := hide hh
 obtain ⟨w0, hw0, HA, HHD, HB, HZ⟩ := zR w o.ptr f c h
 have HX0 : Hid (ug w0 o d w.heap.size (w.heap.size + 1) f c h) := ⟨hd.below HB.out, HA.out, HHD.out⟩
 obtain ⟨ga, hga⟩ : ∃ ga, ga = w.heap.size := ⟨_, rfl⟩
 obtain ⟨gh, hgh⟩ : ∃ gh, gh = w.heap.size + 1 := ⟨_, rfl⟩
 rw [<- hgh, <- hga] at HX0
 have HGA : Hid (ga = w.heap.size /\ gh = w.heap.size + 1) := ⟨hga, hgh⟩
 obtain ⟨C, hC⟩ : ∃ C, C = (S.hc h).toArray := ⟨_, rfl⟩
 rw [<- hC] at hw0
 unfold arv hdv
 rw [<- hC]
 clear hC hd hg hpe hfc HA HHD hh
 go_enter Tryz.func143, Tryz.ntmps143
 go_upto_region 1 with fail
 rw [<- hw0, <- hgh, <- hga]
 clear hw0 hga hgh
 obtain ⟨a0, a1, a2⟩ := HX0.out.ar.cells
 go_wp2_with fail
 refine (qj o d w0 HX0.out.dk.dk).mono ?_
 rintro e w1 ⟨rfl, rfl⟩
 rw [HPE.out, List.length_nil]
 have q0 : ¬ ((0 : Int) < ((0 : Nat) : Int)) := by omega
 go_wp2_with fail
 refine (qz o d f c w0 HX0.out.dk (by have := HF.out; omega) (by omega) _ _ rfl rfl).mono ?_
 rintro e w3 ⟨rfl, b3⟩
 rw [vg.out, HG.out.cur, <- HH.out]
 have X3 := HX0.out.below b3
 have B3 := HB.out.trans (b3.mono HB.out.size)
 have hal := iZ w3
 have hd4 : bQ (w3.alloc (.cells (S.hc S.Hd.none).toArray 186)) w3.heap.size S.Hd.none := heap_alloc_new _ _
 obtain ⟨w5, hst, hd5, c5⟩ := dC (h := h) hd4 (S.zeros_length _) HOK.out.sl
 have b34 : Below w3.heap.size w3 (w3.alloc (.cells (S.hc S.Hd.none).toArray 186)) := ba ..
 have b5 : Below w3.heap.size w3 w5 := b34.trans (c5.base b34.size (lr _))
 have HX5 := hide (X3.below b5)
 have HB5 : Hid (Below w.heap.size w w5) := B3.trans (b5.mono B3.size)
 obtain ⟨gk, hgk⟩ : ∃ gk, gk = w3.heap.size := ⟨_, rfl⟩
 rw [<- hgk] at hd5 hal hst
 have l1 := hd5.load HOK.out.sl
 have l2 := HX5.out.hd.load HOK.out.sl
 have heq := yo h HOK.out.sl w5
 obtain ⟨CV, hCV⟩ : ∃ X, X = (S.hc h).toArray := ⟨_, rfl⟩
 have hHV : hdv h = .agg CV := by rw [hCV]; rfl
 rw [hHV] at l1 l2 hst heq
 obtain ⟨HC0, fV⟩ : ∃ X, X = (S.hc S.Hd.none).toArray := ⟨_, rfl⟩
 rw [<- fV] at hal hst
 have ecv : curv (some (h, p)) = .tuple #[.agg CV, .int .i64 (p : Int), .bool true] := by rw [<- hHV]; rfl
 rw [ecv]
 clear a0 a1 a2
 obtain ⟨a0, a1, a2⟩ := HX5.out.ar.cells
 clear b3 X3 B3 hd4 hd5 c5 b34 b5 hgk hCV hHV fV ecv q0 HX0
 go_wp2_with (first | (with_reducible refine au ⟨some 7, .alloc 186, 0, "area.go:97", #[], none⟩ ?_; refine ah rfl 186 rfl (.pointer (some ⟨gk, 0, none⟩)) (w3.alloc (.cells HC0 186)) hal ?_) | (with_reducible refine au ⟨none, .store 186 (.tmp 7) (.tmp 24), 0, "area.go:97", #[{ on := 6, ground := Ground.data }, { on := 3, ground := Ground.data }, { on := 1, ground := Ground.chain }, { on := 0, ground := Ground.phase }, { on := 1, ground := Ground.phase }, { on := 2, ground := Ground.phase }, { on := 3, ground := Ground.phase }, { on := 4, ground := Ground.textOnly Departure.lateStores }, { on := 5, ground := Ground.textOnly Departure.lateStores }, { on := 6, ground := Ground.phase }], none⟩ ?_; refine ai rfl 186 (.tmp 7) (.tmp 24) rfl (.pointer (some ⟨gk, 0, none⟩)) (.agg CV) rfl rfl w5 hst ?_) | (with_reducible refine au { dst := some 30, op := Op.load 186 (Operand.tmp 7), type := 186, pos := "area.go:98", after := #[{ on := 2, ground := Ground.guard }], guard := some (2, false) } ?_; refine fD rfl 186 (.tmp 7) rfl (.pointer (some ⟨gk, 0, none⟩)) rfl (.agg CV) l1 ?_) | (with_reducible refine au { dst := some 31, op := Op.load 186 (Operand.tmp 3), type := 186, pos := "area.go:98", after := #[{ on := 2, ground := Ground.guard }], guard := some (2, false) } ?_; refine fD rfl 186 (.tmp 3) rfl (.pointer (some ⟨gh, 0, none⟩)) rfl (.agg CV) l2 ?_) | (with_reducible refine au { dst := some 32, op := Op.binOp BinOp.neq 186 (Operand.tmp 30) (Operand.tmp 31) 186, type := 4, pos := "area.go:98", after := #[{ on := 3, ground := Ground.data }, { on := 4, ground := Ground.data }, { on := 2, ground := Ground.guard }], guard := some (2, false) } ?_; refine qC rfl 186 186 (.tmp 30) (.tmp 31) rfl CV CV rfl rfl true (by kernel_rfl) heq ?_))
 refine (pz p w5 hp1).mono ?_
 rintro e w9 ⟨rfl, rfl⟩
 obtain ⟨Q, hQ⟩ : ∃ Q, Q = 1 - p := ⟨_, rfl⟩
 have hQ1 : Q <= 1 := by omega
 rw [<- hQ]
 have HQ := hide hQ
 clear hal hst l1 l2 heq hQ
 go_wp2_with fail
 refine (pO o.ptr f c Q w5 (by have := HF.out; omega) (by omega) (by omega)).mono ?_
 rintro e w6 ⟨gb, rfl, g6, r6, b6⟩
 have HX6 := hide (HX5.out.below b6)
 have HB6 := hide (HB5.out.trans (b6.mono HB5.out.size))
 have R6 := hide r6
 have HGB : Hid (¬ o.has gb) := fun e => by have := HLT.out _ e; have := HB5.out.size; omega
 clear a0 a1 a2
 obtain ⟨a0, a1, a2⟩ := HX6.out.ar.cells
 clear g6 r6 b6 HX5 HB5
 go_wp2_with fail
 refine (qK o d f c Q w6 HX6.out.dk.dk (by have := HF.out; omega)).mono ?_
 rintro e w7 ⟨gs, rfl, g7, r7, b7⟩
 rw [vg.out] at r7
 have hsl : (d.safe.getD (f + Q) []).length = 128 := HX6.out.dk.dk.ok.len _ (by have := HF.out; omega)
 have HX7 := hide (HX6.out.below b7)
 have HB7 := hide (HB6.out.trans (b7.mono HB6.out.size))
 have r6 := (b7.block gb (aa R6.out)).trans R6.out
 have R7 := hide r6
 obtain ⟨s, hs⟩ : ∃ s, s = d.safe.getD (f + Q) [] := ⟨_, rfl⟩
 rw [<- hs] at r7 hsl
 have HS := hide hs
 have SB := hide (az r6 (S.aI f c Q).symm (by rw [S.aI]; omega))
 have SS := hide (az r7 hsl.symm (by rw [hsl]; omega))
 clear a0 a1 a2
 obtain ⟨a0, a1, a2⟩ := HX7.out.ar.cells
 clear g7 r7 b7 r6 HX6 HB6 R6 hs hsl
 go_wp2_with fail
 refine (ig _ _ _ _ w7 SS.out SB.out).mono ?_
 rintro e w9 ⟨rfl, rfl⟩
 by_cases hb : s = S.blank f c Q
 ·rw [decide_eq_true hb]
  have EA : Hid (S.dR f c (1 - p) (d.safe.getD (f + (1 - p)) []) = []) := by
   show S.dR f c (1 - p) (d.safe.getD (f + (1 - p)) []) = []
   rw [<- HQ.out, <- HS.out, S.dR, if_pos hb]
  clear hb
  go_wp2_with fail
  go_ret2
  rw [EA.out, <- HQ.out]
  exact ⟨rfl, o, HX7.out.dk.dk, (dK.refl o w).then HB7.out⟩
 ·rw [decide_eq_false hb]
  have EA : Hid (S.dR f c (1 - p) (d.safe.getD (f + (1 - p)) []) = [.write (f + Q) (S.blank f c Q), .flush]) := by
   show S.dR f c (1 - p) (d.safe.getD (f + (1 - p)) []) = _
   rw [<- HQ.out, <- HS.out, S.dR, if_neg hb]
  clear hb
  go_wp2_with fail
  refine (mg o d f c Q (some ⟨gb, 0, none⟩) 128 (S.blank f c Q) w7 HX7.out.dk.dk (by have := HF.out; omega) (S.aI _ _ _) (by rw [HPE.out]; simp) (fun W hW => az (hW.row R7.out (fun e => HGB.out (Or.inl e))) (S.aI f c Q).symm (by rw [S.aI]; omega))).mono ?_
  intro e w8 hdo
  obtain ⟨b, d1, o1, rfl, h1, h2, h3⟩ := hdo.start
  have HF8 : Hid (Does d [.write (f + Q) (S.blank f c Q), .flush] o w (.returned (.int .i64 (S.why b))) w8) := hdo.after HB7.out
  have HWB : Hid (S.why b = S.why (d.plan [.write (f + Q) (S.blank f c Q), .flush]).2) := by rw [h1]; rfl
  clear h1 h2 h3 hdo
  generalize S.why b = y at HF8 HWB ⊢
  go_wp2_with fail
  go_ret2
  unfold Does2
  rw [EA.out, <- HQ.out]
  obtain ⟨_, o', h5, h6⟩ := HF8.out
  exact ⟨by rw [<- HWB.out]; rfl, o', h5, h6⟩
end Go.Proofs.YteealihknndclabGreatDoor
