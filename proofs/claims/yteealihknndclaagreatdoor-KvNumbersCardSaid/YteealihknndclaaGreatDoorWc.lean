/- Open and Read where the log tells of sheets. -/
import Derived.Test.YteealihknndclaaGreatDoorUd
import Derived.Shelf.SlSortCmp.InsertionK
import Derived.Shelf.Lay
import Derived.Ground.SlsfProg
import Derived.Test.YteealihknndclaaGreatDoorJa
import Derived.Test.YteealihknndclaaGreatDoorBy
import Derived.Deep.CutBlock
namespace Go.Proofs.YteealihknndclaaGreatDoor
open Go.RowKit

theorem Recs.one {w0 w : World} {lv : Value} {us : List Value} {z : List UInt8} (h : Recs w0 w lv us [z]) (hz : z.length = 64) : ∃ gl off c gz cz, lv = .slice (some ⟨gl, off, none⟩) 1 c /\ w.cell? ⟨gl, off, none⟩ = some (.slice (some ⟨gz, 0, none⟩) 64 cz) /\ SliceAt w (.slice (some ⟨gz, 0, none⟩) 64 cz) z := by
 have hl : us.length = 1 := h.copies.len
 obtain ⟨gz, cz, e, hr, _⟩ := h.copies.new 0 (by simp)
 have e' : us.getD 0 default = .slice (some ⟨gz, 0, none⟩) 64 cz := by rw [e]; show Value.slice _ z.length cz = _; rw [hz]
 rcases h.lists with ⟨_, h2⟩ | ⟨g, off, c, cur, h1, h2, h3, h4, h5⟩
 ·rw [h2] at hl; simp at hl
 ·refine ⟨g, off, c, gz, cz, by rw [h1, hl], ?_, ?_⟩
  ·have h0 : us[0]? = some (.slice (some ⟨gz, 0, none⟩) 64 cz) := by
    rw [List.getElem?_eq_getElem (by omega), <- e', List.getD_eq_getElem?_getD, List.getElem?_eq_getElem (by omega)]
    rfl
   rw [cell_of_row w g off _ 32 _ h2]
   have := h5 0 _ h0
   rw [Nat.add_zero] at this
   exact this
  ·have h6 := hr.sliceAt (by show z.length <= _; omega)
   have e6 : ([z].getD 0 []).length = 64 := hz
   rw [e6] at h6
   exact h6
structure Pm (w0 w : World) (o : Ow) (d : S.Dk) (p t : Nat) (ns : List Nat) (xs : List (List UInt8)) (pg : Nat -> List UInt8) : Prop where
 dk : Dsk w o d
 pend : d.pend = []
 len : 7680 <= d.safe.length
 mark : d.safe.getD 0 [] = S.gy
 log : S.Good d.safe 1 4 p t [S.setL ns]
 spare : ∀ i, i < ns.length -> S.ik d.safe (4101 + i * 8) = xs.getD i []
 home : ∀ n, n < 512 -> n ∉ ns -> S.ik d.safe (5 + n * 8) = pg n
 ob : ∀ k, o.has k -> w0.heap.size <= k
 below : Below w0.heap.size w0 w
 pos : 1 < w0.heap.size
 nb : ∀ n ∈ ns, n < 512
 up : ns.Pairwise (· < ·)
 ne : ns ≠ []
 le : ns.length <= 256
theorem Pm.then {w0 w W : World} {o : Ow} {d : S.Dk} {p t : Nat} {ns : List Nat} {xs : List (List UInt8)} {pg : Nat -> List UInt8} (h : Pm w0 w o d p t ns xs pg) (hb : Below w.heap.size w W) : Pm w0 W o d p t ns xs pg :=
 ⟨h.dk.below hb, h.pend, h.len, h.mark, h.log, h.spare, h.home, h.ob, h.below.trans (hb.mono h.below.size), h.pos, h.nb, h.up, h.ne, h.le⟩
theorem Pm.seen {w0 w : World} {o : Ow} {d : S.Dk} {p t : Nat} {ns : List Nat} {xs : List (List UInt8)} {pg : Nat -> List UInt8} (h : Pm w0 w o d p t ns xs pg) : d.seen = d.safe := S.Dk.seen_flushed d h.pend
set_option maxHeartbeats 4000000 in
set_option maxRecDepth 10000 in
theorem Cu (w0 w : World) (o : Ow) (d : S.Dk) (p t : Nat) (ns : List Nat) (xs : List (List UInt8)) (pg : Nat -> List UInt8) (h : Pm w0 w o d p t ns xs pg) :
  Calls Tryz.prog 71 #[o.ptr] w fun e w' => ∃ g tv, e = .returned (.tuple #[.pointer (some ⟨g, 0, none⟩), .agg (S.v8 (S.setL ns)), .int .i64 0]) /\ Lo w0 w' o d g 1 4 p t [S.setL ns] tv /\ w.heap.size <= g /\ (∀ k, tv.ownBlock = some k -> w.heap.size <= k) /\ Below w.heap.size w w' := by
 have kK := iO w
 obtain ⟨w1, hw1⟩ : ∃ w1, w1 = w.alloc (.cells (S.v8 (S.zeros 64)) 149) := ⟨_, rfl⟩
 have b1 : Below w.heap.size w w1 := by rw [hw1]; exact ba ..
 have r1 : w1.heap[w.heap.size]? = some (.cells (S.v8 (S.zeros 64)) 149 (0, 0)) := by rw [hw1]; exact heap_alloc_new _ _
 rw [<- hw1] at kK
 obtain ⟨g3, hg3⟩ : ∃ g3, g3 = w.heap.size := ⟨_, rfl⟩
 rw [<- hg3] at kK r1
 have R1 := hide r1
 have B1 := hide b1
 have P1 := hide (h.then b1)
 have HLT : Hid (∀ k, o.has k -> k < g3) := fun k hk => by rw [hg3]; exact h.dk.dk.lt k hk
 have HG3 : Hid (w.heap.size <= g3) := by rw [hg3]; exact lr _
 have HG3e : Hid (g3 = w.heap.size) := hg3
 have HNE : Hid (∀ r ∈ [S.setL ns], r ≠ []) := fun r hr e => by simp at hr; rw [hr] at e; have := S.setL_length ns; rw [e] at this; simp at this
 have CN : Hid (0 < S.cnt (S.setL ns) /\ S.cnt (S.setL ns) <= 256) := by
  rw [S.Dj ns h.nb h.up]
  exact ⟨List.length_pos_iff.2 h.ne, h.le⟩
 have HW0 : Hid (w0.heap.size <= w.heap.size) := h.below.size
 clear b1 r1 hw1 hg3 h
 go_enter Tryz.func71, Tryz.ntmps71
 go_wp2_with (with_reducible refine aD ⟨some 3, .alloc 149, 0, "place.go:70", #[], none⟩ ?_; refine aA rfl 149 rfl (.pointer (some ⟨g3, 0, none⟩)) w1 kK ?_)
 clear kK
 refine (kQ o d 0 w1 P1.out.dk.dk (by have := P1.out.len; omega)).mono ?_
 rintro e w2 ⟨rfl, hr2, b2⟩
 rw [P1.out.seen, P1.out.mark] at hr2
 have cv := fB (aG (n := 128) hr2 S.eZ.symm (by rw [S.eZ]; omega))
 have P2 := hide (P1.out.then b2)
 have R2 : Hid (w2.heap[g3]? = some (.cells (S.v8 (S.zeros 64)) 149 (0, 0))) := (b2.block g3 (ae R1.out)).trans R1.out
 have B2 := hide (B1.out.trans (b2.mono B1.out.size))
 have hq : S.gy = [112, 97, 103, 101, 115, 32, 116, 104, 97, 116, 32, 97, 114, 101, 32, 112, 117, 116, 32, 116, 111, 103, 101, 116, 104, 101, 114, 32, 46, 46, 46, 32, 112, 97, 103, 101, 115, 32, 116, 104, 97, 116, 32, 97, 114, 101, 32, 112, 117, 116, 32, 116, 111, 103, 101, 116, 104, 101, 114, 32, 46, 46, 46, 32].append [112, 97, 103, 101, 115, 32, 116, 104, 97, 116, 32, 97, 114, 101, 32, 112, 117, 116, 32, 116, 111, 103, 101, 116, 104, 101, 114, 32, 46, 46, 46, 32, 112, 97, 103, 101, 115, 32, 116, 104, 97, 116, 32, 97, 114, 101, 32, 112, 117, 116, 32, 116, 111, 103, 101, 116, 104, 101, 114, 32, 46, 46, 46, 32] := rfl
 clear hr2 b2 R1 B1 P1
 go_wp2_with fail
 clear cv hq
 refine (yP w0 w2 o d 1 4 p t [S.setL ns] P2.out.dk P2.out.pend P2.out.log P2.out.ob P2.out.below P2.out.pos).mono ?_
 rintro e w4 ⟨g, tv, rfl, hlo, hgb, htb, b4⟩
 have LO4 := hide hlo
 have G4 : Hid (g3 < g /\ w.heap.size <= g /\ (∀ k, tv.ownBlock = some k -> g3 < k /\ w.heap.size <= k)) := by
  have h1 := ae R2.out
  have h2 := HG3e.out
  exact ⟨by omega, by omega, fun k hk => by have := htb k hk; exact ⟨by omega, by omega⟩⟩
 have R4 : Hid (w4.heap[g3]? = some (.cells (S.v8 (S.zeros 64)) 149 (0, 0))) := (b4.block g3 (ae R2.out)).trans R2.out
 have B4 := hide (B2.out.trans (b4.mono B2.out.size))
 clear hlo hgb htb b4 R2 B2 P2
 go_wp2_with fail
 refine (qH w0 w4 o d g 1 4 p t [S.setL ns] tv LO4.out HNE.out).mono ?_
 rintro e w5 ⟨lv, us, rfl, hrec, b5⟩
 obtain ⟨gl, ofl, cl, gz, cz, rfl, hcell, hsl⟩ := hrec.one (S.setL_length ns)
 have CE := hide hcell
 have SL := hide hsl
 have LO5 := hide (LO4.out.then b5)
 have R5 : Hid (w5.heap[g3]? = some (.cells (S.v8 (S.zeros 64)) 149 (0, 0))) := (b5.block g3 (ae R4.out)).trans R4.out
 have B5 := hide (B4.out.trans (b5.mono B4.out.size))
 clear hrec b5 hcell hsl LO4 R4 B4
 go_wp2_with fail
 refine (zH gl ofl cl gz 0 cz (S.setL ns) w5 CE.out SL.out CN.out.1 CN.out.2).mono ?_
 rintro e w6 ⟨rfl, b6⟩
 have LO6 := hide (LO5.out.then b6)
 have R6 : Hid (w6.heap[g3]? = some (.cells (S.v8 (S.zeros 64)) 149 (0, 0))) := (b6.block g3 (ae R5.out)).trans R5.out
 have B6 := hide (B5.out.trans (b6.mono B5.out.size))
 clear b6 LO5 R5 B5
 have jo := iO w6
 obtain ⟨w9, qY, r9, b9⟩ := uK w6 (S.setL ns) (S.setL_length ns)
 have R9 := hide r9
 have LO9 := hide (LO6.out.then b9)
 have R39 : Hid (w9.heap[g3]? = some (.cells (S.v8 (S.zeros 64)) 149 (0, 0))) := (b9.block g3 (ae R6.out)).trans R6.out
 have B9 := hide (B6.out.trans (b9.mono B6.out.size))
 have h36 := ae R6.out
 have N93 : Hid (¬ w6.heap.size = g3) := fun e => by omega
 have NG3 : Hid (∀ k, (o.has k \/ k = g \/ tv.ownBlock = some k \/ k < w0.heap.size) -> ¬ k = g3) := fun k hk e => by
  subst e
  rcases hk with hk | hk | hk | hk
  ·exact absurd (HLT.out _ hk) (Nat.lt_irrefl _)
  ·have := G4.out.1; omega
  ·have := (G4.out.2.2 _ hk).1; omega
  ·have := HW0.out; have := HG3.out; omega
 obtain ⟨w7, hw7⟩ : ∃ w7, w7 = w6.alloc (.cells (S.v8 (S.zeros 64)) 149) := ⟨_, rfl⟩
 rw [<- hw7] at jo qY
 obtain ⟨g9, hg9⟩ : ∃ g9, g9 = w6.heap.size := ⟨_, rfl⟩
 rw [<- hg9] at jo qY R9 N93
 clear r9 b9 h36 LO6 R6 B6 hg9 hw7
 go_upto_region 10 with (first | (with_reducible refine aD ⟨some 9, .alloc 149, 0, "place.go:78", #[], none⟩ ?_; refine aA rfl 149 rfl (.pointer (some ⟨g9, 0, none⟩)) w7 jo ?_) | (with_reducible refine aD ⟨none, .store 149 (.tmp 9) (.tmp 33), 0, "place.go:78", #[{ on := 6, ground := Ground.data }, { on := 4, ground := Ground.data }, { on := 2, ground := Ground.chain }, { on := 0, ground := Ground.phase }, { on := 1, ground := Ground.phase }, { on := 2, ground := Ground.phase }, { on := 3, ground := Ground.phase }, { on := 4, ground := Ground.phase }, { on := 5, ground := Ground.textOnly Departure.lateStores }, { on := 6, ground := Ground.phase }], none⟩ ?_; refine aB rfl 149 (.tmp 9) (.tmp 33) rfl (.pointer (some ⟨g9, 0, none⟩)) (.agg (S.v8 (S.setL ns))) rfl rfl w9 qY ?_))
 clear jo qY
 refine wp_region_noPanic ?_
 refine wp_region_held_drew (S := (fun W => W.heap[g9]? = some (.cells (S.v8 (S.setL ns)) 149 (0, 0)))) follows R9.out (fun hHeld => ?_)
 have LOd := hide (LO9.out.then (Below.refl w9.heap.size w9).drew)
 have B9d : Hid (Below w.heap.size w w9.drew) := B9.out.drew
 have R3d : Hid (w9.drew.heap[g3]? = some (.cells (S.v8 (S.zeros 64)) 149 (0, 0))) := R39.out
 clear LO9 B9 R9 R39
 generalize w9.drew = Z1 at LOd B9d R3d hHeld ⊢
 refine tq 0 ?_
 simp only [uA]
 refine wpAnyH_take (i := 1) (oi := ⟨_, _, _, _, _, _⟩) (v := .agg (S.v8 (S.setL ns))) rfl (by kernel_rfl) (by kernel_rfl) (by kernel_rfl) (fun _ _ _ h => h) (iR (by kernel_rfl) (.tmp 9) rfl g9 rfl (S.setL_length ns) (fun W hW => hW)) (by assumption) ?_
 simp only [uA]
 refine tq 2 ?_
 simp only [uA]
 obtain ⟨Z2, hst, r3, c3⟩ := mJ (ys := S.setL ns) R3d.out (S.zeros_length _) (S.setL_length ns)
 have R3 := hide r3
 have LO2 : Hid (Lo w0 Z2 o d g 1 4 p t [S.setL ns] tv) := LOd.out.chg c3 NG3.out
 have B2 : Hid (Below w.heap.size w Z2) := B9d.out.trans (c3.base B9d.out.size HG3.out)
 have a2 : Z2.heap[g9]? = some (.cells (S.v8 (S.setL ns)) 149 (0, 0)) := c3.row hHeld N93.out
 refine rdy [3] ?_
 refine eQ (o := ⟨_, _, _, _, _, _⟩) rfl rfl 149 (.tmp 3) (.tmp 39) rfl Z2 hst AllReadyH.nil ⟨a2, fun hHeld => ?_⟩
 simp only [Act.put]
 clear hst r3 c3 LOd B9d R3d a2
 refine tq 4 ?_
 simp only [uA]
 refine wpAnyH_done (by kernel_rfl) ?_ _
 refine NoPanic.normal ?_
 clear hHeld
 go_wp2_with fail
 refine bodyPost_ret (pq Tryz.results71 _ _ g3 (.agg (S.v8 (S.setL ns))) rfl (lL R3.out (S.setL_length ns))) rfl ⟨g, tv, rfl, LO2.out, G4.out.2.1, fun k hk => (G4.out.2.2 k hk).2, B2.out⟩
set_option maxHeartbeats 1000000 in
set_option maxRecDepth 10000 in
theorem Am (ns : List Nat) (n g c : Nat) (cur : Array Value) (w : World) (hr : w.heap[g]? = some (.cells cur 3 (0, 0))) (hc : ∀ j, j < ns.length -> cur[j]? = some (.int .i64 ((ns.getD j 0 : Nat) : Int))) (hin : n ∈ ns) (hl : ns.length <= 1000) :
  Calls Tryz.prog 208 #[.slice (some ⟨g, 0, none⟩) ns.length c, .int .i64 (n : Int)] w fun e w' => e = .returned (.int .i64 (ns.idxOf n : Int)) /\ w = w' := by
 have HR := hide hr
 have HC := hide hc
 have HX : Hid (ns.idxOf n < ns.length) := List.idxOf_lt_length_of_mem hin
 have HL := hide hl
 have HAT : Hid (ns.getD (ns.idxOf n) 0 = n) := by
  show ns.getD (ns.idxOf n) 0 = n
  rw [List.getD_eq_getElem?_getD, List.getElem?_eq_getElem HX.out, Option.getD_some]
  exact List.getElem_idxOf HX.out
 have HNO : Hid (∀ j, j < ns.idxOf n -> ns.getD j 0 ≠ n) := fun j hj e => by
  have hjl : j < ns.length := Nat.lt_trans hj HX.out
  rw [List.getD_eq_getElem?_getD, List.getElem?_eq_getElem hjl, Option.getD_some] at e
  have h := List.not_of_lt_findIdx (p := (· == n)) (xs := ns) hj
  simp [e] at h
 clear hr hc hl
 go_enter Tryz.func208, Tryz.ntmps208
 go_wp2_with fail
 go_loopw [8] (fun i wr => ∃ k : Nat, k <= ns.idxOf n /\ i = .int .i64 (k : Int) /\ w = wr) (fun i _ => ns.length - (intOf i).toNat)
 case atStart => exact ⟨0, Nat.zero_le _, rfl, rfl⟩
 case round =>
 obtain ⟨k, hk, rfl, rfl⟩ := hrel
 have hkl : k < ns.length := Nat.lt_of_le_of_lt hk HX.out
 have q1 : (k : Int) < (ns.length : Int) := by omega
 have q0 : (0 : Int) <= (k : Int) := by omega
 have q2 : IntKind.i64.wrap ((k : Int) + 1) = (k : Int) + 1 := by have := HL.out; rw [IntKind.wrap_i64]; omega
 obtain ⟨m, hm⟩ : ∃ m : Nat, m = ns.getD k 0 := ⟨_, rfl⟩
 have c1 : w.cell? ⟨g, k, none⟩ = some (.int .i64 (m : Int)) := by rw [cell_of_row w g k _ 3 _ HR.out, hm]; exact HC.out k hkl
 have KK := hide hkl
 by_cases hkx : k = ns.idxOf n
 ·have q3 : (n : Int) = (m : Int) := by rw [hm, hkx, HAT.out]
  have q4 : ((n : Int) == (m : Int)) = true := by rw [q3]; exact beq_self_eq_true _
  have EK := hide hkx
  clear hm hk hkl hkx
  go_wp2_with fail
  go_ret
  exact ⟨by rw [<- EK.out]; rfl, rfl⟩
 ·have hne : m ≠ n := by rw [hm]; exact HNO.out k (by omega)
  have q3 : ¬ ((n : Int) = (m : Int)) := by omega
  have q4 : ((n : Int) == (m : Int)) = false := beq_false_of_ne q3
  have KN : Hid (k + 1 <= ns.idxOf n) := by show k + 1 <= ns.idxOf n; omega
  clear hm hk hkl hkx hne
  go_wp2_with fail
  go_roundw
  case rel => exact ⟨k + 1, KN.out, by go_num, trivial⟩
  case measure => have := KK.out; simp [intOf]; omega
set_option maxRecDepth 10000 in
theorem Ca (ns : List Nat) (n : Nat) (w : World) (hn : ∀ n ∈ ns, n < 512) (hpw : ns.Pairwise (· < ·)) (hin : n ∈ ns) : Calls Tryz.prog 178 #[.agg (S.v8 (S.setL ns)), .int .i64 (n : Int)] w fun e w' => e = .returned (.int .i64 (ns.idxOf n : Int)) /\ Below w.heap.size w w' := by
 obtain ⟨Z, hZ⟩ : ∃ Z, Z = S.v8 (S.setL ns) := ⟨_, rfl⟩
 obtain ⟨w1, hw1⟩ : ∃ w1, w1 = w.alloc (.cells Z 149) := ⟨_, rfl⟩
 have B1 : Hid (Below w.heap.size w w1) := by rw [hw1]; exact ba ..
 have r1 : w1.heap[w.heap.size]? = some (.cells (S.v8 (S.setL ns)) 149 (0, 0)) := by rw [hw1, hZ]; exact heap_alloc_new _ _
 have ld := kX r1 (S.setL_length ns)
 rw [<- hZ] at ld ⊢
 have HZ := hide hZ
 have HW := hide hw1
 obtain ⟨g1, hg1⟩ : ∃ g1, g1 = w.heap.size := ⟨_, rfl⟩
 rw [<- hg1] at ld
 have HG := hide hg1
 have HLN : Hid (ns.length <= 512) := by
  have h1 := S.inSet_setL ns hn hpw
  have h2 := S.inSet_length (S.setL ns) 512
  rw [h1] at h2
  exact h2
 clear r1 hZ hw1 hg1
 go_enter Tryz.func178, Tryz.ntmps178
 go_wp2_with (rw [<- HW.out, <- HG.out]; with_reducible refine aD ⟨some 5, .load 149 (.tmp 2), 149, "set.go:58", #[], none⟩ ?_; refine aC rfl 149 (.tmp 2) rfl (.pointer (some ⟨g1, 0, none⟩)) rfl (.agg Z) ld ?_)
 clear ld
 rw [HZ.out]
 refine (pages_any (S.setL ns) w1 (S.setL_length ns)).mono ?_
 rintro e w3 ⟨v, rfl, hv, b3⟩
 rw [S.inSet_setL ns hn hpw] at hv
 obtain ⟨gl, cl, cur, rfl, hgl, hrow, hcur⟩ := ints_row hv (fun e => by rw [e] at hin; simp at hin)
 have B3 := hide (B1.out.trans (b3.mono B1.out.size))
 have RR := hide hrow
 have CC := hide hcur
 clear hv hgl hrow hcur b3
 go_wp2_with fail
 refine (Am ns n gl cl cur w3 RR.out CC.out hin (by have := HLN.out; omega)).mono ?_
 rintro e w4 ⟨rfl, rfl⟩
 go_wp2_with fail
 go_ret
 exact ⟨rfl, B3.out⟩
set_option maxHeartbeats 4000000 in
set_option maxRecDepth 10000 in
theorem zP (w0 w : World) (o : Ow) (d : S.Dk) (p t gs n : Nat) (ns : List Nat) (xs : List (List UInt8)) (pg : Nat -> List UInt8) (h : Pm w0 w o d p t ns xs pg) (hs : kE w gs o) (hn : n < 512) :
  Calls Tryz.prog 140 #[.pointer (some ⟨gs, 0, none⟩), .int .i64 (n : Int)] w fun e w' => ∃ gp, e = .returned (.tuple #[.slice (some ⟨gp, 0, none⟩) 1024 1024, .int .i64 0]) /\ w.heap.size <= gp /\ Room w' gp 1024 (if n ∈ ns then xs.getD (ns.idxOf n) [] else pg n) /\ Pm w0 w' o d p t ns xs pg /\ kE w' gs o /\ Below w.heap.size w w' := by
 have P0 := hide h
 have S0 := hide hs
 clear h hs
 go_enter Tryz.func140, Tryz.ntmps140
 go_wp2_with fail
 refine (mq n hn w).mono ?_
 rintro e w1 ⟨rfl, rfl⟩
 have c0 := uh S0.out
 go_wp2_with fail
 have kg : o.ptr = .pointer (some ⟨o.g, 0, none⟩) := rfl
 rw [<- kg]
 refine (Cu w0 w o d p t ns xs pg P0.out).mono ?_
 rintro e w1 ⟨g, tv, rfl, hlo, hgb, htb, b1⟩
 have P1 := hide (P0.out.then b1)
 have B1 := hide b1
 have S1 : Hid (kE w1 gs o) := (b1.block gs (ae S0.out)).trans S0.out
 clear hlo hgb htb b1 P0 S0 c0
 have hal := iO w1
 obtain ⟨w3, hst, r3, b3⟩ := uK w1 (S.setL ns) (S.setL_length ns)
 have P3 := hide (P1.out.then b3)
 have B3 := hide (B1.out.trans (b3.mono B1.out.size))
 have S3 : Hid (kE w3 gs o) := (b3.block gs (ae S1.out)).trans S1.out
 obtain ⟨w2, hw2⟩ : ∃ w2, w2 = w1.alloc (.cells (S.v8 (S.zeros 64)) 149) := ⟨_, rfl⟩
 rw [<- hw2] at hal hst
 have ld := kX r3 (S.setL_length ns)
 obtain ⟨g2, hg2⟩ : ∃ g2, g2 = w1.heap.size := ⟨_, rfl⟩
 rw [<- hg2] at hal hst ld
 obtain ⟨Z, hZ⟩ : ∃ Z, Z = S.v8 (S.setL ns) := ⟨_, rfl⟩
 rw [<- hZ] at hst ld ⊢
 have HZ := hide hZ
 have RSK : Hid (w3.heap[g2]? = some (.cells (S.v8 (S.setL ns)) 149 (0, 0))) := by rw [hg2]; exact r3
 clear r3 b3 hw2 hg2 hZ P1 B1 S1 kg
 go_wp2_with (first | (with_reducible refine aD ⟨some 7, .alloc 149, 0, "pages.go:60", #[], none⟩ ?_; refine aA rfl 149 rfl (.pointer (some ⟨g2, 0, none⟩)) w2 hal ?_) | (with_reducible refine aD ⟨none, .store 149 (.tmp 7) (.tmp 19), 0, "pages.go:60", #[{ on := 9, ground := Ground.data }, { on := 7, ground := Ground.data }, { on := 10, ground := Ground.chain }, { on := 0, ground := Ground.phase }, { on := 1, ground := Ground.phase }, { on := 2, ground := Ground.phase }, { on := 3, ground := Ground.phase }, { on := 4, ground := Ground.phase }, { on := 5, ground := Ground.phase }, { on := 6, ground := Ground.phase }, { on := 7, ground := Ground.phase }, { on := 8, ground := Ground.textOnly Departure.lateStores }, { on := 9, ground := Ground.phase }, { on := 10, ground := Ground.phase }], none⟩ ?_; refine aB rfl 149 (.tmp 7) (.tmp 19) rfl (.pointer (some ⟨g2, 0, none⟩)) (.agg Z) rfl rfl w3 hst ?_) | (with_reducible refine aD ⟨some 24, .load 149 (.tmp 7), 149, "pages.go:64", #[], none⟩ ?_; refine aC rfl 149 (.tmp 7) rfl (.pointer (some ⟨g2, 0, none⟩)) rfl (.agg Z) ld ?_))
 clear hal hst ld
 have RS3 : Hid (w3.heap[g2]? = some (.cells (S.v8 (S.setL ns)) 149 (0, 0))) := RSK.out
 have NB : Hid (∀ n ∈ ns, n < 512) := P3.out.nb
 have UP : Hid (ns.Pairwise (· < ·)) := P3.out.up
 have LE : Hid (ns.length <= 256) := P3.out.le
 refine (bit_any Z (S.setL ns) n w3 HZ.out (S.setL_length ns) hn).mono ?_
 rintro e w6 ⟨rfl, b6⟩
 rw [S.bit_setL ns P3.out.nb]
 have P6 := hide (P3.out.then b6)
 have B6 := hide (B3.out.trans (b6.mono B3.out.size))
 have ST6 : Hid (kE w6 gs o) := (b6.block gs (ae S3.out)).trans S3.out
 have RS6 : Hid (w6.heap[g2]? = some (.cells (S.v8 (S.setL ns)) 149 (0, 0))) := (b6.block g2 (ae RS3.out)).trans RS3.out
 clear b6 P3 B3 S3 RS3 RSK
 by_cases hin : n ∈ ns
 ·rw [decide_eq_true hin]
  have IX : Hid (ns.idxOf n < ns.length) := List.idxOf_lt_length_of_mem hin
  go_upto_region 7 with fail
  refine wp_region_noPanic ?_
  refine wp_region_held_drew (S := (fun W => W.heap[gs]? = some (.cells #[.pointer (some ⟨o.g, 0, none⟩)] 153 (0, 0)) /\ W.heap[g2]? = some (.cells (S.v8 (S.setL ns)) 149 (0, 0)))) follows ⟨ST6.out, RS6.out⟩ (fun hHeld => ?_)
  have P6d := hide (P6.out.then (Below.refl w6.heap.size w6).drew)
  have B6d : Hid (Below w.heap.size w w6.drew) := B6.out.drew
  clear P6 B6 ST6 RS6
  generalize w6.drew = Z1 at P6d B6d hHeld ⊢
  refine tq 0 ?_
  simp only [uA]
  refine tq 1 ?_
  simp only [uA]
  refine tq 2 ?_
  simp only [uA]
  refine tk 3 ?_ rfl (Or.inl ⟨by rfl, ?_⟩) ?_
  rotate_left
  ·intro w hSw
   have c0 := uh hSw.1
   clear hSw
   go_simp
   all_goals with_reducible rfl
  simp only [uA]
  refine wpAnyH_take (i := 4) (oi := ⟨_, _, _, _, _, _⟩) (v := .agg (S.v8 (S.setL ns))) rfl (by kernel_rfl) (by kernel_rfl) (by kernel_rfl) (fun _ _ _ h => h) (iR (by kernel_rfl) (.tmp 7) rfl g2 rfl (S.setL_length ns) (fun W hW => hW.2)) (by assumption) ?_
  simp only [uA]
  refine tq 5 ?_
  simp only [uA]
  refine r1 6 fun K hK => ?_
  go_simp
  refine (Ca ns n Z1 NB.out UP.out hin).mono ?_
  rintro e Z2 ⟨rfl, b2⟩
  have a2 : Z2.heap[gs]? = some (.cells #[.pointer (some ⟨o.g, 0, none⟩)] 153 (0, 0)) /\ Z2.heap[g2]? = some (.cells (S.v8 (S.setL ns)) 149 (0, 0)) := ⟨(b2.block gs (ae hHeld.1)).trans hHeld.1, (b2.block g2 (ae hHeld.2)).trans hHeld.2⟩
  have P7 := hide (P6d.out.then b2)
  have B7 : Hid (Below w.heap.size w Z2) := B6d.out.trans (b2.mono B6d.out.size)
  clear hHeld b2 P6d B6d
  refine hK.out _ _ a2 (fun hHeld => ?_)
  clear hK K
  try simp only [uA]
  clear a2
  refine r1 7 fun K hK => ?_
  go_simp
  refine (wZ (ns.idxOf n) (by have := LE.out; have := IX.out; omega) Z2).mono ?_
  rintro e Z3 ⟨rfl, rfl⟩
  refine hK.out _ _ hHeld (fun hHeld => ?_)
  clear hK K
  try simp only [uA]
  refine r1 8 fun K hK => ?_
  go_simp
  have RP := mO o d (4101 + ns.idxOf n * 8) Z2 P7.out.dk.dk (fun i hi => by rw [P7.out.seen] at hi ⊢; exact P7.out.dk.dk.ok.len i hi) (by have := P7.out.len; have := LE.out; have := IX.out; omega)
  rw [P7.out.seen, P7.out.spare _ IX.out, show o.ptr = .pointer (some ⟨o.g, 0, none⟩) from rfl] at RP
  try rw [show ((4101 + ns.idxOf n * 8 : Nat) : Int) = 4101 + (ns.idxOf n : Int) * 8 by omega] at RP
  refine RP.mono ?_
  rintro e Z3 ⟨gp, rfl, hgp, hrm, b2⟩
  have a2 : Z3.heap[gs]? = some (.cells #[.pointer (some ⟨o.g, 0, none⟩)] 153 (0, 0)) /\ Z3.heap[g2]? = some (.cells (S.v8 (S.setL ns)) 149 (0, 0)) := ⟨(b2.block gs (ae hHeld.1)).trans hHeld.1, (b2.block g2 (ae hHeld.2)).trans hHeld.2⟩
  have P8 := hide (P7.out.then b2)
  have RM : Hid (Room Z3 gp 1024 (if n ∈ ns then xs.getD (ns.idxOf n) [] else pg n)) := by show Room Z3 gp 1024 (if n ∈ ns then xs.getD (ns.idxOf n) [] else pg n); rw [if_pos hin]; exact hrm
  have GP : Hid (w.heap.size <= gp) := ltr B7.out.size hgp
  have ST8 := hide a2.1
  have B8 : Hid (Below w.heap.size w Z3) := B7.out.trans (b2.mono B7.out.size)
  clear RP hgp hrm b2 hHeld P7 B7
  refine hK.out _ _ a2 (fun hHeld => ?_)
  clear hK K
  try simp only [uA]
  clear a2
  refine tq 9 ?_
  simp only [uA]
  refine tq 10 ?_
  simp only [uA]
  refine wpAnyH_done (by kernel_rfl) ?_ _
  refine NoPanic.normal ?_
  clear hHeld
  go_wp2_with fail
  go_ret2
  exact ⟨gp, rfl, GP.out, by have h := RM.out; rw [if_pos hin, List.getD_eq_getElem?_getD] at h; exact h, P8.out, ST8.out, B8.out⟩
 ·rw [decide_eq_false hin]
  clear RS6
  go_upto_region 8 with fail
  refine wp_region_noPanic ?_
  refine wp_region_held_drew (S := (fun W => W.heap[gs]? = some (.cells #[.pointer (some ⟨o.g, 0, none⟩)] 153 (0, 0)))) follows ST6.out (fun hHeld => ?_)
  have P6d := hide (P6.out.then (Below.refl w6.heap.size w6).drew)
  have B6d : Hid (Below w.heap.size w w6.drew) := B6.out.drew
  clear P6 B6 ST6
  generalize w6.drew = Z1 at P6d B6d hHeld ⊢
  refine tq 0 ?_
  simp only [uA]
  refine tq 1 ?_
  simp only [uA]
  refine tq 2 ?_
  simp only [uA]
  refine tk 3 ?_ rfl (Or.inl ⟨by rfl, ?_⟩) ?_
  rotate_left
  ·intro w hSw
   have c0 := uh hSw
   clear hSw
   go_simp
   all_goals with_reducible rfl
  simp only [uA]
  refine tq 4 ?_
  simp only [uA]
  refine r1 5 fun K hK => ?_
  go_simp
  refine (zQ n (by omega) Z1).mono ?_
  rintro e Z2 ⟨rfl, rfl⟩
  refine hK.out _ _ hHeld (fun hHeld => ?_)
  clear hK K
  try simp only [uA]
  refine r1 6 fun K hK => ?_
  go_simp
  have RP := mO o d (5 + n * 8) Z1 P6d.out.dk.dk (fun i hi => by rw [P6d.out.seen] at hi ⊢; exact P6d.out.dk.dk.ok.len i hi) (by have := P6d.out.len; omega)
  rw [P6d.out.seen, P6d.out.home n hn hin, show o.ptr = .pointer (some ⟨o.g, 0, none⟩) from rfl] at RP
  try rw [show ((5 + n * 8 : Nat) : Int) = 5 + (n : Int) * 8 by omega] at RP
  refine RP.mono ?_
  rintro e Z2 ⟨gp, rfl, hgp, hrm, b2⟩
  have a2 : Z2.heap[gs]? = some (.cells #[.pointer (some ⟨o.g, 0, none⟩)] 153 (0, 0)) := (b2.block gs (ae hHeld)).trans hHeld
  have P7 := hide (P6d.out.then b2)
  have RM : Hid (Room Z2 gp 1024 (if n ∈ ns then xs.getD (ns.idxOf n) [] else pg n)) := by show Room Z2 gp 1024 (if n ∈ ns then xs.getD (ns.idxOf n) [] else pg n); rw [if_neg hin]; exact hrm
  have GP : Hid (w.heap.size <= gp) := ltr B6d.out.size hgp
  have ST7 := hide a2
  have B7 : Hid (Below w.heap.size w Z2) := B6d.out.trans (b2.mono B6d.out.size)
  clear RP hgp hrm b2 hHeld P6d B6d
  refine hK.out _ _ a2 (fun hHeld => ?_)
  clear hK K
  try simp only [uA]
  clear a2
  refine tq 7 ?_
  simp only [uA]
  refine tq 8 ?_
  simp only [uA]
  refine wpAnyH_done (by kernel_rfl) ?_ _
  refine NoPanic.normal ?_
  clear hHeld
  go_wp2_with fail
  go_ret2
  exact ⟨gp, rfl, GP.out, by have h := RM.out; rw [if_neg hin] at h; exact h, P7.out, ST7.out, B7.out⟩
namespace S
structure bS (lv : Nat) (es : List Ent) : Prop where
 ent : ∀ x ∈ es, jM lv x
 up : S.up (es.map (·.key))
 lvl : lv < 256
 size : gJ es <= 1019
 leaf : lv = 0 -> ∀ x ∈ es, x.key ≠ []
 node : lv ≠ 0 -> ∃ x r, es = x :: r /\ x.key = [] /\ ∀ y ∈ es, y.page ≠ 0 /\ y.page < 512
end S
theorem Ag : (Tryz.prog.info? 126).map (fun i => (i.zero, i.size, i.bytes)) = some (some (.agg #[.slice none 0 0, .slice none 0 0, .int .i64 0, .pointer none]), 4, 64) := by kernel_rfl
theorem iq (d : List EnV) : (d.flatMap aV).length = d.length * 4 := by
 induction d with
 | nil => rfl
 | cons x r ih => rw [List.flatMap_cons, List.length_append, ih, fV, List.length_cons]; omega
theorem uq (x : EnV) : ∀ v ∈ aV x, v.oneCell' = true := by
 intro v hv
 simp [aV] at hv
 rcases hv with rfl | rfl | rfl | rfl <;> rfl
theorem zy (d : List EnV) : ∀ v ∈ d.flatMap aV, v.oneCell' = true := by
 intro v hv
 rw [List.mem_flatMap] at hv
 obtain ⟨x, _, hv⟩ := hv
 exact uq x v hv
def bF (B : Nat) (w : World) (v : Value) (d : List EnV) : Prop := w.ownsRow B 126 4 v d.length (d.flatMap aV)
theorem bF.nil (B : Nat) (w : World) : bF B w (.slice none 0 0) [] := ⟨rfl, Or.inl ⟨rfl, rfl⟩⟩
theorem bJ (w : World) (B : Nat) (v u : Value) (d y : List EnV) (ty : TypeId) (hown : bF B w v d) (hu : Els aV w u y) (hl : d.length + y.length <= 100000) (hB : B <= w.heap.size) :
 ∃ v' w', (Builtin.append_ #[122, 122] ty #[v, u]).run Tryz.prog w = .ok v' w' /\ (bF B w' v' (d ++ y) /\ Chg (fun k => v.ownBlock = some k) w w') := by
 obtain ⟨i, hi, hz0, hz1, hz2⟩ := info_parts Ag
 have key : ∀ (a : Addr) (c : Nat), (∀ j x, (y.flatMap aV)[j]? = some x -> w.cell? (a.add j) = some x) -> u = .slice (some a) y.length c -> ∃ v' w', (Builtin.append_ #[122, 122] ty #[v, u]).run Tryz.prog w = .ok v' w' /\ (bF B w' v' (d ++ y) /\ Chg (fun k => v.ownBlock = some k) w w') := fun a c hc hu => by
 obtain ⟨v', w', h1, h2, h3, h4⟩ := run_append_own (P := Tryz.prog) w B 122 ty 126 i (.agg #[.slice none 0 0, .slice none 0 0, .int .i64 0, .pointer none]) 4 64 Tryz.underlying122 hi hz0 hz1 hz2 rfl (by omega) v d.length (d.flatMap aV) hown a y.length c (y.flatMap aV) (iq y) hc (zy y) (by simp [maxLen]; omega) (by omega) hB
 have h2b : bF B w' v' (d ++ y) := by unfold bF; rw [List.length_append, List.flatMap_append]; exact h2
 exact ⟨v', w', by rw [hu]; exact h1, h2b, (Chg.refl _ w).grown h3 (fun k _ e => e)⟩
 rcases hu with ⟨rfl, rfl⟩ | ⟨a, cap, rfl, rfl⟩ | ⟨b, off, cap, rfl, h1, h2, h3, h4⟩
 ·exact ⟨v, w, run_append_owned_none (P := Tryz.prog) (w := w) B 122 ty 126 i 4 Tryz.underlying122 hi v d.length (d.flatMap aV) hown, by rw [List.append_nil]; exact hown, Chg.refl _ _⟩
 ·exact key a cap (fun j x h => by simp at h) rfl
 ·exact key ⟨b, off, none⟩ cap (fun j x h => by rw [Addr.add_lit]; exact h4 j x h) rfl
theorem jZ {w : World} {g : Nat} {y : EnV} (h : w.heap[g]? = some (.cells (aV y).toArray 126 (0, 0))) : Els aV w (.slice (some ⟨g, 0, none⟩) 1 1) [y] :=
 Or.inr (Or.inr ⟨g, 0, 1, rfl, lr _, by simp, aa h, fun j u hu => by
 rw [Nat.zero_add, cell_of_row w g j _ _ _ h]
 simpa using hu⟩)
theorem x9 (W : World) (y : EnV) : (Instr.buildSlice 122 1 #[(0, .agg #[.slice y.ka y.kn y.kc, .slice y.va y.vn y.vc, .int .i64 y.pg, .pointer y.nd])]).run Tryz.prog W = .ok (.slice (some ⟨W.heap.size, 0, none⟩) 1 1) (W.alloc (.cells (aV y).toArray 126)) := by
 go_simp
 rfl
namespace S
def u01 : List UInt8 := 3 :: zeros 63
structure nU (pg : Nat -> List UInt8) (es : List Ent) : Prop where
 head : pg 0 = aM (dH es.length 1 0 u01)
 node : pg 1 = aM (aL 0 es)
 ok : bS 0 es
def lhd (n : Nat) : Hh := ⟨n, 1, 0, u01⟩
end S
def kL (w : World) (gt gs : Nat) : Prop := w.heap[gt]? = some (.cells #[.pointer (some ⟨gs, 0, none⟩)] 96 (0, 0))
theorem jO {w : World} {gt gs : Nat} (h : kL w gt gs) : w.cell? ⟨gt, 0, none⟩ = some (.pointer (some ⟨gs, 0, none⟩)) := by rw [cell_of_row w gt 0 _ _ _ h]; rfl
structure DT (B : Nat) (w : World) (es : List S.Ent) (key : List UInt8) (v : Value) (ok : Bool) : Prop where
 yes : ∀ x ∈ es, x.key = key -> ok = true /\ ((v = .slice none 0 0 /\ x.val = []) \/ ∃ q, v = .slice (some ⟨q, 0, none⟩) x.val.length x.val.length /\ B <= q /\ w.heap[q]? = some (.cells (S.v8 x.val) 5 (0, 0)))
 no : key ∉ es.map (·.key) -> ok = false /\ v = .slice none 0 0
set_option maxRecDepth 10000 in
theorem uk (ka va nd : Option Addr) (kn kc vn vc : Nat) (pg : Int) (w : World) (h1 : kn <= 1000000) (h2 : vn <= 1000000) :
 Calls Tryz.prog 150 #[.agg #[.slice ka kn kc, .slice va vn vc, .int .i64 pg, .pointer nd]] w fun e w' => e = .returned (.int .i64 ((4 + kn + vn : Nat) : Int)) /\ Below w.heap.size w w' := by
 go_enter Tryz.func150, Tryz.ntmps150
 go_wp2_with fail
 go_ret
 exact ⟨by simp, ba ..⟩
namespace S
end S
structure ChV where
 ka : Option Addr
 kn : Nat
 kc : Nat
 va : Option Addr
 vn : Nat
 vc : Nat
 dr : Bool
def aQ (x : ChV) : List Value := [.slice x.ka x.kn x.kc, .slice x.va x.vn x.vc, .bool x.dr]
theorem jL (x : ChV) : (aQ x).length = 3 := rfl
def ChV.good (x : ChV) : Bool := decide (1 <= x.kn) && decide (x.kn <= 40) && decide (x.vn <= 400)
theorem Dn {w : World} {b off i : Nat} {x : ChV} (h : ∀ (r : Nat) u, (aQ x)[r]? = some u -> w.cell? ⟨b, off + (i * 3 + r), none⟩ = some u) :
 w.cell? ⟨b, off + i * 3, none⟩ = some (.slice x.ka x.kn x.kc) /\ w.cell? ⟨b, off + i * 3 + 1, none⟩ = some (.slice x.va x.vn x.vc) /\ w.cell? ⟨b, off + i * 3 + 2, none⟩ = some (.bool x.dr) :=
 ⟨h 0 _ rfl, by rw [Nat.add_assoc]; exact h 1 _ rfl, by rw [Nat.add_assoc]; exact h 2 _ rfl⟩
theorem kD {w : World} {g : Nat} {a b c : Value} {t : TypeId} (h : w.heap[g]? = some (.cells #[a, b, c] t (0, 0))) : w.cell? ⟨g, 0, none⟩ = some a /\ w.cell? ⟨g, 1, none⟩ = some b /\ w.cell? ⟨g, 2, none⟩ = some c :=
 ⟨by rw [cell_of_row w g 0 _ _ _ h]; rfl, by rw [cell_of_row w g 1 _ _ _ h]; rfl, by rw [cell_of_row w g 2 _ _ _ h]; rfl⟩
set_option maxHeartbeats 4000000 in
set_option maxRecDepth 10000 in
theorem sI (v : Value) (d : List ChV) (w : World) (hd : Els aQ w v d) :
 Calls Tryz.prog 42 #[v] w fun e w' => e = .returned (.bool (d.all ChV.good && decide (d.length <= 80))) /\ Below w.heap.size w w' := by
 have HD := hide hd
 obtain ⟨ao, cap, rfl, hbig⟩ := hd.form
 obtain ⟨n, hn⟩ : ∃ n, n = d.length := ⟨_, rfl⟩
 obtain ⟨r, hr⟩ : ∃ r, r = (d.all ChV.good && decide (d.length <= 80)) := ⟨_, rfl⟩
 rw [<- hr]
 rw [<- hn] at hbig ⊢
 have HN := hide hn
 have HR := hide hr
 clear hd hr hn
 go_enter Tryz.func42, Tryz.ntmps42
 go_wp2_with fail
 go_loopw [7] (fun i wr => ∃ k : Nat, k <= n /\ i = .int .i64 (k : Int) /\ Hid (Below w.heap.size w wr) /\ Hid ((d.take k).all ChV.good = true)) (fun i _ => n - (intOf i).toNat)
 case atStart => exact ⟨0, by omega, rfl, Below.refl _ _, rfl⟩
 case round =>
 obtain ⟨k, hk, rfl, BW, AL⟩ := hrel
 by_cases hlt : k < n
 ·have hkd : k < d.length := by have := HN.out; omega
 obtain ⟨b, off, cap', hv, hcap, hb, hc⟩ := HD.out.at jL k d[k] (List.getElem?_eq_getElem hkd)
 injection hv with hv1 hv2 hv3
 subst hv1 hv3
 obtain ⟨t0, t1, t2⟩ := Dn hc
 have u0 := (BW.out.cell (p := ⟨b, off + k * 3, none⟩) hb).trans t0
 have u1 := (BW.out.cell (p := ⟨b, off + k * 3 + 1, none⟩) hb).trans t1
 have u2 := (BW.out.cell (p := ⟨b, off + k * 3 + 2, none⟩) hb).trans t2
 have hkI : (k : Int) < (n : Int) := by omega
 have hk0 : (0 : Int) <= (k : Int) := by omega
 obtain ⟨x, hx⟩ : ∃ x, x = d[k] := ⟨_, rfl⟩
 rw [<- hx] at u0 u1 u2
 have AT : Hid (d[k]? = some x) := by rw [hx]; exact List.getElem?_eq_getElem hkd
 obtain ⟨ka, kn, kc, va, vn, vc, dr⟩ := x
 simp only at u0 u1 u2
 clear t0 t1 t2 hc hx hv2 hcap
 go_upto_region 4 with fail
 obtain ⟨W, hW⟩ : ∃ W, W = wr.alloc (.cells #[.slice ka kn kc, .slice va vn vc, .bool dr] 34) := ⟨_, rfl⟩
 rw [<- hW]
 have bW : Below wr.heap.size wr W := by rw [hW]; exact ba ..
 have rW : W.heap[wr.heap.size]? = some (.cells #[.slice ka kn kc, .slice va vn vc, .bool dr] 34 (0, 0)) := by rw [hW]; exact heap_alloc_new _ _
 obtain ⟨gb, hgb⟩ : ∃ gb, gb = wr.heap.size := ⟨_, rfl⟩
 rw [<- hgb] at rW ⊢
 obtain ⟨x0, x1, x2⟩ := kD rW
 have BWW := hide (BW.out.trans (bW.mono BW.out.size))
 clear hW bW rW hgb u0 u1 u2 BW
 have NO : Hid (¬ (1 <= kn /\ kn <= 40 /\ vn <= 400) -> r = false) := fun hno => by
  rw [HR.out]
  have : d.all ChV.good = false := by
  rw [List.all_eq_false]
  refine ⟨_, List.mem_of_getElem? AT.out, ?_⟩
  simp [ChV.good]
  omega
  rw [this]
  rfl
 by_cases h1 : kn < 1
 ·have q1 : decide ((kn : Int) < 1) = true := decide_eq_true (by omega)
  have q2 : (kn : Int) < 1 := by omega
  have q3 : (kn : Int) = 0 := by omega
  have hr0 := NO.out (by omega)
  subst hr0
  clear q3
  go_wp2_with fail
  go_ret
  exact ⟨rfl, BWW.out⟩
 ·have q1 : decide ((kn : Int) < 1) = false := decide_eq_false (by omega)
  have q2 : ¬ (kn : Int) < 1 := by omega
  by_cases h2 : 40 < kn
  ·have q3 : decide ((40 : Int) < (kn : Int)) = true := decide_eq_true (by omega)
  have q4 : (40 : Int) < (kn : Int) := by omega
  have hr0 := NO.out (by omega)
  subst hr0
  go_wp2_with fail
  go_ret
  exact ⟨rfl, BWW.out⟩
  ·have q3 : decide ((40 : Int) < (kn : Int)) = false := decide_eq_false (by omega)
  have q4 : ¬ (40 : Int) < (kn : Int) := by omega
  by_cases h3 : 400 < vn
  ·have q5 : decide ((400 : Int) < (vn : Int)) = true := decide_eq_true (by omega)
   have q6 : (400 : Int) < (vn : Int) := by omega
   have hr0 := NO.out (by omega)
   subst hr0
   go_wp2_with fail
   go_ret
   exact ⟨rfl, BWW.out⟩
  ·have q5 : decide ((400 : Int) < (vn : Int)) = false := decide_eq_false (by omega)
   have q6 : ¬ (400 : Int) < (vn : Int) := by omega
   have AL2 : Hid ((d.take (k + 1)).all ChV.good = true) := by
   show (d.take (k + 1)).all ChV.good = true
   rw [List.take_add_one, AT.out, List.all_append, AL.out]
   simp [ChV.good]
   omega
   go_wp2_with fail
   go_roundw
   case rel => exact ⟨k + 1, by omega, by go_num, BWW, AL2⟩
   case measure => simp [intOf]; omega
 ·obtain rfl : k = n := by omega
 have HRR : Hid (r = decide (k <= 80)) := by
  show r = decide (k <= 80)
  have e : d.take k = d := List.take_of_length_le (by have := HN.out; omega)
  have a := AL.out
  rw [e] at a
  rw [HR.out, a, HN.out, Bool.true_and]
 go_wp2_with fail
 go_ret
 refine ⟨?_, BW.out⟩
 rw [HRR.out]
 simp
 try omega
namespace S
structure Cg where
 key : List UInt8
 val : List UInt8
 dr : Bool
def mrg : List Ent -> List Cg -> List Ent
 | es, [] => es
 | es, c :: l => es.take (rank (es.map (·.key)) c.key) ++ ((if c.dr then [] else [⟨c.key, c.val, 0⟩]) ++ mrg (es.drop (rank (es.map (·.key)) c.key + if c.key ∈ es.map (·.key) then 1 else 0)) l)
theorem yO (ks : List (List UInt8)) (k : List UInt8) : rank ks k <= ks.length := List.countP_le_length
end S
structure yu (w : World) (x : ChV) (c : S.Cg) : Prop where
 key : SliceAt w (.slice x.ka x.kn x.kc) c.key
 val : SliceAt w (.slice x.va x.vn x.vc) c.val
 dr : x.dr = c.dr
def fD (w : World) (d : List ChV) (cs : List S.Cg) : Prop := d.length = cs.length /\ ∀ (i : Nat) x c, d[i]? = some x -> cs[i]? = some c -> yu w x c
theorem sz126 (W : World) : (sizeOf 126).run Tryz.prog W = .ok 4 W := by
 obtain ⟨i, hi, hz0, hz1, hz2⟩ := info_parts Ag
 go_simp

structure Mg (w wr : World) (d : List EnV) (dc : List ChV) (vp vo : Value) (k : Nat) (es : List S.Ent) (cs : List S.Cg) : Prop where
 is : ∃ dp ep dd eo, Els aV w vp dp /\ (∀ W, bf W d es -> fD W dc cs -> bf W dp ep) /\ (∀ x ∈ dp, x.nd = none) /\ S.up (ep.map (·.key)) /\ bF w.heap.size wr vo dd /\ (∀ W, bf W d es -> fD W dc cs -> bf W dd eo) /\ (∀ x ∈ dd, x.nd = none) /\ eo.length + ep.length <= es.length + k /\ eo ++ S.mrg ep (cs.drop k) = S.mrg es cs
 base : Below w.heap.size w wr
end Go.Proofs.YteealihknndclaaGreatDoor
namespace Go.Proofs
open Go.Shelf Go.RowKit Go.Lib Go.Sort
shelf_lay_g SlLaysF0.n20 Slsf 20 at Tryz 166 as Tryz.insCh
end Go.Proofs
namespace Go.Proofs.YteealihknndclaaGreatDoor
open Go.Shelf Go.RowKit Go.Lib
open Go.Sort (flatK size_flatK get_flatK HoldsK insertionSort insInner insOuter swp)

/-! Sorting goes through a map. -/
theorem qp {α β : Type} [Inhabited α] [Inhabited β] (f : α -> β) (d : Array α) (i : Nat) (h : i < d.size) : (d.map f)[i]! = f d[i]! := by
 rw [getElem!_pos d i h, getElem!_pos (d.map f) i (by simpa using h)]
 simp
theorem swp_size {α : Type} [Inhabited α] (d : Array α) (i j : Nat) : (swp d i j).size = d.size := by simp [swp]
theorem ug {α β : Type} [Inhabited α] [Inhabited β] (f : α -> β) (d : Array α) (i j : Nat) (hi : i < d.size) (hj : j < d.size) : (swp d i j).map f = swp (d.map f) i j := by
 unfold swp
 rw [qp f d i hi, qp f d j hj]
 simp [Array.map_setIfInBounds]
theorem BV {α β : Type} [Inhabited α] [Inhabited β] (f : α -> β) (l1 : α -> α -> Bool) (l2 : β -> β -> Bool) (hl : ∀ x y, l2 (f x) (f y) = l1 x y) (a j : Nat) (d : Array α) (hj : j < d.size) : (insInner l1 a j d).map f = insInner l2 a j (d.map f) := by
 induction j generalizing d with
 | zero => rfl
 | succ j ih =>
 unfold insInner
 rw [qp f d (j + 1) hj, qp f d j (by omega), hl]
 by_cases h : (decide (j + 1 > a) && l1 d[j + 1]! d[j]!) = true
 ·rw [if_pos h, if_pos h, <- ug f d (j + 1) j hj (by omega)]
  exact ih _ (by rw [swp_size]; omega)
 ·rw [if_neg h, if_neg h]
instance : Inhabited S.Cg := ⟨⟨[], [], false⟩⟩
namespace S
def srt (cs : List Cg) : List Cg := (insertionSort (fun a b : Cg => decide (compareBytes a.key b.key < 0)) cs.toArray 0 cs.length).toList
end S

theorem uN (w : World) : (isAgg 34).run Tryz.prog w = .ok true w := by kernel_rfl
theorem fG (d : List ChV) : (d.flatMap aQ).length = d.length * 3 := by
 induction d with
 | nil => rfl
 | cons x d ih => rw [List.flatMap_cons, List.length_append, ih, jL, List.length_cons]; omega
theorem mQ (d : List ChV) : ∀ v ∈ d.flatMap aQ, v.oneCell' = true := by
 intro v hv
 rw [List.mem_flatMap] at hv
 obtain ⟨x, _, hv⟩ := hv
 simp only [aQ, List.mem_cons, List.not_mem_nil, or_false] at hv
 rcases hv with rfl | rfl | rfl <;> rfl
structure ChR (w : World) (g : Nat) (d : List ChV) : Prop where
 row : ∃ cur, w.heap[g]? = some (.cells cur 34 (0, 0)) /\ cur.toList.take (d.length * 3) = d.flatMap aQ
theorem ChR.lt {w : World} {g : Nat} {d : List ChV} (h : ChR w g d) : g < w.heap.size := by obtain ⟨cur, h1, _⟩ := h.row; exact aa h1
theorem ChR.below {w W : World} {g : Nat} {d : List ChV} (h : ChR w g d) (hb : Below w.heap.size w W) : ChR W g d := by
 obtain ⟨cur, h1, h2⟩ := h.row
 exact ⟨cur, (hb.block g (aa h1)).trans h1, h2⟩
abbrev Cp (W : World) := {p : ChV × S.Cg // yu W p.1 p.2}
instance (W : World) : Inhabited (Cp W) := ⟨⟨(⟨none, 0, 0, none, 0, 0, false⟩, ⟨[], [], false⟩), ⟨Or.inl ⟨rfl, rfl⟩, Or.inl ⟨rfl, rfl⟩, rfl⟩⟩⟩
def xY {W : World} (p q : Cp W) : Int := compareBytes p.1.2.key q.1.2.key
theorem yV {W0 w : World} (g c : Nat) (d : List (Cp W0)) (h : ChR w g (d.map (·.1.1))) (hW : Below W0.heap.size W0 w) (hg0 : W0.heap.size <= g) (hl : d.length <= 100000) :
 Calls Tryz.prog 166 #[.slice (some ⟨g, 0, none⟩) d.length c, .int .i64 0, .int .i64 (d.length : Int), .func (.func 78) #[] #[]] w fun e w' => e = .returned (.tuple #[]) /\ ∃ d' : List (Cp W0), d'.map (·.1.2) = S.srt (d.map (·.1.2)) /\ d'.length = d.length /\ ChR w' g (d'.map (·.1.1)) /\ Below g w w' := by
 obtain ⟨cur, h1, h2⟩ := h.row
 rw [List.length_map] at h2
 have hgs := aa h1
 have hcs : d.length * 3 <= cur.size := by
 have := congrArg List.length h2
 rw [fG, List.length_take, List.length_map] at this
 have e : cur.toList.length = cur.size := Array.length_toList
 omega
 have hH : HoldsK eX 3 w g 0 d.toArray := by
 intro j hj
 have hj2 := hj
 rw [size_flatK, List.size_toArray] at hj
 refine ⟨?_, frozen_of_row w g _ cur 34 h1⟩
 rw [cell_of_row w g _ _ 34 _ h1, Nat.zero_add]
 have e : (cur.toList.take (d.length * 3))[j]? = (flatK eX 3 d.toArray).toList[j]? := by rw [h2, xQ]
 rw [List.getElem?_take_of_lt hj, Array.getElem?_toList, Array.getElem?_toList] at e
 rw [e, Array.getElem?_eq_getElem hj2, getElem!_pos _ j hj2]
 rfl
 have eg : ∀ args w, (callFunc 78 args).run Tryz.prog w = .ok (.enter 78 args) w := enters_of Tryz.func78 (by kernel_rfl) rfl
 have hs := AnyQ.insertionSortCmpFunc Tryz.insCh 3 uN D9 (eX (W := W0)) (fun _ => rfl) (fun x v hv => by
  simp only [eX, aQ, List.mem_cons, List.not_mem_nil, or_false] at hv
  rcases hv with rfl | rfl | rfl <;> rfl) xY 78 #[] g 0 c 0 d.length d.toArray w eg (fun m os dk _ x y => by
  have hb : Below W0.heap.size W0 (sortWorldK eX 3 w g 0 m dk os) := hW.trans (pG _ hg0 hgs)
  exact Db x.1.1 y.1.1 x.1.2.key y.1.2.key _ (x.2.key.below hb (lr _)) (y.2.key.below hb (lr _))) hH hgs (Nat.zero_le _) (by simp) (by rw [List.size_toArray]; omega)
 rw [List.size_toArray] at hs
 refine Calls.mono hs ?_
 rintro e w' ⟨rfl, n, os, rfl⟩
 obtain ⟨d', hd0⟩ : ∃ d', d' = insertionSort (ltOf xY) d.toArray 0 d.length := ⟨_, rfl⟩
 have hp1 : d'.size = d.length := by rw [hd0, Bd, List.size_toArray]
 have hp3 : d'.toList.length = d.length := hp1
 have hd' : d' = d'.toList.toArray := by simp
 rw [<- hd0]
 refine ⟨rfl, d'.toList, ?_, hp3, ⟨Sort.putCells id 0 (flatK eX 3 d') cur, ?_, ?_⟩, pG _ (lr _) hgs⟩
 ·have := DI (fun p : Cp W0 => p.1.2) (ltOf xY) (fun a b : S.Cg => decide (compareBytes a.key b.key < 0)) (fun _ _ => rfl) d.length d.toArray (by simp)
 rw [<- hd0] at this
 unfold S.srt
 rw [List.length_map]
 have e := congrArg Array.toList this
 simpa using e
 ·rw [show sortWorldK eX 3 w g 0 n d' os = Sort.grow (Sort.putRow id (Sort.ahead w n) g 0 (flatK eX 3 d')) os from rfl, Sort.heap_grow_old _ _ (by simpa using hgs)]
 simp [Sort.putRow, Sort.mapBlock, Sort.ahead, Array.getElem?_modify, h1, Sort.onCells]
 ·rw [<- xQ, <- hd', List.length_map]
 apply List.ext_getElem?
 intro j
 have hz : (flatK eX 3 d').size = d.length * 3 := by rw [size_flatK, hp1]
 by_cases hj : j < d'.toList.length * 3
 ·have hj1 : j < d.length * 3 := by rw [hp3] at hj; exact hj
  rw [List.getElem?_take_of_lt hj, Array.getElem?_toList, Array.getElem?_toList]
  have hq : j < (flatK eX 3 d').size := by omega
  rw [Array.getElem?_eq_getElem hq]
  simp only [Sort.putCells, Array.getElem?_mapIdx, Array.getElem?_eq_getElem (show j < cur.size by omega), Option.map_some]
  rw [if_pos ⟨Nat.zero_le _, by omega⟩, Nat.sub_zero, getElem!_pos _ j hq]
  rfl
 ·rw [hp3] at hj
  have e : (flatK eX 3 d').toList.length = (flatK eX 3 d').size := Array.length_toList
  rw [List.getElem?_take_eq_none (by rw [hp3]; omega), List.getElem?_eq_none (by omega)]
end Go.Proofs.YteealihknndclaaGreatDoor
namespace Go.Proofs.YteealihknndclaaGreatDoor
open Go.RowKit

theorem zm : (Tryz.prog.info? 34).map (fun i => (i.zero, i.size, i.bytes)) = some (some (.agg #[.slice none 0 0, .slice none 0 0, .bool false]), 3, 56) := by kernel_rfl
theorem CL (a : Addr) (n cap : Nat) (W : World) : (binOp .eql 36 (.slice (some a) n cap) (.slice none 0 0)).run Tryz.prog W = .ok (.bool false) W :=
 by
 have h : ∀ d : Nat, (Op.equalIn (d + 1) 36 (.slice (some a) n cap) (.slice none 0 0)).run Tryz.prog W = .ok false W := fun d => by
  simp [Op.equalIn, run_underlying Tryz.underlying36]
 simp only [binOp]
 simp [Op.equal, Op.maxDepth, h 9999]
def fI (B : Nat) (w : World) (v : Value) (d : List ChV) : Prop := w.ownsRow B 34 3 v d.length (d.flatMap aQ)
theorem fI.nil (B : Nat) (w : World) : fI B w (.slice none 0 0) [] := ⟨rfl, Or.inl ⟨rfl, rfl⟩⟩
theorem kS (w : World) (B : Nat) (v u : Value) (d y : List ChV) (ty : TypeId) (hown : fI B w v d) (hu : Els aQ w u y) (hl : d.length + y.length <= 100000) (hB : B <= w.heap.size) :
 ∃ v' w', (Builtin.append_ #[36, 36] ty #[v, u]).run Tryz.prog w = .ok v' w' /\ (fI B w' v' (d ++ y) /\ Chg (fun k => v.ownBlock = some k) w w') := by
 obtain ⟨i, hi, hz0, hz1, hz2⟩ := info_parts zm
 have key : ∀ (a : Addr) (c : Nat), (∀ j x, (y.flatMap aQ)[j]? = some x -> w.cell? (a.add j) = some x) -> u = .slice (some a) y.length c -> ∃ v' w', (Builtin.append_ #[36, 36] ty #[v, u]).run Tryz.prog w = .ok v' w' /\ (fI B w' v' (d ++ y) /\ Chg (fun k => v.ownBlock = some k) w w') := fun a c hc hu => by
 obtain ⟨v', w', h1, h2, h3, h4⟩ := run_append_own (P := Tryz.prog) w B 36 ty 34 i (.agg #[.slice none 0 0, .slice none 0 0, .bool false]) 3 56 Tryz.underlying36 hi hz0 hz1 hz2 rfl (by omega) v d.length (d.flatMap aQ) hown a y.length c (y.flatMap aQ) (fG y) hc (mQ y) (by simp [maxLen]; omega) (by omega) hB
 have h2b : fI B w' v' (d ++ y) := by unfold fI; rw [List.length_append, List.flatMap_append]; exact h2
 exact ⟨v', w', by rw [hu]; exact h1, h2b, (Chg.refl _ w).grown h3 (fun k _ e => e)⟩
 rcases hu with ⟨rfl, rfl⟩ | ⟨a, cap, rfl, rfl⟩ | ⟨b, off, cap, rfl, h1, h2, h3, h4⟩
 ·exact ⟨v, w, run_append_owned_none (P := Tryz.prog) (w := w) B 36 ty 34 i 3 Tryz.underlying36 hi v d.length (d.flatMap aQ) hown, by rw [List.append_nil]; exact hown, Chg.refl _ _⟩
 ·exact key a cap (fun j x h => by simp at h) rfl
 ·exact key ⟨b, off, none⟩ cap (fun j x h => by rw [Addr.add_lit]; exact h4 j x h) rfl
set_option maxHeartbeats 4000000 in
set_option maxRecDepth 10000 in
theorem zI (b off cap : Nat) (d : List ChV) (w : World) (h0 : ∀ j u, (d.flatMap aQ)[j]? = some u -> w.cell? ⟨b, off + j, none⟩ = some u) (hd : d ≠ []) (hl : d.length <= 100000) :
 Calls Tryz.prog 76 #[.slice (some ⟨b, off, none⟩) d.length cap] w fun e w' => ∃ g c, e = .returned (.slice (some ⟨g, 0, none⟩) d.length c) /\ w.heap.size <= g /\ ChR w' g d /\ Below w.heap.size w w' := by
 have hnil := CL ⟨b, off, none⟩ d.length cap
 obtain ⟨i, hi, hz0, hz1, hz2⟩ := info_parts zm
 obtain ⟨w1, hw1⟩ : ∃ w1, w1 = w.alloc (.cells #[] 34) := ⟨_, rfl⟩
 have b1 : Below w.heap.size w w1 := by rw [hw1]; exact ba ..
 have r1 : w1.heap[w.heap.size]? = some (.cells #[] 34 (0, 0)) := by rw [hw1]; exact heap_alloc_new _ _
 have hown : w1.ownsRow w.heap.size 34 3 (.slice (some ⟨w.heap.size, 0, none⟩) 0 0) 0 [] := ⟨rfl, Or.inr ⟨w.heap.size, 0, #[], rfl, lr _, r1, lr _, by simp [maxLen], rfl, rfl⟩⟩
 have hdl : 0 < d.length := List.length_pos_iff.2 hd
 have hb0 : b < w.heap.size := by
 obtain ⟨x, r, rfl⟩ := List.exists_cons_of_ne_nil hd
 exact World.block_lt_of_cell? w _ (h0 0 (.slice x.ka x.kn x.kc) rfl)
 have APP := hide (run_append_own (P := Tryz.prog) w1 w.heap.size 36 36 34 i (.agg #[.slice none 0 0, .slice none 0 0, .bool false]) 3 56 Tryz.underlying36 hi hz0 hz1 hz2 rfl (by omega) (.slice (some ⟨w.heap.size, 0, none⟩) 0 0) 0 [] hown ⟨b, off, none⟩ d.length cap (d.flatMap aQ) (fG d) (fun j u hu => by
 rw [Addr.add_lit]
 exact (b1.cell (p := ⟨b, off + j, none⟩) hb0).trans (h0 j u hu)) (mQ d) (by simp [maxLen]; omega) (by omega) b1.size)
 have HB := hide b1
 have HW := hide hw1
 have HD : Hid (0 < d.length) := hdl
 generalize hdn : d.length = dn at hnil APP HD ⊢
 have HN : Hid (d.length = dn) := hdn
 clear b1 r1 hw1 hown h0 hi hz0 hz1 hz2 hb0 hdn hl hd hdl
 clear i
 go_enter Tryz.func76, Tryz.ntmps76
 go_wp2_with (at_builtin; (rw [<- HW.out]; refine av rfl (.tmp 5) (.tmp 6) 36 36 rfl _ _ rfl rfl (by obtain ⟨v', w', h1, h2⟩ := APP.out; exact ⟨v', w', h1, h2⟩) ?_; rintro v2 w2 ⟨ho, hg, hn⟩; have OW := hide ho; have GR := hide hg; clear ho hg hn))
 rcases OW.out.2 with ⟨e, e2⟩ | ⟨g, c, cur, e, hge, h1, h2, h3, h4, h5⟩
 ·exact absurd e2 (by have := HD.out; simp; omega)
 ·subst e
 have S2 : Hid (ChR w2 g d) := ⟨cur, h1, by rw [HN.out]; simpa using h5⟩
 have B2 : Hid (Below w.heap.size w w2) := HB.out.trans (((Chg.refl (fun k => w.heap.size <= k) w1).grown GR.out (fun k _ e => by simp only [Value.ownBlock, Option.some.injEq] at e; omega)).below _ HB.out.size (fun k hk e => by omega))
 have GE : Hid (w.heap.size <= g) := hge
 clear h1 h2 h3 h4 h5 hge OW GR HB HW APP hnil HD HN
 go_wp2_with fail
 go_ret
 exact ⟨g, c, by simp, GE.out, S2.out, B2.out⟩

set_option maxHeartbeats 1000000 in
theorem yI {W0 w : World} (g c : Nat) (d : List (Cp W0)) (h : ChR w g (d.map (·.1.1))) (hW : Below W0.heap.size W0 w) (hg0 : W0.heap.size <= g) (hl : d.length <= 19) :
 Calls Tryz.prog 122 #[.slice (some ⟨g, 0, none⟩) d.length c, .int .i64 (d.length : Int), .func (.func 78) #[] #[]] w fun e w' => e = .returned (.tuple #[]) /\ ∃ d' : List (Cp W0), d'.map (·.1.2) = S.srt (d.map (·.1.2)) /\ d'.length = d.length /\ ChR w' g (d'.map (·.1.1)) /\ Below g w w' := by
 have HI := hide (yV g c d h hW hg0 (by omega))
 obtain ⟨n, hn⟩ : ∃ n, n = d.length := ⟨_, rfl⟩
 have q1 : ¬ (20 : Int) <= (n : Int) := by omega
 have q2 : ¬ (20 : Int) < (n : Int) := by omega
 rw [<- hn] at HI ⊢
 have HN := hide hn
 clear h hW hg0 hl hn
 go_enter Tryz.func122, Tryz.ntmps122
 go_wp2_with fail
 go_loopw [7, 8] (fun s7 s8 wr => s7 = .int .i64 0 /\ s8 = .int .i64 20 /\ wr = w) (fun _ _ _ => 0)
 case atStart => exact ⟨rfl, rfl, rfl⟩
 case round =>
 obtain ⟨rfl, rfl, hwr⟩ := hrel
 subst hwr
 go_wp2_with fail
 refine HI.out.mono ?_
 rintro e w1 ⟨rfl, H⟩
 have H1 := hide H
 clear H
 go_wp2_with fail
 go_loopw [6] (fun s6 wz => s6 = .int .i64 20 /\ wz = w1) (fun _ _ => 0)
 case atStart => exact ⟨rfl, rfl⟩
 case round =>
  obtain ⟨rfl, hwr⟩ := hrel
  subst hwr
  go_wp2_with fail
  go_end0
  exact ⟨rfl, H1.out⟩
theorem Bc {W0 w : World} (g c : Nat) (d : List (Cp W0)) (h : ChR w g (d.map (·.1.1))) (hW : Below W0.heap.size W0 w) (hg0 : W0.heap.size <= g) (hl : d.length <= 19) :
 Calls Tryz.prog 77 #[.slice (some ⟨g, 0, none⟩) d.length c, .func (.func 78) #[] #[]] w fun e w' => e = .returned (.tuple #[]) /\ ∃ d' : List (Cp W0), d'.map (·.1.2) = S.srt (d.map (·.1.2)) /\ d'.length = d.length /\ ChR w' g (d'.map (·.1.1)) /\ Below g w w' := by
 have HI := hide (yI g c d h hW hg0 hl)
 obtain ⟨n, hn⟩ : ∃ n, n = d.length := ⟨_, rfl⟩
 rw [<- hn] at HI ⊢
 have HN := hide hn
 clear h hW hg0 hl hn
 go_enter Tryz.func77, Tryz.ntmps77
 go_wp2_with fail
 refine HI.out.mono ?_
 rintro e w1 ⟨rfl, H⟩
 have H1 := hide H
 clear H
 go_wp2_with fail
 go_end0
 exact ⟨rfl, H1.out⟩
end Go.Proofs.YteealihknndclaaGreatDoor
