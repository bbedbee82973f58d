/- Open and Read where the log tells of sheets. -/
import Derived.Test.YteealihknndclabGreatDoorUd
import Derived.Test.YteealihknndclabGreatDoorJa
import Derived.Test.YteealihknndclabGreatDoorBf
namespace Go.Proofs.YteealihknndclabGreatDoor
open Go.RowKit

theorem Recs.one {w0 w : World} {lv : Value} {us : List Value} {z : List UInt8} (h : Recs w0 w lv us [z]) (hz : z.length = 64) : ∃ gl off c gz cz, lv = .slice (some ⟨gl, off, none⟩) 1 c /\ w.cell? ⟨gl, off, none⟩ = some (.slice (some ⟨gz, 0, none⟩) 64 cz) /\ SliceAt w (.slice (some ⟨gz, 0, none⟩) 64 cz) z := by
 have hl : us.length = 1 := h.copies.len
 obtain ⟨gz, cz, e, hr, _⟩ := h.copies.new 0 (by simp)
 have e' : us.getD 0 default = .slice (some ⟨gz, 0, none⟩) 64 cz := by rw [e]; show Value.slice _ z.length cz = _; rw [hz]
 rcases h.lists with ⟨_, h2⟩ | ⟨g, off, c, cur, h1, h2, h3, h4, h5⟩
 ·rw [h2] at hl; simp at hl
 ·refine ⟨g, off, c, gz, cz, by rw [h1, hl], ?_, ?_⟩
  ·have h0 : us[0]? = some (.slice (some ⟨gz, 0, none⟩) 64 cz) := by
    rw [List.getElem?_eq_getElem (by omega), <- e', List.getD_eq_getElem?_getD, List.getElem?_eq_getElem (by omega)]
    rfl
   rw [cell_of_row w g off _ 22 _ h2]
   have := h5 0 _ h0
   rw [Nat.add_zero] at this
   exact this
  ·have h6 := hr.sliceAt (by show z.length <= _; omega)
   have e6 : ([z].getD 0 []).length = 64 := hz
   rw [e6] at h6
   exact h6
structure Pm (w0 w : World) (o : Ow) (d : S.Dk) (p t : Nat) (ns : List Nat) (xs : List (List UInt8)) (pg : Nat -> List UInt8) : Prop where
 dk : Dsk w o d
 pend : d.pend = []
 len : 7680 <= d.safe.length
 mark : d.safe.getD 0 [] = S.fC
 log : S.Good d.safe 1 4 p t [S.aL ns]
 spare : ∀ i, i < ns.length -> S.bT d.safe (4101 + i * 8) = xs.getD i []
 home : ∀ n, n < 512 -> n ∉ ns -> S.bT d.safe (5 + n * 8) = pg n
 ob : ∀ k, o.has k -> w0.heap.size <= k
 below : Below w0.heap.size w0 w
 pos : 1 < w0.heap.size
 nb : ∀ n ∈ ns, n < 512
 up : ns.Pairwise (· < ·)
 ne : ns ≠ []
 le : ns.length <= 256
theorem Pm.then {w0 w W : World} {o : Ow} {d : S.Dk} {p t : Nat} {ns : List Nat} {xs : List (List UInt8)} {pg : Nat -> List UInt8} (h : Pm w0 w o d p t ns xs pg) (hb : Below w.heap.size w W) : Pm w0 W o d p t ns xs pg :=
 ⟨h.dk.below hb, h.pend, h.len, h.mark, h.log, h.spare, h.home, h.ob, h.below.trans (hb.mono h.below.size), h.pos, h.nb, h.up, h.ne, h.le⟩
theorem Pm.seen {w0 w : World} {o : Ow} {d : S.Dk} {p t : Nat} {ns : List Nat} {xs : List (List UInt8)} {pg : Nat -> List UInt8} (h : Pm w0 w o d p t ns xs pg) : d.seen = d.safe := S.Dk.seen_flushed d h.pend
set_option maxHeartbeats 4000000 in
set_option maxRecDepth 10000 in
theorem Fq (w0 w : World) (o : Ow) (d : S.Dk) (p t : Nat) (ns : List Nat) (xs : List (List UInt8)) (pg : Nat -> List UInt8) (h : Pm w0 w o d p t ns xs pg) :
  Calls Tryz.prog 71 #[o.ptr] w fun e w' => ∃ g tv, e = .returned (.tuple #[.pointer (some ⟨g, 0, none⟩), .agg (S.v8 (S.aL ns)), .int .i64 0]) /\ Lo w0 w' o d g 1 4 p t [S.aL ns] tv /\ w.heap.size <= g /\ (∀ k, tv.ownBlock = some k -> w.heap.size <= k) /\ Below w.heap.size w w' := by
 have gV := dV w
 obtain ⟨w1, hw1⟩ : ∃ w1, w1 = w.alloc (.cells (S.v8 (S.zeros 64)) 135) := ⟨_, rfl⟩
 have b1 : Below w.heap.size w w1 := by rw [hw1]; exact ba ..
 have r1 : w1.heap[w.heap.size]? = some (.cells (S.v8 (S.zeros 64)) 135 (0, 0)) := by rw [hw1]; exact heap_alloc_new _ _
 rw [<- hw1] at gV
 obtain ⟨g3, hg3⟩ : ∃ g3, g3 = w.heap.size := ⟨_, rfl⟩
 rw [<- hg3] at gV r1
 have R1 := hide r1
 have B1 := hide b1
 have P1 := hide (h.then b1)
 have HLT : Hid (∀ k, o.has k -> k < g3) := fun k hk => by rw [hg3]; exact h.dk.dk.lt k hk
 have HG3 : Hid (w.heap.size <= g3) := by rw [hg3]; exact lr _
 have Gv : Hid (g3 = w.heap.size) := hg3
 have HNE : Hid (∀ r ∈ [S.aL ns], r ≠ []) := fun r hr e => by simp at hr; rw [hr] at e; have := S.aF ns; rw [e] at this; simp at this
 have CN : Hid (0 < S.cnt (S.aL ns) /\ S.cnt (S.aL ns) <= 256) := by
  rw [S.Gb ns h.nb h.up]
  exact ⟨List.length_pos_iff.2 h.ne, h.le⟩
 have HW0 : Hid (w0.heap.size <= w.heap.size) := h.below.size
 clear b1 r1 hw1 hg3 h
 go_enter Tryz.func71, Tryz.ntmps71
 go_wp2_with (with_reducible refine au ⟨some 3, .alloc 135, 0, "place.go:70", #[], none⟩ ?_; refine ah rfl 135 rfl (.pointer (some ⟨g3, 0, none⟩)) w1 gV ?_)
 clear gV
 refine (jP o d 0 w1 P1.out.dk.dk (by have := P1.out.len; omega)).mono ?_
 rintro e w2 ⟨rfl, hr2, b2⟩
 rw [P1.out.seen, P1.out.mark] at hr2
 have cv := dx (az (n := 128) hr2 S.dD.symm (by rw [S.dD]; omega))
 have P2 := hide (P1.out.then b2)
 have R2 : Hid (w2.heap[g3]? = some (.cells (S.v8 (S.zeros 64)) 135 (0, 0))) := (b2.block g3 (aa R1.out)).trans R1.out
 have B2 := hide (B1.out.trans (b2.mono B1.out.size))
 have hq : S.fC = [112, 97, 103, 101, 115, 32, 116, 104, 97, 116, 32, 97, 114, 101, 32, 112, 117, 116, 32, 116, 111, 103, 101, 116, 104, 101, 114, 32, 46, 46, 46, 32, 112, 97, 103, 101, 115, 32, 116, 104, 97, 116, 32, 97, 114, 101, 32, 112, 117, 116, 32, 116, 111, 103, 101, 116, 104, 101, 114, 32, 46, 46, 46, 32].append [112, 97, 103, 101, 115, 32, 116, 104, 97, 116, 32, 97, 114, 101, 32, 112, 117, 116, 32, 116, 111, 103, 101, 116, 104, 101, 114, 32, 46, 46, 46, 32, 112, 97, 103, 101, 115, 32, 116, 104, 97, 116, 32, 97, 114, 101, 32, 112, 117, 116, 32, 116, 111, 103, 101, 116, 104, 101, 114, 32, 46, 46, 46, 32] := rfl
 clear hr2 b2 R1 B1 P1
 go_wp2_with fail
 clear cv hq
 refine (vO w0 w2 o d 1 4 p t [S.aL ns] P2.out.dk P2.out.pend P2.out.log P2.out.ob P2.out.below P2.out.pos).mono ?_
 rintro e w4 ⟨g, tv, rfl, hlo, hgb, htb, b4⟩
 have LO4 := hide hlo
 have G4 : Hid (g3 < g /\ w.heap.size <= g /\ (∀ k, tv.ownBlock = some k -> g3 < k /\ w.heap.size <= k)) := by
  have h1 := aa R2.out
  have h2 := Gv.out
  exact ⟨by omega, by omega, fun k hk => by have := htb k hk; exact ⟨by omega, by omega⟩⟩
 have R4 : Hid (w4.heap[g3]? = some (.cells (S.v8 (S.zeros 64)) 135 (0, 0))) := (b4.block g3 (aa R2.out)).trans R2.out
 have B4 := hide (B2.out.trans (b4.mono B2.out.size))
 clear hlo hgb htb b4 R2 B2 P2
 go_wp2_with fail
 refine (mP w0 w4 o d g 1 4 p t [S.aL ns] tv LO4.out HNE.out).mono ?_
 rintro e w5 ⟨lv, us, rfl, hrec, b5⟩
 obtain ⟨gl, ofl, cl, gz, cz, rfl, hcell, hsl⟩ := hrec.one (S.aF ns)
 have CE := hide hcell
 have SL := hide hsl
 have LO5 := hide (LO4.out.then b5)
 have R5 : Hid (w5.heap[g3]? = some (.cells (S.v8 (S.zeros 64)) 135 (0, 0))) := (b5.block g3 (aa R4.out)).trans R4.out
 have B5 := hide (B4.out.trans (b5.mono B4.out.size))
 clear hrec b5 hcell hsl LO4 R4 B4
 go_wp2_with fail
 refine (Bt gl ofl cl gz 0 cz (S.aL ns) w5 CE.out SL.out CN.out.1 CN.out.2).mono ?_
 rintro e w6 ⟨rfl, b6⟩
 have LO6 := hide (LO5.out.then b6)
 have R6 : Hid (w6.heap[g3]? = some (.cells (S.v8 (S.zeros 64)) 135 (0, 0))) := (b6.block g3 (aa R5.out)).trans R5.out
 have B6 := hide (B5.out.trans (b6.mono B5.out.size))
 clear b6 LO5 R5 B5
 have fF := dV w6
 obtain ⟨w9, jl, r9, b9⟩ := lq w6 (S.aL ns) (S.aF ns)
 have R9 := hide r9
 have LO9 := hide (LO6.out.then b9)
 have R39 : Hid (w9.heap[g3]? = some (.cells (S.v8 (S.zeros 64)) 135 (0, 0))) := (b9.block g3 (aa R6.out)).trans R6.out
 have B9 := hide (B6.out.trans (b9.mono B6.out.size))
 have h36 := aa R6.out
 have N93 : Hid (¬ w6.heap.size = g3) := fun e => by omega
 have NG3 : Hid (∀ k, (o.has k \/ k = g \/ tv.ownBlock = some k \/ k < w0.heap.size) -> ¬ k = g3) := fun k hk e => by
  subst e
  rcases hk with hk | hk | hk | hk
  ·exact absurd (HLT.out _ hk) (Nat.lt_irrefl _)
  ·have := G4.out.1; omega
  ·have := (G4.out.2.2 _ hk).1; omega
  ·have := HW0.out; have := HG3.out; omega
 obtain ⟨w7, hw7⟩ : ∃ w7, w7 = w6.alloc (.cells (S.v8 (S.zeros 64)) 135) := ⟨_, rfl⟩
 rw [<- hw7] at fF jl
 obtain ⟨g9, hg9⟩ : ∃ g9, g9 = w6.heap.size := ⟨_, rfl⟩
 rw [<- hg9] at fF jl R9 N93
 clear r9 b9 h36 LO6 R6 B6 hg9 hw7
 go_upto_region 10 with (first | (with_reducible refine au ⟨some 9, .alloc 135, 0, "place.go:78", #[], none⟩ ?_; refine ah rfl 135 rfl (.pointer (some ⟨g9, 0, none⟩)) w7 fF ?_) | (with_reducible refine au ⟨none, .store 135 (.tmp 9) (.tmp 33), 0, "place.go:78", #[{ on := 6, ground := Ground.data }, { on := 4, ground := Ground.data }, { on := 2, ground := Ground.chain }, { on := 0, ground := Ground.phase }, { on := 1, ground := Ground.phase }, { on := 2, ground := Ground.phase }, { on := 3, ground := Ground.phase }, { on := 4, ground := Ground.phase }, { on := 5, ground := Ground.textOnly Departure.lateStores }, { on := 6, ground := Ground.phase }], none⟩ ?_; refine ai rfl 135 (.tmp 9) (.tmp 33) rfl (.pointer (some ⟨g9, 0, none⟩)) (.agg (S.v8 (S.aL ns))) rfl rfl w9 jl ?_))
 clear fF jl
 refine wp_region_noPanic ?_
 refine wp_region_held_drew (S := (fun W => W.heap[g9]? = some (.cells (S.v8 (S.aL ns)) 135 (0, 0)))) follows R9.out (fun hHeld => ?_)
 have LOd := hide (LO9.out.then (Below.refl w9.heap.size w9).drew)
 have B9d : Hid (Below w.heap.size w w9.drew) := B9.out.drew
 have R3d : Hid (w9.drew.heap[g3]? = some (.cells (S.v8 (S.zeros 64)) 135 (0, 0))) := R39.out
 clear LO9 B9 R9 R39
 generalize w9.drew = Z1 at LOd B9d R3d hHeld ⊢
 refine tq 0 ?_
 simp only [uA]
 refine wpAnyH_take (i := 1) (oi := ⟨_, _, _, _, _, _⟩) (v := .agg (S.v8 (S.aL ns))) rfl (by kernel_rfl) (by kernel_rfl) (by kernel_rfl) (fun _ _ _ h => h) (dQ (by kernel_rfl) (.tmp 9) rfl g9 rfl (S.aF ns) (fun W hW => hW)) (by assumption) ?_
 simp only [uA]
 refine tq 2 ?_
 simp only [uA]
 obtain ⟨Z2, hst, r3, c3⟩ := jW (ys := S.aL ns) R3d.out (S.zeros_length _) (S.aF ns)
 have R3 := hide r3
 have LO2 : Hid (Lo w0 Z2 o d g 1 4 p t [S.aL ns] tv) := LOd.out.chg c3 NG3.out
 have B2 : Hid (Below w.heap.size w Z2) := B9d.out.trans (c3.base B9d.out.size HG3.out)
 have a2 : Z2.heap[g9]? = some (.cells (S.v8 (S.aL ns)) 135 (0, 0)) := c3.row hHeld N93.out
 refine rdy [3] ?_
 refine dH (o := ⟨_, _, _, _, _, _⟩) rfl rfl 135 (.tmp 3) (.tmp 39) rfl Z2 hst AllReadyH.nil ⟨a2, fun hHeld => ?_⟩
 simp only [Act.put]
 clear hst r3 c3 LOd B9d R3d a2
 refine tq 4 ?_
 simp only [uA]
 refine wpAnyH_done (by kernel_rfl) ?_ _
 refine NoPanic.normal ?_
 clear hHeld
 go_wp2_with fail
 refine bodyPost_ret (kX Tryz.results71 _ _ g3 (.agg (S.v8 (S.aL ns))) rfl (jd R3.out (S.aF ns))) rfl ⟨g, tv, rfl, LO2.out, G4.out.2.1, fun k hk => (G4.out.2.2 k hk).2, B2.out⟩
set_option maxHeartbeats 1000000 in
set_option maxRecDepth 10000 in
theorem Ct (ns : List Nat) (n g c : Nat) (cur : Array Value) (w : World) (hr : w.heap[g]? = some (.cells cur 3 (0, 0))) (hc : ∀ j, j < ns.length -> cur[j]? = some (.int .i64 ((ns.getD j 0 : Nat) : Int))) (hin : n ∈ ns) (hl : ns.length <= 1000) :
  Calls Tryz.prog 187 #[.slice (some ⟨g, 0, none⟩) ns.length c, .int .i64 (n : Int)] w fun e w' => e = .returned (.int .i64 (ns.idxOf n : Int)) /\ w = w' := by
 have HR := hide hr
 have HC := hide hc
 have HX : Hid (ns.idxOf n < ns.length) := List.idxOf_lt_length_of_mem hin
 have HL := hide hl
 have HAT : Hid (ns.getD (ns.idxOf n) 0 = n) := by
  show ns.getD (ns.idxOf n) 0 = n
  rw [List.getD_eq_getElem?_getD, List.getElem?_eq_getElem HX.out, Option.getD_some]
  exact List.getElem_idxOf HX.out
 have HNO : Hid (∀ j, j < ns.idxOf n -> ns.getD j 0 ≠ n) := fun j hj e => by
  have hjl : j < ns.length := Nat.lt_trans hj HX.out
  rw [List.getD_eq_getElem?_getD, List.getElem?_eq_getElem hjl, Option.getD_some] at e
  have h := List.not_of_lt_findIdx (p := (· == n)) (xs := ns) hj
  simp [e] at h
 clear hr hc hl
 go_enter Tryz.func187, Tryz.ntmps187
 go_wp2_with fail
 go_loopw [8] (fun i wr => ∃ k : Nat, k <= ns.idxOf n /\ i = .int .i64 (k : Int) /\ w = wr) (fun i _ => ns.length - (intOf i).toNat)
 case atStart => exact ⟨0, Nat.zero_le _, rfl, rfl⟩
 case round =>
 obtain ⟨k, hk, rfl, rfl⟩ := hrel
 have hkl : k < ns.length := Nat.lt_of_le_of_lt hk HX.out
 have q1 : (k : Int) < (ns.length : Int) := by omega
 have q0 : (0 : Int) <= (k : Int) := by omega
 have q2 : IntKind.i64.wrap ((k : Int) + 1) = (k : Int) + 1 := by have := HL.out; rw [IntKind.wrap_i64]; omega
 obtain ⟨m, hm⟩ : ∃ m : Nat, m = ns.getD k 0 := ⟨_, rfl⟩
 have c1 : w.cell? ⟨g, k, none⟩ = some (.int .i64 (m : Int)) := by rw [cell_of_row w g k _ 3 _ HR.out, hm]; exact HC.out k hkl
 have KK := hide hkl
 by_cases hkx : k = ns.idxOf n
 ·have q3 : (n : Int) = (m : Int) := by rw [hm, hkx, HAT.out]
  have q4 : ((n : Int) == (m : Int)) = true := by rw [q3]; exact beq_self_eq_true _
  have EK := hide hkx
  clear hm hk hkl hkx
  go_wp2_with fail
  go_ret
  exact ⟨by rw [<- EK.out]; rfl, rfl⟩
 ·have hne : m ≠ n := by rw [hm]; exact HNO.out k (by omega)
  have q3 : ¬ ((n : Int) = (m : Int)) := by omega
  have q4 : ((n : Int) == (m : Int)) = false := beq_false_of_ne q3
  have KN : Hid (k + 1 <= ns.idxOf n) := by show k + 1 <= ns.idxOf n; omega
  clear hm hk hkl hkx hne
  go_wp2_with fail
  go_roundw
  case rel => exact ⟨k + 1, KN.out, by go_num, trivial⟩
  case measure => have := KK.out; simp [intOf]; omega
set_option maxRecDepth 10000 in
theorem Es (ns : List Nat) (n : Nat) (w : World) (hn : ∀ n ∈ ns, n < 512) (hpw : ns.Pairwise (· < ·)) (hin : n ∈ ns) : Calls Tryz.prog 160 #[.agg (S.v8 (S.aL ns)), .int .i64 (n : Int)] w fun e w' => e = .returned (.int .i64 (ns.idxOf n : Int)) /\ Below w.heap.size w w' := by
 obtain ⟨Z, hZ⟩ : ∃ Z, Z = S.v8 (S.aL ns) := ⟨_, rfl⟩
 obtain ⟨w1, hw1⟩ : ∃ w1, w1 = w.alloc (.cells Z 135) := ⟨_, rfl⟩
 have B1 : Hid (Below w.heap.size w w1) := by rw [hw1]; exact ba ..
 have r1 : w1.heap[w.heap.size]? = some (.cells (S.v8 (S.aL ns)) 135 (0, 0)) := by rw [hw1, hZ]; exact heap_alloc_new _ _
 have ld := iM r1 (S.aF ns)
 rw [<- hZ] at ld ⊢
 have HZ := hide hZ
 have HW := hide hw1
 obtain ⟨g1, hg1⟩ : ∃ g1, g1 = w.heap.size := ⟨_, rfl⟩
 rw [<- hg1] at ld
 have HG := hide hg1
 have HLN : Hid (ns.length <= 512) := by
  have h1 := S.ni ns hn hpw
  have h2 := S.nZ (S.aL ns) 512
  rw [h1] at h2
  exact h2
 clear r1 hZ hw1 hg1
 go_enter Tryz.func160, Tryz.ntmps160
 go_wp2_with (rw [<- HW.out, <- HG.out]; with_reducible refine au ⟨some 5, .load 135 (.tmp 2), 135, "set.go:58", #[], none⟩ ?_; refine ay rfl 135 (.tmp 2) rfl (.pointer (some ⟨g1, 0, none⟩)) rfl (.agg Z) ld ?_)
 clear ld
 rw [HZ.out]
 refine (uF (S.aL ns) w1 (S.aF ns)).mono ?_
 rintro e w3 ⟨v, rfl, hv, b3⟩
 rw [S.ni ns hn hpw] at hv
 obtain ⟨gl, cl, cur, rfl, hgl, hrow, FH⟩ := xY hv (fun e => by rw [e] at hin; simp at hin)
 have B3 := hide (B1.out.trans (b3.mono B1.out.size))
 have RR := hide hrow
 have CC := hide FH
 clear hv hgl hrow FH b3
 go_wp2_with fail
 refine (Ct ns n gl cl cur w3 RR.out CC.out hin (by have := HLN.out; omega)).mono ?_
 rintro e w4 ⟨rfl, rfl⟩
 go_wp2_with fail
 go_ret
 exact ⟨rfl, B3.out⟩
set_option maxHeartbeats 4000000 in
set_option maxRecDepth 10000 in
theorem BA (w0 w : World) (o : Ow) (d : S.Dk) (p t gs n : Nat) (ns : List Nat) (xs : List (List UInt8)) (pg : Nat -> List UInt8) (h : Pm w0 w o d p t ns xs pg) (hs : eD w gs o) (hn : n < 512) :
  Calls Tryz.prog 124 #[.pointer (some ⟨gs, 0, none⟩), .int .i64 (n : Int)] w fun e w' => ∃ gp, e = .returned (.tuple #[.slice (some ⟨gp, 0, none⟩) 1024 1024, .int .i64 0]) /\ w.heap.size <= gp /\ Room w' gp 1024 (if n ∈ ns then xs.getD (ns.idxOf n) [] else pg n) /\ Pm w0 w' o d p t ns xs pg /\ eD w' gs o /\ Below w.heap.size w w' := by
 have P0 := hide h
 have S0 := hide hs
 clear h hs
 go_enter Tryz.func124, Tryz.ntmps124
 go_wp2_with fail
 refine (kF n hn w).mono ?_
 rintro e w1 ⟨rfl, rfl⟩
 have c0 := iQ S0.out
 go_wp2_with fail
 have gU : o.ptr = .pointer (some ⟨o.g, 0, none⟩) := rfl
 rw [<- gU]
 refine (Fq w0 w o d p t ns xs pg P0.out).mono ?_
 rintro e w1 ⟨g, tv, rfl, hlo, hgb, htb, b1⟩
 have P1 := hide (P0.out.then b1)
 have B1 := hide b1
 have S1 : Hid (eD w1 gs o) := (b1.block gs (aa S0.out)).trans S0.out
 clear hlo hgb htb b1 P0 S0 c0
 have hal := dV w1
 obtain ⟨w3, hst, r3, b3⟩ := lq w1 (S.aL ns) (S.aF ns)
 have P3 := hide (P1.out.then b3)
 have B3 := hide (B1.out.trans (b3.mono B1.out.size))
 have S3 : Hid (eD w3 gs o) := (b3.block gs (aa S1.out)).trans S1.out
 obtain ⟨w2, hw2⟩ : ∃ w2, w2 = w1.alloc (.cells (S.v8 (S.zeros 64)) 135) := ⟨_, rfl⟩
 rw [<- hw2] at hal hst
 have ld := iM r3 (S.aF ns)
 obtain ⟨g2, hg2⟩ : ∃ g2, g2 = w1.heap.size := ⟨_, rfl⟩
 rw [<- hg2] at hal hst ld
 obtain ⟨Z, hZ⟩ : ∃ Z, Z = S.v8 (S.aL ns) := ⟨_, rfl⟩
 rw [<- hZ] at hst ld ⊢
 have HZ := hide hZ
 have RSK : Hid (w3.heap[g2]? = some (.cells (S.v8 (S.aL ns)) 135 (0, 0))) := by rw [hg2]; exact r3
 clear r3 b3 hw2 hg2 hZ P1 B1 S1 gU
 go_wp2_with (first | (with_reducible refine au ⟨some 7, .alloc 135, 0, "pages.go:60", #[], none⟩ ?_; refine ah rfl 135 rfl (.pointer (some ⟨g2, 0, none⟩)) w2 hal ?_) | (with_reducible refine au ⟨none, .store 135 (.tmp 7) (.tmp 19), 0, "pages.go:60", #[{ on := 9, ground := Ground.data }, { on := 7, ground := Ground.data }, { on := 10, ground := Ground.chain }, { on := 0, ground := Ground.phase }, { on := 1, ground := Ground.phase }, { on := 2, ground := Ground.phase }, { on := 3, ground := Ground.phase }, { on := 4, ground := Ground.phase }, { on := 5, ground := Ground.phase }, { on := 6, ground := Ground.phase }, { on := 7, ground := Ground.phase }, { on := 8, ground := Ground.textOnly Departure.lateStores }, { on := 9, ground := Ground.phase }, { on := 10, ground := Ground.phase }], none⟩ ?_; refine ai rfl 135 (.tmp 7) (.tmp 19) rfl (.pointer (some ⟨g2, 0, none⟩)) (.agg Z) rfl rfl w3 hst ?_) | (with_reducible refine au ⟨some 24, .load 135 (.tmp 7), 135, "pages.go:64", #[], none⟩ ?_; refine ay rfl 135 (.tmp 7) rfl (.pointer (some ⟨g2, 0, none⟩)) rfl (.agg Z) ld ?_))
 clear hal hst ld
 have RS3 : Hid (w3.heap[g2]? = some (.cells (S.v8 (S.aL ns)) 135 (0, 0))) := RSK.out
 have NB : Hid (∀ n ∈ ns, n < 512) := P3.out.nb
 have UP : Hid (ns.Pairwise (· < ·)) := P3.out.up
 have LE : Hid (ns.length <= 256) := P3.out.le
 refine (wH Z (S.aL ns) n w3 HZ.out (S.aF ns) hn).mono ?_
 rintro e w6 ⟨rfl, b6⟩
 rw [S.sW ns P3.out.nb]
 have P6 := hide (P3.out.then b6)
 have B6 := hide (B3.out.trans (b6.mono B3.out.size))
 have ST6 : Hid (eD w6 gs o) := (b6.block gs (aa S3.out)).trans S3.out
 have RS6 : Hid (w6.heap[g2]? = some (.cells (S.v8 (S.aL ns)) 135 (0, 0))) := (b6.block g2 (aa RS3.out)).trans RS3.out
 clear b6 P3 B3 S3 RS3 RSK
 by_cases hin : n ∈ ns
 ·rw [decide_eq_true hin]
  have IX : Hid (ns.idxOf n < ns.length) := List.idxOf_lt_length_of_mem hin
  go_upto_region 7 with fail
  refine wp_region_noPanic ?_
  refine wp_region_held_drew (S := (fun W => W.heap[gs]? = some (.cells #[.pointer (some ⟨o.g, 0, none⟩)] 134 (0, 0)) /\ W.heap[g2]? = some (.cells (S.v8 (S.aL ns)) 135 (0, 0)))) follows ⟨ST6.out, RS6.out⟩ (fun hHeld => ?_)
  have P6d := hide (P6.out.then (Below.refl w6.heap.size w6).drew)
  have B6d : Hid (Below w.heap.size w w6.drew) := B6.out.drew
  clear P6 B6 ST6 RS6
  generalize w6.drew = Z1 at P6d B6d hHeld ⊢
  refine tq 0 ?_
  simp only [uA]
  refine tq 1 ?_
  simp only [uA]
  refine tq 2 ?_
  simp only [uA]
  refine tk 3 ?_ rfl (Or.inl ⟨by rfl, ?_⟩) ?_
  rotate_left
  ·intro w hSw
   have c0 := iQ hSw.1
   clear hSw
   go_simp
   all_goals with_reducible rfl
  simp only [uA]
  refine wpAnyH_take (i := 4) (oi := ⟨_, _, _, _, _, _⟩) (v := .agg (S.v8 (S.aL ns))) rfl (by kernel_rfl) (by kernel_rfl) (by kernel_rfl) (fun _ _ _ h => h) (dQ (by kernel_rfl) (.tmp 7) rfl g2 rfl (S.aF ns) (fun W hW => hW.2)) (by assumption) ?_
  simp only [uA]
  refine tq 5 ?_
  simp only [uA]
  refine r1 6 fun K hK => ?_
  go_simp
  refine (Es ns n Z1 NB.out UP.out hin).mono ?_
  rintro e Z2 ⟨rfl, b2⟩
  have a2 : Z2.heap[gs]? = some (.cells #[.pointer (some ⟨o.g, 0, none⟩)] 134 (0, 0)) /\ Z2.heap[g2]? = some (.cells (S.v8 (S.aL ns)) 135 (0, 0)) := ⟨(b2.block gs (aa hHeld.1)).trans hHeld.1, (b2.block g2 (aa hHeld.2)).trans hHeld.2⟩
  have P7 := hide (P6d.out.then b2)
  have B7 : Hid (Below w.heap.size w Z2) := B6d.out.trans (b2.mono B6d.out.size)
  clear hHeld b2 P6d B6d
  refine hK.out _ _ a2 (fun hHeld => ?_)
  clear hK K
  try simp only [uA]
  clear a2
  refine r1 7 fun K hK => ?_
  go_simp
  refine (mR (ns.idxOf n) (by have := LE.out; have := IX.out; omega) Z2).mono ?_
  rintro e Z3 ⟨rfl, rfl⟩
  refine hK.out _ _ hHeld (fun hHeld => ?_)
  clear hK K
  try simp only [uA]
  refine r1 8 fun K hK => ?_
  go_simp
  have RP := iT o d (4101 + ns.idxOf n * 8) Z2 P7.out.dk.dk (fun i hi => by rw [P7.out.seen] at hi ⊢; exact P7.out.dk.dk.ok.len i hi) (by have := P7.out.len; have := LE.out; have := IX.out; omega)
  rw [P7.out.seen, P7.out.spare _ IX.out, show o.ptr = .pointer (some ⟨o.g, 0, none⟩) from rfl] at RP
  try rw [show ((4101 + ns.idxOf n * 8 : Nat) : Int) = 4101 + (ns.idxOf n : Int) * 8 by omega] at RP
  refine RP.mono ?_
  rintro e Z3 ⟨gp, rfl, hgp, hrm, b2⟩
  have a2 : Z3.heap[gs]? = some (.cells #[.pointer (some ⟨o.g, 0, none⟩)] 134 (0, 0)) /\ Z3.heap[g2]? = some (.cells (S.v8 (S.aL ns)) 135 (0, 0)) := ⟨(b2.block gs (aa hHeld.1)).trans hHeld.1, (b2.block g2 (aa hHeld.2)).trans hHeld.2⟩
  have P8 := hide (P7.out.then b2)
  have RM : Hid (Room Z3 gp 1024 (if n ∈ ns then xs.getD (ns.idxOf n) [] else pg n)) := by show Room Z3 gp 1024 (if n ∈ ns then xs.getD (ns.idxOf n) [] else pg n); rw [if_pos hin]; exact hrm
  have GP : Hid (w.heap.size <= gp) := ltr B7.out.size hgp
  have ST8 := hide a2.1
  have B8 : Hid (Below w.heap.size w Z3) := B7.out.trans (b2.mono B7.out.size)
  clear RP hgp hrm b2 hHeld P7 B7
  refine hK.out _ _ a2 (fun hHeld => ?_)
  clear hK K
  try simp only [uA]
  clear a2
  refine tq 9 ?_
  simp only [uA]
  refine tq 10 ?_
  simp only [uA]
  refine wpAnyH_done (by kernel_rfl) ?_ _
  refine NoPanic.normal ?_
  clear hHeld
  go_wp2_with fail
  go_ret2
  exact ⟨gp, rfl, GP.out, by have h := RM.out; rw [if_pos hin, List.getD_eq_getElem?_getD] at h; exact h, P8.out, ST8.out, B8.out⟩
 ·rw [decide_eq_false hin]
  clear RS6
  go_upto_region 8 with fail
  refine wp_region_noPanic ?_
  refine wp_region_held_drew (S := (fun W => W.heap[gs]? = some (.cells #[.pointer (some ⟨o.g, 0, none⟩)] 134 (0, 0)))) follows ST6.out (fun hHeld => ?_)
  have P6d := hide (P6.out.then (Below.refl w6.heap.size w6).drew)
  have B6d : Hid (Below w.heap.size w w6.drew) := B6.out.drew
  clear P6 B6 ST6
  generalize w6.drew = Z1 at P6d B6d hHeld ⊢
  refine tq 0 ?_
  simp only [uA]
  refine tq 1 ?_
  simp only [uA]
  refine tq 2 ?_
  simp only [uA]
  refine tk 3 ?_ rfl (Or.inl ⟨by rfl, ?_⟩) ?_
  rotate_left
  ·intro w hSw
   have c0 := iQ hSw
   clear hSw
   go_simp
   all_goals with_reducible rfl
  simp only [uA]
  refine tq 4 ?_
  simp only [uA]
  refine r1 5 fun K hK => ?_
  go_simp
  refine (pq n (by omega) Z1).mono ?_
  rintro e Z2 ⟨rfl, rfl⟩
  refine hK.out _ _ hHeld (fun hHeld => ?_)
  clear hK K
  try simp only [uA]
  refine r1 6 fun K hK => ?_
  go_simp
  have RP := iT o d (5 + n * 8) Z1 P6d.out.dk.dk (fun i hi => by rw [P6d.out.seen] at hi ⊢; exact P6d.out.dk.dk.ok.len i hi) (by have := P6d.out.len; omega)
  rw [P6d.out.seen, P6d.out.home n hn hin, show o.ptr = .pointer (some ⟨o.g, 0, none⟩) from rfl] at RP
  try rw [show ((5 + n * 8 : Nat) : Int) = 5 + (n : Int) * 8 by omega] at RP
  refine RP.mono ?_
  rintro e Z2 ⟨gp, rfl, hgp, hrm, b2⟩
  have a2 : Z2.heap[gs]? = some (.cells #[.pointer (some ⟨o.g, 0, none⟩)] 134 (0, 0)) := (b2.block gs (aa hHeld)).trans hHeld
  have P7 := hide (P6d.out.then b2)
  have RM : Hid (Room Z2 gp 1024 (if n ∈ ns then xs.getD (ns.idxOf n) [] else pg n)) := by show Room Z2 gp 1024 (if n ∈ ns then xs.getD (ns.idxOf n) [] else pg n); rw [if_neg hin]; exact hrm
  have GP : Hid (w.heap.size <= gp) := ltr B6d.out.size hgp
  have ST7 := hide a2
  have B7 : Hid (Below w.heap.size w Z2) := B6d.out.trans (b2.mono B6d.out.size)
  clear RP hgp hrm b2 hHeld P6d B6d
  refine hK.out _ _ a2 (fun hHeld => ?_)
  clear hK K
  try simp only [uA]
  clear a2
  refine tq 7 ?_
  simp only [uA]
  refine tq 8 ?_
  simp only [uA]
  refine wpAnyH_done (by kernel_rfl) ?_ _
  refine NoPanic.normal ?_
  clear hHeld
  go_wp2_with fail
  go_ret2
  exact ⟨gp, rfl, GP.out, by have h := RM.out; rw [if_neg hin] at h; exact h, P7.out, ST7.out, B7.out⟩
structure Pw (w0 w : World) (o : Ow) (d : S.Dk) (p t : Nat) (ns : List Nat) (pg : Nat -> List UInt8) : Prop where
 dk : Dsk w o d
 pend : d.pend = []
 has : S.Pgs d.safe p t ns pg
 ob : ∀ k, o.has k -> w0.heap.size <= k
 below : Below w0.heap.size w0 w
 pos : 1 < w0.heap.size
theorem Pw.then {w0 w W : World} {o : Ow} {d : S.Dk} {p t : Nat} {ns : List Nat} {pg : Nat -> List UInt8} (h : Pw w0 w o d p t ns pg) (hb : Below w.heap.size w W) : Pw w0 W o d p t ns pg :=
 ⟨h.dk.below hb, h.pend, h.has, h.ob, h.below.trans (hb.mono h.below.size), h.pos⟩
theorem Pw.n {w0 w : World} {o : Ow} {d : S.Dk} {p t : Nat} {pg : Nat -> List UInt8} (h : Pw w0 w o d p t [] pg) : Pn w0 w o d p t pg := ⟨h.dk, h.pend, h.has.len, h.has.mark, h.has.log, fun n hn => h.has.home n hn (by simp), h.ob, h.below, h.pos⟩
theorem Pw.m {w0 w : World} {o : Ow} {d : S.Dk} {p t : Nat} {ns : List Nat} {pg : Nat -> List UInt8} (h : Pw w0 w o d p t ns pg) (hne : ns ≠ []) : Pm w0 w o d p t ns (ns.map pg) pg :=
 ⟨h.dk, h.pend, h.has.len, h.has.mark, by have := h.has.log; rw [S.recs_ne hne] at this; exact this, fun i hi => by rw [S.lm pg ns i hi]; exact h.has.spare i hi, h.has.home, h.ob, h.below, h.pos, h.has.nb, h.has.up, hne, h.has.le⟩
theorem S.map_at (X : Nat -> List UInt8) (ns : List Nat) (n : Nat) (h : n ∈ ns) : (ns.map X).getD (ns.idxOf n) [] = X n := by
 have hi := List.idxOf_lt_length_of_mem h
 rw [S.lm X ns _ hi, List.getD_eq_getElem?_getD, List.getElem?_eq_getElem hi, Option.getD_some, List.getElem_idxOf hi]
theorem BG (w0 w : World) (o : Ow) (d : S.Dk) (p t gs n : Nat) (ns : List Nat) (pg : Nat -> List UInt8) (h : Pw w0 w o d p t ns pg) (hs : eD w gs o) (hn : n < 512) :
  Calls Tryz.prog 124 #[.pointer (some ⟨gs, 0, none⟩), .int .i64 (n : Int)] w fun e w' => ∃ gp, e = .returned (.tuple #[.slice (some ⟨gp, 0, none⟩) 1024 1024, .int .i64 0]) /\ w.heap.size <= gp /\ Room w' gp 1024 (pg n) /\ Pw w0 w' o d p t ns pg /\ eD w' gs o /\ Below w.heap.size w w' := by
 by_cases e : ns = []
 ·subst e
  refine (pread_n w0 w o d p t gs n pg h.n hs hn).mono ?_
  rintro e w' ⟨gp, rfl, h1, h2, _, h4, h5⟩
  exact ⟨gp, rfl, h1, h2, h.then h5, h4, h5⟩
 ·refine (BA w0 w o d p t gs n ns (ns.map pg) pg (h.m e) hs hn).mono ?_
  rintro e w' ⟨gp, rfl, h1, h2, _, h4, h5⟩
  refine ⟨gp, rfl, h1, ?_, h.then h5, h4, h5⟩
  by_cases hin : n ∈ ns
  ·rw [if_pos hin, S.map_at pg ns n hin] at h2
   exact h2
  ·rw [if_neg hin] at h2
   exact h2
namespace S
end S
theorem Pw.chgd {q : Nat -> Prop} {w0 w W : World} {o : Ow} {d : S.Dk} {p t : Nat} {ns : List Nat} {pg : Nat -> List UInt8} (h : Pw w0 w o d p t ns pg) (hc : Chg q w W) (hq : ∀ k, (o.has k \/ k < w0.heap.size) -> ¬ q k) : Pw w0 W o d p t ns pg :=
 ⟨⟨h.dk.dk.chg hc (fun k hk => hq k (Or.inl hk)), h.dk.k.chg hc (hq 1 (Or.inr h.pos)), h.dk.no⟩, h.pend, h.has, h.ob, h.below.trans (hc.below _ h.below.size (fun k hk => hq k (Or.inr hk))), h.pos⟩
structure Rds (B : Nat) (w : World) (gs : Nat) (pg : Nat -> List UInt8) : Prop where
 is : ∃ w0 o d p t ns, Pw w0 w o d p t ns pg /\ eD w gs o /\ (∀ k, o.has k -> k < B) /\ gs < B /\ w0.heap.size <= B
 base : B <= w.heap.size
theorem Rds.chg {q : Nat -> Prop} {B : Nat} {w W : World} {gs : Nat} {pg : Nat -> List UInt8} (h : Rds B w gs pg) (hc : Chg q w W) (hq : ∀ k, k < B -> ¬ q k) : Rds B W gs pg := by
 obtain ⟨w0, o, d, p, t, ns, h1, h2, h3, h4, h5⟩ := h.is
 exact ⟨⟨w0, o, d, p, t, ns, h1.chgd hc (fun k hk => hq k (by rcases hk with e | e; exact h3 k e; omega)), hc.row h2 (hq gs h4), h3, h4, h5⟩, ltr h.base hc.size⟩
theorem Rds.below {B : Nat} {w W : World} {gs : Nat} {pg : Nat -> List UInt8} (h : Rds B w gs pg) (hb : Below w.heap.size w W) : Rds B W gs pg := h.chg (q := fun _ => False) (Chg.ofBelow' hb) (fun _ _ e => e)
theorem Ep (B gs n : Nat) (pg : Nat -> List UInt8) (w : World) (h : Rds B w gs pg) (hn : n < 512) :
  Calls Tryz.prog 124 #[.pointer (some ⟨gs, 0, none⟩), .int .i64 (n : Int)] w fun e w' => ∃ gp, e = .returned (.tuple #[.slice (some ⟨gp, 0, none⟩) 1024 1024, .int .i64 0]) /\ w.heap.size <= gp /\ Room w' gp 1024 (pg n) /\ Below w.heap.size w w' := by
 obtain ⟨w0, o, d, p, t, ns, h1, h2, _⟩ := h.is
 refine (BG w0 w o d p t gs n ns pg h1 h2 hn).mono ?_
 rintro e w1 ⟨gp, rfl, g1, r1, _, _, b1⟩
 exact ⟨gp, rfl, g1, r1, b1⟩
set_option maxHeartbeats 1000000 in
set_option maxRecDepth 10000 in
theorem mI (B gs n : Nat) (pg : Nat -> List UInt8) (t : List UInt8) (w : World) (h : Rds B w gs pg) (hn : n < 512) (hp : pg n = S.aO t) (ht : t.length <= 1022) :
  Calls Tryz.prog 79 #[.pointer (some ⟨gs, 0, none⟩), .int .i64 (n : Int)] w fun e w' => ∃ g x, e = .returned (.tuple #[.pointer (some ⟨g, 0, none⟩), .int .i64 0]) /\ w.heap.size <= g /\ w.heap.size <= x /\ dh w' g x ⟨t, 0, 0, 0⟩ /\ Below w.heap.size w w' := by
 have H := hide h
 have HN := hide hn
 have HP := hide hp
 have HT := hide ht
 clear h hn hp ht
 go_enter Tryz.func79, Tryz.ntmps79
 go_wp2_with fail
 refine (Ep B gs n pg w H.out HN.out).mono ?_
 rintro e w1 ⟨gp, rfl, g1, r1, b1⟩
 have sl : (S.aO t).length = 1024 := S.jC t HT.out
 have S1 : Hid (SliceAt w1 (.slice (some ⟨gp, 0, none⟩) 1024 1024) (S.aO t)) := by
  have := wZ r1 (by rw [HP.out, sl])
  rw [HP.out] at this
  exact az this sl.symm (by omega)
 have SL := hide sl
 have B1 := hide b1
 clear g1 r1 b1 sl
 go_wp2_with fail
 refine (iy _ (S.aO t) w1 S1.out (by have := SL.out; omega)).mono ?_
 rintro e w2 ⟨gd, gx, rfl, g2, x2, r2, b2⟩
 have R2 := hide r2
 have B2 := hide (B1.out.trans (b2.mono B1.out.size))
 have G2 : Hid (w.heap.size <= gd) := ltr B1.out.size g2
 clear g2 x2 r2 b2
 go_wp2_with fail
 have E := S.yQ t HT.out
 refine (rG gd gx ⟨S.aO t, 0, 0, 0⟩ 1024 w2 R2.out).mono ?_
 rw [E]
 rintro e w3 ⟨q, rfl, g3, r3, d3, c3⟩
 have B3 : Hid (Below w.heap.size w w3) := B2.out.trans (c3.base B2.out.size G2.out)
 have S3 : Hid (SliceAt w3 (.slice (some ⟨q, 0, none⟩) t.length t.length) t) := az r3 rfl (by have := HT.out; omega)
 clear g3 r3 d3 c3 E
 obtain ⟨tn, htn⟩ : ∃ tn, tn = t.length := ⟨_, rfl⟩
 simp only
 rw [<- htn] at S3 ⊢
 clear htn
 go_wp2_with fail
 refine (iy _ t w3 S3.out (by have := HT.out; omega)).mono ?_
 rintro e w4 ⟨ge, gy, rfl, g4, x4, r4, b4⟩
 have R4 := hide r4
 have B4 := hide (B3.out.trans (b4.mono B3.out.size))
 have G4 : Hid (w.heap.size <= ge /\ w.heap.size <= gy) := ⟨ltr B3.out.size g4, ltr B3.out.size x4⟩
 clear g4 x4 r4 b4
 go_wp2_with fail
 go_ret2
 exact ⟨ge, gy, rfl, G4.out.1, G4.out.2, R4.out, B4.out⟩
theorem jQ {r r' : S.Rd} {most : Int} {xs : List UInt8} (g t : Nat) (w : World) (h : r.bytes most = (r', xs)) (hr : dh w g t r) :
  Calls Tryz.prog 80 #[.pointer (some ⟨g, 0, none⟩), .int .i64 most] w fun e w' => ∃ q, e = .returned (.slice (some ⟨q, 0, none⟩) xs.length xs.length) /\ w.heap.size <= q /\ w'.heap[q]? = some (.cells (S.v8 xs) 5 (0, 0)) /\ dh w' g t r' /\ Chg (fun k => k = g) w w' := by
 have := rG g t r most w hr
 rw [h] at this
 exact this
theorem Al {r : S.Rd} {a : Int} (g t : Nat) (w : World) (h : r.fin = (a, 0)) (hr : dh w g t r) :
  Calls Tryz.prog 82 #[.pointer (some ⟨g, 0, none⟩)] w fun e w' => e = .returned .nilIface /\ Below w.heap.size w w' := by
 refine (Eo g t r w hr).mono ?_
 rintro e w' ⟨h1 | h1, b⟩
 ·exact ⟨h1.2, b⟩
 ·rw [h] at h1; exact absurd rfl h1.1
theorem Cw (n r l : Nat) (u : List UInt8) (hu : u.length = 64) : splice (S.hhc ⟨n, r, l, S.zeros 64⟩) 3 (S.v8l u) = S.hhc ⟨n, r, l, u⟩ := by
 unfold splice S.hhc
 have e : (S.v8l (S.zeros 64)).length = 64 := by rw [S.ae, S.zeros_length]
 simp [S.ae, hu, e]
set_option maxHeartbeats 4000000 in
set_option maxRecDepth 10000 in
theorem vK (B gs : Nat) (pg : Nat -> List UInt8) (h : S.Hh) (w : World) (hr : Rds B w gs pg) (ho : h.Ok) (hp : pg 0 = S.aO (S.dM h.cnt h.root h.lv h.used)) :
  Calls Tryz.prog 46 #[.pointer (some ⟨gs, 0, none⟩)] w fun e w' => e = .returned (.tuple #[hhv h, .int .i64 0]) /\ Below w.heap.size w w' := by
 have H := hide hr
 have HO := hide ho
 have HP := hide hp
 have q1 := ho.cnt
 have q2 := ho.root.1
 have q3 := ho.root.2
 have q4 := ho.lv
 have ul := ho.used
 have e1 := S.head_1 h.cnt h.root h.lv h.used
 have e2 := S.head_2 h.cnt h.root h.lv h.used q1
 have e3 := S.head_3 h.cnt h.root h.lv h.used q3
 have e4 := S.head_4 h.cnt h.root h.lv h.used q4
 have e5 := S.head_5 h.cnt h.root h.lv h.used ul
 have e6 := S.FE h.cnt h.root h.lv h.used ul
 have tl := S.iY h.cnt h.root h.lv h.used ul
 obtain ⟨T, hT⟩ : ∃ T, T = S.dM h.cnt h.root h.lv h.used := ⟨_, rfl⟩
 rw [<- hT] at e1 e2 e3 e4 e5 e6 tl HP
 have E1 := hide e1
 have E2 := hide e2
 have E3 := hide e3
 have E4 := hide e4
 have E5 := hide e5
 have E6 := hide e6
 have TL := hide tl
 have UL := hide ul
 obtain ⟨N, R, L, U⟩ := h
 simp only at q1 q2 q3 q4 UL
 clear e1 e2 e3 e4 e5 e6 tl hT hr ho hp ul
 have hal := iJ w
 obtain ⟨HC0, fV⟩ : ∃ X, X = (S.hhc S.Hh.none).toArray := ⟨_, rfl⟩
 obtain ⟨w1, hw1⟩ : ∃ w1, w1 = w.alloc (.cells (S.hhc S.Hh.none).toArray 106) := ⟨_, rfl⟩
 have A1 : Hid (bS w1 w.heap.size S.Hh.none) := by show w1.heap[w.heap.size]? = _; rw [hw1]; exact heap_alloc_new _ _
 have b1 : Below w.heap.size w w1 := by rw [hw1]; exact ba ..
 rw [<- hw1] at hal
 obtain ⟨gr, hgr⟩ : ∃ gr, gr = w.heap.size := ⟨_, rfl⟩
 rw [<- hgr] at hal A1
 have HGR := hide hgr
 have B1 := hide b1
 have H1 := hide (H.out.below b1)
 clear hw1 hgr b1 H
 go_enter Tryz.func46, Tryz.ntmps46
 go_wp2_with (with_reducible refine au ⟨some 2, .alloc 106, 0, "head.go:43", #[], none⟩ ?_; refine ah rfl 106 rfl (.pointer (some ⟨gr, 0, none⟩)) w1 hal ?_)
 clear hal
 refine (mI B gs 0 pg T w1 H1.out (by omega) HP.out (by have := TL.out; omega)).mono ?_
 rintro e w2 ⟨gd, gx, rfl, g2, x2, r2, b2⟩
 have R2 := hide r2
 have B2 := hide b2
 have GD : Hid (w1.heap.size <= gd /\ w1.heap.size <= gx) := ⟨g2, x2⟩
 clear g2 x2 r2 b2 H1
 go_wp2_with fail
 refine (jQ gd gx w2 E1.out R2.out).mono ?_
 rintro e w3 ⟨q, rfl, g3, r3, d3, c3⟩
 have B3 : Hid (Below w1.heap.size w1 w3) := B2.out.trans (c3.base B2.out.size GD.out.1)
 have cv := dx (az (n := 13) r3 rfl (by decide))
 have R3 := hide d3
 clear g3 r3 c3 d3 R2 B2
 have ehm : S.gu.length = 13 := rfl
 rw [ehm]
 have eqm : (ByteArray.mk S.gu.toArray) = ByteArray.mk #[107, 101, 121, 115, 32, 105, 110, 32, 111, 114, 100, 101, 114] := rfl
 rw [eqm] at cv
 clear eqm ehm
 go_wp2_with fail
 clear cv
 refine (eO gd gx w3 E2.out R3.out).mono ?_
 rintro e w4 ⟨rfl, d4, c4⟩
 have B4 : Hid (Below w1.heap.size w1 w4) := B3.out.trans (c4.base B3.out.size GD.out.1)
 have R4 := hide d4
 have k1 : IntKind.i64.wrap (N : Int) = (N : Int) := by rw [IntKind.wrap_i64]; omega
 have k2 : IntKind.i64.wrap (R : Int) = (R : Int) := by rw [IntKind.wrap_i64]; omega
 have k3 : IntKind.i64.wrap (L : Int) = (L : Int) := by rw [IntKind.wrap_i64]; omega
 clear d4 c4 R3 B3
 go_wp2_with fail
 refine (eO gd gx w4 E3.out R4.out).mono ?_
 rintro e w5 ⟨rfl, d5, c5⟩
 have B5 : Hid (Below w1.heap.size w1 w5) := B4.out.trans (c5.base B4.out.size GD.out.1)
 have R5 := hide d5
 clear d5 c5 R4 B4
 go_wp2_with fail
 refine (eO gd gx w5 E4.out R5.out).mono ?_
 rintro e w6 ⟨rfl, d6, c6⟩
 have B6 : Hid (Below w1.heap.size w1 w6) := B5.out.trans (c6.base B5.out.size GD.out.1)
 have R6 := hide d6
 clear d6 c6 R5 B5
 have hbd := Dl N R L w6
 have hal := iJ w6
 obtain ⟨w7, hst, a7, b7⟩ := lZ w6 ⟨N, R, L, S.zeros 64⟩ (S.zeros_length _)
 obtain ⟨gh, hgh⟩ : ∃ gh, gh = w6.heap.size := ⟨_, rfl⟩
 rw [<- hgh] at hal hst a7
 have A7 := hide a7
 have B7 : Hid (Below w1.heap.size w1 w7) := B6.out.trans (b7.mono B6.out.size)
 have R7 := hide (R6.out.below b7)
 have GH : Hid (w1.heap.size <= gh /\ gd < gh /\ gx < gh) := ⟨by rw [hgh]; exact B6.out.size, by rw [hgh]; exact R6.out.lt, by rw [hgh]; exact R6.out.tlt⟩
 obtain ⟨HV, hHV⟩ : ∃ X, X = hhv ⟨N, R, L, S.zeros 64⟩ := ⟨_, rfl⟩
 rw [<- hHV] at hbd hst
 rw [<- fV] at hal hst
 clear a7 b7 hgh hHV R6 B6
 go_wp2_with (first | (with_reducible refine au ⟨some 30, .build 106 #[(0, .tmp 23), (1, .tmp 26), (2, .tmp 29)], 106, "head.go:49", #[{ on := 2, ground := Ground.data }, { on := 5, ground := Ground.data }, { on := 8, ground := Ground.data }], none⟩ ?_; refine aG rfl 106 [(0, .tmp 23), (1, .tmp 26), (2, .tmp 29)] rfl [(0, .int .i64 (N : Int)), (1, .int .i64 (R : Int)), (2, .int .i64 (L : Int))] rfl HV hbd ?_) | (with_reducible refine au ⟨some 7, .alloc 106, 0, "head.go:49", #[], none⟩ ?_; refine ah rfl 106 rfl (.pointer (some ⟨gh, 0, none⟩)) (w6.alloc (.cells HC0 106)) hal ?_) | (with_reducible refine au ⟨none, .store 106 (.tmp 7) (.tmp 30), 0, "head.go:49", #[{ on := 10, ground := Ground.data }, { on := 9, ground := Ground.data }, { on := 7, ground := Ground.chain }, { on := 0, ground := Ground.phase }, { on := 1, ground := Ground.phase }, { on := 2, ground := Ground.phase }, { on := 3, ground := Ground.phase }, { on := 4, ground := Ground.phase }, { on := 5, ground := Ground.phase }, { on := 6, ground := Ground.phase }, { on := 7, ground := Ground.phase }, { on := 8, ground := Ground.phase }, { on := 9, ground := Ground.phase }, { on := 10, ground := Ground.phase }], none⟩ ?_; refine ai rfl 106 (.tmp 7) (.tmp 30) rfl (.pointer (some ⟨gh, 0, none⟩)) HV rfl rfl w7 hst ?_))
 clear hbd hal hst
 refine wp_region_noPanic ?_
 refine wp_region_held_drew (S := (fun _ => True)) follows trivial (fun hHeld => ?_)
 have A7d : Hid (bS w7.drew gh ⟨N, R, L, S.zeros 64⟩) := A7.out
 have B7d : Hid (Below w1.heap.size w1 w7.drew) := B7.out.drew
 have R7d : Hid (dh w7.drew gd gx ⟨T, 22, 0, 0⟩) := R7.out.drewN 1
 clear A7 B7 R7
 generalize w7.drew = Z1 at A7d B7d R7d hHeld ⊢
 refine tq 0 ?_
 simp only [uA]
 refine tq 1 ?_
 simp only [uA]
 refine tq 2 ?_
 simp only [uA]
 refine r1 3 fun K hK => ?_
 go_simp
 refine (jQ gd gx Z1 E5.out R7d.out).mono ?_
 rintro e Z2 ⟨q2, rfl, g8, r8, d8, c8⟩
 have B8 : Hid (Below w1.heap.size w1 Z2) := B7d.out.trans (c8.base B7d.out.size GD.out.1)
 have A8 : Hid (bS Z2 gh ⟨N, R, L, S.zeros 64⟩) := c8.row A7d.out (by have := GH.out; omega)
 have R8 := hide d8
 have HST : Hid (Src Z2 (some ⟨q2, 0, none⟩) U) := fun _ => ⟨q2, 0, rfl, aa r8, fun j hj => by rw [Nat.zero_add]; exact bL r8 j hj⟩
 clear g8 r8 d8 c8 A7d B7d R7d
 refine hK.out _ _ trivial (fun hHeld => ?_)
 clear hK K
 try simp only [uA]
 rw [UL.out]
 have HN : Hid ((S.v8l U).length = Nat.min 64 64) := by show (S.v8l U).length = Nat.min 64 64; rw [S.ae, UL.out]; rfl
 have HF : Hid (3 + (S.v8l U).length <= (S.hhc ⟨N, R, L, S.zeros 64⟩).length) := by show 3 + (S.v8l U).length <= (S.hhc ⟨N, R, L, S.zeros 64⟩).length; rw [S.ae, S.cO (S.zeros_length _), UL.out]; omega
 have HCP : Hid (0 < (S.v8l U).length -> some (⟨gh, 3, none⟩ : Addr) = some ⟨gh, 3, none⟩ /\ ∃ ad, some (⟨q2, 0, none⟩ : Addr) = some ad /\ ∀ j v, (S.v8l U)[j]? = some v -> Z2.cell? (ad.add j) = some v) := fun hp => ⟨rfl, (eZ gh HST.out (Below.refl _ _) hp).2⟩
 refine r1 4 fun K hK => ?_
 refine step_copy_splice rfl (.tmp 32) (.tmp 34) 22 22 rfl 5 Tryz.underlying22 kP _ _ _ _ _ _ rfl rfl gh 3 (S.hhc ⟨N, R, L, S.zeros 64⟩) 106 A8.out (S.v8l U) HN.out HCP.out HF.out (S.df _) gh Z2 (Below.refl _ _) (lr _) ?_
 intro Z3 HG9 hB9
 have A9 : Hid (bS Z3 gh ⟨N, R, L, U⟩) := by show Z3.heap[gh]? = _; rw [<- Cw N R L U UL.out]; exact HG9.out
 have B9 : Hid (Below w1.heap.size w1 Z3) := B8.out.trans (hB9.mono GH.out.1)
 have R9 : Hid (dh Z3 gd gx ⟨T, 88, 0, 0⟩) := R8.out.chg (p := fun k => gh <= k) (Chg.ofBelow hB9 (fun k _ e => e)) (by have := GH.out; omega) (by have := GH.out; omega)
 clear HG9 hB9 A8 R8 B8 HST HN HF HCP
 refine hK.out _ _ trivial (fun hHeld => ?_)
 clear hK K
 try simp only [uA]
 refine wpAnyH_done (by kernel_rfl) ?_ _
 refine NoPanic.normal ?_
 clear hHeld
 go_wp2_with fail
 refine (Al gd gx Z3 E6.out R9.out).mono ?_
 rintro e Z4 ⟨rfl, b10⟩
 have A10 : bS Z4 gh ⟨N, R, L, U⟩ := A9.out.below b10
 have B10 := B9.out.trans (b10.mono B9.out.size)
 have r10 : bS Z4 gr S.Hh.none := (B10.block gr (aa A1.out)).trans A1.out
 have hld := A10.load UL.out
 have c1 := A10.root
 have qr : ¬ (R : Int) = 0 := by omega
 have qr2 : ((R : Int) == 0) = false := beq_false_of_ne qr
 obtain ⟨w9, hst, a9, c9⟩ := ru (h := ⟨N, R, L, U⟩) r10 (S.zeros_length _) UL.out
 have A11 := hide a9
 have BF : Hid (Below w.heap.size w w9) := by
  have b := B1.out.trans (B10.mono B1.out.size)
  exact b.trans (c9.base b.size (by have := HGR.out; omega))
 obtain ⟨HV2, lw⟩ : ∃ X, X = hhv ⟨N, R, L, U⟩ := ⟨_, rfl⟩
 rw [<- lw] at hld hst
 have HHV := hide lw
 clear a9 c9 lw A10 B10 r10 b10 A9 B9 R9
 go_wp2_with (first | (with_reducible refine au ⟨some 49, .load 106 (.tmp 7), 106, "head.go:54", #[], none⟩ ?_; refine ay rfl 106 (.tmp 7) rfl (.pointer (some ⟨gh, 0, none⟩)) rfl HV2 hld ?_) | (with_reducible refine au ⟨none, .store 106 (.tmp 2) (.tmp 49), 0, "head.go:54", #[{ on := 0, ground := Ground.data }, { on := 0, ground := Ground.phase }], none⟩ ?_; refine ai rfl 106 (.tmp 2) (.tmp 49) rfl (.pointer (some ⟨gr, 0, none⟩)) HV2 rfl rfl w9 hst ?_))
 exact bodyPost_ret (aW Tryz.results46 _ _ gr _ rfl (A11.out.loadVar UL.out)) rfl ⟨rfl, BF.out⟩
theorem size126 : (Tryz.prog.info? 95).map (·.size) = some 4 := by kernel_rfl
theorem kC {w : World} {g : Nat} {a b c d : Value} (h : w.heap[g]? = some (.cells #[a, b, c, d] 95 (0, 0))) : (loadVar 95 ⟨g, 0, none⟩).run Tryz.prog w = .ok (.agg #[a, b, c, d]) w :=
 run_loadVar_mid (P := Tryz.prog) w g 0 95 [a, b, c, d] _ (aH h) Tryz.underlying95 rfl (by rw [size126]; rfl)
theorem set4 {w : World} {g : Nat} {a b c d : Value} {t : TypeId} (a' b' c' d' : Value) (h : w.heap[g]? = some (.cells #[a, b, c, d] t (0, 0))) : ((((w.setCell ⟨g, 0, none⟩ a').setCell ⟨g, 1, none⟩ b').setCell ⟨g, 2, none⟩ c').setCell ⟨g, 3, none⟩ d').heap[g]? = some (.cells #[a', b', c', d'] t (0, 0)) := by
 have h1 := heap_setCell_same w g 0 _ _ a' h
 have h2 := heap_setCell_same _ g 1 _ _ b' h1
 have h3 := heap_setCell_same _ g 2 _ _ c' h2
 rw [heap_setCell_same _ g 3 _ _ d' h3]
 rfl
theorem chg4 (w : World) (g : Nat) (a b c d : Value) : Chg (fun k => k = g) w ((((w.setCell ⟨g, 0, none⟩ a).setCell ⟨g, 1, none⟩ b).setCell ⟨g, 2, none⟩ c).setCell ⟨g, 3, none⟩ d) := ((((Chg.refl (fun k => k = g) _).setCell g 0 a (fun _ => rfl)).setCell g 1 b (fun _ => rfl)).setCell g 2 c (fun _ => rfl)).setCell g 3 d (fun _ => rfl)
structure dw (B : Nat) (w : World) (x : EnV) (e : S.Ent) : Prop where
 key : ∃ q, x.ka = some ⟨q, 0, none⟩ /\ x.kn = e.key.length /\ x.kc = e.key.length /\ B <= q /\ w.heap[q]? = some (.cells (S.v8 e.key) 5 (0, 0))
 val : (x.va = none /\ x.vn = 0 /\ x.vc = 0 /\ e.val = []) \/ ∃ q, x.va = some ⟨q, 0, none⟩ /\ x.vn = e.val.length /\ x.vc = e.val.length /\ B <= q /\ w.heap[q]? = some (.cells (S.v8 e.val) 5 (0, 0)) /\ x.ka ≠ some ⟨q, 0, none⟩
 page : x.pg = (e.page : Int)
theorem dw.is {B : Nat} {w : World} {x : EnV} {e : S.Ent} (h : dw B w x e) (hk : e.key.length <= 1000000) (hv : e.val.length <= 1000000) : nG w x e := by
 obtain ⟨q, h1, h2, h3, _, h5⟩ := h.key
 refine ⟨?_, ?_, h.page⟩
 ·unfold EnV.key
  rw [h1, h2, h3]
  exact az h5 rfl (by omega)
 ·unfold EnV.val
  rcases h.val with ⟨a, b, c, d⟩ | ⟨q2, a, b, c, _, d, _⟩
  ·rw [a, b, c, d]; exact Or.inl ⟨rfl, rfl⟩
  ·rw [a, b, c]; exact az d rfl (by omega)
theorem dw.chg {p : Nat -> Prop} {B : Nat} {w W : World} {x : EnV} {e : S.Ent} (h : dw B w x e) (hc : Chg p w W) (hp : ∀ k c, w.heap[k]? = some (.cells c 5 (0, 0)) -> ¬ p k) : dw B W x e := by
 obtain ⟨q, h1, h2, h3, h4, h5⟩ := h.key
 refine ⟨⟨q, h1, h2, h3, h4, hc.row h5 (hp q _ h5)⟩, ?_, h.page⟩
 rcases h.val with a | ⟨q2, a, b, c, b4, d, ne⟩
 ·exact Or.inl a
 ·exact Or.inr ⟨q2, a, b, c, b4, hc.row d (hp q2 _ d), ne⟩
theorem dw.below {B : Nat} {w W : World} {x : EnV} {e : S.Ent} (h : dw B w x e) (hb : Below w.heap.size w W) : dw B W x e := h.chg (p := fun _ => False) (Chg.ofBelow' hb) (fun _ _ _ e => e)
theorem bq {w : World} {a b : Nat} {c c' : Array Value} {t t' : TypeId} {p p' : Nat × Nat} (h : w.heap[a]? = some (.cells c t p)) (h' : w.heap[b]? = some (.cells c' t' p')) (ht : t ≠ t') : a ≠ b := fun e => by
 subst e
 rw [h] at h'
 injection h' with h'
 injection h' with _ h2 _
 exact ht h2
theorem dw.mono {B B' : Nat} {w : World} {x : EnV} {e : S.Ent} (h : dw B w x e) (hB : B' <= B) : dw B' w x e := by
 obtain ⟨q, h1, h2, h3, h4, h5⟩ := h.key
 refine ⟨⟨q, h1, h2, h3, by omega, h5⟩, ?_, h.page⟩
 rcases h.val with a | ⟨q2, a, b, c, b4, d, ne⟩
 ·exact Or.inl a
 ·exact Or.inr ⟨q2, a, b, c, by omega, d, ne⟩

set_option maxHeartbeats 2000000 in
set_option maxRecDepth 10000 in
theorem xu (g t k : Nat) (es : List S.Ent) (x : S.Ent) (w : World) (hx : es[k]? = some x) (hok : S.jT 0 x) (hr : dh w g t ⟨S.aN 0 es, S.npl 0 es k, 0, 0⟩) :
  Calls Tryz.prog 108 #[.pointer (some ⟨g, 0, none⟩), .int .i64 (0 : Nat)] w fun e w' => ∃ y, e = .returned (.agg (aR y).toArray) /\ dw w.heap.size w' y x /\ y.nd = none /\ dh w' g t ⟨S.aN 0 es, S.npl 0 es (k + 1), 0, 0⟩ /\ Chg (fun k => k = g) w w' := by
 have E1 := hide (S.xH hx hok)
 have E2 := hide (S.EM hx hok)
 have GL := hr.lt
 have TLt := hr.tlt
 have HOK := hide hok
 have vl := hok.val
 obtain ⟨T, hT⟩ : ∃ T, T = S.aN 0 es := ⟨_, rfl⟩
 obtain ⟨p0, hp0⟩ : ∃ p0, p0 = S.npl 0 es k := ⟨_, rfl⟩
 obtain ⟨p1, hp1⟩ : ∃ p1, p1 = S.npl 0 es k + 2 + x.key.length := ⟨_, rfl⟩
 obtain ⟨p2, hp2⟩ : ∃ p2, p2 = S.npl 0 es (k + 1) := ⟨_, rfl⟩
 rw [<- hT, <- hp1, <- hp2] at E2
 rw [<- hT, <- hp0] at hr
 rw [<- hT, <- hp1, <- hp0] at E1
 rw [<- hT, <- hp2]
 have R0 := hide hr
 clear hr hT hp0 hp1 hp2 hx hok
 go_enter Tryz.func108, Tryz.ntmps108
 go_wp2_with fail
 obtain ⟨w1, hw1⟩ : ∃ w1, w1 = w.alloc (.cells #[.slice none 0 0, .slice none 0 0, .int .i64 0, .pointer none] 95) := ⟨_, rfl⟩
 rw [<- hw1]
 have b1 : Below w.heap.size w w1 := by rw [hw1]; exact ba ..
 have A1 : Hid (w1.heap[w.heap.size]? = some (.cells #[.slice none 0 0, .slice none 0 0, .int .i64 0, .pointer none] 95 (0, 0))) := by rw [hw1]; exact heap_alloc_new _ _
 have R1 := hide (R0.out.below b1)
 obtain ⟨gr, hgr⟩ : ∃ gr, gr = w.heap.size := ⟨_, rfl⟩
 rw [<- hgr] at A1 ⊢
 have HGR := hide hgr
 have GRL : Hid (gr < w1.heap.size) := aa A1.out
 have B1 := hide b1
 clear hw1 hgr b1 R0
 refine (jQ g t w1 E1.out R1.out).mono ?_
 rintro e w2 ⟨q1, rfl, g2, r2, d2, c2⟩
 have C2 := hide c2
 have K2 := hide r2
 have R2 := hide d2
 have A2 : Hid (w2.heap[gr]? = some (.cells #[.slice none 0 0, .slice none 0 0, .int .i64 0, .pointer none] 95 (0, 0))) := c2.row A1.out (by have := HGR.out; omega)
 have GQ : Hid (w1.heap.size <= q1) := g2
 obtain ⟨kn, hkn⟩ : ∃ kn, kn = x.key.length := ⟨_, rfl⟩
 rw [<- hkn]
 have HKN := hide hkn
 clear r2 d2 c2 g2 A1 R1 hkn
 go_wp2_with fail
 obtain ⟨w3, hw3⟩ : ∃ w3, w3 = w2.alloc (.cells #[.slice (some ⟨q1, 0, none⟩) kn kn, .slice none 0 0, .int .i64 0, .pointer none] 95) := ⟨_, rfl⟩
 rw [<- hw3]
 have b3 : Below w2.heap.size w2 w3 := by rw [hw3]; exact ba ..
 have D3 : Hid (w3.heap[w2.heap.size]? = some (.cells #[.slice (some ⟨q1, 0, none⟩) kn kn, .slice none 0 0, .int .i64 0, .pointer none] 95 (0, 0))) := by rw [hw3]; exact heap_alloc_new _ _
 have R3 := hide (R2.out.below b3)
 have A3 : Hid (w3.heap[gr]? = some (.cells #[.slice none 0 0, .slice none 0 0, .int .i64 0, .pointer none] 95 (0, 0))) := (b3.block gr (aa A2.out)).trans A2.out
 have K3 : Hid (w3.heap[q1]? = some (.cells (S.v8 x.key) 5 (0, 0))) := (b3.block q1 (aa K2.out)).trans K2.out
 have C3 : Hid (Chg (fun k => k = g) w1 w3) := C2.out.trans (Chg.ofBelow' (p := fun k => k = g) b3) (fun _ _ e => e)
 have QL : Hid (q1 < w2.heap.size /\ gr < w2.heap.size /\ g < w2.heap.size /\ t < w2.heap.size) := ⟨aa K2.out, aa A2.out, R2.out.lt, R2.out.tlt⟩
 obtain ⟨gv, hgv⟩ : ∃ gv, gv = w2.heap.size := ⟨_, rfl⟩
 rw [<- hgv] at D3 QL ⊢
 clear hw3 hgv b3 A2 R2 K2 C2
 refine (jQ g t w3 E2.out R3.out).mono ?_
 rintro e w4 ⟨q2, rfl, g4, r4, d4, c4⟩
 have C4 : Hid (Chg (fun k => k = g) w1 w4) := C3.out.trans c4 (fun _ _ e => e)
 have D4 : Hid (w4.heap[gv]? = some (.cells #[.slice (some ⟨q1, 0, none⟩) kn kn, .slice none 0 0, .int .i64 0, .pointer none] 95 (0, 0))) := c4.row D3.out (by have := QL.out; omega)
 have A4 : Hid (w4.heap[gr]? = some (.cells #[.slice none 0 0, .slice none 0 0, .int .i64 0, .pointer none] 95 (0, 0))) := c4.row A3.out (by have := HGR.out; omega)
 have K4 : Hid (w4.heap[q1]? = some (.cells (S.v8 x.key) 5 (0, 0))) := c4.row K3.out (by have := GQ.out; have := B1.out.size; omega)
 have R4 := hide d4
 have GQ2 : Hid (gv < q2) := Nat.lt_of_lt_of_le (aa D3.out) g4
 have V4 := hide r4
 obtain ⟨vn, hvn⟩ : ∃ vn, vn = x.val.length := ⟨_, rfl⟩
 rw [<- hvn]
 have HVN := hide hvn
 clear g4 r4 hvn
 obtain ⟨d0, d1, d2, d3⟩ := aQ D4.out
 have f0 := frozen_of_row _ _ 0 _ _ D4.out
 have f1 := frozen_of_row _ _ 1 _ _ D4.out
 clear d4 c4 R3 A3 K3 D3 C3
 have a4 := A4.out
 obtain ⟨a0, a1, a2, a3⟩ := aQ a4
 have fa0 := frozen_of_row _ _ 0 _ _ a4
 have fa1 := frozen_of_row _ _ 1 _ _ a4
 have fa2 := frozen_of_row _ _ 2 _ _ a4
 have fa3 := frozen_of_row _ _ 3 _ _ a4
 have ne : ¬ gv = gr := by have := QL.out; omega
 have ne2 : ¬ gr = gv := by have := QL.out; omega
 clear a4
 go_wp2_with fail
 obtain ⟨w5, hw5⟩ : ∃ w5, w5 = w4.setCell ⟨gv, 1, none⟩ (.slice (some ⟨q2, 0, none⟩) vn vn) := ⟨_, rfl⟩
 rw [<- hw5]
 have c5 : Chg (fun k => k = gv) w4 w5 := by rw [hw5]; exact (Chg.refl (fun k => k = gv) _).setCell gv 1 _ (fun _ => rfl)
 have a5 := c5.row A4.out ne2
 have hr := set4 (Value.slice (some ⟨q1, 0, none⟩) kn kn) (.slice (some ⟨q2, 0, none⟩) vn vn) (.int .i64 0) (.pointer none) a5
 have hc := chg4 w5 gr (Value.slice (some ⟨q1, 0, none⟩) kn kn) (.slice (some ⟨q2, 0, none⟩) vn vn) (.int .i64 0) (.pointer none)
 refine bodyPost_ret (bi Tryz.results108 _ _ gr _ rfl (kC hr)) rfl ?_
 have hz := HGR.out
 have hz1 := GRL.out
 have hql := QL.out
 have hgq := GQ.out
 have hb1 := B1.out.size
 have hgrl := aa A4.out
 have C14 : Chg (fun k => k = g) w w4 := (Chg.ofBelow' (p := fun k => k = g) B1.out).trans C4.out (fun _ _ e => e)
 have C15 : Chg (fun k => k = g) w w5 := C14.trans c5 (fun j hj e => by omega)
 have C16 := C15.trans hc (fun j hj e => by omega)
 refine ⟨⟨some ⟨q1, 0, none⟩, kn, kn, some ⟨q2, 0, none⟩, vn, vn, 0, none⟩, rfl, ⟨⟨q1, rfl, HKN.out, HKN.out, by omega, hc.row (c5.row K4.out (by omega)) (by omega)⟩, Or.inr ⟨q2, rfl, HVN.out, HVN.out, by have := GQ2.out; omega, hc.row (c5.row V4.out (by have := GQ2.out; omega)) (by have := GQ2.out; omega), fun e => by injection e with e; injection e with e; have := GQ2.out; omega⟩, by have := HOK.out.no; rw [if_pos rfl] at this; rw [this]; rfl⟩, rfl, ?_, C16⟩
 exact (R4.out.chg c5 (by omega) (by omega)).chg hc (by omega) (by omega)

set_option maxHeartbeats 2000000 in
set_option maxRecDepth 10000 in
theorem xq (g t k lv : Nat) (es : List S.Ent) (x : S.Ent) (w : World) (hlv : lv ≠ 0) (_h256 : lv < 256) (hx : es[k]? = some x) (hok : S.jT lv x) (hr : dh w g t ⟨S.aN lv es, S.npl lv es k, 0, 0⟩) :
  Calls Tryz.prog 108 #[.pointer (some ⟨g, 0, none⟩), .int .i64 (lv : Nat)] w fun e w' => ∃ y, e = .returned (.agg (aR y).toArray) /\ dw w.heap.size w' y x /\ y.nd = none /\ dh w' g t ⟨S.aN lv es, S.npl lv es (k + 1), 0, 0⟩ /\ Chg (fun k => k = g) w w' := by
 have E1 := hide (S.xH hx hok)
 have E2 := hide (S.BM hx hok hlv)
 have GL := hr.lt
 have TLt := hr.tlt
 have HOK := hide hok
 have pl := hok.page
 have hl0 : ¬ (lv : Int) = 0 := by omega
 have hl1 : ((lv : Int) == 0) = false := beq_false_of_ne hl0
 have NO : Hid (x.val = []) := by have := hok.no; rw [if_neg hlv] at this; exact this
 obtain ⟨T, hT⟩ : ∃ T, T = S.aN lv es := ⟨_, rfl⟩
 obtain ⟨p0, hp0⟩ : ∃ p0, p0 = S.npl lv es k := ⟨_, rfl⟩
 obtain ⟨p1, hp1⟩ : ∃ p1, p1 = S.npl lv es k + 2 + x.key.length := ⟨_, rfl⟩
 obtain ⟨p2, hp2⟩ : ∃ p2, p2 = S.npl lv es (k + 1) := ⟨_, rfl⟩
 rw [<- hT, <- hp1, <- hp2] at E2
 rw [<- hT, <- hp0] at hr
 rw [<- hT, <- hp1, <- hp0] at E1
 rw [<- hT, <- hp2]
 have R0 := hide hr
 clear hr hT hp0 hp1 hp2 hx hok
 go_enter Tryz.func108, Tryz.ntmps108
 go_wp2_with fail
 obtain ⟨w1, hw1⟩ : ∃ w1, w1 = w.alloc (.cells #[.slice none 0 0, .slice none 0 0, .int .i64 0, .pointer none] 95) := ⟨_, rfl⟩
 rw [<- hw1]
 have b1 : Below w.heap.size w w1 := by rw [hw1]; exact ba ..
 have A1 : Hid (w1.heap[w.heap.size]? = some (.cells #[.slice none 0 0, .slice none 0 0, .int .i64 0, .pointer none] 95 (0, 0))) := by rw [hw1]; exact heap_alloc_new _ _
 have R1 := hide (R0.out.below b1)
 obtain ⟨gr, hgr⟩ : ∃ gr, gr = w.heap.size := ⟨_, rfl⟩
 rw [<- hgr] at A1 ⊢
 have HGR := hide hgr
 have GRL : Hid (gr < w1.heap.size) := aa A1.out
 have B1 := hide b1
 clear hw1 hgr b1 R0
 refine (jQ g t w1 E1.out R1.out).mono ?_
 rintro e w2 ⟨q1, rfl, g2, r2, d2, c2⟩
 have C2 := hide c2
 have K2 := hide r2
 have R2 := hide d2
 have A2 : Hid (w2.heap[gr]? = some (.cells #[.slice none 0 0, .slice none 0 0, .int .i64 0, .pointer none] 95 (0, 0))) := c2.row A1.out (by have := HGR.out; omega)
 have GQ : Hid (w1.heap.size <= q1) := g2
 obtain ⟨kn, hkn⟩ : ∃ kn, kn = x.key.length := ⟨_, rfl⟩
 rw [<- hkn]
 have HKN := hide hkn
 clear r2 d2 c2 g2 A1 R1 hkn
 go_wp2_with fail
 obtain ⟨w3, hw3⟩ : ∃ w3, w3 = w2.alloc (.cells #[.slice (some ⟨q1, 0, none⟩) kn kn, .slice none 0 0, .int .i64 0, .pointer none] 95) := ⟨_, rfl⟩
 rw [<- hw3]
 have b3 : Below w2.heap.size w2 w3 := by rw [hw3]; exact ba ..
 have D3 : Hid (w3.heap[w2.heap.size]? = some (.cells #[.slice (some ⟨q1, 0, none⟩) kn kn, .slice none 0 0, .int .i64 0, .pointer none] 95 (0, 0))) := by rw [hw3]; exact heap_alloc_new _ _
 have R3 := hide (R2.out.below b3)
 have A3 : Hid (w3.heap[gr]? = some (.cells #[.slice none 0 0, .slice none 0 0, .int .i64 0, .pointer none] 95 (0, 0))) := (b3.block gr (aa A2.out)).trans A2.out
 have K3 : Hid (w3.heap[q1]? = some (.cells (S.v8 x.key) 5 (0, 0))) := (b3.block q1 (aa K2.out)).trans K2.out
 have C3 : Hid (Chg (fun k => k = g) w1 w3) := C2.out.trans (Chg.ofBelow' (p := fun k => k = g) b3) (fun _ _ e => e)
 have QL : Hid (q1 < w2.heap.size /\ gr < w2.heap.size /\ g < w2.heap.size /\ t < w2.heap.size) := ⟨aa K2.out, aa A2.out, R2.out.lt, R2.out.tlt⟩
 obtain ⟨gv, hgv⟩ : ∃ gv, gv = w2.heap.size := ⟨_, rfl⟩
 rw [<- hgv] at D3 QL ⊢
 clear hw3 hgv b3 A2 R2 K2 C2
 refine (eO g t w3 E2.out R3.out).mono ?_
 rintro e w4 ⟨rfl, d4, c4⟩
 have C4 : Hid (Chg (fun k => k = g) w1 w4) := C3.out.trans c4 (fun _ _ e => e)
 have D4 : Hid (w4.heap[gv]? = some (.cells #[.slice (some ⟨q1, 0, none⟩) kn kn, .slice none 0 0, .int .i64 0, .pointer none] 95 (0, 0))) := c4.row D3.out (by have := QL.out; omega)
 have A4 : Hid (w4.heap[gr]? = some (.cells #[.slice none 0 0, .slice none 0 0, .int .i64 0, .pointer none] 95 (0, 0))) := c4.row A3.out (by have := HGR.out; omega)
 have K4 : Hid (w4.heap[q1]? = some (.cells (S.v8 x.key) 5 (0, 0))) := c4.row K3.out (by have := GQ.out; have := B1.out.size; omega)
 have R4 := hide d4
 have k1 : IntKind.i64.wrap (x.page : Int) = (x.page : Int) := by rw [IntKind.wrap_i64]; omega
 obtain ⟨d0, d1, d2, d3⟩ := aQ D4.out
 have f0 := frozen_of_row _ _ 0 _ _ D4.out
 have f1 := frozen_of_row _ _ 2 _ _ D4.out
 clear d4 c4 R3 A3 K3 D3 C3
 have a4 := A4.out
 obtain ⟨a0, a1, a2, a3⟩ := aQ a4
 have fa0 := frozen_of_row _ _ 0 _ _ a4
 have fa1 := frozen_of_row _ _ 1 _ _ a4
 have fa2 := frozen_of_row _ _ 2 _ _ a4
 have fa3 := frozen_of_row _ _ 3 _ _ a4
 have ne : ¬ gv = gr := by have := QL.out; omega
 have ne2 : ¬ gr = gv := by have := QL.out; omega
 clear a4
 go_wp2_with fail
 obtain ⟨w5, hw5⟩ : ∃ w5, w5 = w4.setCell ⟨gv, 2, none⟩ (.int .i64 (x.page : Int)) := ⟨_, rfl⟩
 rw [<- hw5]
 have c5 : Chg (fun k => k = gv) w4 w5 := by rw [hw5]; exact (Chg.refl (fun k => k = gv) _).setCell gv 2 _ (fun _ => rfl)
 have a5 := c5.row A4.out ne2
 have hr := set4 (Value.slice (some ⟨q1, 0, none⟩) kn kn) (.slice none 0 0) (.int .i64 (x.page : Int)) (.pointer none) a5
 have hc := chg4 w5 gr (Value.slice (some ⟨q1, 0, none⟩) kn kn) (.slice none 0 0) (.int .i64 (x.page : Int)) (.pointer none)
 refine bodyPost_ret (bi Tryz.results108 _ _ gr _ rfl (kC hr)) rfl ?_
 have hz := HGR.out
 have hz1 := GRL.out
 have hql := QL.out
 have hgq := GQ.out
 have hb1 := B1.out.size
 have hgrl := aa A4.out
 have C14 : Chg (fun k => k = g) w w4 := (Chg.ofBelow' (p := fun k => k = g) B1.out).trans C4.out (fun _ _ e => e)
 have C15 : Chg (fun k => k = g) w w5 := C14.trans c5 (fun j hj e => by omega)
 have C16 := C15.trans hc (fun j hj e => by omega)
 refine ⟨⟨some ⟨q1, 0, none⟩, kn, kn, none, 0, 0, (x.page : Int), none⟩, rfl, ⟨⟨q1, rfl, HKN.out, HKN.out, by omega, hc.row (c5.row K4.out (by omega)) (by omega)⟩, Or.inl ⟨rfl, rfl, rfl, NO.out⟩, rfl⟩, rfl, ?_, C16⟩
 exact (R4.out.chg c5 (by omega) (by omega)).chg hc (by omega) (by omega)

theorem mJ (g t k lv : Nat) (es : List S.Ent) (x : S.Ent) (w : World) (h256 : lv < 256) (hx : es[k]? = some x) (hok : S.jT lv x) (hr : dh w g t ⟨S.aN lv es, S.npl lv es k, 0, 0⟩) :
  Calls Tryz.prog 108 #[.pointer (some ⟨g, 0, none⟩), .int .i64 (lv : Int)] w fun e w' => ∃ y, e = .returned (.agg (aR y).toArray) /\ dw w.heap.size w' y x /\ y.nd = none /\ dh w' g t ⟨S.aN lv es, S.npl lv es (k + 1), 0, 0⟩ /\ Chg (fun k => k = g) w w' := by
 by_cases e : lv = 0
 ·subst e
  exact xu g t k es x w hx hok hr
 ·exact xq g t k lv es x w e h256 hx hok hr
end Go.Proofs.YteealihknndclabGreatDoor
