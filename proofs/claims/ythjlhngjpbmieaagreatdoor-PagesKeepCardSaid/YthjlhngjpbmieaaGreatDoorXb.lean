/- Open, Read and settled, whatever is away. -/
import Derived.Test.YthjlhngjpbmieaaGreatDoorWa
import Derived.Test.YthjlhngjpbmieaaGreatDoorWb
import Derived.Test.YthjlhngjpbmieaaGreatDoorUd
namespace Go.Proofs.YthjlhngjpbmieaaGreatDoor
open Go.RowKit

/-- Pages on a disk that may stop, whatever is away. -/
structure Pw (w0 w : World) (o : Ow) (d : S.Dk) (p t : Nat) (ns : List Nat) (pg : Nat → List UInt8) : Prop where
  dk : Dsk w o d
  pend : d.pend = []
  has : S.Pgs d.safe p t ns pg
  ob : ∀ k, o.has k → w0.heap.size ≤ k
  below : Below w0.heap.size w0 w
  pos : 0 < w0.heap.size
theorem Pw.then {w0 w W : World} {o : Ow} {d : S.Dk} {p t : Nat} {ns : List Nat} {pg : Nat → List UInt8} (h : Pw w0 w o d p t ns pg) (hb : Below w.heap.size w W) : Pw w0 W o d p t ns pg :=
  ⟨h.dk.below hb, h.pend, h.has, h.ob, h.below.trans (hb.mono h.below.size), h.pos⟩
theorem Pw.n {w0 w : World} {o : Ow} {d : S.Dk} {p t : Nat} {pg : Nat → List UInt8} (h : Pw w0 w o d p t [] pg) : Pn w0 w o d p t pg := ⟨h.dk, h.pend, h.has.len, h.has.mark, h.has.log, fun n hn => h.has.home n hn (by simp), h.ob, h.below, h.pos⟩
theorem Pw.m {w0 w : World} {o : Ow} {d : S.Dk} {p t : Nat} {ns : List Nat} {pg : Nat → List UInt8} (h : Pw w0 w o d p t ns pg) (hne : ns ≠ []) : Pm w0 w o d p t ns (ns.map pg) pg :=
  ⟨h.dk, h.pend, h.has.len, h.has.mark, by have := h.has.log; rw [S.recs_ne hne] at this; exact this, fun i hi => by rw [S.map_getD pg ns i hi]; exact h.has.spare i hi, h.has.home, h.ob, h.below, h.pos, h.has.nb, h.has.up, hne, h.has.le⟩
theorem S.map_at (X : Nat → List UInt8) (ns : List Nat) (n : Nat) (h : n ∈ ns) : (ns.map X).getD (ns.idxOf n) [] = X n := by
  have hi := List.idxOf_lt_length_of_mem h
  rw [S.map_getD X ns _ hi, List.getD_eq_getElem?_getD, List.getElem?_eq_getElem hi, Option.getD_some, List.getElem_idxOf hi]
theorem popen_all (w0 w : World) (o : Ow) (d : S.Dk) (p t : Nat) (ns : List Nat) (pg : Nat → List UInt8) (h : Pw w0 w o d p t ns pg) :
   Calls Tryz.prog 10 #[o.ptr] w fun e w' => ∃ gs, e = .returned (.tuple #[.pointer (some ⟨gs, 0, none⟩), .int .i64 0]) ∧ StAt w' gs o ∧ w.heap.size ≤ gs ∧ Pw w0 w' o d p t ns pg ∧ Below w.heap.size w w' := by
  by_cases e : ns = []
  · subst e
    refine (popen_n w0 w o d p t pg h.n).mono ?_
    rintro e w' ⟨gs, rfl, h1, h2, _, h4⟩
    exact ⟨gs, rfl, h1, h2, h.then h4, h4⟩
  · refine (popen_mid w0 w o d p t ns (ns.map pg) pg (h.m e)).mono ?_
    rintro e w' ⟨gs, rfl, h1, h2, _, h4⟩
    exact ⟨gs, rfl, h1, h2, h.then h4, h4⟩
theorem pread_all (w0 w : World) (o : Ow) (d : S.Dk) (p t gs n : Nat) (ns : List Nat) (pg : Nat → List UInt8) (h : Pw w0 w o d p t ns pg) (hs : StAt w gs o) (hn : n < 512) :
   Calls Tryz.prog 11 #[.pointer (some ⟨gs, 0, none⟩), .int .i64 (n : Int)] w fun e w' => ∃ gp, e = .returned (.tuple #[.slice (some ⟨gp, 0, none⟩) 1024 1024, .int .i64 0]) ∧ w.heap.size ≤ gp ∧ Room w' gp 1024 (pg n) ∧ Pw w0 w' o d p t ns pg ∧ StAt w' gs o ∧ Below w.heap.size w w' := by
  by_cases e : ns = []
  · subst e
    refine (pread_n w0 w o d p t gs n pg h.n hs hn).mono ?_
    rintro e w' ⟨gp, rfl, h1, h2, _, h4, h5⟩
    exact ⟨gp, rfl, h1, h2, h.then h5, h4, h5⟩
  · refine (pread_mid w0 w o d p t gs n ns (ns.map pg) pg (h.m e) hs hn).mono ?_
    rintro e w' ⟨gp, rfl, h1, h2, _, h4, h5⟩
    refine ⟨gp, rfl, h1, ?_, h.then h5, h4, h5⟩
    by_cases hin : n ∈ ns
    · rw [if_pos hin, S.map_at pg ns n hin] at h2
      exact h2
    · rw [if_neg hin] at h2
      exact h2
/-- Behind settled, wherever it stopped. -/
structure SetA (w0 w w' : World) (g gs : Nat) (o o' : Ow) (d d' : S.Dk) (b : Bool) (p t : Nat) (ns : List Nat) (pg : Nat → List UInt8) : Prop where
  plan : d.plan (S.settleActs d p t ns pg) = (d', b)
  dk : Dsk w' o' d'
  ptr : o'.g = o.g
  ob : ∀ k, o'.has k → w0.heap.size ≤ k
  below : Below w0.heap.size w0 w'
  st : StAt w' gs o'
  chg : Chg o.has w w'
  own : ∀ k, o'.has k → o.has k ∨ w.heap.size ≤ k
  gw : w.heap.size ≤ g
  lo : b = true → ∃ tv, Lo w0 w' o' d' g 1 4 (S.pA p ns) (S.tA t ns) [] tv ∧ ∀ k, tv.ownBlock = some k → w.heap.size ≤ k
set_option maxHeartbeats 4000000 in
set_option maxRecDepth 10000 in
theorem settled_mid (w0 w : World) (o : Ow) (d : S.Dk) (p t gs : Nat) (ns : List Nat) (pg : Nat → List UInt8) (h : Pw w0 w o d p t ns pg) (hne : ns ≠ []) (hs : StAt w gs o) (hgs : ¬ o.has gs) (ht : t + 1 < 18446744073709551616) :
   Calls Tryz.prog 31 #[.pointer (some ⟨gs, 0, none⟩)] w fun e w' => ∃ g b d' o', e = .returned (.tuple #[.pointer (some ⟨g, 0, none⟩), .int .i64 (S.why b)]) ∧ SetA w0 w w' g gs o o' d d' b p t ns pg := by
  have P0 := hide (h.m hne)
  have NGS := hide hgs
  have HGSL : Hid (gs < w.heap.size) := block_lt_of_row hs
  have HSZ : Hid (∀ n ∈ ns, (pg n).length = 1024) := fun n hn => h.has.size n (h.has.nb n hn)
  have HNE : Hid (S.settleActs d p t ns pg = S.homeActs d p t ns (ns.map pg)) := if_neg hne
  have HPA : Hid (S.pA p ns = 1 - p) := if_neg hne
  have HTA : Hid (S.tA t ns = t + 1) := if_neg hne
  have S0 := hide hs
  clear h hs hgs hne
  have c0 := st_cell S0.out
  go_enter Tryz.func31, Tryz.ntmps31
  go_wp2_with fail
  have hptr : o.ptr = .pointer (some ⟨o.g, 0, none⟩) := rfl
  rw [← hptr]
  refine (settle_none o d w P0.out.dk.dk P0.out.pend).mono ?_
  rintro e w1 ⟨rfl, rfl⟩
  rw [hptr]
  go_wp2_with fail
  rw [← hptr]
  refine (look_mid w0 w o d p t ns (ns.map pg) pg P0.out).mono ?_
  rintro e w1 ⟨g, tv, rfl, hlo, hgb, htb, b1⟩
  have LO1 := hide hlo
  have P1 := hide (P0.out.then b1)
  have B1 := hide b1
  have S1 : Hid (StAt w1 gs o) := (b1.block gs (block_lt_of_row S0.out)).trans S0.out
  have G1 : Hid (w.heap.size ≤ g ∧ ∀ k, tv.ownBlock = some k → w.heap.size ≤ k) := ⟨hgb, htb⟩
  clear hlo hgb htb b1 P0 S0 c0
  have hal := alloc57 w1
  obtain ⟨w3, hst, r3, b3⟩ := made57 w1 (S.setL ns) (S.setL_length ns)
  have LO3 := hide (LO1.out.then b3)
  have P3 := hide (P1.out.then b3)
  have B3 := hide (B1.out.trans (b3.mono B1.out.size))
  have ST3 : Hid (StAt w3 gs o) := (b3.block gs (block_lt_of_row S1.out)).trans S1.out
  have R3 := hide r3
  obtain ⟨w2, hw2⟩ : ∃ w2, w2 = w1.alloc (.cells (S.v8 (S.zeros 64)) 65) := ⟨_, rfl⟩
  rw [← hw2] at hal hst
  have hgl1 := block_lt_of_row LO1.out.log.lg.row
  have NX : Hid (¬ (o.has w1.heap.size ∨ w1.heap.size = g ∨ tv.ownBlock = some w1.heap.size)) := fun e => by
    rcases e with e | e | e
    · have := LO1.out.log.dk.dk.lt _ e; omega
    · omega
    · have := LO1.out.log.lg.text.lt e; omega
  have NS : Hid (¬ (o.has gs ∨ gs = g ∨ tv.ownBlock = some gs)) := fun e => by
    have h1 := HGSL.out
    rcases e with e | e | e
    · exact NGS.out e
    · have := G1.out.1; omega
    · have := G1.out.2 _ e; omega
  obtain ⟨g6, hg6⟩ : ∃ g6, g6 = w1.heap.size := ⟨_, rfl⟩
  rw [← hg6] at hal hst R3 NX
  rw [hptr]
  clear r3 b3 hw2 hg6 hgl1 P1 B1 S1 LO1 hptr
  go_upto_region 7 with (first | (with_reducible refine at_op ⟨some 6, .alloc 65, 0, "pages.go:98", #[], none⟩ ?_; refine wpList_alloc_known rfl 65 rfl (.pointer (some ⟨g6, 0, none⟩)) w2 hal ?_) | (with_reducible refine at_op ⟨none, .store 65 (.tmp 6) (.tmp 23), 0, "pages.go:98", #[⟨9, .data⟩, ⟨7, .data⟩, ⟨10, .chain⟩, ⟨0, .phase⟩, ⟨1, .phase⟩, ⟨2, .phase⟩, ⟨3, .phase⟩, ⟨4, .phase⟩, ⟨5, .phase⟩, ⟨6, .phase⟩, ⟨7, .phase⟩, ⟨8, .textOnly .lateStores⟩, ⟨9, .phase⟩, ⟨10, .phase⟩], none⟩ ?_; refine wpList_store_as rfl 65 (.tmp 6) (.tmp 23) rfl (.pointer (some ⟨g6, 0, none⟩)) (.agg (S.v8 (S.setL ns))) rfl rfl w3 hst ?_))
  clear hal hst
  refine wp_region_noPanic ?_
  refine wp_region_held_drew (S := (fun W => W.heap[gs]? = some (.cells #[.pointer (some ⟨o.g, 0, none⟩)] 69 (0, 0)) ∧ W.heap[g6]? = some (.cells (S.v8 (S.setL ns)) 65 (0, 0)))) follows ⟨ST3.out, R3.out⟩ (fun hHeld => ?_)
  have LOd := hide (LO3.out.then (Below.refl w3.heap.size w3).drew)
  have P3d := hide (P3.out.then (Below.refl w3.heap.size w3).drew)
  have B3d : Hid (Below w.heap.size w w3.drew) := B3.out.drew
  clear LO3 P3 B3 ST3 R3
  generalize w3.drew = Z1 at LOd P3d B3d hHeld ⊢
  refine tk 0 ?_ rfl (Or.inl ⟨by rfl, ?_⟩) ?_
  rotate_left
  · intro w hSw
    clear hSw
    go_simp
    all_goals with_reducible rfl
  simp only [Act.put, List.setIfInBounds_toArray, List.set_cons_zero, List.set_cons_succ]
  refine tk 1 ?_ rfl (Or.inl ⟨by rfl, ?_⟩) ?_
  rotate_left
  · intro w hSw
    clear hSw
    go_simp
    all_goals with_reducible rfl
  simp only [Act.put, List.setIfInBounds_toArray, List.set_cons_zero, List.set_cons_succ]
  refine tk 2 ?_ rfl (Or.inl ⟨by rfl, ?_⟩) ?_
  rotate_left
  · intro w hSw
    clear hSw
    go_simp
    all_goals with_reducible rfl
  simp only [Act.put, List.setIfInBounds_toArray, List.set_cons_zero, List.set_cons_succ]
  refine tk 3 ?_ rfl (Or.inl ⟨by rfl, ?_⟩) ?_
  rotate_left
  · intro w hSw
    clear hSw
    go_simp
    all_goals with_reducible rfl
  simp only [Act.put, List.setIfInBounds_toArray, List.set_cons_zero, List.set_cons_succ]
  refine tk 4 ?_ rfl (Or.inl ⟨by rfl, ?_⟩) ?_
  rotate_left
  · intro w hSw
    have c0 := st_cell hSw.1
    clear hSw
    go_simp
    all_goals with_reducible rfl
  simp only [Act.put, List.setIfInBounds_toArray, List.set_cons_zero, List.set_cons_succ]
  refine tk 5 ?_ rfl (Or.inl ⟨by rfl, ?_⟩) ?_
  rotate_left
  · intro w hSw
    clear hSw
    go_simp
    all_goals with_reducible rfl
  simp only [Act.put, List.setIfInBounds_toArray, List.set_cons_zero, List.set_cons_succ]
  refine wpAnyH_take (i := 6) (oi := ⟨_, _, _, _, _, _⟩) (v := .agg (S.v8 (S.setL ns))) rfl (by kernel_rfl) (by kernel_rfl) (by kernel_rfl) (fun _ _ _ h => h) (yieldsIf_load57 (by kernel_rfl) (.tmp 6) rfl g6 rfl (S.setL_length ns) (fun W hW => hW.2)) (by assumption) ?_
  simp only [Act.put, List.setIfInBounds_toArray, List.set_cons_zero, List.set_cons_succ]
  refine wpAnyH_ready (rs := [7]) (by kernel_rfl) (by simp) ?_
  refine AllReadyH.cons (o := { dst := some 35, op := Op.call { callee := Callee.value (Operand.func 35), args := #[Operand.tmp 32, Operand.tmp 33, Operand.tmp 34], argTypes := #[22, 63, 65] }, type := 26, pos := "pages.go:102", after := #[⟨4, .data⟩, ⟨5, .data⟩, ⟨6, .data⟩], guard := none }) rfl (fun K hK => ?_) AllReadyH.nil
  go_simp
  have BH := bringHome_any w0 Z1 o d g p t tv ns (ns.map pg) LOd.out P3d.out.len P3d.out.nb P3d.out.up P3d.out.ne P3d.out.le (fun i hi => ⟨by rw [S.map_getD pg ns i hi]; exact HSZ.out _ (S.mem_getD hi), P3d.out.spare i hi⟩) ht
  rw [show o.ptr = .pointer (some ⟨o.g, 0, none⟩) from rfl] at BH
  refine BH.mono ?_
  rintro e Z2 ⟨b7, d7, o7, rfl, hh⟩
  have a2 : Z2.heap[gs]? = some (.cells #[.pointer (some ⟨o.g, 0, none⟩)] 69 (0, 0)) ∧ Z2.heap[g6]? = some (.cells (S.v8 (S.setL ns)) 65 (0, 0)) := ⟨hh.chg.row hHeld.1 NS.out, hh.chg.row hHeld.2 NX.out⟩
  have ST7 : Hid (StAt Z2 gs o7) := by
    show Z2.heap[gs]? = some (.cells #[.pointer (some ⟨o7.g, 0, none⟩)] 69 (0, 0))
    rw [hh.ptr]
    exact a2.1
  have C7 : Hid (Chg o.has w Z2) := (Chg.ofBelow' B3d.out).trans hh.chg (fun j hj e => by rcases e with e | e | e; exact e; have := G1.out.1; omega; have := G1.out.2 j e; omega)
  have SA : Hid (SetA w0 w Z2 g gs o o7 d d7 b7 p t ns pg) := ⟨by rw [HNE.out]; exact hh.plan, hh.dk, hh.ptr, hh.ob, hh.below, ST7.out, C7.out, (fun k e => by
    rcases hh.own k e with e | e
    · exact Or.inl e
    · exact Or.inr (Nat.le_trans B3d.out.size e)), G1.out.1, (fun hb => by
    obtain ⟨tv', h1, h2⟩ := hh.lo hb
    refine ⟨tv', by rw [HPA.out, HTA.out]; exact h1, fun k hk => ?_⟩
    rcases h2 k hk with e | e
    · exact G1.out.2 k e
    · exact Nat.le_trans B3d.out.size e)⟩
  clear BH hh hHeld LOd P3d B3d
  generalize hy : S.why b7 = y
  have HY := hide hy
  clear hy
  refine hK.out _ _ a2 (fun hHeld => ?_)
  clear hK K
  try simp only [Act.put, List.setIfInBounds_toArray, List.set_cons_zero, List.set_cons_succ]
  clear a2
  refine tk 8 ?_ rfl (Or.inl ⟨by rfl, ?_⟩) ?_
  rotate_left
  · intro w hSw
    clear hSw
    go_simp
    all_goals with_reducible rfl
  simp only [Act.put, List.setIfInBounds_toArray, List.set_cons_zero, List.set_cons_succ]
  refine tk 9 ?_ rfl (Or.inl ⟨by rfl, ?_⟩) ?_
  rotate_left
  · intro w hSw
    clear hSw
    go_simp
    all_goals with_reducible rfl
  simp only [Act.put, List.setIfInBounds_toArray, List.set_cons_zero, List.set_cons_succ]
  refine wpAnyH_done (by kernel_rfl) ?_ _
  refine NoPanic.normal ?_
  clear hHeld
  go_wp2_with fail
  go_ret2
  exact ⟨g, b7, d7, o7, by rw [HY.out]; rfl, SA.out⟩
theorem settled_all (w0 w : World) (o : Ow) (d : S.Dk) (p t gs : Nat) (ns : List Nat) (pg : Nat → List UInt8) (h : Pw w0 w o d p t ns pg) (hs : StAt w gs o) (hgs : ¬ o.has gs) (ht : t + 1 < 18446744073709551616) :
   Calls Tryz.prog 31 #[.pointer (some ⟨gs, 0, none⟩)] w fun e w' => ∃ g b d' o', e = .returned (.tuple #[.pointer (some ⟨g, 0, none⟩), .int .i64 (S.why b)]) ∧ SetA w0 w w' g gs o o' d d' b p t ns pg := by
  by_cases e : ns = []
  · subst e
    refine (settled_n w0 w o d p t gs pg h.n hs).mono ?_
    rintro e w' ⟨g, tv, rfl, h1, h2, h3, h4, h5, h6⟩
    exact ⟨g, true, d, o, rfl, rfl, h4.dk, rfl, h4.ob, h4.below, h5, Chg.ofBelow' h6, fun k e => Or.inl e, h2, fun _ => ⟨tv, h1, h3⟩⟩
  · exact settled_mid w0 w o d p t gs ns pg h e hs hgs ht
end Go.Proofs.YthjlhngjpbmieaaGreatDoor
namespace Go.Proofs.YthjlhngjpbmieaaGreatDoor
open Go.RowKit

namespace S
theorem settle_done {d d1 : Dk} {p t : Nat} {ns : List Nat} {pg : Nat → List UInt8} (hp : d.pend = []) (h : Pgs d.safe p t ns pg) (ht : t + 1 < 18446744073709551616) (h1 : d.plan (settleActs d p t ns pg) = (d1, true)) : d1.pend = [] ∧ Pgs d1.safe (pA p ns) (tA t ns) [] pg := by
  unfold settleActs at h1
  by_cases e : ns = []
  · rw [if_pos e] at h1
    subst e
    have e1 : d1 = d := by
      have : d.plan [] = (d, true) := rfl
      rw [this, Prod.mk.injEq] at h1
      exact h1.1.symm
    subst e1
    exact ⟨hp, h⟩
  · rw [if_neg e] at h1
    obtain ⟨s', hs, g⟩ := (home_calm hp h e ht).2
    have al := Dk.plan_alike h1
    rw [hs] at al
    have ep : pA p ns = 1 - p := if_neg e
    have et : tA t ns = t + 1 := if_neg e
    rw [ep, et, al.safe]
    exact ⟨al.pend, g⟩
end S
theorem ShOk.chg {w W : World} {o o' : Ow} {X : Nat → List UInt8} {y : ShV} (h : ShOk w o X y) (hc : Chg o.has w W) (ho : ∀ k, o'.has k → o.has k ∨ w.heap.size ≤ k) : ShOk W o' X y := by
  obtain ⟨bk, off, h1, h2, h3⟩ := h.at_
  refine ⟨h.lo, h.hi, h.len, ⟨bk, off, h1, fun e => ?_, Nat.lt_of_lt_of_le h3 hc.size⟩, ?_⟩
  · rcases ho bk e with e | e
    · exact h2 e
    · omega
  · exact SliceAt.dk (o := o) (o1 := o) h.val ⟨rfl, hc, fun _ e => Or.inl e⟩ (fun a ha => by rw [h1] at ha; injection ha with ha; subst ha; exact h2)
/-- Behind a Put, whatever was away, wherever it stopped. -/
structure PutW (w0 w w' : World) (gs : Nat) (o o' : Ow) (d d' : S.Dk) (b : Bool) (p t : Nat) (ns0 : List Nat) (pg : Nat → List UInt8) (ns : List Nat) (xs : List (List UInt8)) : Prop where
  how : (∃ d1, d.plan (S.settleActs d p t ns0 pg) = (d1, false) ∧ d' = d1 ∧ b = false) ∨ (∃ d1, d.plan (S.settleActs d p t ns0 pg) = (d1, true) ∧ d1.plan (S.putActs d1 (S.pA p ns0) (S.tA t ns0) ns xs) = (d', b))
  dk : Dsk w' o' d'
  ptr : o'.g = o.g
  ob : ∀ k, o'.has k → w0.heap.size ≤ k
  below : Below w0.heap.size w0 w'
  st : StAt w' gs o'
  chg : Chg o.has w w'
  own : ∀ k, o'.has k → o.has k ∨ w.heap.size ≤ k
set_option maxHeartbeats 16000000 in
set_option maxRecDepth 10000 in
theorem pput_all (w0 w : World) (o0 : Ow) (d0 : S.Dk) (p0 t0 gs b off cap : Nat) (l : List ShV) (ns0 : List Nat) (pg X : Nat → List UInt8) (h : Pw w0 w o0 d0 p0 t0 ns0 pg) (hs : StAt w gs o0) (h0 : ∀ j u, (l.flatMap encSh)[j]? = some u → w.cell? ⟨b, off + j, none⟩ = some u) (hd : l ≠ []) (hl : l.length ≤ 256) (hp : ∀ x ∈ l, ShOk w o0 X x) (hn : (l.map (·.1)).Nodup) (hgs : ¬ o0.has gs) (ht0 : t0 + 3 < 18446744073709551616) :
   Calls Tryz.prog 12 #[.pointer (some ⟨gs, 0, none⟩), .slice (some ⟨b, off, none⟩) l.length cap] w fun e w' => ∃ bb d' o' ns, e = .returned (.int .i64 (S.why bb)) ∧ ns.Perm (S.pgs l) ∧ ns.Pairwise (· < ·) ∧ PutW w0 w w' gs o0 o' d0 d' bb p0 t0 ns0 pg ns (ns.map X) := by
  have P0 := hide h
  have S0 := hide hs
  have H0 := hide h0
  have HD := hide hd
  have HL := hide hl
  have HP := hide hp
  have HN := hide hn
  have NGS0 := hide hgs
  have HLT : Hid (∀ k, o0.has k → k < w.heap.size) := h.dk.dk.lt
  have HGSL : Hid (gs < w.heap.size) := block_lt_of_row hs
  have q1 : ¬ (l.length : Int) = 0 := fun e => hd (List.length_eq_zero_iff.1 (by omega))
  have q2 : ((l.length : Int) == 0) = false := beq_false_of_ne q1
  have SP0 := hide h.has
  have PE0 := hide h.pend
  clear h hs h0 hd hl hp hn hgs
  go_enter Tryz.func12, Tryz.ntmps12
  go_wp2_with fail
  refine (inOrder_any b off cap l w H0.out HD.out HL.out (fun x hx => ⟨(HP.out x hx).lo, (HP.out x hx).hi, (HP.out x hx).len⟩) HN.out).mono ?_
  rintro e w1 ⟨g1, c1, l2, rfl, hg1, hpm, hpw, hs1, b1⟩
  have P1 := hide (P0.out.then b1)
  have ST1 : Hid (StAt w1 gs o0) := (b1.block gs (block_lt_of_row S0.out)).trans S0.out
  have SH1 := hide hs1
  have B1 := hide b1
  have NG0 : Hid (¬ o0.has g1) := fun e => by have := HLT.out _ e; omega
  have HP2 : Hid (∀ x ∈ l2, ShOk w1 o0 X x) := fun x hx => (HP.out x (hpm.mem_iff.1 hx)).below b1
  have LL : Hid (l2.length = l.length) := hpm.length_eq
  have HQ : Hid (∀ x ∈ l2, 0 ≤ x.1 ∧ x.1 < 512 ∧ x.2.2.1 = 1024) := fun x hx => ⟨(HP2.out x hx).lo, (HP2.out x hx).hi, (HP2.out x hx).len⟩
  obtain ⟨ns, hns⟩ : ∃ ns, ns = S.pgs l2 := ⟨_, rfl⟩
  have HNS := hide hns
  have NSP : Hid (ns.Perm (S.pgs l)) := by rw [hns]; exact hpm.map _
  have NSU : Hid (ns.Pairwise (· < ·)) := by rw [hns]; exact S.pgs_up l2 hpw (fun x hx => (HP2.out x hx).lo)
  have NSL : Hid (ns.length = l.length) := by rw [hns]; unfold S.pgs; show (l2.map _).length = _; rw [List.length_map]; exact LL.out
  have NSB : Hid (∀ n ∈ ns, n < 512) := fun n hn => by
    rw [hns] at hn
    obtain ⟨x, hx, rfl⟩ := List.mem_map.1 hn
    have := (HP2.out x hx).hi
    have := (HP2.out x hx).lo
    omega
  have NSN : Hid (ns ≠ []) := fun e => HD.out (List.length_eq_zero_iff.1 (by rw [← NSL.out, e]; rfl))
  have NSX : Hid (∀ n ∈ ns, (X n).length = 1024) := fun n hn => by
    rw [hns] at hn
    obtain ⟨x, hx, rfl⟩ := List.mem_map.1 hn
    exact (HP2.out x hx).size
  obtain ⟨xs, hxs⟩ : ∃ xs, xs = ns.map X := ⟨_, rfl⟩
  have XSG : Hid (∀ i, i < ns.length → xs.getD i [] = X (ns.getD i 0)) := fun i hi => by rw [hxs]; exact S.map_getD X ns i hi
  have XSL : Hid (∀ i, i < ns.length → (xs.getD i []).length = 1024) := fun i hi => by
    rw [XSG.out i hi]
    refine NSX.out _ ?_
    rw [List.getD_eq_getElem?_getD, List.getElem?_eq_getElem hi, Option.getD_some]
    exact List.getElem_mem hi
  have HXS := hide hxs
  have LN : Hid (ns.length ≤ 256) := by show ns.length ≤ 256; rw [NSL.out]; exact HL.out
  clear hg1 hs1 b1 hpm hpw hns hxs P0 S0 H0 HP
  go_wp2_with fail
  refine (settled_all w0 w1 o0 d0 p0 t0 gs ns0 pg P1.out ST1.out NGS0.out (by omega)).mono ?_
  rintro e w2 ⟨g, bs, d, o, rfl, sa⟩
  have OGO : Hid (o.g = o0.g) := sa.ptr
  have hs1 := B1.out.size
  have C2 : Hid (Chg o0.has w w2) := (Chg.ofBelow' B1.out).trans sa.chg (fun _ _ e => e)
  have OWN2 : Hid (∀ k, o.has k → o0.has k ∨ w.heap.size ≤ k) := fun k e => by
    rcases sa.own k e with e | e
    · exact Or.inl e
    · exact Or.inr (by omega)
  have SPL := hide sa.plan
  cases bs with
  | false =>
    have E : S.why false = 13 := rfl
    rw [E]
    have SA := hide sa
    clear sa
    go_wp2_with fail
    go_ret
    exact ⟨false, d, o, ns, rfl, NSP.out, NSU.out, ⟨Or.inl ⟨d, SPL.out, rfl, rfl⟩, SA.out.dk, SA.out.ptr, SA.out.ob, SA.out.below, SA.out.st, C2.out, OWN2.out⟩⟩
  | true =>
  have E : S.why true = 0 := rfl
  rw [E]
  obtain ⟨tv, hlo, htb⟩ := sa.lo rfl
  obtain ⟨pe2, g2⟩ := S.settle_done PE0.out SP0.out (by omega) SPL.out
  have hta := S.tA_le t0 ns0
  obtain ⟨p, hpe⟩ : ∃ p, p = S.pA p0 ns0 := ⟨_, rfl⟩
  obtain ⟨t, hte⟩ : ∃ t, t = S.tA t0 ns0 := ⟨_, rfl⟩
  rw [← hpe, ← hte] at g2 hlo
  have ht : t + 2 < 18446744073709551616 := by omega
  have HPE := hide hpe
  have HTE := hide hte
  have LO2 := hide hlo
  have P2 : Hid (Pn w0 w2 o d p t pg) := (Pw.n ⟨sa.dk, pe2, g2, sa.ob, sa.below, P1.out.pos⟩)
  have HP1 := P2.out.log.place
  have ST2 := hide sa.st
  have hg1l := SH1.out.lt
  have SH2 : Hid (ShR w2 g1 l2) := by
    obtain ⟨cur, x1, x2⟩ := SH1.out.row
    exact ⟨cur, sa.chg.row x1 NG0.out, x2⟩
  have NG1 : Hid (¬ o.has g1) := fun e => by
    rcases sa.own g1 e with e | e
    · exact NG0.out e
    · omega
  have hgsl := block_lt_of_row ST1.out
  have NGS : Hid (¬ o.has gs) := fun e => by
    rcases sa.own gs e with e | e
    · exact NGS0.out e
    · omega
  have HP3 : Hid (∀ x ∈ l2, ShOk w2 o X x) := fun x hx => (HP2.out x hx).chg sa.chg sa.own
  have GW : Hid (w.heap.size ≤ g ∧ ∀ k, tv.ownBlock = some k → w.heap.size ≤ k) := ⟨by have := sa.gw; omega, fun k hk => by have := htb k hk; omega⟩
  clear hlo htb sa P1 ST1 SH1 B1 hs1 HP2 pe2 g2 hpe hte hta hg1l hgsl
  have c2 := st_cell ST2.out
  go_wp2_with fail
  clear c2
  have PS := putSpares_any o d g1 c1 l2 xs w2 P2.out.dk.dk P2.out.len SH2.out NG1.out (by rw [LL.out]; exact HL.out) (fun i y hy => by
    have hil : i < l2.length := (List.getElem?_eq_some_iff.1 hy).1
    have ok := HP3.out y (List.mem_of_getElem? hy)
    obtain ⟨bk, bo, e1, e2, e3⟩ := ok.at_
    refine ⟨ok.lo, bk, bo, e1, ok.len, ?_, e2, e3⟩
    have hin : i < ns.length := by rw [NSL.out, ← LL.out]; exact hil
    have : ns.getD i 0 = y.1.toNat := by
      rw [HNS.out]
      unfold S.pgs
      rw [List.getD_eq_getElem?_getD, List.getElem?_map, hy]
      rfl
    rw [XSG.out i hin, this]
    exact ok.val) (by rw [P2.out.pend]; simp)
  rw [LL.out, ← NSL.out, show o.ptr = .pointer (some ⟨o.g, 0, none⟩) from rfl] at PS
  rw [← NSL.out]
  refine PS.mono ?_
  intro e w3 hdo
  obtain ⟨b3, d3, o3, rfl, h1, h2, h3⟩ := hdo.start
  have PL3 := hide h1
  have ST3 : Hid (w3.heap[gs]? = some (.cells #[.pointer (some ⟨o.g, 0, none⟩)] 69 (0, 0))) := h3.chg.row ST2.out NGS.out
  have SH3 : Hid (ShR w3 g1 l2) := by
    obtain ⟨cur, x1, x2⟩ := SH2.out.row
    exact ⟨cur, h3.chg.row x1 NG1.out, x2⟩
  have C3 : Hid (Chg o0.has w w3) := C2.out.trans h3.chg (fun j hj e => by
    rcases OWN2.out j e with e | e
    · exact e
    · omega)
  have OWN3 : Hid (∀ k, o3.has k → o0.has k ∨ w.heap.size ≤ k) := fun k e => by
    rcases h3.own k e with e | e
    · exact OWN2.out k e
    · exact Or.inr (Nat.le_trans C2.out.size e)
  have PT3 : Hid (o3.g = o.g) := h3.g
  have DK3 := hide (LO2.out.log.dk.to h2 h3)
  have OB3 : Hid (∀ k, o3.has k → w0.heap.size ≤ k) := fun k e => by
    rcases h3.own k e with e | e
    · exact P2.out.ob k e
    · exact Nat.le_trans P2.out.below.size e
  have BL3 : Hid (Below w0.heap.size w0 w3) := P2.out.below.trans (h3.chg.below _ P2.out.below.size (fun k hk e => by have := P2.out.ob k e; omega))
  have H2 := hide h2
  have H3 := hide h3
  clear PS hdo h1 h2 h3 SH2 HP3
  cases b3 with
  | false =>
    have E : S.why false = 13 := rfl
    rw [E]
    go_wp2_with fail
    go_ret
    refine ⟨false, d3, o3, ns, rfl, NSP.out, NSU.out, ?_⟩
    rw [← HXS.out]
    refine ⟨Or.inr ⟨d, SPL.out, ?_⟩, DK3.out, PT3.out.trans OGO.out, OB3.out, BL3.out, ?_, C3.out, OWN3.out⟩
    · rw [← HPE.out, ← HTE.out]
      unfold S.putActs
      exact S.Dk.plan_no PL3.out
    · show w3.heap[gs]? = some (.cells #[.pointer (some ⟨o3.g, 0, none⟩)] 69 (0, 0))
      rw [PT3.out]
      exact ST3.out
  | true =>
  have E : S.why true = 0 := rfl
  rw [E]
  have fl := S.Dk.plan_flushed (f := fun i => 4101 + i * 8) (xs := xs) (k := ns.length) P2.out.pend (by have := PL3.out; rw [S.spTo_eq] at this; exact this)
  have FL := hide fl
  have LEN3 : Hid (d3.safe.length = d.safe.length) := by show d3.safe.length = d.safe.length; rw [fl.1]; exact S.putAll_length _ _ _ _
  have LO3 : Hid (Lo w0 w3 o3 d3 g 1 4 p t [] tv) := LO2.out.beside H2.out H3.out fl.2 LEN3.out (fun j h1 h2 => by rw [fl.1]; exact S.putAll_off _ _ _ _ _ (fun i hi => Or.inl (by omega)))
  clear fl LO2 ST2 H2 H3
  go_wp2_with fail
  have SO := setOf_any g1 c1 l2 w3 SH3.out HQ.out (by rw [LL.out]; exact HL.out)
  rw [← HNS.out, LL.out, ← NSL.out] at SO
  refine SO.mono ?_
  rintro e w4 ⟨rfl, b4⟩
  clear SO
  have hal := alloc57 w4
  obtain ⟨w5, hst, r5, b5⟩ := made57 w4 (S.setL ns) (S.setL_length ns)
  have B35 := hide (b4.trans (b5.mono b4.size))
  have LO5 := hide (LO3.out.then B35.out)
  have ST5 : Hid (w5.heap[gs]? = some (.cells #[.pointer (some ⟨o.g, 0, none⟩)] 69 (0, 0))) := (B35.out.block gs (block_lt_of_row ST3.out)).trans ST3.out
  have RX5 := hide r5
  have C5 : Hid (Chg o0.has w w5) := C3.out.trans (Chg.ofBelow' (p := fun _ => False) B35.out) (fun _ _ e => e.elim)
  have h34 := b4.size
  have hg3 := block_lt_of_row LO3.out.log.lg.row
  have NXG : Hid (¬ (w4.heap.size = g ∨ tv.ownBlock = some w4.heap.size) ∧ ¬ o3.has w4.heap.size) := ⟨fun e => by
    rcases e with e | e
    · omega
    · have := LO3.out.log.lg.text.lt e; omega, fun e => by have := LO3.out.log.dk.dk.lt _ e; omega⟩
  obtain ⟨w4', hw4'⟩ : ∃ w4', w4' = w4.alloc (.cells (S.v8 (S.zeros 64)) 65) := ⟨_, rfl⟩
  rw [← hw4'] at hal hst
  obtain ⟨gx, hgx⟩ : ∃ gx, gx = w4.heap.size := ⟨_, rfl⟩
  rw [← hgx] at hal hst RX5 NXG
  obtain ⟨Z, hZ⟩ : ∃ Z, Z = S.v8 (S.setL ns) := ⟨_, rfl⟩
  rw [← hZ] at hst ⊢
  clear r5 b5 b4 hw4' hgx hZ LO3 SH3 h34 hg3
  go_wp2_with (first | (with_reducible refine at_op ⟨some 10, .alloc 65, 0, "pages.go:86", #[], none⟩ ?_; refine wpList_alloc_known rfl 65 rfl (.pointer (some ⟨gx, 0, none⟩)) w4' hal ?_) | (with_reducible refine at_op ⟨none, .store 65 (.tmp 10) (.tmp 40), 0, "pages.go:86", #[⟨2, .data⟩, ⟨1, .data⟩, ⟨1, .chain⟩, ⟨0, .phase⟩, ⟨1, .phase⟩, ⟨2, .phase⟩], none⟩ ?_; refine wpList_store_as rfl 65 (.tmp 10) (.tmp 40) rfl (.pointer (some ⟨gx, 0, none⟩)) (.agg Z) rfl rfl w5 hst ?_))
  clear hal hst
  have KP5 : Hid (∀ W, Chg (fun k => k = g ∨ tv.ownBlock = some k) w5 W → SliceAt W (.slice (some ⟨gx, 0, none⟩) 64 64) (S.setL ns)) := fun W hW => set_row (hW.row RX5.out NXG.out.1) (S.setL_length ns)
  have NE : Hid (S.setL ns ≠ []) := fun e => by have h := S.setL_length ns; rw [e] at h; simp at h
  have FIT : Hid ((S.setL ns).length ≤ S.room 4 - (S.enc []).length - 3) := by show (S.setL ns).length ≤ S.room 4 - (S.enc []).length - 3; rw [S.setL_length]; decide
  refine (commit_any o3 d3 g 1 4 p t [] tv (some ⟨gx, 0, none⟩) 64 64 (S.setL ns) w5 LO5.out.log (by omega) KP5.out NE.out FIT.out).mono ?_
  rintro e w6 ⟨b6, d6, o6, tv6, x⟩
  have hgsl := block_lt_of_row ST5.out
  have hgxl := block_lt_of_row RX5.out
  have n1 : ¬ (o3.has gs ∨ gs = g ∨ tv.ownBlock = some gs) := fun e => by
    have h1 := HGSL.out
    rcases e with e | e | e
    · rcases OWN3.out _ e with e | e
      · exact NGS0.out e
      · omega
    · have := GW.out.1; omega
    · have := GW.out.2 _ e; omega
  have n2 : ¬ (o3.has gx ∨ gx = g ∨ tv.ownBlock = some gx) := fun e => by
    rcases e with e | e
    · exact NXG.out.2 e
    · exact NXG.out.1 e
  have ST6 : Hid (w6.heap[gs]? = some (.cells #[.pointer (some ⟨o.g, 0, none⟩)] 69 (0, 0))) := x.moved.chg.row ST5.out n1
  have RX6 : Hid (w6.heap[gx]? = some (.cells (S.v8 (S.setL ns)) 65 (0, 0))) := x.moved.chg.row RX5.out n2
  have C6 : Hid (Chg o0.has w w6) := C5.out.trans x.moved.chg (fun j hj e => by
    rcases e with e | e | e
    · rcases OWN3.out j e with e | e
      · exact e
      · omega
    · have := GW.out.1; omega
    · have := GW.out.2 j e; omega)
  have OWN6 : Hid (∀ k, o6.has k → o0.has k ∨ w.heap.size ≤ k) := fun k e => by
    rcases x.moved.own k e with e | e
    · exact OWN3.out k e
    · exact Or.inr (Nat.le_trans C5.out.size e)
  have PT6 : Hid (o6.g = o.g) := x.moved.ptr.trans PT3.out
  have NS6 : Hid (¬ (o6.has gs ∨ gs = g ∨ tv6.ownBlock = some gs)) := fun e => by
    rcases e with e | e | e
    · rcases x.moved.own _ e with e | e
      · exact n1 (Or.inl e)
      · omega
    · exact n1 (Or.inr (Or.inl e))
    · rcases x.moved.text _ e with e | e
      · exact n1 (Or.inr (Or.inr e))
      · omega
  have NX6 : Hid (¬ (o6.has gx ∨ gx = g ∨ tv6.ownBlock = some gx)) := fun e => by
    rcases e with e | e | e
    · rcases x.moved.own _ e with e | e
      · exact n2 (Or.inl e)
      · omega
    · exact n2 (Or.inr (Or.inl e))
    · rcases x.moved.text _ e with e | e
      · exact n2 (Or.inr (Or.inr e))
      · omega
  have GW6 : Hid (w.heap.size ≤ g ∧ ∀ k, tv6.ownBlock = some k → w.heap.size ≤ k) := ⟨GW.out.1, fun k hk => by
    rcases x.moved.text k hk with e | e
    · exact GW.out.2 k e
    · exact Nat.le_trans C5.out.size e⟩
  have OB6 : Hid (∀ k, o6.has k → w0.heap.size ≤ k) := fun k e => by
    rcases x.moved.own k e with e | e
    · exact OB3.out k e
    · exact Nat.le_trans LO5.out.below.size e
  have BL6 : Hid (Below w0.heap.size w0 w6) := LO5.out.below.trans (x.moved.chg.below _ LO5.out.below.size (fun k hk e => by
    rcases e with e | e | e
    · have := LO5.out.ob k e; omega
    · have := LO5.out.gb; omega
    · have := LO5.out.tb k e; omega))
  have DK6 := hide x.dk
  have PL6 : Hid (d3.plan (S.commitActs { d with safe := S.putAll d.safe (fun i => 4101 + i * 8) xs ns.length, pend := [] } 1 4 p t [] [S.setL ns]) = (d6, b6)) := by
    show d3.plan (S.commitActs _ 1 4 p t [] [S.setL ns]) = (d6, b6)
    rw [S.commitActs_safe (e := d3) (by rw [FL.out.1])]
    exact x.plan
  obtain rfl := x.ret
  cases b6 with
  | false =>
    have E : S.why false = 13 := rfl
    rw [E]
    clear x n1 n2 hgsl hgxl
    go_wp2_with fail
    go_ret
    refine ⟨false, d6, o6, ns, rfl, NSP.out, NSU.out, ?_⟩
    rw [← HXS.out]
    refine ⟨Or.inr ⟨d, SPL.out, ?_⟩, DK6.out, PT6.out.trans OGO.out, OB6.out, BL6.out, ?_, C6.out, OWN6.out⟩
    · rw [← HPE.out, ← HTE.out]
      unfold S.putActs
      rw [S.Dk.plan_yes PL3.out]
      exact S.Dk.plan_no PL6.out
    · show w6.heap[gs]? = some (.cells #[.pointer (some ⟨o6.g, 0, none⟩)] 69 (0, 0))
      rw [PT6.out]
      exact ST6.out
  | true =>
  have E : S.why true = 0 := rfl
  rw [E]
  have cm := S.commit_calm (b := S.setL ns) LO5.out.log.pend LO5.out.log.good (by omega) (by rw [S.enc_snoc_length]; have := FIT.out; have e := S.setL_length ns; have e2 : S.room 4 = 240 := rfl; have e3 : (S.enc []).length = 0 := rfl; omega)
  have my := cm.may
  have al := S.Dk.plan_alike x.plan
  rw [show ([] : List (List UInt8)) ++ [S.setL ns] = [S.setL ns] from rfl] at al
  rw [show ([] : List (List UInt8)) ++ [S.setL ns] = [S.setL ns] from rfl] at cm my
  rw [cm.acts] at al
  have hsf : d6.safe = S.after d3.safe 1 4 p t [] [S.setL ns] := al.safe
  have LO6 : Hid (Lo w0 w6 o6 d6 g 1 4 (1 - p) (t + 1) [S.setL ns] tv6) := LO5.out.did x al.pend (by rw [hsf]; exact cm.good)
  have MY : Hid (d6.safe.length = d3.safe.length ∧ ∀ j, j < 1 ∨ 5 ≤ j → d6.safe.getD j [] = d3.safe.getD j []) := by rw [hsf]; exact ⟨my.len, fun j hj => my.stay j hj⟩
  have SF6 : Hid (d6.safe = S.after (S.putAll d.safe (fun i => 4101 + i * 8) xs ns.length) 1 4 p t [] [S.setL ns]) := by show d6.safe = _; rw [hsf, FL.out.1]
  have LEN6 : Hid (7680 ≤ d6.safe.length) := by show 7680 ≤ d6.safe.length; rw [MY.out.1, LEN3.out]; exact P2.out.len
  have SP6 : Hid (∀ i, i < ns.length → (xs.getD i []).length = 1024 ∧ S.pageAt d6.safe (4101 + i * 8) = xs.getD i []) := fun i hi => by
    refine ⟨XSL.out i hi, ?_⟩
    have e1 : S.pageAt d6.safe (4101 + i * 8) = S.pageAt d3.safe (4101 + i * 8) := S.secs_cong (fun j h1 h2 => MY.out.2 j (Or.inr (by omega)))
    rw [e1, FL.out.1]
    exact S.putAll_page d.safe (fun i => 4101 + i * 8) xs ns.length (fun i hi => by have := P2.out.len; have := LN.out; show 4101 + i * 8 + 8 ≤ _; omega) XSL.out (fun i j _ _ hij => by show 4101 + i * 8 + 8 ≤ 4101 + j * 8 ∨ 4101 + j * 8 + 8 ≤ 4101 + i * 8; omega) i hi
  clear x my al cm hsf n1 n2 hgsl hgxl GW LO5 ST5 RX5 C5 OWN3 PT3 KP5 NE FIT NXG MY LEN3 P2
  have GW := GW6
  clear GW6
  go_upto_region 16 with fail
  refine wp_region_noPanic ?_
  refine wp_region_held_drew (S := (fun W => W.heap[gs]? = some (.cells #[.pointer (some ⟨o.g, 0, none⟩)] 69 (0, 0)) ∧ W.heap[gx]? = some (.cells (S.v8 (S.setL ns)) 65 (0, 0)))) follows ⟨ST6.out, RX6.out⟩ (fun hHeld => ?_)
  have LOd := hide (LO6.out.then (Below.refl w6.heap.size w6).drew)
  have C6d : Hid (Chg o0.has w w6.drew) := C6.out.drew
  clear LO6 C6 ST6 RX6
  generalize w6.drew = Z1 at LOd C6d hHeld ⊢
  refine tk 0 ?_ rfl (Or.inl ⟨by rfl, ?_⟩) ?_
  rotate_left
  · intro w hSw
    clear hSw
    go_simp
    all_goals with_reducible rfl
  simp only [Act.put, List.setIfInBounds_toArray, List.set_cons_zero, List.set_cons_succ]
  refine tk 1 ?_ rfl (Or.inl ⟨by rfl, ?_⟩) ?_
  rotate_left
  · intro w hSw
    clear hSw
    go_simp
    all_goals with_reducible rfl
  simp only [Act.put, List.setIfInBounds_toArray, List.set_cons_zero, List.set_cons_succ]
  refine tk 2 ?_ rfl (Or.inl ⟨by rfl, ?_⟩) ?_
  rotate_left
  · intro w hSw
    clear hSw
    go_simp
    all_goals with_reducible rfl
  simp only [Act.put, List.setIfInBounds_toArray, List.set_cons_zero, List.set_cons_succ]
  refine tk 3 ?_ rfl (Or.inl ⟨by rfl, ?_⟩) ?_
  rotate_left
  · intro w hSw
    have c0 := st_cell hSw.1
    clear hSw
    go_simp
    all_goals with_reducible rfl
  simp only [Act.put, List.setIfInBounds_toArray, List.set_cons_zero, List.set_cons_succ]
  refine tk 4 ?_ rfl (Or.inl ⟨by rfl, ?_⟩) ?_
  rotate_left
  · intro w hSw
    clear hSw
    go_simp
    all_goals with_reducible rfl
  simp only [Act.put, List.setIfInBounds_toArray, List.set_cons_zero, List.set_cons_succ]
  refine wpAnyH_take (i := 5) (oi := ⟨_, _, _, _, _, _⟩) (v := .agg (S.v8 (S.setL ns))) rfl (by kernel_rfl) (by kernel_rfl) (by kernel_rfl) (fun _ _ _ h => h) (yieldsIf_load57 (by kernel_rfl) (.tmp 10) rfl gx rfl (S.setL_length ns) (fun W hW => hW.2)) (by assumption) ?_
  simp only [Act.put, List.setIfInBounds_toArray, List.set_cons_zero, List.set_cons_succ]
  refine wpAnyH_ready (rs := [6]) (by kernel_rfl) (by simp) ?_
  refine AllReadyH.cons (o := { dst := some 53, op := Op.call { callee := Callee.value (Operand.func 35), args := #[Operand.tmp 50, Operand.tmp 51, Operand.tmp 52], argTypes := #[22, 63, 65] }, type := 26, pos := "pages.go:90", after := #[⟨3, .data⟩, ⟨4, .data⟩, ⟨5, .data⟩], guard := none }) rfl (fun K hK => ?_) AllReadyH.nil
  go_simp
  have BH := bringHome_any w0 Z1 o6 d6 g (1 - p) (t + 1) tv6 ns xs LOd.out LEN6.out NSB.out NSU.out NSN.out LN.out SP6.out (by omega)
  rw [show o6.ptr = .pointer (some ⟨o.g, 0, none⟩) by unfold Ow.ptr; rw [PT6.out]] at BH
  refine BH.mono ?_
  rintro e Z2 ⟨b7, d7, o7, rfl, hh⟩
  have a2 : Z2.heap[gs]? = some (.cells #[.pointer (some ⟨o.g, 0, none⟩)] 69 (0, 0)) ∧ Z2.heap[gx]? = some (.cells (S.v8 (S.setL ns)) 65 (0, 0)) := ⟨hh.chg.row hHeld.1 NS6.out, hh.chg.row hHeld.2 NX6.out⟩
  have ST7 : Hid (StAt Z2 gs o7) := by
    show Z2.heap[gs]? = some (.cells #[.pointer (some ⟨o7.g, 0, none⟩)] 69 (0, 0))
    rw [hh.ptr, PT6.out]
    exact a2.1
  have PA : Hid (PutW w0 w Z2 gs o0 o7 d0 d7 b7 p0 t0 ns0 pg ns xs) := ⟨Or.inr ⟨d, SPL.out, by
    rw [← HPE.out, ← HTE.out]
    unfold S.putActs
    rw [S.Dk.plan_yes PL3.out, S.Dk.plan_yes PL6.out, S.homeActs_safe (e := d6) (by rw [SF6.out])]
    exact hh.plan⟩, hh.dk, (hh.ptr.trans PT6.out).trans OGO.out, hh.ob, hh.below, ST7.out, C6d.out.trans hh.chg (fun j hj e => by rcases e with e | e | e; rcases OWN6.out j e with e | e; exact e; omega; have := GW.out.1; omega; have := GW.out.2 j e; omega), fun k e => by rcases hh.own k e with e | e; exact OWN6.out k e; exact Or.inr (Nat.le_trans C6d.out.size e)⟩
  clear BH hh hHeld LOd C6d
  generalize hy : S.why b7 = y
  have HY := hide hy
  clear hy
  refine hK.out _ _ a2 (fun hHeld => ?_)
  clear hK K
  try simp only [Act.put, List.setIfInBounds_toArray, List.set_cons_zero, List.set_cons_succ]
  clear a2
  refine tk 7 ?_ rfl (Or.inl ⟨by rfl, ?_⟩) ?_
  rotate_left
  · intro w hSw
    clear hSw
    go_simp
    all_goals with_reducible rfl
  simp only [Act.put, List.setIfInBounds_toArray, List.set_cons_zero, List.set_cons_succ]
  refine wpAnyH_done (by kernel_rfl) ?_ _
  refine NoPanic.normal ?_
  clear hHeld
  go_wp2_with fail
  go_ret
  exact ⟨b7, d7, o7, ns, by rw [HY.out]; rfl, NSP.out, NSU.out, by rw [← HXS.out]; exact PA.out⟩
/-- What a Put leaves behind a crash, and where none comes. -/
theorem PutW.crash {w0 w w' : World} {gs : Nat} {o o' : Ow} {d d' : S.Dk} {b : Bool} {p t : Nat} {ns0 : List Nat} {pg X : Nat → List UInt8} {ns : List Nat} (h : PutW w0 w w' gs o o' d d' b p t ns0 pg ns (ns.map X)) (hp : d.pend = []) (g : S.Pgs d.safe p t ns0 pg) (ht : t + 3 < 18446744073709551616) (hn : ∀ n ∈ ns, n < 512) (hup : ns.Pairwise (· < ·)) (hle : ns.length ≤ 256) (hne : ns ≠ []) (hx : ∀ n ∈ ns, (X n).length = 1024) :
    (∀ c, ∃ p' t' ks, t' ≤ t + 3 ∧ (S.Pgs (d'.crash c).safe p' t' ks pg ∨ S.Pgs (d'.crash c).safe p' t' ks (S.putPg ns X pg))) ∧ (b = true → d'.pend = [] ∧ ∃ p' t', t' ≤ t + 3 ∧ S.Pgs d'.safe p' t' [] (S.putPg ns X pg)) := by
  rcases h.how with ⟨d1, h1, rfl, rfl⟩ | ⟨d1, h1, h2⟩
  · have a := (S.put_all (d' := d') (b := false) hp g ht hn hup hle hne hx h1).1 rfl
    refine ⟨fun c => ?_, fun e => nomatch e⟩
    obtain ⟨p', t', ks, h3, h4⟩ := a c
    exact ⟨p', t', ks, by omega, Or.inl h4⟩
  · obtain ⟨h3, h4, h5⟩ := (S.put_all (d' := d') (b := b) hp g ht hn hup hle hne hx h1).2 rfl
    obtain ⟨h6, h7⟩ := h5 h2
    refine ⟨h6, fun hb => ?_⟩
    obtain ⟨h8, h9⟩ := h7 hb
    exact ⟨h8, _, _, by have := S.tA_le t ns0; omega, h9⟩
end Go.Proofs.YthjlhngjpbmieaaGreatDoor
