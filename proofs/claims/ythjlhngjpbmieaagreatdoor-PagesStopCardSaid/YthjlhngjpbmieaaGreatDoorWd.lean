/- PagesStop: two pages that are put together, stopped at any place, are both old or both new. -/
import Derived.Test.YthjlhngjpbmieaaGreatDoorWc
import Derived.Test.YthjlhngjpbmieaaGreatDoorQn
namespace Go.Proofs.YthjlhngjpbmieaaGreatDoor
open Go.RowKit

namespace S
theorem map_idxOf (X : Nat → List UInt8) (ns : List Nat) (n : Nat) (h : n ∈ ns) : (ns.map X).getD (ns.idxOf n) [] = X n := by
  have hi := List.idxOf_lt_length_of_mem h
  rw [map_getD X ns _ hi, List.getD_eq_getElem?_getD, List.getElem?_eq_getElem hi, Option.getD_some, List.getElem_idxOf hi]
theorem putActs_few (d : Dk) (p t : Nat) (ns : List Nat) (xs : List (List UInt8)) (h : ns.length ≤ 256) : (putActs d p t ns xs).length ≤ 500000 := by
  have e1 := enc_snoc_length [] (setL ns)
  rw [List.nil_append, setL_length] at e1
  have e0 : (enc ([] : List (List UInt8))).length = 0 := rfl
  have c1 := commitActs_few { d with safe := putAll d.safe (fun i => 4101 + i * 8) xs ns.length, pend := [] } 1 4 p t [] [setL ns] (by omega)
  unfold putActs homeActs
  simp only [List.length_append, spTo_length, wacts_len, pagesWs_length, List.length_singleton]
  have c2 := commitActs_few { safe := putAll (after (putAll d.safe (fun i => 4101 + i * 8) xs ns.length) 1 4 p t [] [setL ns]) (homeOf ns) xs ns.length, pend := [], left := d.left } 1 4 (1 - p) (t + 1) [setL ns] [] (by omega)
  omega
/-- Two pages. -/
def duo (a b : List UInt8) (m : Nat) : List UInt8 := if m = 1 then a else b
end S
theorem load45 {w : World} {g : Nat} {v : Value} {a b : Int} (h : w.heap[g]? = some (.cells #[v, .int .i64 a, .int .i64 b] 45 (0, 0))) : (Instr.loadAt 45 (.pointer (some ⟨g, 0, none⟩))).run Tryz.prog w = .ok (.agg #[v, .int .i64 a, .int .i64 b]) w :=
  run_loadAt_mid (P := Tryz.prog) w g 0 45 [v, .int .i64 a, .int .i64 b] _ (rangeAt_row h) Tryz.underlying45 rfl (by kernel_rfl)
/-- A store that is found again, and what is read there. -/
structure Seen (w : World) (X Y : List UInt8) (R : World → Nat → Prop) : Prop where
  one : ∀ W gt, R W gt → Calls Tryz.prog 11 #[.pointer (some ⟨gt, 0, none⟩), .int .i64 1] W fun e w' => ∃ gp, e = .returned (.tuple #[.slice (some ⟨gp, 0, none⟩) 1024 1024, .int .i64 0]) ∧ SliceAt w' (.slice (some ⟨gp, 0, none⟩) 1024 1024) X ∧ R w' gt ∧ Below W.heap.size W w'
  two : ∀ W gt, R W gt → Calls Tryz.prog 11 #[.pointer (some ⟨gt, 0, none⟩), .int .i64 400] W fun e w' => ∃ gp, e = .returned (.tuple #[.slice (some ⟨gp, 0, none⟩) 1024 1024, .int .i64 0]) ∧ SliceAt w' (.slice (some ⟨gp, 0, none⟩) 1024 1024) Y ∧ R w' gt ∧ Below W.heap.size W w'
  below : ∀ W gt, R W gt → Below w.heap.size w W
theorem room_slice {w : World} {g : Nat} {x : List UInt8} (h : Room w g 1024 x) (hx : x.length = 1024) : SliceAt w (.slice (some ⟨g, 0, none⟩) 1024 1024) x := by
  have h1 := h.sliceAt (by rw [hx]; omega)
  rw [hx] at h1
  exact h1
theorem seen_pg {w0 w : World} {o : Ow} {d : S.Dk} {p t : Nat} {pg : Nat → List UInt8} (h : Pg w0 w o d p t pg) (h1 : (pg 1).length = 1024) (h2 : (pg 400).length = 1024) : ∃ R, Seen w0 (pg 1) (pg 400) R ∧ Calls Tryz.prog 10 #[o.ptr] w fun e w' => ∃ gt, e = .returned (.tuple #[.pointer (some ⟨gt, 0, none⟩), .int .i64 0]) ∧ R w' gt := by
  refine ⟨fun W gt => Pg w0 W o d p t pg ∧ StAt W gt o, ⟨fun W gt r => ?_, fun W gt r => ?_, fun W gt r => r.1.below⟩, ?_⟩
  · refine (pread_go w0 W o d p t gt 1 pg r.1 r.2 (by omega)).mono ?_
    rintro e w' ⟨gp, rfl, _, hr, hp, hs, hb⟩
    exact ⟨gp, rfl, room_slice hr h1, ⟨hp, hs⟩, hb⟩
  · refine (pread_go w0 W o d p t gt 400 pg r.1 r.2 (by omega)).mono ?_
    rintro e w' ⟨gp, rfl, _, hr, hp, hs, hb⟩
    exact ⟨gp, rfl, room_slice hr h2, ⟨hp, hs⟩, hb⟩
  · refine (popen_go w0 w o d p t pg h).mono ?_
    rintro e w' ⟨gt, rfl, hs, _, hp, _⟩
    exact ⟨gt, rfl, hp, hs⟩
theorem seen_pm {w0 w : World} {o : Ow} {d : S.Dk} {p t : Nat} {ns : List Nat} {X pg : Nat → List UInt8} (h : Pm w0 w o d p t ns (ns.map X) pg) (m1 : 1 ∈ ns) (m2 : 400 ∈ ns) (h1 : (X 1).length = 1024) (h2 : (X 400).length = 1024) : ∃ R, Seen w0 (X 1) (X 400) R ∧ Calls Tryz.prog 10 #[o.ptr] w fun e w' => ∃ gt, e = .returned (.tuple #[.pointer (some ⟨gt, 0, none⟩), .int .i64 0]) ∧ R w' gt := by
  refine ⟨fun W gt => Pm w0 W o d p t ns (ns.map X) pg ∧ StAt W gt o, ⟨fun W gt r => ?_, fun W gt r => ?_, fun W gt r => r.1.below⟩, ?_⟩
  · refine (pread_mid w0 W o d p t gt 1 ns (ns.map X) pg r.1 r.2 (by omega)).mono ?_
    rintro e w' ⟨gp, rfl, _, hr, hp, hs, hb⟩
    rw [if_pos m1, S.map_idxOf X ns 1 m1] at hr
    exact ⟨gp, rfl, room_slice hr h1, ⟨hp, hs⟩, hb⟩
  · refine (pread_mid w0 W o d p t gt 400 ns (ns.map X) pg r.1 r.2 (by omega)).mono ?_
    rintro e w' ⟨gp, rfl, _, hr, hp, hs, hb⟩
    rw [if_pos m2, S.map_idxOf X ns 400 m2] at hr
    exact ⟨gp, rfl, room_slice hr h2, ⟨hp, hs⟩, hb⟩
  · refine (popen_mid w0 w o d p t ns (ns.map X) pg h).mono ?_
    rintro e w' ⟨gt, rfl, hs, _, hp, _⟩
    exact ⟨gt, rfl, hp, hs⟩
/-- Behind a Put of pages 1 and 400 that was stopped, and a crash. -/
theorem seen_crash {w0 w w' wc : World} {gs : Nat} {o o' oc : Ow} {d d' : S.Dk} {b : Bool} {p t : Nat} {ns : List Nat} {X pg : Nat → List UInt8} (hp : Pn w0 w o d p t pg) (pa : PutA w0 w w' gs o o' d d' b p t ns (ns.map X)) (cut : S.Cut) (hd : DkIs wc oc (d'.crash cut)) (hm : DkTo o' w' oc wc) (hmem : ∀ m, m ∈ ns ↔ m = 1 ∨ m = 400) (hup : ns.Pairwise (· < ·)) (hle : ns.length ≤ 256) (hx : ∀ n, n = 1 ∨ n = 400 → (X n).length = 1024 ∧ (pg n).length = 1024) (ht : t + 2 < 18446744073709551616) :
    ∃ A B R, (A = X 1 ∧ B = X 400 ∨ A = pg 1 ∧ B = pg 400 ∧ b = false) ∧ Seen w0 A B R ∧ Calls Tryz.prog 10 #[oc.ptr] wc fun e w' => ∃ gt, e = .returned (.tuple #[.pointer (some ⟨gt, 0, none⟩), .int .i64 0]) ∧ R w' gt := by
  have hn : ∀ n ∈ ns, n < 512 := fun n h => by rcases (hmem n).1 h with e | e <;> omega
  have hxn : ∀ n ∈ ns, (X n).length = 1024 := fun n h => (hx n ((hmem n).1 h)).1
  have m1 : 1 ∈ ns := (hmem 1).2 (Or.inl rfl)
  have m2 : 400 ∈ ns := (hmem 400).2 (Or.inr rfl)
  have pc := S.put_crash hp.pend hp.log hp.len hn hup hle hxn ht pa.plan cut
  have hob : ∀ k, oc.has k → w0.heap.size ≤ k := fun k e => by
    rcases hm.own k e with e | e
    · exact pa.ob k e
    · exact Nat.le_trans pa.below.size e
  have hbl : Below w0.heap.size w0 wc := pa.below.trans (hm.chg.below _ pa.below.size (fun k hk e => by have := pa.ob k e; omega))
  have hdk := pa.dk.to hd hm
  have x1 := (hx 1 (Or.inl rfl)).1
  have x2 := (hx 400 (Or.inr rfl)).1
  have y1 := (hx 1 (Or.inl rfl)).2
  have y2 := (hx 400 (Or.inr rfl)).2
  have new : S.New d p t ns X (d'.crash cut).safe → ∃ A B R, (A = X 1 ∧ B = X 400 ∨ A = pg 1 ∧ B = pg 400 ∧ b = false) ∧ Seen w0 A B R ∧ Calls Tryz.prog 10 #[oc.ptr] wc fun e w' => ∃ gt, e = .returned (.tuple #[.pointer (some ⟨gt, 0, none⟩), .int .i64 0]) ∧ R w' gt := fun h => by
    have g : Pg w0 wc oc (d'.crash cut) p (t + 2) (fun m => if m ∈ ns then X m else pg m) := ⟨hdk, rfl, rfl, by rw [h.len]; exact hp.len, by rw [h.mark]; exact hp.mark, h.log, fun m hm => by
      rw [h.home m hm]
      by_cases e : m ∈ ns
      · rw [if_pos e, if_pos e]
      · rw [if_neg e, if_neg e]
        exact hp.home m hm, hob, hbl, hp.pos⟩
    obtain ⟨R, r1, r2⟩ := seen_pg g (by rw [if_pos m1]; exact x1) (by rw [if_pos m2]; exact x2)
    rw [if_pos m1, if_pos m2] at r1
    exact ⟨_, _, R, Or.inl ⟨rfl, rfl⟩, r1, r2⟩
  cases b with
  | true => exact new (pc.2 rfl)
  | false =>
    rcases pc.1 with h | h | h
    · have g : Pg w0 wc oc (d'.crash cut) p t pg := ⟨hdk, rfl, rfl, by rw [h.len]; exact hp.len, by rw [h.mark]; exact hp.mark, h.log, fun m hm => by
        rw [← hp.home m hm]
        exact S.secs_cong (fun j a b => h.home j (by omega) (by omega)), hob, hbl, hp.pos⟩
      obtain ⟨R, r1, r2⟩ := seen_pg g y1 y2
      exact ⟨_, _, R, Or.inr ⟨rfl, rfl, rfl⟩, r1, r2⟩
    · have g : Pm w0 wc oc (d'.crash cut) (1 - p) (t + 1) ns (ns.map X) pg := ⟨hdk, rfl, rfl, by rw [h.len]; exact hp.len, by rw [h.mark]; exact hp.mark, h.log, h.spare, fun m hm hmn => by
        rw [h.home m hm hmn]
        exact hp.home m hm, hob, hbl, hp.pos, hn, hup, (fun e => by rw [e] at m1; simp at m1), hle⟩
      obtain ⟨R, r1, r2⟩ := seen_pm g m1 m2 x1 x2
      exact ⟨_, _, R, Or.inl ⟨rfl, rfl⟩, r1, r2⟩
    · exact new h
/-- The two sheets of the statement. -/
def duoSh (g h : Nat) : List ShV := [((1 : Int), some ⟨g, 0, none⟩, 1024, 1024), ((400 : Int), some ⟨h, 0, none⟩, 1024, 1024)]
theorem duo_ok {w : World} {o : Ow} {g h : Nat} {a b : List UInt8} (h1 : w.heap[g]? = some (.cells (S.v8 a) 5 (0, 0))) (h2 : w.heap[h]? = some (.cells (S.v8 b) 5 (0, 0))) (ha : a.length = 1024) (hb : b.length = 1024) (n1 : ¬ o.has g) (n2 : ¬ o.has h) : ∀ x ∈ duoSh g h, ShOk w o (S.duo a b) x := fun x hx => by
  simp only [duoSh, List.mem_cons, List.not_mem_nil, or_false] at hx
  rcases hx with rfl | rfl
  · exact ⟨(show (0 : Int) ≤ 1 by decide), (show (1 : Int) < 512 by decide), rfl, ⟨g, 0, rfl, n1, block_lt_of_row h1⟩, (show SliceAt w (.slice (some ⟨g, 0, none⟩) 1024 1024) a from slice_row h1 ha.symm (by rw [ha]; omega))⟩
  · exact ⟨(show (0 : Int) ≤ 400 by decide), (show (400 : Int) < 512 by decide), rfl, ⟨h, 0, rfl, n2, block_lt_of_row h2⟩, (show SliceAt w (.slice (some ⟨h, 0, none⟩) 1024 1024) b from slice_row h2 hb.symm (by rw [hb]; omega))⟩
theorem duo_nodup (g h : Nat) : ((duoSh g h).map (·.1)).Nodup := by simp [duoSh]
theorem duo_mem (g h m : Nat) : m ∈ S.pgs (duoSh g h) ↔ m = 1 ∨ m = 400 := by simp [duoSh, S.pgs]
set_option maxHeartbeats 32000000 in
set_option maxRecDepth 10000 in
theorem pagesStop_walk (a : Int) (A B : UInt8) (kv : Value) (ks : List Bool) (torn bytes : Int) (w : World) (ha1 : -9223372036854775808 ≤ a) (ha2 : a ≤ 9223372036854775807) (hks : BoolsAt w kv ks) (hK : KAt w) :
   Calls Tryz.prog 5 #[.int .i64 a, .int .u8 (A.toNat : Int), .int .u8 (B.toNat : Int), .agg #[kv, .int .i64 torn, .int .i64 bytes]] w fun e w' => e = .returned (.bool true) ∧ Below w.heap.size w w' := by
  have HK0 := hide hK
  have HP : Hid (0 < w.heap.size) := hK.pos
  have KS := hide hks
  obtain ⟨wi, hwi⟩ : ∃ wi, wi = w.alloc (.cells #[kv, .int .i64 torn, .int .i64 bytes] 45) := ⟨_, rfl⟩
  have bi : Below w.heap.size w wi := by rw [hwi]; exact (Below.refl _ _).alloc (Nat.le_refl _) _
  have RC0 : Hid (wi.heap[w.heap.size]? = some (.cells #[kv, .int .i64 torn, .int .i64 bytes] 45 (0, 0))) := by rw [hwi]; exact heap_alloc_new _ _
  have BI := hide bi
  have KI := hide (hK.below bi HP.out)
  have HK : Hid (KAt w) := hK
  obtain ⟨gC, hgC⟩ : ∃ gC, gC = w.heap.size := ⟨_, rfl⟩
  rw [← hgC] at RC0
  have GCI : Hid (gC < wi.heap.size) := block_lt_of_row RC0.out
  have HWI := hide hwi
  have HGC := hide hgC
  clear hK hks bi hwi hgC
  go_enter Tryz.func5, Tryz.ntmps5
  go_wp2_with fail
  rw [← HWI.out, ← HGC.out]
  refine (pbegun_go wi KI.out).mono ?_
  rintro e w1 ⟨o, gs, rfl, hp1, hst1, hng, hgs⟩
  obtain ⟨d0, hd0⟩ : ∃ d0, d0 = S.madeDk 8192 := ⟨_, rfl⟩
  obtain ⟨pg0, hpg0⟩ : ∃ pg0 : Nat → List UInt8, pg0 = fun _ => S.zeros 1024 := ⟨_, rfl⟩
  rw [← hd0, ← hpg0] at hp1
  have Q1 := hide hp1
  have ST1 := hide hst1
  have NG := hide hng
  clear hp1 hst1 hng hgs hd0 hpg0 HK0 KI
  go_wp2_with fail
  refine (page_any 1 w1).mono ?_
  rintro e w2 ⟨g2, rfl, hg2, hr2, b2⟩
  obtain ⟨P1, hP1⟩ : ∃ P1, P1 = S.pgOf 1 := ⟨_, rfl⟩
  rw [← hP1] at hr2
  have HP1 := hide hP1
  have L1 : Hid (P1.length = 1024) := by rw [hP1]; exact S.pgOf_length 1
  have Q2 := hide (Q1.out.then b2)
  have ST2 : Hid (StAt w2 gs o) := (b2.block gs (block_lt_of_row ST1.out)).trans ST1.out
  have R2 := hide hr2
  have N2 : Hid (¬ o.has g2) := fun e => by have := Q1.out.dk.dk.lt g2 e; omega
  clear hP1 hg2 hr2 b2 Q1 ST1
  go_wp2_with fail
  refine (page_any 2 w2).mono ?_
  rintro e w3 ⟨g3, rfl, hg3, hr3, b3⟩
  obtain ⟨P2, hP2⟩ : ∃ P2, P2 = S.pgOf 2 := ⟨_, rfl⟩
  rw [← hP2] at hr3
  have HP2 := hide hP2
  have L2 : Hid (P2.length = 1024) := by rw [hP2]; exact S.pgOf_length 2
  have Q3 := hide (Q2.out.then b3)
  have ST3 : Hid (StAt w3 gs o) := (b3.block gs (block_lt_of_row ST2.out)).trans ST2.out
  have R3 : Hid (w3.heap[g2]? = some (.cells (S.v8 P1) 5 (0, 0))) := (b3.block g2 (block_lt_of_row R2.out)).trans R2.out
  have R3b := hide hr3
  have N3 : Hid (¬ o.has g3) := fun e => by have := Q2.out.dk.dk.lt g3 e; omega
  obtain ⟨w4, hw4⟩ : ∃ w4, w4 = w3.alloc (.cells #[.int .i64 1, .slice (some ⟨g2, 0, none⟩) 1024 1024, .int .i64 400, .slice (some ⟨g3, 0, none⟩) 1024 1024] 37) := ⟨_, rfl⟩
  have b4 : Below w3.heap.size w3 w4 := by rw [hw4]; exact (Below.refl _ _).alloc (Nat.le_refl _) _
  have R4 : Hid (w4.heap[w3.heap.size]? = some (.cells ((duoSh g2 g3).flatMap encSh).toArray 37 (0, 0))) := by rw [hw4]; exact heap_alloc_new _ _
  have Q4 := hide (Q3.out.then b4)
  have ST4 : Hid (StAt w4 gs o) := (b4.block gs (block_lt_of_row ST3.out)).trans ST3.out
  have OK4 := hide (duo_ok (o := o) ((b4.block g2 (block_lt_of_row R3.out)).trans R3.out) ((b4.block g3 (block_lt_of_row R3b.out)).trans R3b.out) L1.out L2.out N2.out N3.out)
  clear hP2 hg3 hr3 b3 b4 Q2 ST2 R2 Q3 ST3 R3 R3b N2 N3
  go_wp2_with fail
  rw [← hw4]
  clear hw4
  refine (pput_go wi w4 o d0 0 0 gs w3.heap.size 0 2 (duoSh g2 g3) pg0 (S.duo P1 P2) Q4.out ST4.out (row_cells R4.out) (by simp [duoSh]) (by simp [duoSh]) OK4.out (duo_nodup g2 g3) NG.out (by omega)).mono ?_
  rintro e w5 ⟨rfl, o5, d5, hg5, hp5, hst5, hc5, ho5⟩
  obtain ⟨pg, hpg⟩ : ∃ pg : Nat → List UInt8, pg = fun m => if m ∈ S.pgs (duoSh g2 g3) then S.duo P1 P2 m else pg0 m := ⟨_, rfl⟩
  rw [← hpg] at hp5
  have PG1 : Hid (pg 1 = P1) := by
    have e : pg 1 = if 1 ∈ S.pgs (duoSh g2 g3) then S.duo P1 P2 1 else pg0 1 := by rw [hpg]
    show pg 1 = P1
    rw [e, if_pos ((duo_mem g2 g3 1).2 (Or.inl rfl))]
    rfl
  have PG2 : Hid (pg 400 = P2) := by
    have e : pg 400 = if 400 ∈ S.pgs (duoSh g2 g3) then S.duo P1 P2 400 else pg0 400 := by rw [hpg]
    show pg 400 = P2
    rw [e, if_pos ((duo_mem g2 g3 400).2 (Or.inr rfl))]
    rfl
  have Q5 := hide hp5
  have ST5 := hide hst5
  have NG5 : Hid (¬ o5.has gs) := fun e => by
    rcases ho5 _ e with e | e
    · exact NG.out e
    · have := block_lt_of_row ST4.out; omega
  have OG5 : Hid (o5.g = o.g) := hg5
  clear hg5 hp5 hst5 hc5 ho5 hpg Q4 ST4 R4 OK4 NG
  go_wp2_with fail
  refine (within_any a 60 w5 ha1 ha2 (by omega) (by omega)).mono ?_
  rintro e w6 ⟨rfl, rfl⟩
  obtain ⟨s, hs⟩ : ∃ s : Nat, s = S.within a 60 := ⟨_, rfl⟩
  have hs60 : s ≤ 60 := by have := S.within_le a 60 (by omega); omega
  rw [← hs]
  have hpt5 : o5.ptr = o.ptr := by unfold Ow.ptr; rw [OG5.out]
  rw [← hpt5]
  clear hs hpt5 ha1 ha2
  go_wp2_with fail
  refine (stop_any o5 d5 (s : Int) w5 Q5.out.dk.dk (by omega)).mono ?_
  rintro e w6 ⟨rfl, o6, hd6, hm6⟩
  have Q6 : Hid (Pn wi w6 o6 (d5.stop (s : Int)) 0 (0 + 2) pg) := ⟨Q5.out.dk.to hd6 hm6, Q5.out.pend, Q5.out.len, Q5.out.mark, Q5.out.log, Q5.out.home, fun k e => by
    rcases hm6.own k e with e | e
    · exact Q5.out.ob k e
    · exact Nat.le_trans Q5.out.below.size e, Q5.out.below.trans (hm6.chg.below _ Q5.out.below.size (fun k hk e => by have := Q5.out.ob k e; omega)), Q5.out.pos⟩
  obtain ⟨d6, hd6e⟩ : ∃ d6, d6 = d5.stop (s : Int) := ⟨_, rfl⟩
  rw [← hd6e] at Q6
  have ST6 : Hid (StAt w6 gs o6) := by
    show w6.heap[gs]? = some (.cells #[.pointer (some ⟨o6.g, 0, none⟩)] 69 (0, 0))
    rw [hm6.g]
    exact hm6.chg.row ST5.out NG5.out
  have NG6 : Hid (¬ o6.has gs) := fun e => by
    rcases hm6.own _ e with e | e
    · exact NG5.out e
    · have := block_lt_of_row ST5.out; omega
  have OG6 : Hid (o6.g = o.g) := hm6.g.trans OG5.out
  have hpt6 : o6.ptr = o5.ptr := by unfold Ow.ptr; rw [hm6.g]
  rw [← hpt6]
  clear hd6 hm6 hd6e hpt6 Q5 ST5 NG5 OG5
  go_wp2_with fail
  refine (page_any A w6).mono ?_
  rintro e w7 ⟨g7, rfl, hg7, hr7, b7⟩
  obtain ⟨PA, hPA⟩ : ∃ PA, PA = S.pgOf A := ⟨_, rfl⟩
  rw [← hPA] at hr7
  have HPA := hide hPA
  have LA : Hid (PA.length = 1024) := by rw [hPA]; exact S.pgOf_length A
  have Q7 := hide (Q6.out.then b7)
  have ST7 : Hid (StAt w7 gs o6) := (b7.block gs (block_lt_of_row ST6.out)).trans ST6.out
  have R7 := hide hr7
  have N7 : Hid (¬ o6.has g7) := fun e => by have := Q6.out.dk.dk.lt g7 e; omega
  clear hPA hg7 hr7 b7 Q6 ST6
  go_wp2_with fail
  refine (page_any B w7).mono ?_
  rintro e w8 ⟨g8, rfl, hg8, hr8, b8⟩
  obtain ⟨PB, hPB⟩ : ∃ PB, PB = S.pgOf B := ⟨_, rfl⟩
  rw [← hPB] at hr8
  have HPB := hide hPB
  have LB : Hid (PB.length = 1024) := by rw [hPB]; exact S.pgOf_length B
  have Q8 := hide (Q7.out.then b8)
  have ST8 : Hid (StAt w8 gs o6) := (b8.block gs (block_lt_of_row ST7.out)).trans ST7.out
  have R8 : Hid (w8.heap[g7]? = some (.cells (S.v8 PA) 5 (0, 0))) := (b8.block g7 (block_lt_of_row R7.out)).trans R7.out
  have R8b := hide hr8
  have N8 : Hid (¬ o6.has g8) := fun e => by have := Q7.out.dk.dk.lt g8 e; omega
  obtain ⟨w9, hw9⟩ : ∃ w9, w9 = w8.alloc (.cells #[.int .i64 1, .slice (some ⟨g7, 0, none⟩) 1024 1024, .int .i64 400, .slice (some ⟨g8, 0, none⟩) 1024 1024] 37) := ⟨_, rfl⟩
  have b9 : Below w8.heap.size w8 w9 := by rw [hw9]; exact (Below.refl _ _).alloc (Nat.le_refl _) _
  have R9 : Hid (w9.heap[w8.heap.size]? = some (.cells ((duoSh g7 g8).flatMap encSh).toArray 37 (0, 0))) := by rw [hw9]; exact heap_alloc_new _ _
  have Q9 := hide (Q8.out.then b9)
  have ST9 : Hid (StAt w9 gs o6) := (b9.block gs (block_lt_of_row ST8.out)).trans ST8.out
  have OK9 := hide (duo_ok (o := o6) ((b9.block g7 (block_lt_of_row R8.out)).trans R8.out) ((b9.block g8 (block_lt_of_row R8b.out)).trans R8b.out) LA.out LB.out N7.out N8.out)
  clear hPB hg8 hr8 b8 b9 Q7 ST7 R7 Q8 ST8 R8 R8b N7 N8
  go_wp2_with fail
  rw [← hw9]
  clear hw9
  refine (pput_any wi w9 o6 d6 0 (0 + 2) gs w8.heap.size 0 2 (duoSh g7 g8) pg (S.duo PA PB) Q9.out ST9.out (row_cells R9.out) (by simp [duoSh]) (by simp [duoSh]) OK9.out (duo_nodup g7 g8) NG6.out (by omega)).mono ?_
  rintro e wa ⟨bb, da, oa, ns, rfl, hpm, hup, pa⟩
  have PAA := hide pa
  have MEM : Hid (∀ m, m ∈ ns ↔ m = 1 ∨ m = 400) := fun m => (hpm.mem_iff).trans (duo_mem g7 g8 m)
  have UPP := hide hup
  have LE2 : Hid (ns.length ≤ 256) := by show ns.length ≤ 256; rw [hpm.length_eq]; simp [S.pgs, duoSh]
  have hpta : oa.ptr = o6.ptr := by unfold Ow.ptr; rw [pa.ptr]
  rw [← hpta]
  have RCA : wa.heap[gC]? = some (.cells #[kv, .int .i64 torn, .int .i64 bytes] 45 (0, 0)) := (pa.below.block gC GCI.out).trans RC0.out
  have ld := load45 RCA
  have BWA : Hid (Below w.heap.size w wa) := BI.out.trans (pa.below.mono BI.out.size)
  have PEA : Hid (da.pend.length ≤ 1000000) := by
    have h1 := S.Dk.plan_pend (S.putActs d6 0 (0 + 2) ns (ns.map (S.duo PA PB))) d6
    rw [pa.plan, Q9.out.pend] at h1
    have h2 := S.putActs_few d6 0 (0 + 2) ns (ns.map (S.duo PA PB)) LE2.out
    simp only [List.length_nil] at h1
    exact Nat.le_trans h1 (by omega)
  have KSA : Hid (∀ W, Chg oa.has wa W → BoolsAt W kv ks) := fun W hc => KS.out.below (BWA.out.trans (hc.below _ BWA.out.size (fun k hk e => by have := PAA.out.ob k e; have := BI.out.size; omega))) (Nat.le_refl _)
  clear hpm hup pa hpta RCA OK9 R9 ST9 NG6 OG6
  generalize hy : S.why bb = y
  have HY := hide hy
  clear hy
  go_wp2_with (with_reducible refine at_op { dst := some 52, op := Op.load 45 (Operand.tmp 7), type := 45, pos := "law.go:197", after := #[], guard := none } ?_; refine wpList_load_as rfl 45 (.tmp 7) rfl (.pointer (some ⟨gC, 0, none⟩)) rfl (.agg #[kv, .int .i64 torn, .int .i64 bytes]) ld ?_)
  clear ld
  refine (crash_any oa da kv ⟨ks, torn, bytes⟩ wa PAA.out.dk.dk PEA.out KSA.out).mono ?_
  rintro e wb ⟨rfl, ob, hdb, hmb⟩
  have hptb : ob.ptr = oa.ptr := by unfold Ow.ptr; rw [hmb.g]
  rw [← hptb]
  obtain ⟨X, Y, R, hXY, hseen, hopen⟩ := seen_crash Q9.out PAA.out ⟨ks, torn, bytes⟩ hdb hmb MEM.out UPP.out LE2.out (fun n hn => by
    rcases hn with rfl | rfl
    · exact ⟨LA.out, by rw [PG1.out]; exact L1.out⟩
    · exact ⟨LB.out, by rw [PG2.out]; exact L2.out⟩) (by omega)
  rw [PG1.out, PG2.out, show S.duo PA PB 1 = PA from rfl, show S.duo PA PB 400 = PB from rfl] at hXY
  have XY := hide hXY
  have SE := hide hseen
  have OP := hide hopen
  have BWI := hide BI.out
  clear hXY hseen hopen hdb hmb hptb PAA PEA KSA Q9 MEM UPP LE2 BWA PG1 PG2 RC0 GCI HWI HGC
  go_wp2_with fail
  refine OP.out.mono ?_
  rintro e wc ⟨gt, rfl, hr⟩
  have RR := hide hr
  clear hr OP
  go_wp2_with fail
  refine (SE.out.one wc gt RR.out).mono ?_
  rintro e wd ⟨gx, rfl, hx, hr, bd⟩
  have SX1 := hide hx
  have RR2 := hide hr
  clear hx hr bd RR
  go_wp2_with fail
  refine (SE.out.two wd gt RR2.out).mono ?_
  rintro e wr ⟨gy, rfl, hy, hr, bd⟩
  have SYwr := hide hy
  have SXwr := hide (SX1.out.below bd (Nat.le_refl _))
  have Bwr : Hid (Below w.heap.size w wr) := BI.out.trans ((SE.out.below wr gt hr).mono BI.out.size)
  clear hy hr bd RR2 SX1
  go_upto_region 12 with fail
  rcases XY.out with ⟨hA, hB⟩ | ⟨hA, hB, hb⟩
  · have XA := hide hA
    have YB := hide hB
    clear hA hB
    by_cases h1x : X = P1
    · have e1 : (X == P1) = true := beq_iff_eq.2 h1x
      clear h1x
      by_cases h1y : Y = P2
      · have e2 : (Y == P2) = true := beq_iff_eq.2 h1y
        clear h1y
        refine wp_region_noPanic ?_
        refine wp_region_held_drew (S := (fun W => SliceAt W (.slice (some ⟨gx, 0, none⟩) 1024 1024) X ∧ SliceAt W (.slice (some ⟨gy, 0, none⟩) 1024 1024) Y)) follows ⟨SXwr.out, SYwr.out⟩ (fun hHeld => ?_)
        have Bd : Hid (Below w.heap.size w wr.drew) := Bwr.out.drew
        clear Bwr SXwr SYwr
        generalize wr.drew = wra at Bd hHeld ⊢
        refine wpAnyH_take (i := 0) (oi := { dst := some 75, op := Op.move (Operand.tmp 15), type := 31, pos := "law.go:204", after := #[], guard := none }) (v := ?_) rfl (by kernel_rfl) (by kernel_rfl) (by kernel_rfl) (fun _ _ _ h => h) (Or.inl ⟨by rfl, ?_⟩) (by assumption) ?_
        rotate_left
        · intro w hSw
          clear hSw
          go_simp
          all_goals with_reducible rfl
        simp only [Act.put, List.setIfInBounds_toArray, List.set_cons_zero, List.set_cons_succ]
        refine wpAnyH_take (i := 1) (oi := { dst := some 76, op := Op.convert 31 9 (Operand.tmp 75), type := 9, pos := "law.go:204", after := #[⟨0, .data⟩], guard := none }) (v := .string ⟨(X).toArray⟩) rfl (by kernel_rfl) (by kernel_rfl) (by kernel_rfl) (fun _ _ _ h => h) (yieldsIf_conv (by kernel_rfl) (.tmp 75) rfl (.slice (some ⟨gx, 0, none⟩) 1024 1024) rfl (X) (fun W hW => hW.1)) (by assumption) ?_
        simp only [Act.put, List.setIfInBounds_toArray, List.set_cons_zero, List.set_cons_succ]
        refine wpAnyH_ready (rs := [2]) (by kernel_rfl) (by simp) ?_
        refine AllReadyH.cons (o := { dst := some 77, op := Op.call { callee := Callee.value (Operand.func 13), args := #[Operand.const (Value.int IntKind.u8 1)], argTypes := #[5] }, type := 31, pos := "law.go:204", after := #[], guard := none }) rfl (fun K hK => ?_) AllReadyH.nil
        go_simp
        refine (page_any 1 wra).mono ?_
        rintro e wrb ⟨g9, rfl, hg9, hr9, b9⟩
        have a2 : SliceAt wrb (.slice (some ⟨gx, 0, none⟩) 1024 1024) X ∧ SliceAt wrb (.slice (some ⟨gy, 0, none⟩) 1024 1024) Y := ⟨hHeld.1.below b9 (Nat.le_refl _), hHeld.2.below b9 (Nat.le_refl _)⟩
        have B2 := hide (Bd.out.trans (b9.mono Bd.out.size))
        have hs9 : SliceAt wrb (.slice (some ⟨g9, 0, none⟩) 1024 1024) (S.pgOf 1) := slice_row hr9 (S.pgOf_length 1).symm (by rw [S.pgOf_length]; omega)
        rw [← HP1.out] at hs9
        have hcv := conv_slice hs9
        clear hHeld hr9 b9 hg9 Bd hs9
        refine hK.out _ _ a2 (fun hHeld => ?_)
        clear hK K
        try simp only [Act.put, List.setIfInBounds_toArray, List.set_cons_zero, List.set_cons_succ]
        clear a2
        refine wpAnyH_ready (rs := [3]) (by kernel_rfl) (by simp) ?_
        refine AllReadyH.cons (o := { dst := some 78, op := Op.convert 31 9 (Operand.tmp 77), type := 9, pos := "law.go:204", after := #[⟨2, .data⟩], guard := none }) rfl (fun K hK => ?_) AllReadyH.nil
        go_simp
        clear hcv
        refine hK.out _ _ hHeld (fun hHeld => ?_)
        clear hK K
        try simp only [Act.put, List.setIfInBounds_toArray, List.set_cons_zero, List.set_cons_succ]
        have Bd := B2
        clear B2
        refine wpAnyH_take (i := 4) (oi := { dst := some 79, op := Op.binOp BinOp.eql 9 (Operand.tmp 76) (Operand.tmp 78) 9, type := 4, pos := "law.go:204", after := #[⟨1, .data⟩, ⟨3, .data⟩], guard := none }) (v := ?_) rfl (by kernel_rfl) (by kernel_rfl) (by kernel_rfl) (fun _ _ _ h => h) (Or.inl ⟨by rfl, ?_⟩) (by assumption) ?_
        rotate_left
        · intro w hSw
          clear hSw
          go_simp
          all_goals with_reducible rfl
        simp only [Act.put, List.setIfInBounds_toArray, List.set_cons_zero, List.set_cons_succ]
        refine wpAnyH_take (i := 5) (oi := { dst := some 80, op := Op.move (Operand.tmp 79), type := 4, pos := "law.go:204", after := #[⟨4, .data⟩, ⟨2, .chain⟩], guard := none }) (v := ?_) rfl (by kernel_rfl) (by kernel_rfl) (by kernel_rfl) (fun _ _ _ h => h) (Or.inl ⟨by rfl, ?_⟩) (by assumption) ?_
        rotate_left
        · intro w hSw
          clear hSw
          go_simp
          all_goals with_reducible rfl
        simp only [Act.put, List.setIfInBounds_toArray, List.set_cons_zero, List.set_cons_succ]
        refine wpAnyH_take (i := 6) (oi := { dst := some 81, op := Op.move (Operand.tmp 17), type := 31, pos := "law.go:204", after := #[⟨5, .guard⟩], guard := some (5, true) }) (v := ?_) rfl (by kernel_rfl) (by kernel_rfl) (by kernel_rfl) (fun _ _ _ h => h) (Or.inl ⟨by rfl, ?_⟩) (by assumption) ?_
        rotate_left
        · intro w hSw
          clear hSw
          go_simp
          all_goals with_reducible rfl
        simp only [Act.put, List.setIfInBounds_toArray, List.set_cons_zero, List.set_cons_succ]
        refine wpAnyH_take (i := 7) (oi := { dst := some 82, op := Op.convert 31 9 (Operand.tmp 81), type := 9, pos := "law.go:204", after := #[⟨6, .data⟩, ⟨5, .guard⟩], guard := some (5, true) }) (v := .string ⟨(Y).toArray⟩) rfl (by kernel_rfl) (by kernel_rfl) (by kernel_rfl) (fun _ _ _ h => h) (yieldsIf_conv (by kernel_rfl) (.tmp 81) rfl (.slice (some ⟨gy, 0, none⟩) 1024 1024) rfl (Y) (fun W hW => hW.2)) (by assumption) ?_
        simp only [Act.put, List.setIfInBounds_toArray, List.set_cons_zero, List.set_cons_succ]
        refine wpAnyH_ready (rs := [8]) (by kernel_rfl) (by simp) ?_
        refine AllReadyH.cons (o := { dst := some 83, op := Op.call { callee := Callee.value (Operand.func 13), args := #[Operand.const (Value.int IntKind.u8 2)], argTypes := #[5] }, type := 31, pos := "law.go:204", after := #[⟨5, .chain⟩, ⟨5, .guard⟩], guard := some (5, true) }) rfl (fun K hK => ?_) AllReadyH.nil
        go_simp
        refine (page_any 2 wrb).mono ?_
        rintro e wrc ⟨g9, rfl, hg9, hr9, b9⟩
        have a2 : SliceAt wrc (.slice (some ⟨gx, 0, none⟩) 1024 1024) X ∧ SliceAt wrc (.slice (some ⟨gy, 0, none⟩) 1024 1024) Y := ⟨hHeld.1.below b9 (Nat.le_refl _), hHeld.2.below b9 (Nat.le_refl _)⟩
        have B2 := hide (Bd.out.trans (b9.mono Bd.out.size))
        have hs9 : SliceAt wrc (.slice (some ⟨g9, 0, none⟩) 1024 1024) (S.pgOf 2) := slice_row hr9 (S.pgOf_length 2).symm (by rw [S.pgOf_length]; omega)
        rw [← HP2.out] at hs9
        have hcv := conv_slice hs9
        clear hHeld hr9 b9 hg9 Bd hs9
        refine hK.out _ _ a2 (fun hHeld => ?_)
        clear hK K
        try simp only [Act.put, List.setIfInBounds_toArray, List.set_cons_zero, List.set_cons_succ]
        clear a2
        refine wpAnyH_ready (rs := [9]) (by kernel_rfl) (by simp) ?_
        refine AllReadyH.cons (o := { dst := some 84, op := Op.convert 31 9 (Operand.tmp 83), type := 9, pos := "law.go:204", after := #[⟨8, .data⟩, ⟨5, .guard⟩], guard := some (5, true) }) rfl (fun K hK => ?_) AllReadyH.nil
        go_simp
        clear hcv
        refine hK.out _ _ hHeld (fun hHeld => ?_)
        clear hK K
        try simp only [Act.put, List.setIfInBounds_toArray, List.set_cons_zero, List.set_cons_succ]
        have Bd := B2
        clear B2
        refine wpAnyH_take (i := 10) (oi := { dst := some 85, op := Op.binOp BinOp.eql 9 (Operand.tmp 82) (Operand.tmp 84) 9, type := 4, pos := "law.go:204", after := #[⟨7, .data⟩, ⟨9, .data⟩, ⟨5, .guard⟩], guard := some (5, true) }) (v := ?_) rfl (by kernel_rfl) (by kernel_rfl) (by kernel_rfl) (fun _ _ _ h => h) (Or.inl ⟨by rfl, ?_⟩) (by assumption) ?_
        rotate_left
        · intro w hSw
          clear hSw
          go_simp
          all_goals with_reducible rfl
        simp only [Act.put, List.setIfInBounds_toArray, List.set_cons_zero, List.set_cons_succ]
        refine wpAnyH_take (i := 11) (oi := { dst := some 86, op := Op.pick (Operand.tmp 80) (Operand.tmp 85) (Operand.const (Value.bool false)), type := 4, pos := "law.go:204", after := #[⟨5, .data⟩, ⟨10, .data⟩], guard := none }) (v := ?_) rfl (by kernel_rfl) (by kernel_rfl) (by kernel_rfl) (fun _ _ _ h => h) (Or.inl ⟨by rfl, ?_⟩) (by assumption) ?_
        rotate_left
        · intro w hSw
          clear hSw
          go_simp
          all_goals with_reducible rfl
        simp only [Act.put, List.setIfInBounds_toArray, List.set_cons_zero, List.set_cons_succ]
        refine wpAnyH_take (i := 12) (oi := { dst := some 19, op := Op.assign (Operand.tmp 86), type := 4, pos := "law.go:204", after := #[⟨11, .data⟩, ⟨8, .chain⟩, ⟨0, .phase⟩, ⟨1, .phase⟩, ⟨2, .phase⟩, ⟨3, .phase⟩, ⟨4, .phase⟩, ⟨5, .phase⟩, ⟨6, .phase⟩, ⟨7, .phase⟩, ⟨8, .phase⟩, ⟨9, .phase⟩, ⟨10, .phase⟩, ⟨11, .phase⟩], guard := none }) (v := ?_) rfl (by kernel_rfl) (by kernel_rfl) (by kernel_rfl) (fun _ _ _ h => h) (Or.inl ⟨by rfl, ?_⟩) (by assumption) ?_
        rotate_left
        · intro w hSw
          clear hSw
          go_simp
          all_goals with_reducible rfl
        simp only [Act.put, List.setIfInBounds_toArray, List.set_cons_zero, List.set_cons_succ]
        have SXwrc := hide hHeld.1
        have SYwrc := hide hHeld.2
        have Bwrc := Bd
        clear Bd
        refine wpAnyH_done (by kernel_rfl) ?_ _
        refine NoPanic.normal ?_
        clear hHeld
        clear e1 e2
        go_upto_region 13 with fail
        have f1 : (X == PA) = true := beq_iff_eq.2 XA.out
        have f2 : (Y == PB) = true := beq_iff_eq.2 YB.out
        refine wp_region_noPanic ?_
        refine wp_region_held_drew (S := (fun W => SliceAt W (.slice (some ⟨gx, 0, none⟩) 1024 1024) X ∧ SliceAt W (.slice (some ⟨gy, 0, none⟩) 1024 1024) Y)) follows ⟨SXwrc.out, SYwrc.out⟩ (fun hHeld => ?_)
        have Bd : Hid (Below w.heap.size w wrc.drew) := Bwrc.out.drew
        clear Bwrc SXwrc SYwrc
        generalize wrc.drew = wrca at Bd hHeld ⊢
        refine wpAnyH_take (i := 0) (oi := { dst := some 87, op := Op.move (Operand.tmp 15), type := 31, pos := "law.go:205", after := #[], guard := none }) (v := ?_) rfl (by kernel_rfl) (by kernel_rfl) (by kernel_rfl) (fun _ _ _ h => h) (Or.inl ⟨by rfl, ?_⟩) (by assumption) ?_
        rotate_left
        · intro w hSw
          clear hSw
          go_simp
          all_goals with_reducible rfl
        simp only [Act.put, List.setIfInBounds_toArray, List.set_cons_zero, List.set_cons_succ]
        refine wpAnyH_take (i := 1) (oi := { dst := some 88, op := Op.convert 31 9 (Operand.tmp 87), type := 9, pos := "law.go:205", after := #[⟨0, .data⟩], guard := none }) (v := .string ⟨(X).toArray⟩) rfl (by kernel_rfl) (by kernel_rfl) (by kernel_rfl) (fun _ _ _ h => h) (yieldsIf_conv (by kernel_rfl) (.tmp 87) rfl (.slice (some ⟨gx, 0, none⟩) 1024 1024) rfl (X) (fun W hW => hW.1)) (by assumption) ?_
        simp only [Act.put, List.setIfInBounds_toArray, List.set_cons_zero, List.set_cons_succ]
        refine wpAnyH_take (i := 2) (oi := { dst := some 89, op := Op.move (Operand.tmp 1), type := 5, pos := "law.go:205", after := #[], guard := none }) (v := ?_) rfl (by kernel_rfl) (by kernel_rfl) (by kernel_rfl) (fun _ _ _ h => h) (Or.inl ⟨by rfl, ?_⟩) (by assumption) ?_
        rotate_left
        · intro w hSw
          clear hSw
          go_simp
          all_goals with_reducible rfl
        simp only [Act.put, List.setIfInBounds_toArray, List.set_cons_zero, List.set_cons_succ]
        refine wpAnyH_ready (rs := [3]) (by kernel_rfl) (by simp) ?_
        refine AllReadyH.cons (o := { dst := some 90, op := Op.call { callee := Callee.value (Operand.func 13), args := #[Operand.tmp 89], argTypes := #[5] }, type := 31, pos := "law.go:205", after := #[⟨2, .data⟩], guard := none }) rfl (fun K hK => ?_) AllReadyH.nil
        go_simp
        refine (page_any A wrca).mono ?_
        rintro e wrcb ⟨g9, rfl, hg9, hr9, b9⟩
        have a2 : SliceAt wrcb (.slice (some ⟨gx, 0, none⟩) 1024 1024) X ∧ SliceAt wrcb (.slice (some ⟨gy, 0, none⟩) 1024 1024) Y := ⟨hHeld.1.below b9 (Nat.le_refl _), hHeld.2.below b9 (Nat.le_refl _)⟩
        have B2 := hide (Bd.out.trans (b9.mono Bd.out.size))
        have hs9 : SliceAt wrcb (.slice (some ⟨g9, 0, none⟩) 1024 1024) (S.pgOf A) := slice_row hr9 (S.pgOf_length A).symm (by rw [S.pgOf_length]; omega)
        rw [← HPA.out] at hs9
        have hcv := conv_slice hs9
        clear hHeld hr9 b9 hg9 Bd hs9
        refine hK.out _ _ a2 (fun hHeld => ?_)
        clear hK K
        try simp only [Act.put, List.setIfInBounds_toArray, List.set_cons_zero, List.set_cons_succ]
        clear a2
        refine wpAnyH_ready (rs := [4]) (by kernel_rfl) (by simp) ?_
        refine AllReadyH.cons (o := { dst := some 91, op := Op.convert 31 9 (Operand.tmp 90), type := 9, pos := "law.go:205", after := #[⟨3, .data⟩], guard := none }) rfl (fun K hK => ?_) AllReadyH.nil
        go_simp
        clear hcv
        refine hK.out _ _ hHeld (fun hHeld => ?_)
        clear hK K
        try simp only [Act.put, List.setIfInBounds_toArray, List.set_cons_zero, List.set_cons_succ]
        have Bd := B2
        clear B2
        refine wpAnyH_take (i := 5) (oi := { dst := some 92, op := Op.binOp BinOp.eql 9 (Operand.tmp 88) (Operand.tmp 91) 9, type := 4, pos := "law.go:205", after := #[⟨1, .data⟩, ⟨4, .data⟩], guard := none }) (v := ?_) rfl (by kernel_rfl) (by kernel_rfl) (by kernel_rfl) (fun _ _ _ h => h) (Or.inl ⟨by rfl, ?_⟩) (by assumption) ?_
        rotate_left
        · intro w hSw
          clear hSw
          go_simp
          all_goals with_reducible rfl
        simp only [Act.put, List.setIfInBounds_toArray, List.set_cons_zero, List.set_cons_succ]
        refine wpAnyH_take (i := 6) (oi := { dst := some 93, op := Op.move (Operand.tmp 92), type := 4, pos := "law.go:205", after := #[⟨5, .data⟩, ⟨3, .chain⟩], guard := none }) (v := ?_) rfl (by kernel_rfl) (by kernel_rfl) (by kernel_rfl) (fun _ _ _ h => h) (Or.inl ⟨by rfl, ?_⟩) (by assumption) ?_
        rotate_left
        · intro w hSw
          clear hSw
          go_simp
          all_goals with_reducible rfl
        simp only [Act.put, List.setIfInBounds_toArray, List.set_cons_zero, List.set_cons_succ]
        refine wpAnyH_take (i := 7) (oi := { dst := some 94, op := Op.move (Operand.tmp 17), type := 31, pos := "law.go:205", after := #[⟨6, .guard⟩], guard := some (6, true) }) (v := ?_) rfl (by kernel_rfl) (by kernel_rfl) (by kernel_rfl) (fun _ _ _ h => h) (Or.inl ⟨by rfl, ?_⟩) (by assumption) ?_
        rotate_left
        · intro w hSw
          clear hSw
          go_simp
          all_goals with_reducible rfl
        simp only [Act.put, List.setIfInBounds_toArray, List.set_cons_zero, List.set_cons_succ]
        refine wpAnyH_take (i := 8) (oi := { dst := some 95, op := Op.convert 31 9 (Operand.tmp 94), type := 9, pos := "law.go:205", after := #[⟨7, .data⟩, ⟨6, .guard⟩], guard := some (6, true) }) (v := .string ⟨(Y).toArray⟩) rfl (by kernel_rfl) (by kernel_rfl) (by kernel_rfl) (fun _ _ _ h => h) (yieldsIf_conv (by kernel_rfl) (.tmp 94) rfl (.slice (some ⟨gy, 0, none⟩) 1024 1024) rfl (Y) (fun W hW => hW.2)) (by assumption) ?_
        simp only [Act.put, List.setIfInBounds_toArray, List.set_cons_zero, List.set_cons_succ]
        refine wpAnyH_take (i := 9) (oi := { dst := some 96, op := Op.move (Operand.tmp 2), type := 5, pos := "law.go:205", after := #[⟨6, .guard⟩], guard := some (6, true) }) (v := ?_) rfl (by kernel_rfl) (by kernel_rfl) (by kernel_rfl) (fun _ _ _ h => h) (Or.inl ⟨by rfl, ?_⟩) (by assumption) ?_
        rotate_left
        · intro w hSw
          clear hSw
          go_simp
          all_goals with_reducible rfl
        simp only [Act.put, List.setIfInBounds_toArray, List.set_cons_zero, List.set_cons_succ]
        refine wpAnyH_ready (rs := [10]) (by kernel_rfl) (by simp) ?_
        refine AllReadyH.cons (o := { dst := some 97, op := Op.call { callee := Callee.value (Operand.func 13), args := #[Operand.tmp 96], argTypes := #[5] }, type := 31, pos := "law.go:205", after := #[⟨9, .data⟩, ⟨6, .chain⟩, ⟨6, .guard⟩], guard := some (6, true) }) rfl (fun K hK => ?_) AllReadyH.nil
        go_simp
        refine (page_any B wrcb).mono ?_
        rintro e wrcc ⟨g9, rfl, hg9, hr9, b9⟩
        have a2 : SliceAt wrcc (.slice (some ⟨gx, 0, none⟩) 1024 1024) X ∧ SliceAt wrcc (.slice (some ⟨gy, 0, none⟩) 1024 1024) Y := ⟨hHeld.1.below b9 (Nat.le_refl _), hHeld.2.below b9 (Nat.le_refl _)⟩
        have B2 := hide (Bd.out.trans (b9.mono Bd.out.size))
        have hs9 : SliceAt wrcc (.slice (some ⟨g9, 0, none⟩) 1024 1024) (S.pgOf B) := slice_row hr9 (S.pgOf_length B).symm (by rw [S.pgOf_length]; omega)
        rw [← HPB.out] at hs9
        have hcv := conv_slice hs9
        clear hHeld hr9 b9 hg9 Bd hs9
        refine hK.out _ _ a2 (fun hHeld => ?_)
        clear hK K
        try simp only [Act.put, List.setIfInBounds_toArray, List.set_cons_zero, List.set_cons_succ]
        clear a2
        refine wpAnyH_ready (rs := [11]) (by kernel_rfl) (by simp) ?_
        refine AllReadyH.cons (o := { dst := some 98, op := Op.convert 31 9 (Operand.tmp 97), type := 9, pos := "law.go:205", after := #[⟨10, .data⟩, ⟨6, .guard⟩], guard := some (6, true) }) rfl (fun K hK => ?_) AllReadyH.nil
        go_simp
        clear hcv
        refine hK.out _ _ hHeld (fun hHeld => ?_)
        clear hK K
        try simp only [Act.put, List.setIfInBounds_toArray, List.set_cons_zero, List.set_cons_succ]
        have Bd := B2
        clear B2
        refine wpAnyH_take (i := 12) (oi := { dst := some 99, op := Op.binOp BinOp.eql 9 (Operand.tmp 95) (Operand.tmp 98) 9, type := 4, pos := "law.go:205", after := #[⟨8, .data⟩, ⟨11, .data⟩, ⟨6, .guard⟩], guard := some (6, true) }) (v := ?_) rfl (by kernel_rfl) (by kernel_rfl) (by kernel_rfl) (fun _ _ _ h => h) (Or.inl ⟨by rfl, ?_⟩) (by assumption) ?_
        rotate_left
        · intro w hSw
          clear hSw
          go_simp
          all_goals with_reducible rfl
        simp only [Act.put, List.setIfInBounds_toArray, List.set_cons_zero, List.set_cons_succ]
        refine wpAnyH_take (i := 13) (oi := { dst := some 100, op := Op.pick (Operand.tmp 93) (Operand.tmp 99) (Operand.const (Value.bool false)), type := 4, pos := "law.go:205", after := #[⟨6, .data⟩, ⟨12, .data⟩], guard := none }) (v := ?_) rfl (by kernel_rfl) (by kernel_rfl) (by kernel_rfl) (fun _ _ _ h => h) (Or.inl ⟨by rfl, ?_⟩) (by assumption) ?_
        rotate_left
        · intro w hSw
          clear hSw
          go_simp
          all_goals with_reducible rfl
        simp only [Act.put, List.setIfInBounds_toArray, List.set_cons_zero, List.set_cons_succ]
        refine wpAnyH_take (i := 14) (oi := { dst := some 20, op := Op.assign (Operand.tmp 100), type := 4, pos := "law.go:205", after := #[⟨13, .data⟩, ⟨10, .chain⟩, ⟨0, .phase⟩, ⟨1, .phase⟩, ⟨2, .phase⟩, ⟨3, .phase⟩, ⟨4, .phase⟩, ⟨5, .phase⟩, ⟨6, .phase⟩, ⟨7, .phase⟩, ⟨8, .phase⟩, ⟨9, .phase⟩, ⟨10, .phase⟩, ⟨11, .phase⟩, ⟨12, .phase⟩, ⟨13, .phase⟩], guard := none }) (v := ?_) rfl (by kernel_rfl) (by kernel_rfl) (by kernel_rfl) (fun _ _ _ h => h) (Or.inl ⟨by rfl, ?_⟩) (by assumption) ?_
        rotate_left
        · intro w hSw
          clear hSw
          go_simp
          all_goals with_reducible rfl
        simp only [Act.put, List.setIfInBounds_toArray, List.set_cons_zero, List.set_cons_succ]
        have SXwrcc := hide hHeld.1
        have SYwrcc := hide hHeld.2
        have Bwrcc := Bd
        clear Bd
        refine wpAnyH_done (by kernel_rfl) ?_ _
        refine NoPanic.normal ?_
        clear hHeld
        clear f1 f2
        go_wp2_with fail
        refine (pknown_go wrcc (HK.out.below Bwrcc.out HP.out)).mono ?_
        rintro e wz ⟨rfl, bz⟩
        have BF := hide (Bwrcc.out.trans (bz.mono Bwrcc.out.size))
        clear bz
        go_wp2_with fail
        go_ret
        exact ⟨rfl, BF.out⟩
      · have e2 : (Y == P2) = false := beq_false_of_ne h1y
        clear h1y
        refine wp_region_noPanic ?_
        refine wp_region_held_drew (S := (fun W => SliceAt W (.slice (some ⟨gx, 0, none⟩) 1024 1024) X ∧ SliceAt W (.slice (some ⟨gy, 0, none⟩) 1024 1024) Y)) follows ⟨SXwr.out, SYwr.out⟩ (fun hHeld => ?_)
        have Bd : Hid (Below w.heap.size w wr.drew) := Bwr.out.drew
        clear Bwr SXwr SYwr
        generalize wr.drew = wra at Bd hHeld ⊢
        refine wpAnyH_take (i := 0) (oi := { dst := some 75, op := Op.move (Operand.tmp 15), type := 31, pos := "law.go:204", after := #[], guard := none }) (v := ?_) rfl (by kernel_rfl) (by kernel_rfl) (by kernel_rfl) (fun _ _ _ h => h) (Or.inl ⟨by rfl, ?_⟩) (by assumption) ?_
        rotate_left
        · intro w hSw
          clear hSw
          go_simp
          all_goals with_reducible rfl
        simp only [Act.put, List.setIfInBounds_toArray, List.set_cons_zero, List.set_cons_succ]
        refine wpAnyH_take (i := 1) (oi := { dst := some 76, op := Op.convert 31 9 (Operand.tmp 75), type := 9, pos := "law.go:204", after := #[⟨0, .data⟩], guard := none }) (v := .string ⟨(X).toArray⟩) rfl (by kernel_rfl) (by kernel_rfl) (by kernel_rfl) (fun _ _ _ h => h) (yieldsIf_conv (by kernel_rfl) (.tmp 75) rfl (.slice (some ⟨gx, 0, none⟩) 1024 1024) rfl (X) (fun W hW => hW.1)) (by assumption) ?_
        simp only [Act.put, List.setIfInBounds_toArray, List.set_cons_zero, List.set_cons_succ]
        refine wpAnyH_ready (rs := [2]) (by kernel_rfl) (by simp) ?_
        refine AllReadyH.cons (o := { dst := some 77, op := Op.call { callee := Callee.value (Operand.func 13), args := #[Operand.const (Value.int IntKind.u8 1)], argTypes := #[5] }, type := 31, pos := "law.go:204", after := #[], guard := none }) rfl (fun K hK => ?_) AllReadyH.nil
        go_simp
        refine (page_any 1 wra).mono ?_
        rintro e wrb ⟨g9, rfl, hg9, hr9, b9⟩
        have a2 : SliceAt wrb (.slice (some ⟨gx, 0, none⟩) 1024 1024) X ∧ SliceAt wrb (.slice (some ⟨gy, 0, none⟩) 1024 1024) Y := ⟨hHeld.1.below b9 (Nat.le_refl _), hHeld.2.below b9 (Nat.le_refl _)⟩
        have B2 := hide (Bd.out.trans (b9.mono Bd.out.size))
        have hs9 : SliceAt wrb (.slice (some ⟨g9, 0, none⟩) 1024 1024) (S.pgOf 1) := slice_row hr9 (S.pgOf_length 1).symm (by rw [S.pgOf_length]; omega)
        rw [← HP1.out] at hs9
        have hcv := conv_slice hs9
        clear hHeld hr9 b9 hg9 Bd hs9
        refine hK.out _ _ a2 (fun hHeld => ?_)
        clear hK K
        try simp only [Act.put, List.setIfInBounds_toArray, List.set_cons_zero, List.set_cons_succ]
        clear a2
        refine wpAnyH_ready (rs := [3]) (by kernel_rfl) (by simp) ?_
        refine AllReadyH.cons (o := { dst := some 78, op := Op.convert 31 9 (Operand.tmp 77), type := 9, pos := "law.go:204", after := #[⟨2, .data⟩], guard := none }) rfl (fun K hK => ?_) AllReadyH.nil
        go_simp
        clear hcv
        refine hK.out _ _ hHeld (fun hHeld => ?_)
        clear hK K
        try simp only [Act.put, List.setIfInBounds_toArray, List.set_cons_zero, List.set_cons_succ]
        have Bd := B2
        clear B2
        refine wpAnyH_take (i := 4) (oi := { dst := some 79, op := Op.binOp BinOp.eql 9 (Operand.tmp 76) (Operand.tmp 78) 9, type := 4, pos := "law.go:204", after := #[⟨1, .data⟩, ⟨3, .data⟩], guard := none }) (v := ?_) rfl (by kernel_rfl) (by kernel_rfl) (by kernel_rfl) (fun _ _ _ h => h) (Or.inl ⟨by rfl, ?_⟩) (by assumption) ?_
        rotate_left
        · intro w hSw
          clear hSw
          go_simp
          all_goals with_reducible rfl
        simp only [Act.put, List.setIfInBounds_toArray, List.set_cons_zero, List.set_cons_succ]
        refine wpAnyH_take (i := 5) (oi := { dst := some 80, op := Op.move (Operand.tmp 79), type := 4, pos := "law.go:204", after := #[⟨4, .data⟩, ⟨2, .chain⟩], guard := none }) (v := ?_) rfl (by kernel_rfl) (by kernel_rfl) (by kernel_rfl) (fun _ _ _ h => h) (Or.inl ⟨by rfl, ?_⟩) (by assumption) ?_
        rotate_left
        · intro w hSw
          clear hSw
          go_simp
          all_goals with_reducible rfl
        simp only [Act.put, List.setIfInBounds_toArray, List.set_cons_zero, List.set_cons_succ]
        refine wpAnyH_take (i := 6) (oi := { dst := some 81, op := Op.move (Operand.tmp 17), type := 31, pos := "law.go:204", after := #[⟨5, .guard⟩], guard := some (5, true) }) (v := ?_) rfl (by kernel_rfl) (by kernel_rfl) (by kernel_rfl) (fun _ _ _ h => h) (Or.inl ⟨by rfl, ?_⟩) (by assumption) ?_
        rotate_left
        · intro w hSw
          clear hSw
          go_simp
          all_goals with_reducible rfl
        simp only [Act.put, List.setIfInBounds_toArray, List.set_cons_zero, List.set_cons_succ]
        refine wpAnyH_take (i := 7) (oi := { dst := some 82, op := Op.convert 31 9 (Operand.tmp 81), type := 9, pos := "law.go:204", after := #[⟨6, .data⟩, ⟨5, .guard⟩], guard := some (5, true) }) (v := .string ⟨(Y).toArray⟩) rfl (by kernel_rfl) (by kernel_rfl) (by kernel_rfl) (fun _ _ _ h => h) (yieldsIf_conv (by kernel_rfl) (.tmp 81) rfl (.slice (some ⟨gy, 0, none⟩) 1024 1024) rfl (Y) (fun W hW => hW.2)) (by assumption) ?_
        simp only [Act.put, List.setIfInBounds_toArray, List.set_cons_zero, List.set_cons_succ]
        refine wpAnyH_ready (rs := [8]) (by kernel_rfl) (by simp) ?_
        refine AllReadyH.cons (o := { dst := some 83, op := Op.call { callee := Callee.value (Operand.func 13), args := #[Operand.const (Value.int IntKind.u8 2)], argTypes := #[5] }, type := 31, pos := "law.go:204", after := #[⟨5, .chain⟩, ⟨5, .guard⟩], guard := some (5, true) }) rfl (fun K hK => ?_) AllReadyH.nil
        go_simp
        refine (page_any 2 wrb).mono ?_
        rintro e wrc ⟨g9, rfl, hg9, hr9, b9⟩
        have a2 : SliceAt wrc (.slice (some ⟨gx, 0, none⟩) 1024 1024) X ∧ SliceAt wrc (.slice (some ⟨gy, 0, none⟩) 1024 1024) Y := ⟨hHeld.1.below b9 (Nat.le_refl _), hHeld.2.below b9 (Nat.le_refl _)⟩
        have B2 := hide (Bd.out.trans (b9.mono Bd.out.size))
        have hs9 : SliceAt wrc (.slice (some ⟨g9, 0, none⟩) 1024 1024) (S.pgOf 2) := slice_row hr9 (S.pgOf_length 2).symm (by rw [S.pgOf_length]; omega)
        rw [← HP2.out] at hs9
        have hcv := conv_slice hs9
        clear hHeld hr9 b9 hg9 Bd hs9
        refine hK.out _ _ a2 (fun hHeld => ?_)
        clear hK K
        try simp only [Act.put, List.setIfInBounds_toArray, List.set_cons_zero, List.set_cons_succ]
        clear a2
        refine wpAnyH_ready (rs := [9]) (by kernel_rfl) (by simp) ?_
        refine AllReadyH.cons (o := { dst := some 84, op := Op.convert 31 9 (Operand.tmp 83), type := 9, pos := "law.go:204", after := #[⟨8, .data⟩, ⟨5, .guard⟩], guard := some (5, true) }) rfl (fun K hK => ?_) AllReadyH.nil
        go_simp
        clear hcv
        refine hK.out _ _ hHeld (fun hHeld => ?_)
        clear hK K
        try simp only [Act.put, List.setIfInBounds_toArray, List.set_cons_zero, List.set_cons_succ]
        have Bd := B2
        clear B2
        refine wpAnyH_take (i := 10) (oi := { dst := some 85, op := Op.binOp BinOp.eql 9 (Operand.tmp 82) (Operand.tmp 84) 9, type := 4, pos := "law.go:204", after := #[⟨7, .data⟩, ⟨9, .data⟩, ⟨5, .guard⟩], guard := some (5, true) }) (v := ?_) rfl (by kernel_rfl) (by kernel_rfl) (by kernel_rfl) (fun _ _ _ h => h) (Or.inl ⟨by rfl, ?_⟩) (by assumption) ?_
        rotate_left
        · intro w hSw
          clear hSw
          go_simp
          all_goals with_reducible rfl
        simp only [Act.put, List.setIfInBounds_toArray, List.set_cons_zero, List.set_cons_succ]
        refine wpAnyH_take (i := 11) (oi := { dst := some 86, op := Op.pick (Operand.tmp 80) (Operand.tmp 85) (Operand.const (Value.bool false)), type := 4, pos := "law.go:204", after := #[⟨5, .data⟩, ⟨10, .data⟩], guard := none }) (v := ?_) rfl (by kernel_rfl) (by kernel_rfl) (by kernel_rfl) (fun _ _ _ h => h) (Or.inl ⟨by rfl, ?_⟩) (by assumption) ?_
        rotate_left
        · intro w hSw
          clear hSw
          go_simp
          all_goals with_reducible rfl
        simp only [Act.put, List.setIfInBounds_toArray, List.set_cons_zero, List.set_cons_succ]
        refine wpAnyH_take (i := 12) (oi := { dst := some 19, op := Op.assign (Operand.tmp 86), type := 4, pos := "law.go:204", after := #[⟨11, .data⟩, ⟨8, .chain⟩, ⟨0, .phase⟩, ⟨1, .phase⟩, ⟨2, .phase⟩, ⟨3, .phase⟩, ⟨4, .phase⟩, ⟨5, .phase⟩, ⟨6, .phase⟩, ⟨7, .phase⟩, ⟨8, .phase⟩, ⟨9, .phase⟩, ⟨10, .phase⟩, ⟨11, .phase⟩], guard := none }) (v := ?_) rfl (by kernel_rfl) (by kernel_rfl) (by kernel_rfl) (fun _ _ _ h => h) (Or.inl ⟨by rfl, ?_⟩) (by assumption) ?_
        rotate_left
        · intro w hSw
          clear hSw
          go_simp
          all_goals with_reducible rfl
        simp only [Act.put, List.setIfInBounds_toArray, List.set_cons_zero, List.set_cons_succ]
        have SXwrc := hide hHeld.1
        have SYwrc := hide hHeld.2
        have Bwrc := Bd
        clear Bd
        refine wpAnyH_done (by kernel_rfl) ?_ _
        refine NoPanic.normal ?_
        clear hHeld
        clear e1 e2
        go_upto_region 13 with fail
        have f1 : (X == PA) = true := beq_iff_eq.2 XA.out
        have f2 : (Y == PB) = true := beq_iff_eq.2 YB.out
        refine wp_region_noPanic ?_
        refine wp_region_held_drew (S := (fun W => SliceAt W (.slice (some ⟨gx, 0, none⟩) 1024 1024) X ∧ SliceAt W (.slice (some ⟨gy, 0, none⟩) 1024 1024) Y)) follows ⟨SXwrc.out, SYwrc.out⟩ (fun hHeld => ?_)
        have Bd : Hid (Below w.heap.size w wrc.drew) := Bwrc.out.drew
        clear Bwrc SXwrc SYwrc
        generalize wrc.drew = wrca at Bd hHeld ⊢
        refine wpAnyH_take (i := 0) (oi := { dst := some 87, op := Op.move (Operand.tmp 15), type := 31, pos := "law.go:205", after := #[], guard := none }) (v := ?_) rfl (by kernel_rfl) (by kernel_rfl) (by kernel_rfl) (fun _ _ _ h => h) (Or.inl ⟨by rfl, ?_⟩) (by assumption) ?_
        rotate_left
        · intro w hSw
          clear hSw
          go_simp
          all_goals with_reducible rfl
        simp only [Act.put, List.setIfInBounds_toArray, List.set_cons_zero, List.set_cons_succ]
        refine wpAnyH_take (i := 1) (oi := { dst := some 88, op := Op.convert 31 9 (Operand.tmp 87), type := 9, pos := "law.go:205", after := #[⟨0, .data⟩], guard := none }) (v := .string ⟨(X).toArray⟩) rfl (by kernel_rfl) (by kernel_rfl) (by kernel_rfl) (fun _ _ _ h => h) (yieldsIf_conv (by kernel_rfl) (.tmp 87) rfl (.slice (some ⟨gx, 0, none⟩) 1024 1024) rfl (X) (fun W hW => hW.1)) (by assumption) ?_
        simp only [Act.put, List.setIfInBounds_toArray, List.set_cons_zero, List.set_cons_succ]
        refine wpAnyH_take (i := 2) (oi := { dst := some 89, op := Op.move (Operand.tmp 1), type := 5, pos := "law.go:205", after := #[], guard := none }) (v := ?_) rfl (by kernel_rfl) (by kernel_rfl) (by kernel_rfl) (fun _ _ _ h => h) (Or.inl ⟨by rfl, ?_⟩) (by assumption) ?_
        rotate_left
        · intro w hSw
          clear hSw
          go_simp
          all_goals with_reducible rfl
        simp only [Act.put, List.setIfInBounds_toArray, List.set_cons_zero, List.set_cons_succ]
        refine wpAnyH_ready (rs := [3]) (by kernel_rfl) (by simp) ?_
        refine AllReadyH.cons (o := { dst := some 90, op := Op.call { callee := Callee.value (Operand.func 13), args := #[Operand.tmp 89], argTypes := #[5] }, type := 31, pos := "law.go:205", after := #[⟨2, .data⟩], guard := none }) rfl (fun K hK => ?_) AllReadyH.nil
        go_simp
        refine (page_any A wrca).mono ?_
        rintro e wrcb ⟨g9, rfl, hg9, hr9, b9⟩
        have a2 : SliceAt wrcb (.slice (some ⟨gx, 0, none⟩) 1024 1024) X ∧ SliceAt wrcb (.slice (some ⟨gy, 0, none⟩) 1024 1024) Y := ⟨hHeld.1.below b9 (Nat.le_refl _), hHeld.2.below b9 (Nat.le_refl _)⟩
        have B2 := hide (Bd.out.trans (b9.mono Bd.out.size))
        have hs9 : SliceAt wrcb (.slice (some ⟨g9, 0, none⟩) 1024 1024) (S.pgOf A) := slice_row hr9 (S.pgOf_length A).symm (by rw [S.pgOf_length]; omega)
        rw [← HPA.out] at hs9
        have hcv := conv_slice hs9
        clear hHeld hr9 b9 hg9 Bd hs9
        refine hK.out _ _ a2 (fun hHeld => ?_)
        clear hK K
        try simp only [Act.put, List.setIfInBounds_toArray, List.set_cons_zero, List.set_cons_succ]
        clear a2
        refine wpAnyH_ready (rs := [4]) (by kernel_rfl) (by simp) ?_
        refine AllReadyH.cons (o := { dst := some 91, op := Op.convert 31 9 (Operand.tmp 90), type := 9, pos := "law.go:205", after := #[⟨3, .data⟩], guard := none }) rfl (fun K hK => ?_) AllReadyH.nil
        go_simp
        clear hcv
        refine hK.out _ _ hHeld (fun hHeld => ?_)
        clear hK K
        try simp only [Act.put, List.setIfInBounds_toArray, List.set_cons_zero, List.set_cons_succ]
        have Bd := B2
        clear B2
        refine wpAnyH_take (i := 5) (oi := { dst := some 92, op := Op.binOp BinOp.eql 9 (Operand.tmp 88) (Operand.tmp 91) 9, type := 4, pos := "law.go:205", after := #[⟨1, .data⟩, ⟨4, .data⟩], guard := none }) (v := ?_) rfl (by kernel_rfl) (by kernel_rfl) (by kernel_rfl) (fun _ _ _ h => h) (Or.inl ⟨by rfl, ?_⟩) (by assumption) ?_
        rotate_left
        · intro w hSw
          clear hSw
          go_simp
          all_goals with_reducible rfl
        simp only [Act.put, List.setIfInBounds_toArray, List.set_cons_zero, List.set_cons_succ]
        refine wpAnyH_take (i := 6) (oi := { dst := some 93, op := Op.move (Operand.tmp 92), type := 4, pos := "law.go:205", after := #[⟨5, .data⟩, ⟨3, .chain⟩], guard := none }) (v := ?_) rfl (by kernel_rfl) (by kernel_rfl) (by kernel_rfl) (fun _ _ _ h => h) (Or.inl ⟨by rfl, ?_⟩) (by assumption) ?_
        rotate_left
        · intro w hSw
          clear hSw
          go_simp
          all_goals with_reducible rfl
        simp only [Act.put, List.setIfInBounds_toArray, List.set_cons_zero, List.set_cons_succ]
        refine wpAnyH_take (i := 7) (oi := { dst := some 94, op := Op.move (Operand.tmp 17), type := 31, pos := "law.go:205", after := #[⟨6, .guard⟩], guard := some (6, true) }) (v := ?_) rfl (by kernel_rfl) (by kernel_rfl) (by kernel_rfl) (fun _ _ _ h => h) (Or.inl ⟨by rfl, ?_⟩) (by assumption) ?_
        rotate_left
        · intro w hSw
          clear hSw
          go_simp
          all_goals with_reducible rfl
        simp only [Act.put, List.setIfInBounds_toArray, List.set_cons_zero, List.set_cons_succ]
        refine wpAnyH_take (i := 8) (oi := { dst := some 95, op := Op.convert 31 9 (Operand.tmp 94), type := 9, pos := "law.go:205", after := #[⟨7, .data⟩, ⟨6, .guard⟩], guard := some (6, true) }) (v := .string ⟨(Y).toArray⟩) rfl (by kernel_rfl) (by kernel_rfl) (by kernel_rfl) (fun _ _ _ h => h) (yieldsIf_conv (by kernel_rfl) (.tmp 94) rfl (.slice (some ⟨gy, 0, none⟩) 1024 1024) rfl (Y) (fun W hW => hW.2)) (by assumption) ?_
        simp only [Act.put, List.setIfInBounds_toArray, List.set_cons_zero, List.set_cons_succ]
        refine wpAnyH_take (i := 9) (oi := { dst := some 96, op := Op.move (Operand.tmp 2), type := 5, pos := "law.go:205", after := #[⟨6, .guard⟩], guard := some (6, true) }) (v := ?_) rfl (by kernel_rfl) (by kernel_rfl) (by kernel_rfl) (fun _ _ _ h => h) (Or.inl ⟨by rfl, ?_⟩) (by assumption) ?_
        rotate_left
        · intro w hSw
          clear hSw
          go_simp
          all_goals with_reducible rfl
        simp only [Act.put, List.setIfInBounds_toArray, List.set_cons_zero, List.set_cons_succ]
        refine wpAnyH_ready (rs := [10]) (by kernel_rfl) (by simp) ?_
        refine AllReadyH.cons (o := { dst := some 97, op := Op.call { callee := Callee.value (Operand.func 13), args := #[Operand.tmp 96], argTypes := #[5] }, type := 31, pos := "law.go:205", after := #[⟨9, .data⟩, ⟨6, .chain⟩, ⟨6, .guard⟩], guard := some (6, true) }) rfl (fun K hK => ?_) AllReadyH.nil
        go_simp
        refine (page_any B wrcb).mono ?_
        rintro e wrcc ⟨g9, rfl, hg9, hr9, b9⟩
        have a2 : SliceAt wrcc (.slice (some ⟨gx, 0, none⟩) 1024 1024) X ∧ SliceAt wrcc (.slice (some ⟨gy, 0, none⟩) 1024 1024) Y := ⟨hHeld.1.below b9 (Nat.le_refl _), hHeld.2.below b9 (Nat.le_refl _)⟩
        have B2 := hide (Bd.out.trans (b9.mono Bd.out.size))
        have hs9 : SliceAt wrcc (.slice (some ⟨g9, 0, none⟩) 1024 1024) (S.pgOf B) := slice_row hr9 (S.pgOf_length B).symm (by rw [S.pgOf_length]; omega)
        rw [← HPB.out] at hs9
        have hcv := conv_slice hs9
        clear hHeld hr9 b9 hg9 Bd hs9
        refine hK.out _ _ a2 (fun hHeld => ?_)
        clear hK K
        try simp only [Act.put, List.setIfInBounds_toArray, List.set_cons_zero, List.set_cons_succ]
        clear a2
        refine wpAnyH_ready (rs := [11]) (by kernel_rfl) (by simp) ?_
        refine AllReadyH.cons (o := { dst := some 98, op := Op.convert 31 9 (Operand.tmp 97), type := 9, pos := "law.go:205", after := #[⟨10, .data⟩, ⟨6, .guard⟩], guard := some (6, true) }) rfl (fun K hK => ?_) AllReadyH.nil
        go_simp
        clear hcv
        refine hK.out _ _ hHeld (fun hHeld => ?_)
        clear hK K
        try simp only [Act.put, List.setIfInBounds_toArray, List.set_cons_zero, List.set_cons_succ]
        have Bd := B2
        clear B2
        refine wpAnyH_take (i := 12) (oi := { dst := some 99, op := Op.binOp BinOp.eql 9 (Operand.tmp 95) (Operand.tmp 98) 9, type := 4, pos := "law.go:205", after := #[⟨8, .data⟩, ⟨11, .data⟩, ⟨6, .guard⟩], guard := some (6, true) }) (v := ?_) rfl (by kernel_rfl) (by kernel_rfl) (by kernel_rfl) (fun _ _ _ h => h) (Or.inl ⟨by rfl, ?_⟩) (by assumption) ?_
        rotate_left
        · intro w hSw
          clear hSw
          go_simp
          all_goals with_reducible rfl
        simp only [Act.put, List.setIfInBounds_toArray, List.set_cons_zero, List.set_cons_succ]
        refine wpAnyH_take (i := 13) (oi := { dst := some 100, op := Op.pick (Operand.tmp 93) (Operand.tmp 99) (Operand.const (Value.bool false)), type := 4, pos := "law.go:205", after := #[⟨6, .data⟩, ⟨12, .data⟩], guard := none }) (v := ?_) rfl (by kernel_rfl) (by kernel_rfl) (by kernel_rfl) (fun _ _ _ h => h) (Or.inl ⟨by rfl, ?_⟩) (by assumption) ?_
        rotate_left
        · intro w hSw
          clear hSw
          go_simp
          all_goals with_reducible rfl
        simp only [Act.put, List.setIfInBounds_toArray, List.set_cons_zero, List.set_cons_succ]
        refine wpAnyH_take (i := 14) (oi := { dst := some 20, op := Op.assign (Operand.tmp 100), type := 4, pos := "law.go:205", after := #[⟨13, .data⟩, ⟨10, .chain⟩, ⟨0, .phase⟩, ⟨1, .phase⟩, ⟨2, .phase⟩, ⟨3, .phase⟩, ⟨4, .phase⟩, ⟨5, .phase⟩, ⟨6, .phase⟩, ⟨7, .phase⟩, ⟨8, .phase⟩, ⟨9, .phase⟩, ⟨10, .phase⟩, ⟨11, .phase⟩, ⟨12, .phase⟩, ⟨13, .phase⟩], guard := none }) (v := ?_) rfl (by kernel_rfl) (by kernel_rfl) (by kernel_rfl) (fun _ _ _ h => h) (Or.inl ⟨by rfl, ?_⟩) (by assumption) ?_
        rotate_left
        · intro w hSw
          clear hSw
          go_simp
          all_goals with_reducible rfl
        simp only [Act.put, List.setIfInBounds_toArray, List.set_cons_zero, List.set_cons_succ]
        have SXwrcc := hide hHeld.1
        have SYwrcc := hide hHeld.2
        have Bwrcc := Bd
        clear Bd
        refine wpAnyH_done (by kernel_rfl) ?_ _
        refine NoPanic.normal ?_
        clear hHeld
        clear f1 f2
        go_wp2_with fail
        refine (pknown_go wrcc (HK.out.below Bwrcc.out HP.out)).mono ?_
        rintro e wz ⟨rfl, bz⟩
        have BF := hide (Bwrcc.out.trans (bz.mono Bwrcc.out.size))
        clear bz
        go_wp2_with fail
        go_ret
        exact ⟨rfl, BF.out⟩
    · have e1 : (X == P1) = false := beq_false_of_ne h1x
      clear h1x
      refine wp_region_noPanic ?_
      refine wp_region_held_drew (S := (fun W => SliceAt W (.slice (some ⟨gx, 0, none⟩) 1024 1024) X ∧ SliceAt W (.slice (some ⟨gy, 0, none⟩) 1024 1024) Y)) follows ⟨SXwr.out, SYwr.out⟩ (fun hHeld => ?_)
      have Bd : Hid (Below w.heap.size w wr.drew) := Bwr.out.drew
      clear Bwr SXwr SYwr
      generalize wr.drew = wra at Bd hHeld ⊢
      refine wpAnyH_take (i := 0) (oi := { dst := some 75, op := Op.move (Operand.tmp 15), type := 31, pos := "law.go:204", after := #[], guard := none }) (v := ?_) rfl (by kernel_rfl) (by kernel_rfl) (by kernel_rfl) (fun _ _ _ h => h) (Or.inl ⟨by rfl, ?_⟩) (by assumption) ?_
      rotate_left
      · intro w hSw
        clear hSw
        go_simp
        all_goals with_reducible rfl
      simp only [Act.put, List.setIfInBounds_toArray, List.set_cons_zero, List.set_cons_succ]
      refine wpAnyH_take (i := 1) (oi := { dst := some 76, op := Op.convert 31 9 (Operand.tmp 75), type := 9, pos := "law.go:204", after := #[⟨0, .data⟩], guard := none }) (v := .string ⟨(X).toArray⟩) rfl (by kernel_rfl) (by kernel_rfl) (by kernel_rfl) (fun _ _ _ h => h) (yieldsIf_conv (by kernel_rfl) (.tmp 75) rfl (.slice (some ⟨gx, 0, none⟩) 1024 1024) rfl (X) (fun W hW => hW.1)) (by assumption) ?_
      simp only [Act.put, List.setIfInBounds_toArray, List.set_cons_zero, List.set_cons_succ]
      refine wpAnyH_ready (rs := [2]) (by kernel_rfl) (by simp) ?_
      refine AllReadyH.cons (o := { dst := some 77, op := Op.call { callee := Callee.value (Operand.func 13), args := #[Operand.const (Value.int IntKind.u8 1)], argTypes := #[5] }, type := 31, pos := "law.go:204", after := #[], guard := none }) rfl (fun K hK => ?_) AllReadyH.nil
      go_simp
      refine (page_any 1 wra).mono ?_
      rintro e wrb ⟨g9, rfl, hg9, hr9, b9⟩
      have a2 : SliceAt wrb (.slice (some ⟨gx, 0, none⟩) 1024 1024) X ∧ SliceAt wrb (.slice (some ⟨gy, 0, none⟩) 1024 1024) Y := ⟨hHeld.1.below b9 (Nat.le_refl _), hHeld.2.below b9 (Nat.le_refl _)⟩
      have B2 := hide (Bd.out.trans (b9.mono Bd.out.size))
      have hs9 : SliceAt wrb (.slice (some ⟨g9, 0, none⟩) 1024 1024) (S.pgOf 1) := slice_row hr9 (S.pgOf_length 1).symm (by rw [S.pgOf_length]; omega)
      rw [← HP1.out] at hs9
      have hcv := conv_slice hs9
      clear hHeld hr9 b9 hg9 Bd hs9
      refine hK.out _ _ a2 (fun hHeld => ?_)
      clear hK K
      try simp only [Act.put, List.setIfInBounds_toArray, List.set_cons_zero, List.set_cons_succ]
      clear a2
      refine wpAnyH_ready (rs := [3]) (by kernel_rfl) (by simp) ?_
      refine AllReadyH.cons (o := { dst := some 78, op := Op.convert 31 9 (Operand.tmp 77), type := 9, pos := "law.go:204", after := #[⟨2, .data⟩], guard := none }) rfl (fun K hK => ?_) AllReadyH.nil
      go_simp
      clear hcv
      refine hK.out _ _ hHeld (fun hHeld => ?_)
      clear hK K
      try simp only [Act.put, List.setIfInBounds_toArray, List.set_cons_zero, List.set_cons_succ]
      have Bd := B2
      clear B2
      refine wpAnyH_take (i := 4) (oi := { dst := some 79, op := Op.binOp BinOp.eql 9 (Operand.tmp 76) (Operand.tmp 78) 9, type := 4, pos := "law.go:204", after := #[⟨1, .data⟩, ⟨3, .data⟩], guard := none }) (v := ?_) rfl (by kernel_rfl) (by kernel_rfl) (by kernel_rfl) (fun _ _ _ h => h) (Or.inl ⟨by rfl, ?_⟩) (by assumption) ?_
      rotate_left
      · intro w hSw
        clear hSw
        go_simp
        all_goals with_reducible rfl
      simp only [Act.put, List.setIfInBounds_toArray, List.set_cons_zero, List.set_cons_succ]
      refine wpAnyH_take (i := 5) (oi := { dst := some 80, op := Op.move (Operand.tmp 79), type := 4, pos := "law.go:204", after := #[⟨4, .data⟩, ⟨2, .chain⟩], guard := none }) (v := ?_) rfl (by kernel_rfl) (by kernel_rfl) (by kernel_rfl) (fun _ _ _ h => h) (Or.inl ⟨by rfl, ?_⟩) (by assumption) ?_
      rotate_left
      · intro w hSw
        clear hSw
        go_simp
        all_goals with_reducible rfl
      simp only [Act.put, List.setIfInBounds_toArray, List.set_cons_zero, List.set_cons_succ]
      refine wpAnyH_take (i := 6) (oi := { dst := some 81, op := Op.move (Operand.tmp 17), type := 31, pos := "law.go:204", after := #[⟨5, .guard⟩], guard := some (5, true) }) (v := undef) rfl (by kernel_rfl) (by kernel_rfl) (by kernel_rfl) (fun _ _ _ h => h) (Or.inr ⟨by rfl, rfl⟩) (by assumption) ?_
      simp only [Act.put, List.setIfInBounds_toArray, List.set_cons_zero, List.set_cons_succ]
      refine wpAnyH_take (i := 7) (oi := { dst := some 82, op := Op.convert 31 9 (Operand.tmp 81), type := 9, pos := "law.go:204", after := #[⟨6, .data⟩, ⟨5, .guard⟩], guard := some (5, true) }) (v := undef) rfl (by kernel_rfl) (by kernel_rfl) (by kernel_rfl) (fun _ _ _ h => h) (Or.inr ⟨by rfl, rfl⟩) (by assumption) ?_
      simp only [Act.put, List.setIfInBounds_toArray, List.set_cons_zero, List.set_cons_succ]
      refine wpAnyH_take (i := 8) (oi := { dst := some 83, op := Op.call { callee := Callee.value (Operand.func 13), args := #[Operand.const (Value.int IntKind.u8 2)], argTypes := #[5] }, type := 31, pos := "law.go:204", after := #[⟨5, .chain⟩, ⟨5, .guard⟩], guard := some (5, true) }) (v := undef) rfl (by kernel_rfl) (by kernel_rfl) (by kernel_rfl) (fun _ _ _ h => h) (Or.inr ⟨by rfl, rfl⟩) (by assumption) ?_
      simp only [Act.put, List.setIfInBounds_toArray, List.set_cons_zero, List.set_cons_succ]
      refine wpAnyH_take (i := 9) (oi := { dst := some 84, op := Op.convert 31 9 (Operand.tmp 83), type := 9, pos := "law.go:204", after := #[⟨8, .data⟩, ⟨5, .guard⟩], guard := some (5, true) }) (v := undef) rfl (by kernel_rfl) (by kernel_rfl) (by kernel_rfl) (fun _ _ _ h => h) (Or.inr ⟨by rfl, rfl⟩) (by assumption) ?_
      simp only [Act.put, List.setIfInBounds_toArray, List.set_cons_zero, List.set_cons_succ]
      refine wpAnyH_take (i := 10) (oi := { dst := some 85, op := Op.binOp BinOp.eql 9 (Operand.tmp 82) (Operand.tmp 84) 9, type := 4, pos := "law.go:204", after := #[⟨7, .data⟩, ⟨9, .data⟩, ⟨5, .guard⟩], guard := some (5, true) }) (v := undef) rfl (by kernel_rfl) (by kernel_rfl) (by kernel_rfl) (fun _ _ _ h => h) (Or.inr ⟨by rfl, rfl⟩) (by assumption) ?_
      simp only [Act.put, List.setIfInBounds_toArray, List.set_cons_zero, List.set_cons_succ]
      refine wpAnyH_take (i := 11) (oi := { dst := some 86, op := Op.pick (Operand.tmp 80) (Operand.tmp 85) (Operand.const (Value.bool false)), type := 4, pos := "law.go:204", after := #[⟨5, .data⟩, ⟨10, .data⟩], guard := none }) (v := ?_) rfl (by kernel_rfl) (by kernel_rfl) (by kernel_rfl) (fun _ _ _ h => h) (Or.inl ⟨by rfl, ?_⟩) (by assumption) ?_
      rotate_left
      · intro w hSw
        clear hSw
        go_simp
        all_goals with_reducible rfl
      simp only [Act.put, List.setIfInBounds_toArray, List.set_cons_zero, List.set_cons_succ]
      refine wpAnyH_take (i := 12) (oi := { dst := some 19, op := Op.assign (Operand.tmp 86), type := 4, pos := "law.go:204", after := #[⟨11, .data⟩, ⟨8, .chain⟩, ⟨0, .phase⟩, ⟨1, .phase⟩, ⟨2, .phase⟩, ⟨3, .phase⟩, ⟨4, .phase⟩, ⟨5, .phase⟩, ⟨6, .phase⟩, ⟨7, .phase⟩, ⟨8, .phase⟩, ⟨9, .phase⟩, ⟨10, .phase⟩, ⟨11, .phase⟩], guard := none }) (v := ?_) rfl (by kernel_rfl) (by kernel_rfl) (by kernel_rfl) (fun _ _ _ h => h) (Or.inl ⟨by rfl, ?_⟩) (by assumption) ?_
      rotate_left
      · intro w hSw
        clear hSw
        go_simp
        all_goals with_reducible rfl
      simp only [Act.put, List.setIfInBounds_toArray, List.set_cons_zero, List.set_cons_succ]
      have SXwrb := hide hHeld.1
      have SYwrb := hide hHeld.2
      have Bwrb := Bd
      clear Bd
      refine wpAnyH_done (by kernel_rfl) ?_ _
      refine NoPanic.normal ?_
      clear hHeld
      clear e1
      go_upto_region 13 with fail
      have f1 : (X == PA) = true := beq_iff_eq.2 XA.out
      have f2 : (Y == PB) = true := beq_iff_eq.2 YB.out
      refine wp_region_noPanic ?_
      refine wp_region_held_drew (S := (fun W => SliceAt W (.slice (some ⟨gx, 0, none⟩) 1024 1024) X ∧ SliceAt W (.slice (some ⟨gy, 0, none⟩) 1024 1024) Y)) follows ⟨SXwrb.out, SYwrb.out⟩ (fun hHeld => ?_)
      have Bd : Hid (Below w.heap.size w wrb.drew) := Bwrb.out.drew
      clear Bwrb SXwrb SYwrb
      generalize wrb.drew = wrba at Bd hHeld ⊢
      refine wpAnyH_take (i := 0) (oi := { dst := some 87, op := Op.move (Operand.tmp 15), type := 31, pos := "law.go:205", after := #[], guard := none }) (v := ?_) rfl (by kernel_rfl) (by kernel_rfl) (by kernel_rfl) (fun _ _ _ h => h) (Or.inl ⟨by rfl, ?_⟩) (by assumption) ?_
      rotate_left
      · intro w hSw
        clear hSw
        go_simp
        all_goals with_reducible rfl
      simp only [Act.put, List.setIfInBounds_toArray, List.set_cons_zero, List.set_cons_succ]
      refine wpAnyH_take (i := 1) (oi := { dst := some 88, op := Op.convert 31 9 (Operand.tmp 87), type := 9, pos := "law.go:205", after := #[⟨0, .data⟩], guard := none }) (v := .string ⟨(X).toArray⟩) rfl (by kernel_rfl) (by kernel_rfl) (by kernel_rfl) (fun _ _ _ h => h) (yieldsIf_conv (by kernel_rfl) (.tmp 87) rfl (.slice (some ⟨gx, 0, none⟩) 1024 1024) rfl (X) (fun W hW => hW.1)) (by assumption) ?_
      simp only [Act.put, List.setIfInBounds_toArray, List.set_cons_zero, List.set_cons_succ]
      refine wpAnyH_take (i := 2) (oi := { dst := some 89, op := Op.move (Operand.tmp 1), type := 5, pos := "law.go:205", after := #[], guard := none }) (v := ?_) rfl (by kernel_rfl) (by kernel_rfl) (by kernel_rfl) (fun _ _ _ h => h) (Or.inl ⟨by rfl, ?_⟩) (by assumption) ?_
      rotate_left
      · intro w hSw
        clear hSw
        go_simp
        all_goals with_reducible rfl
      simp only [Act.put, List.setIfInBounds_toArray, List.set_cons_zero, List.set_cons_succ]
      refine wpAnyH_ready (rs := [3]) (by kernel_rfl) (by simp) ?_
      refine AllReadyH.cons (o := { dst := some 90, op := Op.call { callee := Callee.value (Operand.func 13), args := #[Operand.tmp 89], argTypes := #[5] }, type := 31, pos := "law.go:205", after := #[⟨2, .data⟩], guard := none }) rfl (fun K hK => ?_) AllReadyH.nil
      go_simp
      refine (page_any A wrba).mono ?_
      rintro e wrbb ⟨g9, rfl, hg9, hr9, b9⟩
      have a2 : SliceAt wrbb (.slice (some ⟨gx, 0, none⟩) 1024 1024) X ∧ SliceAt wrbb (.slice (some ⟨gy, 0, none⟩) 1024 1024) Y := ⟨hHeld.1.below b9 (Nat.le_refl _), hHeld.2.below b9 (Nat.le_refl _)⟩
      have B2 := hide (Bd.out.trans (b9.mono Bd.out.size))
      have hs9 : SliceAt wrbb (.slice (some ⟨g9, 0, none⟩) 1024 1024) (S.pgOf A) := slice_row hr9 (S.pgOf_length A).symm (by rw [S.pgOf_length]; omega)
      rw [← HPA.out] at hs9
      have hcv := conv_slice hs9
      clear hHeld hr9 b9 hg9 Bd hs9
      refine hK.out _ _ a2 (fun hHeld => ?_)
      clear hK K
      try simp only [Act.put, List.setIfInBounds_toArray, List.set_cons_zero, List.set_cons_succ]
      clear a2
      refine wpAnyH_ready (rs := [4]) (by kernel_rfl) (by simp) ?_
      refine AllReadyH.cons (o := { dst := some 91, op := Op.convert 31 9 (Operand.tmp 90), type := 9, pos := "law.go:205", after := #[⟨3, .data⟩], guard := none }) rfl (fun K hK => ?_) AllReadyH.nil
      go_simp
      clear hcv
      refine hK.out _ _ hHeld (fun hHeld => ?_)
      clear hK K
      try simp only [Act.put, List.setIfInBounds_toArray, List.set_cons_zero, List.set_cons_succ]
      have Bd := B2
      clear B2
      refine wpAnyH_take (i := 5) (oi := { dst := some 92, op := Op.binOp BinOp.eql 9 (Operand.tmp 88) (Operand.tmp 91) 9, type := 4, pos := "law.go:205", after := #[⟨1, .data⟩, ⟨4, .data⟩], guard := none }) (v := ?_) rfl (by kernel_rfl) (by kernel_rfl) (by kernel_rfl) (fun _ _ _ h => h) (Or.inl ⟨by rfl, ?_⟩) (by assumption) ?_
      rotate_left
      · intro w hSw
        clear hSw
        go_simp
        all_goals with_reducible rfl
      simp only [Act.put, List.setIfInBounds_toArray, List.set_cons_zero, List.set_cons_succ]
      refine wpAnyH_take (i := 6) (oi := { dst := some 93, op := Op.move (Operand.tmp 92), type := 4, pos := "law.go:205", after := #[⟨5, .data⟩, ⟨3, .chain⟩], guard := none }) (v := ?_) rfl (by kernel_rfl) (by kernel_rfl) (by kernel_rfl) (fun _ _ _ h => h) (Or.inl ⟨by rfl, ?_⟩) (by assumption) ?_
      rotate_left
      · intro w hSw
        clear hSw
        go_simp
        all_goals with_reducible rfl
      simp only [Act.put, List.setIfInBounds_toArray, List.set_cons_zero, List.set_cons_succ]
      refine wpAnyH_take (i := 7) (oi := { dst := some 94, op := Op.move (Operand.tmp 17), type := 31, pos := "law.go:205", after := #[⟨6, .guard⟩], guard := some (6, true) }) (v := ?_) rfl (by kernel_rfl) (by kernel_rfl) (by kernel_rfl) (fun _ _ _ h => h) (Or.inl ⟨by rfl, ?_⟩) (by assumption) ?_
      rotate_left
      · intro w hSw
        clear hSw
        go_simp
        all_goals with_reducible rfl
      simp only [Act.put, List.setIfInBounds_toArray, List.set_cons_zero, List.set_cons_succ]
      refine wpAnyH_take (i := 8) (oi := { dst := some 95, op := Op.convert 31 9 (Operand.tmp 94), type := 9, pos := "law.go:205", after := #[⟨7, .data⟩, ⟨6, .guard⟩], guard := some (6, true) }) (v := .string ⟨(Y).toArray⟩) rfl (by kernel_rfl) (by kernel_rfl) (by kernel_rfl) (fun _ _ _ h => h) (yieldsIf_conv (by kernel_rfl) (.tmp 94) rfl (.slice (some ⟨gy, 0, none⟩) 1024 1024) rfl (Y) (fun W hW => hW.2)) (by assumption) ?_
      simp only [Act.put, List.setIfInBounds_toArray, List.set_cons_zero, List.set_cons_succ]
      refine wpAnyH_take (i := 9) (oi := { dst := some 96, op := Op.move (Operand.tmp 2), type := 5, pos := "law.go:205", after := #[⟨6, .guard⟩], guard := some (6, true) }) (v := ?_) rfl (by kernel_rfl) (by kernel_rfl) (by kernel_rfl) (fun _ _ _ h => h) (Or.inl ⟨by rfl, ?_⟩) (by assumption) ?_
      rotate_left
      · intro w hSw
        clear hSw
        go_simp
        all_goals with_reducible rfl
      simp only [Act.put, List.setIfInBounds_toArray, List.set_cons_zero, List.set_cons_succ]
      refine wpAnyH_ready (rs := [10]) (by kernel_rfl) (by simp) ?_
      refine AllReadyH.cons (o := { dst := some 97, op := Op.call { callee := Callee.value (Operand.func 13), args := #[Operand.tmp 96], argTypes := #[5] }, type := 31, pos := "law.go:205", after := #[⟨9, .data⟩, ⟨6, .chain⟩, ⟨6, .guard⟩], guard := some (6, true) }) rfl (fun K hK => ?_) AllReadyH.nil
      go_simp
      refine (page_any B wrbb).mono ?_
      rintro e wrbc ⟨g9, rfl, hg9, hr9, b9⟩
      have a2 : SliceAt wrbc (.slice (some ⟨gx, 0, none⟩) 1024 1024) X ∧ SliceAt wrbc (.slice (some ⟨gy, 0, none⟩) 1024 1024) Y := ⟨hHeld.1.below b9 (Nat.le_refl _), hHeld.2.below b9 (Nat.le_refl _)⟩
      have B2 := hide (Bd.out.trans (b9.mono Bd.out.size))
      have hs9 : SliceAt wrbc (.slice (some ⟨g9, 0, none⟩) 1024 1024) (S.pgOf B) := slice_row hr9 (S.pgOf_length B).symm (by rw [S.pgOf_length]; omega)
      rw [← HPB.out] at hs9
      have hcv := conv_slice hs9
      clear hHeld hr9 b9 hg9 Bd hs9
      refine hK.out _ _ a2 (fun hHeld => ?_)
      clear hK K
      try simp only [Act.put, List.setIfInBounds_toArray, List.set_cons_zero, List.set_cons_succ]
      clear a2
      refine wpAnyH_ready (rs := [11]) (by kernel_rfl) (by simp) ?_
      refine AllReadyH.cons (o := { dst := some 98, op := Op.convert 31 9 (Operand.tmp 97), type := 9, pos := "law.go:205", after := #[⟨10, .data⟩, ⟨6, .guard⟩], guard := some (6, true) }) rfl (fun K hK => ?_) AllReadyH.nil
      go_simp
      clear hcv
      refine hK.out _ _ hHeld (fun hHeld => ?_)
      clear hK K
      try simp only [Act.put, List.setIfInBounds_toArray, List.set_cons_zero, List.set_cons_succ]
      have Bd := B2
      clear B2
      refine wpAnyH_take (i := 12) (oi := { dst := some 99, op := Op.binOp BinOp.eql 9 (Operand.tmp 95) (Operand.tmp 98) 9, type := 4, pos := "law.go:205", after := #[⟨8, .data⟩, ⟨11, .data⟩, ⟨6, .guard⟩], guard := some (6, true) }) (v := ?_) rfl (by kernel_rfl) (by kernel_rfl) (by kernel_rfl) (fun _ _ _ h => h) (Or.inl ⟨by rfl, ?_⟩) (by assumption) ?_
      rotate_left
      · intro w hSw
        clear hSw
        go_simp
        all_goals with_reducible rfl
      simp only [Act.put, List.setIfInBounds_toArray, List.set_cons_zero, List.set_cons_succ]
      refine wpAnyH_take (i := 13) (oi := { dst := some 100, op := Op.pick (Operand.tmp 93) (Operand.tmp 99) (Operand.const (Value.bool false)), type := 4, pos := "law.go:205", after := #[⟨6, .data⟩, ⟨12, .data⟩], guard := none }) (v := ?_) rfl (by kernel_rfl) (by kernel_rfl) (by kernel_rfl) (fun _ _ _ h => h) (Or.inl ⟨by rfl, ?_⟩) (by assumption) ?_
      rotate_left
      · intro w hSw
        clear hSw
        go_simp
        all_goals with_reducible rfl
      simp only [Act.put, List.setIfInBounds_toArray, List.set_cons_zero, List.set_cons_succ]
      refine wpAnyH_take (i := 14) (oi := { dst := some 20, op := Op.assign (Operand.tmp 100), type := 4, pos := "law.go:205", after := #[⟨13, .data⟩, ⟨10, .chain⟩, ⟨0, .phase⟩, ⟨1, .phase⟩, ⟨2, .phase⟩, ⟨3, .phase⟩, ⟨4, .phase⟩, ⟨5, .phase⟩, ⟨6, .phase⟩, ⟨7, .phase⟩, ⟨8, .phase⟩, ⟨9, .phase⟩, ⟨10, .phase⟩, ⟨11, .phase⟩, ⟨12, .phase⟩, ⟨13, .phase⟩], guard := none }) (v := ?_) rfl (by kernel_rfl) (by kernel_rfl) (by kernel_rfl) (fun _ _ _ h => h) (Or.inl ⟨by rfl, ?_⟩) (by assumption) ?_
      rotate_left
      · intro w hSw
        clear hSw
        go_simp
        all_goals with_reducible rfl
      simp only [Act.put, List.setIfInBounds_toArray, List.set_cons_zero, List.set_cons_succ]
      have SXwrbc := hide hHeld.1
      have SYwrbc := hide hHeld.2
      have Bwrbc := Bd
      clear Bd
      refine wpAnyH_done (by kernel_rfl) ?_ _
      refine NoPanic.normal ?_
      clear hHeld
      clear f1 f2
      go_wp2_with fail
      refine (pknown_go wrbc (HK.out.below Bwrbc.out HP.out)).mono ?_
      rintro e wz ⟨rfl, bz⟩
      have BF := hide (Bwrbc.out.trans (bz.mono Bwrbc.out.size))
      clear bz
      go_wp2_with fail
      go_ret
      exact ⟨rfl, BF.out⟩
  · have X1 := hide hA
    have Y2 := hide hB
    have hy13 : y = 13 := by rw [← HY.out, hb]; rfl
    subst hy13
    clear hA hB hb
    have f1 : (X == P1) = true := beq_iff_eq.2 X1.out
    have f2 : (Y == P2) = true := beq_iff_eq.2 Y2.out
    refine wp_region_noPanic ?_
    refine wp_region_held_drew (S := (fun W => SliceAt W (.slice (some ⟨gx, 0, none⟩) 1024 1024) X ∧ SliceAt W (.slice (some ⟨gy, 0, none⟩) 1024 1024) Y)) follows ⟨SXwr.out, SYwr.out⟩ (fun hHeld => ?_)
    have Bd : Hid (Below w.heap.size w wr.drew) := Bwr.out.drew
    clear Bwr SXwr SYwr
    generalize wr.drew = wra at Bd hHeld ⊢
    refine wpAnyH_take (i := 0) (oi := { dst := some 75, op := Op.move (Operand.tmp 15), type := 31, pos := "law.go:204", after := #[], guard := none }) (v := ?_) rfl (by kernel_rfl) (by kernel_rfl) (by kernel_rfl) (fun _ _ _ h => h) (Or.inl ⟨by rfl, ?_⟩) (by assumption) ?_
    rotate_left
    · intro w hSw
      clear hSw
      go_simp
      all_goals with_reducible rfl
    simp only [Act.put, List.setIfInBounds_toArray, List.set_cons_zero, List.set_cons_succ]
    refine wpAnyH_take (i := 1) (oi := { dst := some 76, op := Op.convert 31 9 (Operand.tmp 75), type := 9, pos := "law.go:204", after := #[⟨0, .data⟩], guard := none }) (v := .string ⟨(X).toArray⟩) rfl (by kernel_rfl) (by kernel_rfl) (by kernel_rfl) (fun _ _ _ h => h) (yieldsIf_conv (by kernel_rfl) (.tmp 75) rfl (.slice (some ⟨gx, 0, none⟩) 1024 1024) rfl (X) (fun W hW => hW.1)) (by assumption) ?_
    simp only [Act.put, List.setIfInBounds_toArray, List.set_cons_zero, List.set_cons_succ]
    refine wpAnyH_ready (rs := [2]) (by kernel_rfl) (by simp) ?_
    refine AllReadyH.cons (o := { dst := some 77, op := Op.call { callee := Callee.value (Operand.func 13), args := #[Operand.const (Value.int IntKind.u8 1)], argTypes := #[5] }, type := 31, pos := "law.go:204", after := #[], guard := none }) rfl (fun K hK => ?_) AllReadyH.nil
    go_simp
    refine (page_any 1 wra).mono ?_
    rintro e wrb ⟨g9, rfl, hg9, hr9, b9⟩
    have a2 : SliceAt wrb (.slice (some ⟨gx, 0, none⟩) 1024 1024) X ∧ SliceAt wrb (.slice (some ⟨gy, 0, none⟩) 1024 1024) Y := ⟨hHeld.1.below b9 (Nat.le_refl _), hHeld.2.below b9 (Nat.le_refl _)⟩
    have B2 := hide (Bd.out.trans (b9.mono Bd.out.size))
    have hs9 : SliceAt wrb (.slice (some ⟨g9, 0, none⟩) 1024 1024) (S.pgOf 1) := slice_row hr9 (S.pgOf_length 1).symm (by rw [S.pgOf_length]; omega)
    rw [← HP1.out] at hs9
    have hcv := conv_slice hs9
    clear hHeld hr9 b9 hg9 Bd hs9
    refine hK.out _ _ a2 (fun hHeld => ?_)
    clear hK K
    try simp only [Act.put, List.setIfInBounds_toArray, List.set_cons_zero, List.set_cons_succ]
    clear a2
    refine wpAnyH_ready (rs := [3]) (by kernel_rfl) (by simp) ?_
    refine AllReadyH.cons (o := { dst := some 78, op := Op.convert 31 9 (Operand.tmp 77), type := 9, pos := "law.go:204", after := #[⟨2, .data⟩], guard := none }) rfl (fun K hK => ?_) AllReadyH.nil
    go_simp
    clear hcv
    refine hK.out _ _ hHeld (fun hHeld => ?_)
    clear hK K
    try simp only [Act.put, List.setIfInBounds_toArray, List.set_cons_zero, List.set_cons_succ]
    have Bd := B2
    clear B2
    refine wpAnyH_take (i := 4) (oi := { dst := some 79, op := Op.binOp BinOp.eql 9 (Operand.tmp 76) (Operand.tmp 78) 9, type := 4, pos := "law.go:204", after := #[⟨1, .data⟩, ⟨3, .data⟩], guard := none }) (v := ?_) rfl (by kernel_rfl) (by kernel_rfl) (by kernel_rfl) (fun _ _ _ h => h) (Or.inl ⟨by rfl, ?_⟩) (by assumption) ?_
    rotate_left
    · intro w hSw
      clear hSw
      go_simp
      all_goals with_reducible rfl
    simp only [Act.put, List.setIfInBounds_toArray, List.set_cons_zero, List.set_cons_succ]
    refine wpAnyH_take (i := 5) (oi := { dst := some 80, op := Op.move (Operand.tmp 79), type := 4, pos := "law.go:204", after := #[⟨4, .data⟩, ⟨2, .chain⟩], guard := none }) (v := ?_) rfl (by kernel_rfl) (by kernel_rfl) (by kernel_rfl) (fun _ _ _ h => h) (Or.inl ⟨by rfl, ?_⟩) (by assumption) ?_
    rotate_left
    · intro w hSw
      clear hSw
      go_simp
      all_goals with_reducible rfl
    simp only [Act.put, List.setIfInBounds_toArray, List.set_cons_zero, List.set_cons_succ]
    refine wpAnyH_take (i := 6) (oi := { dst := some 81, op := Op.move (Operand.tmp 17), type := 31, pos := "law.go:204", after := #[⟨5, .guard⟩], guard := some (5, true) }) (v := ?_) rfl (by kernel_rfl) (by kernel_rfl) (by kernel_rfl) (fun _ _ _ h => h) (Or.inl ⟨by rfl, ?_⟩) (by assumption) ?_
    rotate_left
    · intro w hSw
      clear hSw
      go_simp
      all_goals with_reducible rfl
    simp only [Act.put, List.setIfInBounds_toArray, List.set_cons_zero, List.set_cons_succ]
    refine wpAnyH_take (i := 7) (oi := { dst := some 82, op := Op.convert 31 9 (Operand.tmp 81), type := 9, pos := "law.go:204", after := #[⟨6, .data⟩, ⟨5, .guard⟩], guard := some (5, true) }) (v := .string ⟨(Y).toArray⟩) rfl (by kernel_rfl) (by kernel_rfl) (by kernel_rfl) (fun _ _ _ h => h) (yieldsIf_conv (by kernel_rfl) (.tmp 81) rfl (.slice (some ⟨gy, 0, none⟩) 1024 1024) rfl (Y) (fun W hW => hW.2)) (by assumption) ?_
    simp only [Act.put, List.setIfInBounds_toArray, List.set_cons_zero, List.set_cons_succ]
    refine wpAnyH_ready (rs := [8]) (by kernel_rfl) (by simp) ?_
    refine AllReadyH.cons (o := { dst := some 83, op := Op.call { callee := Callee.value (Operand.func 13), args := #[Operand.const (Value.int IntKind.u8 2)], argTypes := #[5] }, type := 31, pos := "law.go:204", after := #[⟨5, .chain⟩, ⟨5, .guard⟩], guard := some (5, true) }) rfl (fun K hK => ?_) AllReadyH.nil
    go_simp
    refine (page_any 2 wrb).mono ?_
    rintro e wrc ⟨g9, rfl, hg9, hr9, b9⟩
    have a2 : SliceAt wrc (.slice (some ⟨gx, 0, none⟩) 1024 1024) X ∧ SliceAt wrc (.slice (some ⟨gy, 0, none⟩) 1024 1024) Y := ⟨hHeld.1.below b9 (Nat.le_refl _), hHeld.2.below b9 (Nat.le_refl _)⟩
    have B2 := hide (Bd.out.trans (b9.mono Bd.out.size))
    have hs9 : SliceAt wrc (.slice (some ⟨g9, 0, none⟩) 1024 1024) (S.pgOf 2) := slice_row hr9 (S.pgOf_length 2).symm (by rw [S.pgOf_length]; omega)
    rw [← HP2.out] at hs9
    have hcv := conv_slice hs9
    clear hHeld hr9 b9 hg9 Bd hs9
    refine hK.out _ _ a2 (fun hHeld => ?_)
    clear hK K
    try simp only [Act.put, List.setIfInBounds_toArray, List.set_cons_zero, List.set_cons_succ]
    clear a2
    refine wpAnyH_ready (rs := [9]) (by kernel_rfl) (by simp) ?_
    refine AllReadyH.cons (o := { dst := some 84, op := Op.convert 31 9 (Operand.tmp 83), type := 9, pos := "law.go:204", after := #[⟨8, .data⟩, ⟨5, .guard⟩], guard := some (5, true) }) rfl (fun K hK => ?_) AllReadyH.nil
    go_simp
    clear hcv
    refine hK.out _ _ hHeld (fun hHeld => ?_)
    clear hK K
    try simp only [Act.put, List.setIfInBounds_toArray, List.set_cons_zero, List.set_cons_succ]
    have Bd := B2
    clear B2
    refine wpAnyH_take (i := 10) (oi := { dst := some 85, op := Op.binOp BinOp.eql 9 (Operand.tmp 82) (Operand.tmp 84) 9, type := 4, pos := "law.go:204", after := #[⟨7, .data⟩, ⟨9, .data⟩, ⟨5, .guard⟩], guard := some (5, true) }) (v := ?_) rfl (by kernel_rfl) (by kernel_rfl) (by kernel_rfl) (fun _ _ _ h => h) (Or.inl ⟨by rfl, ?_⟩) (by assumption) ?_
    rotate_left
    · intro w hSw
      clear hSw
      go_simp
      all_goals with_reducible rfl
    simp only [Act.put, List.setIfInBounds_toArray, List.set_cons_zero, List.set_cons_succ]
    refine wpAnyH_take (i := 11) (oi := { dst := some 86, op := Op.pick (Operand.tmp 80) (Operand.tmp 85) (Operand.const (Value.bool false)), type := 4, pos := "law.go:204", after := #[⟨5, .data⟩, ⟨10, .data⟩], guard := none }) (v := ?_) rfl (by kernel_rfl) (by kernel_rfl) (by kernel_rfl) (fun _ _ _ h => h) (Or.inl ⟨by rfl, ?_⟩) (by assumption) ?_
    rotate_left
    · intro w hSw
      clear hSw
      go_simp
      all_goals with_reducible rfl
    simp only [Act.put, List.setIfInBounds_toArray, List.set_cons_zero, List.set_cons_succ]
    refine wpAnyH_take (i := 12) (oi := { dst := some 19, op := Op.assign (Operand.tmp 86), type := 4, pos := "law.go:204", after := #[⟨11, .data⟩, ⟨8, .chain⟩, ⟨0, .phase⟩, ⟨1, .phase⟩, ⟨2, .phase⟩, ⟨3, .phase⟩, ⟨4, .phase⟩, ⟨5, .phase⟩, ⟨6, .phase⟩, ⟨7, .phase⟩, ⟨8, .phase⟩, ⟨9, .phase⟩, ⟨10, .phase⟩, ⟨11, .phase⟩], guard := none }) (v := ?_) rfl (by kernel_rfl) (by kernel_rfl) (by kernel_rfl) (fun _ _ _ h => h) (Or.inl ⟨by rfl, ?_⟩) (by assumption) ?_
    rotate_left
    · intro w hSw
      clear hSw
      go_simp
      all_goals with_reducible rfl
    simp only [Act.put, List.setIfInBounds_toArray, List.set_cons_zero, List.set_cons_succ]
    have SXwrc := hide hHeld.1
    have SYwrc := hide hHeld.2
    have Bwrc := Bd
    clear Bd
    refine wpAnyH_done (by kernel_rfl) ?_ _
    refine NoPanic.normal ?_
    clear hHeld
    clear f1 f2
    go_upto_region 13 with fail
    by_cases h1x : X = PA
    · have e1 : (X == PA) = true := beq_iff_eq.2 h1x
      clear h1x
      by_cases h1y : Y = PB
      · have e2 : (Y == PB) = true := beq_iff_eq.2 h1y
        clear h1y
        refine wp_region_noPanic ?_
        refine wp_region_held_drew (S := (fun W => SliceAt W (.slice (some ⟨gx, 0, none⟩) 1024 1024) X ∧ SliceAt W (.slice (some ⟨gy, 0, none⟩) 1024 1024) Y)) follows ⟨SXwrc.out, SYwrc.out⟩ (fun hHeld => ?_)
        have Bd : Hid (Below w.heap.size w wrc.drew) := Bwrc.out.drew
        clear Bwrc SXwrc SYwrc
        generalize wrc.drew = wrca at Bd hHeld ⊢
        refine wpAnyH_take (i := 0) (oi := { dst := some 87, op := Op.move (Operand.tmp 15), type := 31, pos := "law.go:205", after := #[], guard := none }) (v := ?_) rfl (by kernel_rfl) (by kernel_rfl) (by kernel_rfl) (fun _ _ _ h => h) (Or.inl ⟨by rfl, ?_⟩) (by assumption) ?_
        rotate_left
        · intro w hSw
          clear hSw
          go_simp
          all_goals with_reducible rfl
        simp only [Act.put, List.setIfInBounds_toArray, List.set_cons_zero, List.set_cons_succ]
        refine wpAnyH_take (i := 1) (oi := { dst := some 88, op := Op.convert 31 9 (Operand.tmp 87), type := 9, pos := "law.go:205", after := #[⟨0, .data⟩], guard := none }) (v := .string ⟨(X).toArray⟩) rfl (by kernel_rfl) (by kernel_rfl) (by kernel_rfl) (fun _ _ _ h => h) (yieldsIf_conv (by kernel_rfl) (.tmp 87) rfl (.slice (some ⟨gx, 0, none⟩) 1024 1024) rfl (X) (fun W hW => hW.1)) (by assumption) ?_
        simp only [Act.put, List.setIfInBounds_toArray, List.set_cons_zero, List.set_cons_succ]
        refine wpAnyH_take (i := 2) (oi := { dst := some 89, op := Op.move (Operand.tmp 1), type := 5, pos := "law.go:205", after := #[], guard := none }) (v := ?_) rfl (by kernel_rfl) (by kernel_rfl) (by kernel_rfl) (fun _ _ _ h => h) (Or.inl ⟨by rfl, ?_⟩) (by assumption) ?_
        rotate_left
        · intro w hSw
          clear hSw
          go_simp
          all_goals with_reducible rfl
        simp only [Act.put, List.setIfInBounds_toArray, List.set_cons_zero, List.set_cons_succ]
        refine wpAnyH_ready (rs := [3]) (by kernel_rfl) (by simp) ?_
        refine AllReadyH.cons (o := { dst := some 90, op := Op.call { callee := Callee.value (Operand.func 13), args := #[Operand.tmp 89], argTypes := #[5] }, type := 31, pos := "law.go:205", after := #[⟨2, .data⟩], guard := none }) rfl (fun K hK => ?_) AllReadyH.nil
        go_simp
        refine (page_any A wrca).mono ?_
        rintro e wrcb ⟨g9, rfl, hg9, hr9, b9⟩
        have a2 : SliceAt wrcb (.slice (some ⟨gx, 0, none⟩) 1024 1024) X ∧ SliceAt wrcb (.slice (some ⟨gy, 0, none⟩) 1024 1024) Y := ⟨hHeld.1.below b9 (Nat.le_refl _), hHeld.2.below b9 (Nat.le_refl _)⟩
        have B2 := hide (Bd.out.trans (b9.mono Bd.out.size))
        have hs9 : SliceAt wrcb (.slice (some ⟨g9, 0, none⟩) 1024 1024) (S.pgOf A) := slice_row hr9 (S.pgOf_length A).symm (by rw [S.pgOf_length]; omega)
        rw [← HPA.out] at hs9
        have hcv := conv_slice hs9
        clear hHeld hr9 b9 hg9 Bd hs9
        refine hK.out _ _ a2 (fun hHeld => ?_)
        clear hK K
        try simp only [Act.put, List.setIfInBounds_toArray, List.set_cons_zero, List.set_cons_succ]
        clear a2
        refine wpAnyH_ready (rs := [4]) (by kernel_rfl) (by simp) ?_
        refine AllReadyH.cons (o := { dst := some 91, op := Op.convert 31 9 (Operand.tmp 90), type := 9, pos := "law.go:205", after := #[⟨3, .data⟩], guard := none }) rfl (fun K hK => ?_) AllReadyH.nil
        go_simp
        clear hcv
        refine hK.out _ _ hHeld (fun hHeld => ?_)
        clear hK K
        try simp only [Act.put, List.setIfInBounds_toArray, List.set_cons_zero, List.set_cons_succ]
        have Bd := B2
        clear B2
        refine wpAnyH_take (i := 5) (oi := { dst := some 92, op := Op.binOp BinOp.eql 9 (Operand.tmp 88) (Operand.tmp 91) 9, type := 4, pos := "law.go:205", after := #[⟨1, .data⟩, ⟨4, .data⟩], guard := none }) (v := ?_) rfl (by kernel_rfl) (by kernel_rfl) (by kernel_rfl) (fun _ _ _ h => h) (Or.inl ⟨by rfl, ?_⟩) (by assumption) ?_
        rotate_left
        · intro w hSw
          clear hSw
          go_simp
          all_goals with_reducible rfl
        simp only [Act.put, List.setIfInBounds_toArray, List.set_cons_zero, List.set_cons_succ]
        refine wpAnyH_take (i := 6) (oi := { dst := some 93, op := Op.move (Operand.tmp 92), type := 4, pos := "law.go:205", after := #[⟨5, .data⟩, ⟨3, .chain⟩], guard := none }) (v := ?_) rfl (by kernel_rfl) (by kernel_rfl) (by kernel_rfl) (fun _ _ _ h => h) (Or.inl ⟨by rfl, ?_⟩) (by assumption) ?_
        rotate_left
        · intro w hSw
          clear hSw
          go_simp
          all_goals with_reducible rfl
        simp only [Act.put, List.setIfInBounds_toArray, List.set_cons_zero, List.set_cons_succ]
        refine wpAnyH_take (i := 7) (oi := { dst := some 94, op := Op.move (Operand.tmp 17), type := 31, pos := "law.go:205", after := #[⟨6, .guard⟩], guard := some (6, true) }) (v := ?_) rfl (by kernel_rfl) (by kernel_rfl) (by kernel_rfl) (fun _ _ _ h => h) (Or.inl ⟨by rfl, ?_⟩) (by assumption) ?_
        rotate_left
        · intro w hSw
          clear hSw
          go_simp
          all_goals with_reducible rfl
        simp only [Act.put, List.setIfInBounds_toArray, List.set_cons_zero, List.set_cons_succ]
        refine wpAnyH_take (i := 8) (oi := { dst := some 95, op := Op.convert 31 9 (Operand.tmp 94), type := 9, pos := "law.go:205", after := #[⟨7, .data⟩, ⟨6, .guard⟩], guard := some (6, true) }) (v := .string ⟨(Y).toArray⟩) rfl (by kernel_rfl) (by kernel_rfl) (by kernel_rfl) (fun _ _ _ h => h) (yieldsIf_conv (by kernel_rfl) (.tmp 94) rfl (.slice (some ⟨gy, 0, none⟩) 1024 1024) rfl (Y) (fun W hW => hW.2)) (by assumption) ?_
        simp only [Act.put, List.setIfInBounds_toArray, List.set_cons_zero, List.set_cons_succ]
        refine wpAnyH_take (i := 9) (oi := { dst := some 96, op := Op.move (Operand.tmp 2), type := 5, pos := "law.go:205", after := #[⟨6, .guard⟩], guard := some (6, true) }) (v := ?_) rfl (by kernel_rfl) (by kernel_rfl) (by kernel_rfl) (fun _ _ _ h => h) (Or.inl ⟨by rfl, ?_⟩) (by assumption) ?_
        rotate_left
        · intro w hSw
          clear hSw
          go_simp
          all_goals with_reducible rfl
        simp only [Act.put, List.setIfInBounds_toArray, List.set_cons_zero, List.set_cons_succ]
        refine wpAnyH_ready (rs := [10]) (by kernel_rfl) (by simp) ?_
        refine AllReadyH.cons (o := { dst := some 97, op := Op.call { callee := Callee.value (Operand.func 13), args := #[Operand.tmp 96], argTypes := #[5] }, type := 31, pos := "law.go:205", after := #[⟨9, .data⟩, ⟨6, .chain⟩, ⟨6, .guard⟩], guard := some (6, true) }) rfl (fun K hK => ?_) AllReadyH.nil
        go_simp
        refine (page_any B wrcb).mono ?_
        rintro e wrcc ⟨g9, rfl, hg9, hr9, b9⟩
        have a2 : SliceAt wrcc (.slice (some ⟨gx, 0, none⟩) 1024 1024) X ∧ SliceAt wrcc (.slice (some ⟨gy, 0, none⟩) 1024 1024) Y := ⟨hHeld.1.below b9 (Nat.le_refl _), hHeld.2.below b9 (Nat.le_refl _)⟩
        have B2 := hide (Bd.out.trans (b9.mono Bd.out.size))
        have hs9 : SliceAt wrcc (.slice (some ⟨g9, 0, none⟩) 1024 1024) (S.pgOf B) := slice_row hr9 (S.pgOf_length B).symm (by rw [S.pgOf_length]; omega)
        rw [← HPB.out] at hs9
        have hcv := conv_slice hs9
        clear hHeld hr9 b9 hg9 Bd hs9
        refine hK.out _ _ a2 (fun hHeld => ?_)
        clear hK K
        try simp only [Act.put, List.setIfInBounds_toArray, List.set_cons_zero, List.set_cons_succ]
        clear a2
        refine wpAnyH_ready (rs := [11]) (by kernel_rfl) (by simp) ?_
        refine AllReadyH.cons (o := { dst := some 98, op := Op.convert 31 9 (Operand.tmp 97), type := 9, pos := "law.go:205", after := #[⟨10, .data⟩, ⟨6, .guard⟩], guard := some (6, true) }) rfl (fun K hK => ?_) AllReadyH.nil
        go_simp
        clear hcv
        refine hK.out _ _ hHeld (fun hHeld => ?_)
        clear hK K
        try simp only [Act.put, List.setIfInBounds_toArray, List.set_cons_zero, List.set_cons_succ]
        have Bd := B2
        clear B2
        refine wpAnyH_take (i := 12) (oi := { dst := some 99, op := Op.binOp BinOp.eql 9 (Operand.tmp 95) (Operand.tmp 98) 9, type := 4, pos := "law.go:205", after := #[⟨8, .data⟩, ⟨11, .data⟩, ⟨6, .guard⟩], guard := some (6, true) }) (v := ?_) rfl (by kernel_rfl) (by kernel_rfl) (by kernel_rfl) (fun _ _ _ h => h) (Or.inl ⟨by rfl, ?_⟩) (by assumption) ?_
        rotate_left
        · intro w hSw
          clear hSw
          go_simp
          all_goals with_reducible rfl
        simp only [Act.put, List.setIfInBounds_toArray, List.set_cons_zero, List.set_cons_succ]
        refine wpAnyH_take (i := 13) (oi := { dst := some 100, op := Op.pick (Operand.tmp 93) (Operand.tmp 99) (Operand.const (Value.bool false)), type := 4, pos := "law.go:205", after := #[⟨6, .data⟩, ⟨12, .data⟩], guard := none }) (v := ?_) rfl (by kernel_rfl) (by kernel_rfl) (by kernel_rfl) (fun _ _ _ h => h) (Or.inl ⟨by rfl, ?_⟩) (by assumption) ?_
        rotate_left
        · intro w hSw
          clear hSw
          go_simp
          all_goals with_reducible rfl
        simp only [Act.put, List.setIfInBounds_toArray, List.set_cons_zero, List.set_cons_succ]
        refine wpAnyH_take (i := 14) (oi := { dst := some 20, op := Op.assign (Operand.tmp 100), type := 4, pos := "law.go:205", after := #[⟨13, .data⟩, ⟨10, .chain⟩, ⟨0, .phase⟩, ⟨1, .phase⟩, ⟨2, .phase⟩, ⟨3, .phase⟩, ⟨4, .phase⟩, ⟨5, .phase⟩, ⟨6, .phase⟩, ⟨7, .phase⟩, ⟨8, .phase⟩, ⟨9, .phase⟩, ⟨10, .phase⟩, ⟨11, .phase⟩, ⟨12, .phase⟩, ⟨13, .phase⟩], guard := none }) (v := ?_) rfl (by kernel_rfl) (by kernel_rfl) (by kernel_rfl) (fun _ _ _ h => h) (Or.inl ⟨by rfl, ?_⟩) (by assumption) ?_
        rotate_left
        · intro w hSw
          clear hSw
          go_simp
          all_goals with_reducible rfl
        simp only [Act.put, List.setIfInBounds_toArray, List.set_cons_zero, List.set_cons_succ]
        have SXwrcc := hide hHeld.1
        have SYwrcc := hide hHeld.2
        have Bwrcc := Bd
        clear Bd
        refine wpAnyH_done (by kernel_rfl) ?_ _
        refine NoPanic.normal ?_
        clear hHeld
        clear e1 e2
        go_wp2_with fail
        refine (pknown_go wrcc (HK.out.below Bwrcc.out HP.out)).mono ?_
        rintro e wz ⟨rfl, bz⟩
        have BF := hide (Bwrcc.out.trans (bz.mono Bwrcc.out.size))
        clear bz
        go_wp2_with fail
        go_ret
        exact ⟨rfl, BF.out⟩
      · have e2 : (Y == PB) = false := beq_false_of_ne h1y
        clear h1y
        refine wp_region_noPanic ?_
        refine wp_region_held_drew (S := (fun W => SliceAt W (.slice (some ⟨gx, 0, none⟩) 1024 1024) X ∧ SliceAt W (.slice (some ⟨gy, 0, none⟩) 1024 1024) Y)) follows ⟨SXwrc.out, SYwrc.out⟩ (fun hHeld => ?_)
        have Bd : Hid (Below w.heap.size w wrc.drew) := Bwrc.out.drew
        clear Bwrc SXwrc SYwrc
        generalize wrc.drew = wrca at Bd hHeld ⊢
        refine wpAnyH_take (i := 0) (oi := { dst := some 87, op := Op.move (Operand.tmp 15), type := 31, pos := "law.go:205", after := #[], guard := none }) (v := ?_) rfl (by kernel_rfl) (by kernel_rfl) (by kernel_rfl) (fun _ _ _ h => h) (Or.inl ⟨by rfl, ?_⟩) (by assumption) ?_
        rotate_left
        · intro w hSw
          clear hSw
          go_simp
          all_goals with_reducible rfl
        simp only [Act.put, List.setIfInBounds_toArray, List.set_cons_zero, List.set_cons_succ]
        refine wpAnyH_take (i := 1) (oi := { dst := some 88, op := Op.convert 31 9 (Operand.tmp 87), type := 9, pos := "law.go:205", after := #[⟨0, .data⟩], guard := none }) (v := .string ⟨(X).toArray⟩) rfl (by kernel_rfl) (by kernel_rfl) (by kernel_rfl) (fun _ _ _ h => h) (yieldsIf_conv (by kernel_rfl) (.tmp 87) rfl (.slice (some ⟨gx, 0, none⟩) 1024 1024) rfl (X) (fun W hW => hW.1)) (by assumption) ?_
        simp only [Act.put, List.setIfInBounds_toArray, List.set_cons_zero, List.set_cons_succ]
        refine wpAnyH_take (i := 2) (oi := { dst := some 89, op := Op.move (Operand.tmp 1), type := 5, pos := "law.go:205", after := #[], guard := none }) (v := ?_) rfl (by kernel_rfl) (by kernel_rfl) (by kernel_rfl) (fun _ _ _ h => h) (Or.inl ⟨by rfl, ?_⟩) (by assumption) ?_
        rotate_left
        · intro w hSw
          clear hSw
          go_simp
          all_goals with_reducible rfl
        simp only [Act.put, List.setIfInBounds_toArray, List.set_cons_zero, List.set_cons_succ]
        refine wpAnyH_ready (rs := [3]) (by kernel_rfl) (by simp) ?_
        refine AllReadyH.cons (o := { dst := some 90, op := Op.call { callee := Callee.value (Operand.func 13), args := #[Operand.tmp 89], argTypes := #[5] }, type := 31, pos := "law.go:205", after := #[⟨2, .data⟩], guard := none }) rfl (fun K hK => ?_) AllReadyH.nil
        go_simp
        refine (page_any A wrca).mono ?_
        rintro e wrcb ⟨g9, rfl, hg9, hr9, b9⟩
        have a2 : SliceAt wrcb (.slice (some ⟨gx, 0, none⟩) 1024 1024) X ∧ SliceAt wrcb (.slice (some ⟨gy, 0, none⟩) 1024 1024) Y := ⟨hHeld.1.below b9 (Nat.le_refl _), hHeld.2.below b9 (Nat.le_refl _)⟩
        have B2 := hide (Bd.out.trans (b9.mono Bd.out.size))
        have hs9 : SliceAt wrcb (.slice (some ⟨g9, 0, none⟩) 1024 1024) (S.pgOf A) := slice_row hr9 (S.pgOf_length A).symm (by rw [S.pgOf_length]; omega)
        rw [← HPA.out] at hs9
        have hcv := conv_slice hs9
        clear hHeld hr9 b9 hg9 Bd hs9
        refine hK.out _ _ a2 (fun hHeld => ?_)
        clear hK K
        try simp only [Act.put, List.setIfInBounds_toArray, List.set_cons_zero, List.set_cons_succ]
        clear a2
        refine wpAnyH_ready (rs := [4]) (by kernel_rfl) (by simp) ?_
        refine AllReadyH.cons (o := { dst := some 91, op := Op.convert 31 9 (Operand.tmp 90), type := 9, pos := "law.go:205", after := #[⟨3, .data⟩], guard := none }) rfl (fun K hK => ?_) AllReadyH.nil
        go_simp
        clear hcv
        refine hK.out _ _ hHeld (fun hHeld => ?_)
        clear hK K
        try simp only [Act.put, List.setIfInBounds_toArray, List.set_cons_zero, List.set_cons_succ]
        have Bd := B2
        clear B2
        refine wpAnyH_take (i := 5) (oi := { dst := some 92, op := Op.binOp BinOp.eql 9 (Operand.tmp 88) (Operand.tmp 91) 9, type := 4, pos := "law.go:205", after := #[⟨1, .data⟩, ⟨4, .data⟩], guard := none }) (v := ?_) rfl (by kernel_rfl) (by kernel_rfl) (by kernel_rfl) (fun _ _ _ h => h) (Or.inl ⟨by rfl, ?_⟩) (by assumption) ?_
        rotate_left
        · intro w hSw
          clear hSw
          go_simp
          all_goals with_reducible rfl
        simp only [Act.put, List.setIfInBounds_toArray, List.set_cons_zero, List.set_cons_succ]
        refine wpAnyH_take (i := 6) (oi := { dst := some 93, op := Op.move (Operand.tmp 92), type := 4, pos := "law.go:205", after := #[⟨5, .data⟩, ⟨3, .chain⟩], guard := none }) (v := ?_) rfl (by kernel_rfl) (by kernel_rfl) (by kernel_rfl) (fun _ _ _ h => h) (Or.inl ⟨by rfl, ?_⟩) (by assumption) ?_
        rotate_left
        · intro w hSw
          clear hSw
          go_simp
          all_goals with_reducible rfl
        simp only [Act.put, List.setIfInBounds_toArray, List.set_cons_zero, List.set_cons_succ]
        refine wpAnyH_take (i := 7) (oi := { dst := some 94, op := Op.move (Operand.tmp 17), type := 31, pos := "law.go:205", after := #[⟨6, .guard⟩], guard := some (6, true) }) (v := ?_) rfl (by kernel_rfl) (by kernel_rfl) (by kernel_rfl) (fun _ _ _ h => h) (Or.inl ⟨by rfl, ?_⟩) (by assumption) ?_
        rotate_left
        · intro w hSw
          clear hSw
          go_simp
          all_goals with_reducible rfl
        simp only [Act.put, List.setIfInBounds_toArray, List.set_cons_zero, List.set_cons_succ]
        refine wpAnyH_take (i := 8) (oi := { dst := some 95, op := Op.convert 31 9 (Operand.tmp 94), type := 9, pos := "law.go:205", after := #[⟨7, .data⟩, ⟨6, .guard⟩], guard := some (6, true) }) (v := .string ⟨(Y).toArray⟩) rfl (by kernel_rfl) (by kernel_rfl) (by kernel_rfl) (fun _ _ _ h => h) (yieldsIf_conv (by kernel_rfl) (.tmp 94) rfl (.slice (some ⟨gy, 0, none⟩) 1024 1024) rfl (Y) (fun W hW => hW.2)) (by assumption) ?_
        simp only [Act.put, List.setIfInBounds_toArray, List.set_cons_zero, List.set_cons_succ]
        refine wpAnyH_take (i := 9) (oi := { dst := some 96, op := Op.move (Operand.tmp 2), type := 5, pos := "law.go:205", after := #[⟨6, .guard⟩], guard := some (6, true) }) (v := ?_) rfl (by kernel_rfl) (by kernel_rfl) (by kernel_rfl) (fun _ _ _ h => h) (Or.inl ⟨by rfl, ?_⟩) (by assumption) ?_
        rotate_left
        · intro w hSw
          clear hSw
          go_simp
          all_goals with_reducible rfl
        simp only [Act.put, List.setIfInBounds_toArray, List.set_cons_zero, List.set_cons_succ]
        refine wpAnyH_ready (rs := [10]) (by kernel_rfl) (by simp) ?_
        refine AllReadyH.cons (o := { dst := some 97, op := Op.call { callee := Callee.value (Operand.func 13), args := #[Operand.tmp 96], argTypes := #[5] }, type := 31, pos := "law.go:205", after := #[⟨9, .data⟩, ⟨6, .chain⟩, ⟨6, .guard⟩], guard := some (6, true) }) rfl (fun K hK => ?_) AllReadyH.nil
        go_simp
        refine (page_any B wrcb).mono ?_
        rintro e wrcc ⟨g9, rfl, hg9, hr9, b9⟩
        have a2 : SliceAt wrcc (.slice (some ⟨gx, 0, none⟩) 1024 1024) X ∧ SliceAt wrcc (.slice (some ⟨gy, 0, none⟩) 1024 1024) Y := ⟨hHeld.1.below b9 (Nat.le_refl _), hHeld.2.below b9 (Nat.le_refl _)⟩
        have B2 := hide (Bd.out.trans (b9.mono Bd.out.size))
        have hs9 : SliceAt wrcc (.slice (some ⟨g9, 0, none⟩) 1024 1024) (S.pgOf B) := slice_row hr9 (S.pgOf_length B).symm (by rw [S.pgOf_length]; omega)
        rw [← HPB.out] at hs9
        have hcv := conv_slice hs9
        clear hHeld hr9 b9 hg9 Bd hs9
        refine hK.out _ _ a2 (fun hHeld => ?_)
        clear hK K
        try simp only [Act.put, List.setIfInBounds_toArray, List.set_cons_zero, List.set_cons_succ]
        clear a2
        refine wpAnyH_ready (rs := [11]) (by kernel_rfl) (by simp) ?_
        refine AllReadyH.cons (o := { dst := some 98, op := Op.convert 31 9 (Operand.tmp 97), type := 9, pos := "law.go:205", after := #[⟨10, .data⟩, ⟨6, .guard⟩], guard := some (6, true) }) rfl (fun K hK => ?_) AllReadyH.nil
        go_simp
        clear hcv
        refine hK.out _ _ hHeld (fun hHeld => ?_)
        clear hK K
        try simp only [Act.put, List.setIfInBounds_toArray, List.set_cons_zero, List.set_cons_succ]
        have Bd := B2
        clear B2
        refine wpAnyH_take (i := 12) (oi := { dst := some 99, op := Op.binOp BinOp.eql 9 (Operand.tmp 95) (Operand.tmp 98) 9, type := 4, pos := "law.go:205", after := #[⟨8, .data⟩, ⟨11, .data⟩, ⟨6, .guard⟩], guard := some (6, true) }) (v := ?_) rfl (by kernel_rfl) (by kernel_rfl) (by kernel_rfl) (fun _ _ _ h => h) (Or.inl ⟨by rfl, ?_⟩) (by assumption) ?_
        rotate_left
        · intro w hSw
          clear hSw
          go_simp
          all_goals with_reducible rfl
        simp only [Act.put, List.setIfInBounds_toArray, List.set_cons_zero, List.set_cons_succ]
        refine wpAnyH_take (i := 13) (oi := { dst := some 100, op := Op.pick (Operand.tmp 93) (Operand.tmp 99) (Operand.const (Value.bool false)), type := 4, pos := "law.go:205", after := #[⟨6, .data⟩, ⟨12, .data⟩], guard := none }) (v := ?_) rfl (by kernel_rfl) (by kernel_rfl) (by kernel_rfl) (fun _ _ _ h => h) (Or.inl ⟨by rfl, ?_⟩) (by assumption) ?_
        rotate_left
        · intro w hSw
          clear hSw
          go_simp
          all_goals with_reducible rfl
        simp only [Act.put, List.setIfInBounds_toArray, List.set_cons_zero, List.set_cons_succ]
        refine wpAnyH_take (i := 14) (oi := { dst := some 20, op := Op.assign (Operand.tmp 100), type := 4, pos := "law.go:205", after := #[⟨13, .data⟩, ⟨10, .chain⟩, ⟨0, .phase⟩, ⟨1, .phase⟩, ⟨2, .phase⟩, ⟨3, .phase⟩, ⟨4, .phase⟩, ⟨5, .phase⟩, ⟨6, .phase⟩, ⟨7, .phase⟩, ⟨8, .phase⟩, ⟨9, .phase⟩, ⟨10, .phase⟩, ⟨11, .phase⟩, ⟨12, .phase⟩, ⟨13, .phase⟩], guard := none }) (v := ?_) rfl (by kernel_rfl) (by kernel_rfl) (by kernel_rfl) (fun _ _ _ h => h) (Or.inl ⟨by rfl, ?_⟩) (by assumption) ?_
        rotate_left
        · intro w hSw
          clear hSw
          go_simp
          all_goals with_reducible rfl
        simp only [Act.put, List.setIfInBounds_toArray, List.set_cons_zero, List.set_cons_succ]
        have SXwrcc := hide hHeld.1
        have SYwrcc := hide hHeld.2
        have Bwrcc := Bd
        clear Bd
        refine wpAnyH_done (by kernel_rfl) ?_ _
        refine NoPanic.normal ?_
        clear hHeld
        clear e1 e2
        go_wp2_with fail
        refine (pknown_go wrcc (HK.out.below Bwrcc.out HP.out)).mono ?_
        rintro e wz ⟨rfl, bz⟩
        have BF := hide (Bwrcc.out.trans (bz.mono Bwrcc.out.size))
        clear bz
        go_wp2_with fail
        go_ret
        exact ⟨rfl, BF.out⟩
    · have e1 : (X == PA) = false := beq_false_of_ne h1x
      clear h1x
      refine wp_region_noPanic ?_
      refine wp_region_held_drew (S := (fun W => SliceAt W (.slice (some ⟨gx, 0, none⟩) 1024 1024) X ∧ SliceAt W (.slice (some ⟨gy, 0, none⟩) 1024 1024) Y)) follows ⟨SXwrc.out, SYwrc.out⟩ (fun hHeld => ?_)
      have Bd : Hid (Below w.heap.size w wrc.drew) := Bwrc.out.drew
      clear Bwrc SXwrc SYwrc
      generalize wrc.drew = wrca at Bd hHeld ⊢
      refine wpAnyH_take (i := 0) (oi := { dst := some 87, op := Op.move (Operand.tmp 15), type := 31, pos := "law.go:205", after := #[], guard := none }) (v := ?_) rfl (by kernel_rfl) (by kernel_rfl) (by kernel_rfl) (fun _ _ _ h => h) (Or.inl ⟨by rfl, ?_⟩) (by assumption) ?_
      rotate_left
      · intro w hSw
        clear hSw
        go_simp
        all_goals with_reducible rfl
      simp only [Act.put, List.setIfInBounds_toArray, List.set_cons_zero, List.set_cons_succ]
      refine wpAnyH_take (i := 1) (oi := { dst := some 88, op := Op.convert 31 9 (Operand.tmp 87), type := 9, pos := "law.go:205", after := #[⟨0, .data⟩], guard := none }) (v := .string ⟨(X).toArray⟩) rfl (by kernel_rfl) (by kernel_rfl) (by kernel_rfl) (fun _ _ _ h => h) (yieldsIf_conv (by kernel_rfl) (.tmp 87) rfl (.slice (some ⟨gx, 0, none⟩) 1024 1024) rfl (X) (fun W hW => hW.1)) (by assumption) ?_
      simp only [Act.put, List.setIfInBounds_toArray, List.set_cons_zero, List.set_cons_succ]
      refine wpAnyH_take (i := 2) (oi := { dst := some 89, op := Op.move (Operand.tmp 1), type := 5, pos := "law.go:205", after := #[], guard := none }) (v := ?_) rfl (by kernel_rfl) (by kernel_rfl) (by kernel_rfl) (fun _ _ _ h => h) (Or.inl ⟨by rfl, ?_⟩) (by assumption) ?_
      rotate_left
      · intro w hSw
        clear hSw
        go_simp
        all_goals with_reducible rfl
      simp only [Act.put, List.setIfInBounds_toArray, List.set_cons_zero, List.set_cons_succ]
      refine wpAnyH_ready (rs := [3]) (by kernel_rfl) (by simp) ?_
      refine AllReadyH.cons (o := { dst := some 90, op := Op.call { callee := Callee.value (Operand.func 13), args := #[Operand.tmp 89], argTypes := #[5] }, type := 31, pos := "law.go:205", after := #[⟨2, .data⟩], guard := none }) rfl (fun K hK => ?_) AllReadyH.nil
      go_simp
      refine (page_any A wrca).mono ?_
      rintro e wrcb ⟨g9, rfl, hg9, hr9, b9⟩
      have a2 : SliceAt wrcb (.slice (some ⟨gx, 0, none⟩) 1024 1024) X ∧ SliceAt wrcb (.slice (some ⟨gy, 0, none⟩) 1024 1024) Y := ⟨hHeld.1.below b9 (Nat.le_refl _), hHeld.2.below b9 (Nat.le_refl _)⟩
      have B2 := hide (Bd.out.trans (b9.mono Bd.out.size))
      have hs9 : SliceAt wrcb (.slice (some ⟨g9, 0, none⟩) 1024 1024) (S.pgOf A) := slice_row hr9 (S.pgOf_length A).symm (by rw [S.pgOf_length]; omega)
      rw [← HPA.out] at hs9
      have hcv := conv_slice hs9
      clear hHeld hr9 b9 hg9 Bd hs9
      refine hK.out _ _ a2 (fun hHeld => ?_)
      clear hK K
      try simp only [Act.put, List.setIfInBounds_toArray, List.set_cons_zero, List.set_cons_succ]
      clear a2
      refine wpAnyH_ready (rs := [4]) (by kernel_rfl) (by simp) ?_
      refine AllReadyH.cons (o := { dst := some 91, op := Op.convert 31 9 (Operand.tmp 90), type := 9, pos := "law.go:205", after := #[⟨3, .data⟩], guard := none }) rfl (fun K hK => ?_) AllReadyH.nil
      go_simp
      clear hcv
      refine hK.out _ _ hHeld (fun hHeld => ?_)
      clear hK K
      try simp only [Act.put, List.setIfInBounds_toArray, List.set_cons_zero, List.set_cons_succ]
      have Bd := B2
      clear B2
      refine wpAnyH_take (i := 5) (oi := { dst := some 92, op := Op.binOp BinOp.eql 9 (Operand.tmp 88) (Operand.tmp 91) 9, type := 4, pos := "law.go:205", after := #[⟨1, .data⟩, ⟨4, .data⟩], guard := none }) (v := ?_) rfl (by kernel_rfl) (by kernel_rfl) (by kernel_rfl) (fun _ _ _ h => h) (Or.inl ⟨by rfl, ?_⟩) (by assumption) ?_
      rotate_left
      · intro w hSw
        clear hSw
        go_simp
        all_goals with_reducible rfl
      simp only [Act.put, List.setIfInBounds_toArray, List.set_cons_zero, List.set_cons_succ]
      refine wpAnyH_take (i := 6) (oi := { dst := some 93, op := Op.move (Operand.tmp 92), type := 4, pos := "law.go:205", after := #[⟨5, .data⟩, ⟨3, .chain⟩], guard := none }) (v := ?_) rfl (by kernel_rfl) (by kernel_rfl) (by kernel_rfl) (fun _ _ _ h => h) (Or.inl ⟨by rfl, ?_⟩) (by assumption) ?_
      rotate_left
      · intro w hSw
        clear hSw
        go_simp
        all_goals with_reducible rfl
      simp only [Act.put, List.setIfInBounds_toArray, List.set_cons_zero, List.set_cons_succ]
      refine wpAnyH_take (i := 7) (oi := { dst := some 94, op := Op.move (Operand.tmp 17), type := 31, pos := "law.go:205", after := #[⟨6, .guard⟩], guard := some (6, true) }) (v := undef) rfl (by kernel_rfl) (by kernel_rfl) (by kernel_rfl) (fun _ _ _ h => h) (Or.inr ⟨by rfl, rfl⟩) (by assumption) ?_
      simp only [Act.put, List.setIfInBounds_toArray, List.set_cons_zero, List.set_cons_succ]
      refine wpAnyH_take (i := 8) (oi := { dst := some 95, op := Op.convert 31 9 (Operand.tmp 94), type := 9, pos := "law.go:205", after := #[⟨7, .data⟩, ⟨6, .guard⟩], guard := some (6, true) }) (v := undef) rfl (by kernel_rfl) (by kernel_rfl) (by kernel_rfl) (fun _ _ _ h => h) (Or.inr ⟨by rfl, rfl⟩) (by assumption) ?_
      simp only [Act.put, List.setIfInBounds_toArray, List.set_cons_zero, List.set_cons_succ]
      refine wpAnyH_take (i := 9) (oi := { dst := some 96, op := Op.move (Operand.tmp 2), type := 5, pos := "law.go:205", after := #[⟨6, .guard⟩], guard := some (6, true) }) (v := undef) rfl (by kernel_rfl) (by kernel_rfl) (by kernel_rfl) (fun _ _ _ h => h) (Or.inr ⟨by rfl, rfl⟩) (by assumption) ?_
      simp only [Act.put, List.setIfInBounds_toArray, List.set_cons_zero, List.set_cons_succ]
      refine wpAnyH_take (i := 10) (oi := { dst := some 97, op := Op.call { callee := Callee.value (Operand.func 13), args := #[Operand.tmp 96], argTypes := #[5] }, type := 31, pos := "law.go:205", after := #[⟨9, .data⟩, ⟨6, .chain⟩, ⟨6, .guard⟩], guard := some (6, true) }) (v := undef) rfl (by kernel_rfl) (by kernel_rfl) (by kernel_rfl) (fun _ _ _ h => h) (Or.inr ⟨by rfl, rfl⟩) (by assumption) ?_
      simp only [Act.put, List.setIfInBounds_toArray, List.set_cons_zero, List.set_cons_succ]
      refine wpAnyH_take (i := 11) (oi := { dst := some 98, op := Op.convert 31 9 (Operand.tmp 97), type := 9, pos := "law.go:205", after := #[⟨10, .data⟩, ⟨6, .guard⟩], guard := some (6, true) }) (v := undef) rfl (by kernel_rfl) (by kernel_rfl) (by kernel_rfl) (fun _ _ _ h => h) (Or.inr ⟨by rfl, rfl⟩) (by assumption) ?_
      simp only [Act.put, List.setIfInBounds_toArray, List.set_cons_zero, List.set_cons_succ]
      refine wpAnyH_take (i := 12) (oi := { dst := some 99, op := Op.binOp BinOp.eql 9 (Operand.tmp 95) (Operand.tmp 98) 9, type := 4, pos := "law.go:205", after := #[⟨8, .data⟩, ⟨11, .data⟩, ⟨6, .guard⟩], guard := some (6, true) }) (v := undef) rfl (by kernel_rfl) (by kernel_rfl) (by kernel_rfl) (fun _ _ _ h => h) (Or.inr ⟨by rfl, rfl⟩) (by assumption) ?_
      simp only [Act.put, List.setIfInBounds_toArray, List.set_cons_zero, List.set_cons_succ]
      refine wpAnyH_take (i := 13) (oi := { dst := some 100, op := Op.pick (Operand.tmp 93) (Operand.tmp 99) (Operand.const (Value.bool false)), type := 4, pos := "law.go:205", after := #[⟨6, .data⟩, ⟨12, .data⟩], guard := none }) (v := ?_) rfl (by kernel_rfl) (by kernel_rfl) (by kernel_rfl) (fun _ _ _ h => h) (Or.inl ⟨by rfl, ?_⟩) (by assumption) ?_
      rotate_left
      · intro w hSw
        clear hSw
        go_simp
        all_goals with_reducible rfl
      simp only [Act.put, List.setIfInBounds_toArray, List.set_cons_zero, List.set_cons_succ]
      refine wpAnyH_take (i := 14) (oi := { dst := some 20, op := Op.assign (Operand.tmp 100), type := 4, pos := "law.go:205", after := #[⟨13, .data⟩, ⟨10, .chain⟩, ⟨0, .phase⟩, ⟨1, .phase⟩, ⟨2, .phase⟩, ⟨3, .phase⟩, ⟨4, .phase⟩, ⟨5, .phase⟩, ⟨6, .phase⟩, ⟨7, .phase⟩, ⟨8, .phase⟩, ⟨9, .phase⟩, ⟨10, .phase⟩, ⟨11, .phase⟩, ⟨12, .phase⟩, ⟨13, .phase⟩], guard := none }) (v := ?_) rfl (by kernel_rfl) (by kernel_rfl) (by kernel_rfl) (fun _ _ _ h => h) (Or.inl ⟨by rfl, ?_⟩) (by assumption) ?_
      rotate_left
      · intro w hSw
        clear hSw
        go_simp
        all_goals with_reducible rfl
      simp only [Act.put, List.setIfInBounds_toArray, List.set_cons_zero, List.set_cons_succ]
      have SXwrcb := hide hHeld.1
      have SYwrcb := hide hHeld.2
      have Bwrcb := Bd
      clear Bd
      refine wpAnyH_done (by kernel_rfl) ?_ _
      refine NoPanic.normal ?_
      clear hHeld
      clear e1
      go_wp2_with fail
      refine (pknown_go wrcb (HK.out.below Bwrcb.out HP.out)).mono ?_
      rintro e wz ⟨rfl, bz⟩
      have BF := hide (Bwrcb.out.trans (bz.mono Bwrcb.out.size))
      clear bz
      go_wp2_with fail
      go_ret
      exact ⟨rfl, BF.out⟩
end Go.Proofs.YthjlhngjpbmieaaGreatDoor
