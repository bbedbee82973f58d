/- The calls of writers and readers where what comes of them is known; the runs that every statement asks besides. -/
import Derived.Test.YtdhaeepaemneaaaDoorRdd
import Derived.Test.YtdhaeepaemneaaaDoorRfd
namespace Go.Proofs.YtdhaeepaemneaaaDoor
open Go.RowKit
theorem stays_cells {p : Nat → Prop} {w : World} {b off cap : Nat} {xs : List UInt8} (hb : b < w.heap.size) (hp : ¬ p b) (hl : xs.length ≤ 140737488355328) (hc : xs.length ≤ cap) (h : ∀ j, j < xs.length → w.cell? ⟨b, off + j, none⟩ = some (.int .u8 ((xs.getD j 0).toNat : Int))) : Stays p w (.slice (some ⟨b, off, none⟩) xs.length cap) xs := fun _ hW =>
  Or.inr (Or.inr ⟨b, off, cap, rfl, hc, hl, Nat.lt_of_lt_of_le hb hW.size, fun j hj => (World.cell?_of_block (hW.block b hb hp)).trans (h j hj)⟩)
theorem rnumber_is {r r' : S.Rd} {k : Int} {n : Nat} (g t : Nat) (w : World) (h : r.number k = (r', n)) (hr : RdIs w g t r) :
   Calls Tryd.prog 11 #[.pointer (some ⟨g, 0, none⟩), .int .i64 k] w fun e w' => e = .returned (.int .u64 (n : Int)) ∧ RdIs w' g t r' ∧ Chg (fun k => k = g) w w' := by
  have := rnumber_any g t r k w hr
  rw [h] at this
  exact this
theorem rbytes_is {r r' : S.Rd} {most : Int} {xs : List UInt8} (g t : Nat) (w : World) (h : r.bytes most = (r', xs)) (hr : RdIs w g t r) :
   Calls Tryd.prog 26 #[.pointer (some ⟨g, 0, none⟩), .int .i64 most] w fun e w' => ∃ q, e = .returned (.slice (some ⟨q, 0, none⟩) xs.length xs.length) ∧ w.heap.size ≤ q ∧ w'.heap[q]? = some (.cells (S.v8 xs) 5 (0, 0)) ∧ RdIs w' g t r' ∧ Chg (fun k => k = g) w w' := by
  have := rbytes_any g t r most w hr
  rw [h] at this
  exact this
theorem rfail_is {r r' : S.Rd} {why : Int} (g t : Nat) (w : World) (h : r.fail why = r') (hr : RdIs w g t r) :
   Calls Tryd.prog 12 #[.pointer (some ⟨g, 0, none⟩), .int .i64 why] w fun e w' => e = .returned (.tuple #[]) ∧ RdIs w' g t r' ∧ Chg (fun k => k = g) w w' := by
  have := rfail_any g t r why w hr
  rw [h] at this
  exact this
theorem rend_yes {r : S.Rd} {a y : Int} (g t : Nat) (w : World) (h : r.fin = (a, y)) (hy : y ≠ 0) (hr : RdIs w g t r) :
   Calls Tryd.prog 15 #[.pointer (some ⟨g, 0, none⟩)] w fun e w' => ∃ q, e = .returned (.iface 81 (.pointer (some ⟨q, 0, none⟩))) ∧ RefAt w' q a y ∧ Below w.heap.size w w' := by
  refine (rend_any g t r w hr).mono ?_
  rintro e w' ⟨h1, hb⟩
  rw [h] at h1
  rcases h1 with ⟨h2, _⟩ | ⟨_, q, rfl, _, hq⟩
  · exact absurd h2 hy
  · exact ⟨q, rfl, hq, hb⟩
theorem rend_no {r : S.Rd} {a : Int} (g t : Nat) (w : World) (h : r.fin = (a, 0)) (hr : RdIs w g t r) :
   Calls Tryd.prog 15 #[.pointer (some ⟨g, 0, none⟩)] w fun e w' => e = .returned .nilIface ∧ Below w.heap.size w w' := by
  refine (rend_any g t r w hr).mono ?_
  rintro e w' ⟨h1, hb⟩
  rw [h] at h1
  rcases h1 with ⟨_, rfl⟩ | ⟨h2, _⟩
  · exact ⟨rfl, hb⟩
  · exact absurd rfl h2
theorem wnumber_is {bs bs' : List UInt8} {n k : Int} (m g : Nat) (v : Value) (w : World) (hn : n = (m : Int)) (h : bs ++ S.num m (S.size k) = bs') (hw : WrIs w g v bs) (hb : bs.length + 8 ≤ 140737488355328) :
   Calls Tryd.prog 13 #[.pointer (some ⟨g, 0, none⟩), .int .u64 n, .int .i64 k] w fun e w' => e = .returned (.tuple #[]) ∧ ∃ v', WrIs w' g v' bs' ∧ WrTo g v w v' w' := by
  rw [← h, hn]
  exact wnumber_any g v bs m k w hw hb
theorem wbytes_is {bs bs' xs : List UInt8} (g : Nat) (v u : Value) (w : World) (h : bs ++ S.text xs = bs') (hw : WrIs w g v bs) (hu : Stays (fun k => k = g ∨ v.ownBlock = some k) w u xs) (hb : bs.length + 65544 ≤ 140737488355328) :
   Calls Tryd.prog 20 #[.pointer (some ⟨g, 0, none⟩), u] w fun e w' => e = .returned (.tuple #[]) ∧ ∃ v', WrIs w' g v' bs' ∧ WrTo g v w v' w' := by
  rw [← h]
  exact wbytes_any g v u bs xs w hw hu hb
/-- What a writer of the call's own changes lies from a base on. -/
theorem WrTo.base {g B : Nat} {v v' : Value} {w w' : World} (h : WrTo g v w v' w') (hB : B ≤ w.heap.size) (hg : B ≤ g) (hv : ∀ k, v.ownBlock = some k → B ≤ k) : Below B w w' ∧ ∀ k, v'.ownBlock = some k → B ≤ k :=
  ⟨h.chg.below B hB (fun k hk e => by rcases e with e | e; omega; have := hv k e; omega), fun k hk => by rcases h.own k hk with e | e; exact hv k e; omega⟩
theorem Chg.base {g B : Nat} {w w' : World} (h : Chg (fun k => k = g) w w') (hB : B ≤ w.heap.size) (hg : B ≤ g) : Below B w w' := h.below B hB (fun k hk e => by omega)
theorem nil_base (B : Nat) : ∀ k, (Value.slice none 0 0).ownBlock = some k → B ≤ k := fun k h => by cases h
theorem word_ok {y : Int} (h : -1000000000000000 ≤ y ∧ y ≤ 1000000000000000) : inWord y := ⟨by omega, by omega⟩
theorem kn1 : ([] : List UInt8) ++ S.num 258 (S.size 2) = [1, 2] := by decide
theorem kn2 : [1, 2] ++ S.text [97] = [1, 2, 0, 1, 97] := by decide
theorem kn3 : (S.Rd.mk [1, 2, 0, 1, 97] 0 0 0).number 2 = (⟨[1, 2, 0, 1, 97], 2, 0, 0⟩, 258) := by rfl
theorem kn4 : (S.Rd.mk [1, 2, 0, 1, 97] 2 0 0).bytes 0 = (⟨[1, 2, 0, 1, 97], 4, 2, 3⟩, []) := by rfl
theorem kn5 : (S.Rd.mk [1, 2, 0, 1, 97] 4 2 3).fin = (2, 3) := by rfl
set_option maxHeartbeats 1600000 in
set_option maxRecDepth 100000 in
theorem known_any (w : World) (hP : PowAt w) :
   Calls Tryd.prog 17 #[] w fun e w' => e = .returned (.bool true) ∧ Below w.heap.size w w' := by
  have HP := hide hP
  clear hP
  have kc := fun (w : World) (C : Array Value) (n c : Nat) => Lib.run_convert_bytes_const (P := Tryd.prog) w 24 5 C n c Tryd.underlying24 Tryd.underlying5
  go_enter Tryd.func17, Tryd.ntmps17
  go_wp2_with fail
  refine (newWriter_any w).mono ?_
  rintro e w1 ⟨rfl, hw1, hb1⟩
  have W1 := hide hw1
  have B1 := hide hb1
  clear hw1 hb1
  go_wp2_with fail
  refine (wnumber_is 258 w.heap.size _ w1 rfl kn1 W1.out (by decide)).mono ?_
  rintro e w2 ⟨rfl, v2, hw2, ht2⟩
  have W2 := hide hw2
  have hx := ht2.base B1.out.size (Nat.le_refl _) (nil_base _)
  have B2 := hide (B1.out.trans hx.1)
  have O2 := hide hx.2
  clear hw2 ht2 W1 B1 hx
  go_wp2_with fail
  generalize hW : w2.alloc (.cells #[.int .u8 97] 5 (1, 2)) = w3
  have hb3 : Below w2.heap.size w2 w3 := by rw [← hW]; exact (Below.refl _ _).alloc (Nat.le_refl _) _
  have sl : Stays (fun k => k = w.heap.size ∨ v2.ownBlock = some k) w3 (.slice (some ⟨w2.heap.size, 0, none⟩) 1 1) [97] := by
    show Stays _ w3 (.slice (some ⟨w2.heap.size, 0, none⟩) [(97 : UInt8)].length 1) [97]
    refine stays_cells (by rw [← hW]; simp) (fun h => by rcases h with h | h; have := W2.out.lt; omega; have := W2.out.text.lt h; omega) (by decide) (by decide) (fun j hj => ?_)
    obtain rfl : j = 0 := by simpa using hj
    rw [← hW, World.cell?_alloc_mark]
    rfl
  have W3 := hide (W2.out.chg (p := fun _ => False) (Chg.ofBelow' hb3) (fun e => e) (fun _ _ e => e))
  have B3 := hide (B2.out.trans (hb3.mono B2.out.size))
  have SL := hide sl
  clear hW hb3 sl W2 B2
  generalize w2.heap.size = gs at *
  clear w1 w2 kc
  refine (wbytes_is w.heap.size v2 _ w3 kn2 W3.out SL.out (by decide)).mono ?_
  rintro e w4 ⟨rfl, v4, hw4, ht4⟩
  have hx := ht4.base B3.out.size (Nat.le_refl _) O2.out
  have W4 := hide hw4
  have B4 := hide (B3.out.trans hx.1)
  clear hw4 ht4 hx W3 B3 SL O2 w3 v2
  go_wp2_with fail
  refine (done_any w.heap.size v4 _ w4 W4.out (by decide)).mono ?_
  rintro e w5 ⟨rfl, hr5, hb5⟩
  have B5 := hide (B4.out.trans (hb5.mono B4.out.size))
  have S5 := hide ((stays_row (p := fun _ => False) hr5 (fun e => e) (by decide)).now)
  clear hr5 hb5 W4 B4 v4
  generalize w4.heap.size = g5 at *
  clear w4
  go_wp2_with fail
  refine (newReader_any _ _ w5 S5.out (by decide)).mono ?_
  rintro e w6 ⟨g, t, rfl, hg6, ht6, hr6, hb6⟩
  have R6 := hide hr6
  have B6 := hide (B5.out.trans (hb6.mono B5.out.size))
  have S6 := hide (S5.out.below hb6 (Nat.le_refl _))
  have CV : (convert 24 9 (.slice (some ⟨g5, 0, none⟩) 5 5)).run Tryd.prog w6 = .ok (.string ⟨#[1, 2, 0, 1, 97]⟩) w6 := conv_slice S6.out
  have hgB : w.heap.size ≤ g := Nat.le_trans B5.out.size hg6
  clear hr6 hb6 B5 S5 hg6 ht6
  go_wp2_with fail
  refine (rnumber_is g t w6 kn3 R6.out).mono ?_
  rintro e w7 ⟨rfl, hr7, hc7⟩
  have R7 := hide hr7
  have B7 := hide (B6.out.trans (hc7.base B6.out.size hgB))
  clear hr7 hc7 R6 B6 S6 CV
  go_wp2_with fail
  refine (rbytes_is g t w7 kn4 R7.out).mono ?_
  rintro e w8 ⟨q8, rfl, _, _, hr8, hc8⟩
  have R8 := hide hr8
  have B8 := hide (B7.out.trans (hc8.base B7.out.size hgB))
  clear hr8 hc8 R7 B7
  go_wp2_with fail
  refine (rend_yes g t w8 kn5 (by decide) R8.out).mono ?_
  rintro e w9 ⟨q9, rfl, hr9, hb9⟩
  have F9 := hide hr9
  have B9 := hide (B8.out.trans (hb9.mono B8.out.size))
  clear hr9 hb9 R8 B8
  go_wp2_with fail
  refine (refused_yes q9 2 3 w9 F9.out (HP.out.below B9.out) (word_ok (by decide)) (word_ok (by decide)) (by decide)).mono ?_
  rintro e w10 ⟨rfl, hb10⟩
  have Z := B9.out.trans (hb10.mono B9.out.size)
  clear hb10 F9
  go_wp2_with fail
  go_ret
  exact ⟨rfl, Z⟩
end Go.Proofs.YtdhaeepaemneaaaDoor
