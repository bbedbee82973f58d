/- A Reader: its state, refused, refuse, take: what they answer is the plain function's; only the reader's own block changes. -/
import Derived.Test.YtlcilclhaahopaaDoorWrb
import Derived.Laws.Bits64b
import Derived.Laws.BitsAllLaws
namespace Go.Proofs.YtlcilclhaahopaaDoor
open Go.RowKit
namespace S
/-- A reader: its text, where it stands, and the first refusal (why 0: none). -/
structure Rd where
  bs : List UInt8
  pl : Nat
  ba : Int
  why : Int
def Rd.refuse (r : Rd) (a y : Int) : Rd := if r.why = 0 then { r with ba := a, why := y } else r
def Rd.take (r : Rd) (n : Nat) : Rd × List UInt8 :=
  if r.why = 0 then (if r.pl + n ≤ r.bs.length then ({ r with pl := r.pl + n }, (r.bs.drop r.pl).take n) else ({ r with ba := r.bs.length, why := 10 }, [])) else (r, [])
theorem Rd.take_bs (r : Rd) (n : Nat) : (r.take n).1.bs = r.bs := by unfold Rd.take; split; (split <;> rfl); rfl
theorem Rd.refuse_bs (r : Rd) (a y : Int) : (r.refuse a y).bs = r.bs := by unfold Rd.refuse; split <;> rfl
end S
/-- The reader in block g, its text in block t. -/
structure RdIs (w : World) (g t : Nat) (r : S.Rd) : Prop where
  row : w.heap[g]? = some (.cells #[.slice (some ⟨t, 0, none⟩) r.bs.length r.bs.length, .int .i64 (r.pl : Int), .int .i64 r.ba, .int .i64 r.why] 126 (0, 0))
  text : w.heap[t]? = some (.cells (S.v8 r.bs) 5 (0, 0))
  sep : t ≠ g
  pl : r.pl ≤ r.bs.length
  len : r.bs.length ≤ 140737488355328
theorem RdIs.chg {p : Nat → Prop} {w W : World} {g t : Nat} {r : S.Rd} (h : RdIs w g t r) (hc : Chg p w W) (hg : ¬ p g) (ht : ¬ p t) : RdIs W g t r :=
  ⟨hc.row h.row hg, hc.row h.text ht, h.sep, h.pl, h.len⟩
theorem RdIs.below {w W : World} {g t : Nat} {r : S.Rd} (h : RdIs w g t r) (hb : Below w.heap.size w W) : RdIs W g t r := h.chg (p := fun _ => False) (Chg.ofBelow' hb) (fun e => e) (fun e => e)
theorem RdIs.lt {w : World} {g t : Nat} {r : S.Rd} (h : RdIs w g t r) : g < w.heap.size := block_lt_of_row h.row
theorem RdIs.tlt {w : World} {g t : Nat} {r : S.Rd} (h : RdIs w g t r) : t < w.heap.size := block_lt_of_row h.text
theorem newReader_any (v : Value) (bs : List UInt8) (w : World) (hv : SliceAt w v bs) (hb : bs.length ≤ 140737488355328) :
   Calls Tryd.prog 43 #[v] w fun e w' => ∃ g t, e = .returned (.pointer (some ⟨g, 0, none⟩)) ∧ w.heap.size ≤ g ∧ w.heap.size ≤ t ∧ RdIs w' g t ⟨bs, 0, 0, 0⟩ ∧ Below w.heap.size w w' := by
  have HV := hide hv
  clear hv
  go_enter Tryd.func43, Tryd.ntmps43
  go_wp2_with fail
  refine (copyOf_any _ bs w HV.out).mono ?_
  rintro e w1 ⟨rfl, h1, h2⟩
  have H1 := hide h1
  have H2 := hide h2
  have hlt := block_lt_of_row h1
  clear h1 h2
  go_wp2_with fail
  go_ret
  exact ⟨w1.heap.size, w.heap.size, rfl, H2.out.size, Nat.le_refl _, ⟨heap_alloc_new _ _, (heap_alloc_old _ _ hlt).trans H1.out, by omega, Nat.zero_le _, hb⟩, H2.out.alloc H2.out.size _⟩
theorem rrefused_any (g t : Nat) (r : S.Rd) (w : World) (hr : RdIs w g t r) :
   Calls Tryd.prog 72 #[.pointer (some ⟨g, 0, none⟩)] w fun e w' => e = .returned (.bool (r.why != 0)) ∧ w = w' := by
  obtain ⟨c0, c1, c2, c3⟩ := cells4 hr.row
  clear hr
  go_enter Tryd.func72, Tryd.ntmps72
  go_wp2
  go_ret
  exact ⟨rfl, rfl⟩
theorem rrefuse_any (g t : Nat) (r : S.Rd) (a y : Int) (w : World) (hr : RdIs w g t r) :
   Calls Tryd.prog 88 #[.pointer (some ⟨g, 0, none⟩), .int .i64 a, .int .i64 y] w fun e w' => e = .returned (.tuple #[]) ∧ RdIs w' g t (r.refuse a y) ∧ Chg (fun k => k = g) w w' := by
  have HR := hide hr
  obtain ⟨c0, c1, c2, c3⟩ := cells4 hr.row
  have f2 := frozen_of_row _ _ 2 _ _ hr.row
  have f3 := frozen_of_row _ _ 3 _ _ hr.row
  clear hr
  by_cases h0 : r.why = 0
  · have b0 : (r.why != 0) = false := by simp [h0]
    have E : Hid (r.refuse a y = { r with ba := a, why := y }) := by show r.refuse a y = _; unfold S.Rd.refuse; rw [if_pos h0]
    clear h0
    go_enter Tryd.func88, Tryd.ntmps88
    go_wp2_with fail
    refine (rrefused_any g t r w HR.out).mono ?_
    rintro e w1 ⟨rfl, rfl⟩
    go_wp2_with fail
    go_end0
    have R2 := heap_setCell_same _ _ 2 _ _ (.int .i64 a) HR.out.row
    have R3 := heap_setCell_same _ _ 3 _ _ (.int .i64 y) R2
    refine ⟨rfl, ?_, ((Chg.refl (fun k => k = g) w).setCell g 2 _ (fun _ => rfl)).setCell g 3 _ (fun _ => rfl)⟩
    rw [E.out]
    exact ⟨R3, ((heap_setCell_other _ _ _ _ HR.out.sep).trans (heap_setCell_other _ _ _ _ HR.out.sep)).trans HR.out.text, HR.out.sep, HR.out.pl, HR.out.len⟩
  · have b0 : (r.why != 0) = true := by simp [h0]
    have E : Hid (r.refuse a y = r) := by show r.refuse a y = _; unfold S.Rd.refuse; rw [if_neg h0]
    clear h0
    go_enter Tryd.func88, Tryd.ntmps88
    go_wp2_with fail
    refine (rrefused_any g t r w HR.out).mono ?_
    rintro e w1 ⟨rfl, rfl⟩
    go_wp2_with fail
    go_end0
    exact ⟨rfl, by rw [E.out]; exact HR.out, Chg.refl _ _⟩
theorem RdIs.drewN {w : World} {g t : Nat} {r : S.Rd} (n : Nat) (h : RdIs w g t r) : RdIs (w.drewN n) g t r := h.chg (p := fun _ => False) ((Chg.refl _ _).drewN n) (fun e => e) (fun e => e)
theorem RdIs.sliceAt {w : World} {g t : Nat} {r : S.Rd} (h : RdIs w g t r) : SliceAt w (.slice (some ⟨t, 0, none⟩) r.bs.length r.bs.length) r.bs := (stays_row (p := fun _ => False) h.text (fun e => e) h.len).now
theorem taken_form {w : World} {g t pl : Nat} {r : S.Rd} (h : RdIs w g t { r with pl := pl }) (n : Nat) (hf : r.pl + n ≤ r.bs.length) : SliceAt w (.slice (if r.bs.length = r.pl then some ⟨t, 0, none⟩ else some ⟨t, r.pl, none⟩) n (r.bs.length - r.pl)) ((r.bs.drop r.pl).take n) := by
  have hp := part_form h.sliceAt r.pl (r.pl + n) (Nat.le_add_right _ _) hf
  have e : (r.bs.take (r.pl + n)).drop r.pl = (r.bs.drop r.pl).take n := by rw [List.drop_take, Nat.add_sub_cancel_left]
  rw [Nat.add_sub_cancel_left, Option.map_some, Addr.add_lit, Nat.zero_add] at hp
  rw [← e]
  exact hp
set_option maxHeartbeats 800000 in
set_option maxRecDepth 100000 in
theorem take_any (g t : Nat) (r : S.Rd) (n : Nat) (w : World) (hn : n ≤ 140737488355328) (hr : RdIs w g t r) :
   Calls Tryd.prog 69 #[.pointer (some ⟨g, 0, none⟩), .int .i64 (n : Int)] w fun e w' => ∃ v, e = .returned v ∧ SliceAt w' v (r.take n).2 ∧ RdIs w' g t (r.take n).1 ∧ Chg (fun k => k = g) w w' := by
  have HR := hide hr
  obtain ⟨c0, c1, c2, c3⟩ := cells4 hr.row
  have f1 := frozen_of_row _ _ 1 _ _ hr.row
  have hp := hr.pl
  have hl := hr.len
  have q0 : IntKind.i64.wrap ((r.bs.length : Int) - (r.pl : Int)) = (r.bs.length : Int) - (r.pl : Int) := by rw [IntKind.wrap_i64]; omega
  clear hr
  by_cases hfit : r.pl + n ≤ r.bs.length
  · have q1 : ¬ ((r.bs.length : Int) - (r.pl : Int) < (n : Int)) := by omega
    by_cases h0 : r.why = 0
    · have b0 : (r.why != 0) = false := by simp [h0]
      have E : Hid (r.take n = ({ r with pl := r.pl + n }, (r.bs.drop r.pl).take n)) := by show r.take n = _; unfold S.Rd.take; rw [if_pos h0, if_pos hfit]
      have q2 : IntKind.i64.wrap ((r.pl : Int) + (n : Int)) = ((r.pl + n : Nat) : Int) := by rw [IntKind.wrap_i64]; omega
      have q3 : (0 : Int) ≤ (r.pl : Int) := by omega
      have q4 : (r.pl : Int) ≤ (r.pl : Int) + (n : Int) := by omega
      have q5 : (r.pl : Int) + (n : Int) ≤ (r.bs.length : Int) := by omega
      have HRD : ∀ w1 : World, RdIs w1 g t r → RdIs (w1.setCell ⟨g, 1, none⟩ (.int .i64 ((r.pl : Int) + (n : Int)))) g t { r with pl := r.pl + n } := fun w1 h1 => by
        have R1 := heap_setCell_same _ _ 1 _ _ (.int .i64 ((r.pl : Int) + (n : Int))) h1.row
        exact ⟨R1, (heap_setCell_other _ _ _ _ h1.sep).trans h1.text, h1.sep, hfit, h1.len⟩
      have RD := hide HRD
      clear h0 HRD
      go_enter Tryd.func69, Tryd.ntmps69
      go_wp2_with fail
      go_quiet (fail)
      generalize hw1 : w.drewN nq = w1
      have HR1 : Hid (RdIs w1 g t r) := by rw [← hw1]; exact HR.out.drewN nq
      have HC1 : Hid (Chg (fun k => k = g) w w1) := by rw [← hw1]; exact (Chg.refl _ _).drewN nq
      clear hw1 c0 c1 c2 c3 f1
      go_wp2_with fail
      refine (rrefused_any g t r w1 HR1.out).mono ?_
      rintro e w2 ⟨rfl, rfl⟩
      obtain ⟨c0, c1, c2, c3⟩ := cells4 HR1.out.row
      have f1 := frozen_of_row _ _ 1 _ _ HR1.out.row
      go_wp2_with fail
      go_quiet (fail)
      go_wp2_with fail
      all_goals
        go_ret
        have RX := RD.out w1 HR1.out
        have SP := taken_form RX n hfit
        first | rw [if_pos h, show r.bs.length - r.pl = 0 from by omega] at SP | rw [if_neg h] at SP
        refine ⟨_, rfl, ?_, ?_, ?_⟩
        · rw [E.out]; exact SP.of_heap rfl
        · rw [E.out]; exact RX.drewN _
        · exact (HC1.out.setCell g 1 _ (fun _ => rfl)).drewN _
    · have b0 : (r.why != 0) = true := by simp [h0]
      have E : Hid (r.take n = (r, [])) := by show r.take n = _; unfold S.Rd.take; rw [if_neg h0]
      clear h0
      go_enter Tryd.func69, Tryd.ntmps69
      go_wp2_with fail
      go_quiet (fail)
      go_wp2_with fail
      refine (rrefused_any g t r _ (HR.out.drewN nq)).mono ?_
      rintro e w1 ⟨rfl, rfl⟩
      go_wp2_with fail
      go_ret
      exact ⟨_, rfl, by rw [E.out]; exact Or.inl ⟨rfl, rfl⟩, by rw [E.out]; exact HR.out.drewN nq, (Chg.refl _ _).drewN nq⟩
  · have q1 : (r.bs.length : Int) - (r.pl : Int) < (n : Int) := by omega
    go_enter Tryd.func69, Tryd.ntmps69
    go_wp2_with fail
    go_quiet (fail)
    go_wp2_with fail
    refine (rrefuse_any g t r _ 10 _ (HR.out.drewN nq)).mono ?_
    rintro e w1 ⟨rfl, h1, h2⟩
    have H1 := hide h1
    have H2 := hide h2
    have b0 : ((r.refuse (r.bs.length : Int) 10).why != 0) = true := by
      unfold S.Rd.refuse
      split
      · rfl
      · rename_i h; simpa using h
    have E : Hid (r.take n = (r.refuse (r.bs.length : Int) 10, [])) := by
      show r.take n = (r.refuse (r.bs.length : Int) 10, [])
      unfold S.Rd.take S.Rd.refuse
      by_cases h : r.why = 0
      · rw [if_pos h, if_pos h, if_neg hfit]
      · rw [if_neg h, if_neg h]
    clear h1 h2 c0 c1 c2 c3 f1
    go_wp2_with fail
    refine (rrefused_any g t _ w1 H1.out).mono ?_
    rintro e w2 ⟨rfl, rfl⟩
    go_wp2_with fail
    go_ret
    exact ⟨_, rfl, by rw [E.out]; exact Or.inl ⟨rfl, rfl⟩, by rw [E.out]; exact H1.out, ((Chg.refl _ _).drewN nq).trans H2.out (fun _ _ h => h)⟩
end Go.Proofs.YtlcilclhaahopaaDoor
namespace Go.Proofs.YtlcilclhaahopaaDoor
open Go.RowKit
namespace S
/-- The number of some bytes, the highest first. -/
def val (xs : List UInt8) : Nat := xs.foldl (fun a x => a * 256 + x.toNat) 0
theorem val_snoc (xs : List UInt8) (x : UInt8) : val (xs ++ [x]) = val xs * 256 + x.toNat := by simp [val]
theorem val_lt_aux (xs : List UInt8) : ∀ a m : Nat, a < 256 ^ m → xs.foldl (fun a x => a * 256 + x.toNat) a < 256 ^ (m + xs.length) := by
  induction xs with
  | nil => intro a m h; exact h
  | cons x l ih =>
    intro a m h
    rw [List.foldl_cons, List.length_cons, show m + (l.length + 1) = (m + 1) + l.length from by omega]
    refine ih _ _ ?_
    rw [Nat.pow_succ]
    have := x.toNat_lt
    omega
theorem val_lt (xs : List UInt8) : val xs < 256 ^ xs.length := by
  have := val_lt_aux xs 0 0 (by decide)
  rwa [Nat.zero_add] at this
theorem val_take (xs : List UInt8) (k : Nat) (h : k < xs.length) : val (xs.take (k + 1)) = val (xs.take k) * 256 + (xs.getD k 0).toNat := by
  rw [List.take_succ_eq_append_getElem h, val_snoc]
  simp [List.getD_eq_getElem?_getD, h]
def Rd.number (r : Rd) (k : Int) : Rd × Nat := ((r.take (size k)).1, val (r.take (size k)).2)
theorem Rd.take_len (r : Rd) (n : Nat) : (r.take n).2.length ≤ n := by
  unfold Rd.take
  split
  · split
    · simp only [List.length_take]; omega
    · simp
  · simp
end S
theorem or_byte (a : Nat) (x : UInt8) (ha : a * 256 < 18446744073709551616) : bits .or .u64 (IntKind.u64.wrap ((a : Int) * 256)) (IntKind.u64.wrap (x.toNat : Int)) = ((a * 256 + x.toNat : Nat) : Int) := by
  have hx := x.toNat_lt
  have e1 : IntKind.u64.wrap ((a : Int) * 256) = ((a * 256 : Nat) : Int) := by rw [IntKind.wrap_u64]; omega
  have e2 : IntKind.u64.wrap (x.toNat : Int) = (x.toNat : Int) := by rw [IntKind.wrap_u64]; omega
  rw [e1, e2, u64_or_nat _ _ ha (by omega)]
  have := Nat.shiftLeft_add_eq_or_of_lt (i := 8) (b := x.toNat) (by omega) a
  rw [Nat.shiftLeft_eq] at this
  rw [show a * 256 = a * 2 ^ 8 from rfl, this]
theorem val_small (xs : List UInt8) (j : Nat) (h : j < xs.length) (h8 : xs.length ≤ 8) : S.val (xs.take j) * 256 < 18446744073709551616 := by
  have h1 := S.val_lt (xs.take j)
  have h2 : (xs.take j).length ≤ 7 := by rw [List.length_take]; omega
  have h3 : 256 ^ (xs.take j).length ≤ 256 ^ 7 := Nat.pow_le_pow_right (by decide) h2
  have h4 : (256 : Nat) ^ 7 = 72057594037927936 := by decide
  omega
set_option maxHeartbeats 800000 in
set_option maxRecDepth 100000 in
theorem rnumber_any (g t : Nat) (r : S.Rd) (k : Int) (w : World) (hr : RdIs w g t r) :
   Calls Tryd.prog 44 #[.pointer (some ⟨g, 0, none⟩), .int .i64 k] w fun e w' => e = .returned (.int .u64 ((r.number k).2 : Int)) ∧ RdIs w' g t (r.number k).1 ∧ Chg (fun k => k = g) w w' := by
  have HR := hide hr
  clear hr
  go_enter Tryd.func44, Tryd.ntmps44
  go_wp2_with fail
  refine (numberSize_any k w).mono ?_
  rintro e w1 ⟨rfl, rfl⟩
  go_wp2_with fail
  refine (take_any g t r (S.size k) w (by have := S.size_le k; omega) HR.out).mono ?_
  rintro e w1 ⟨v, rfl, hv, hr1, hc1⟩
  obtain ⟨xs, hxs⟩ : ∃ xs, xs = (r.take (S.size k)).2 := ⟨_, rfl⟩
  have hl8 : xs.length ≤ 8 := by rw [hxs]; exact Nat.le_trans (r.take_len _) (S.size_le k)
  rw [← hxs] at hv
  have FIN : Hid (S.val xs = (r.number k).2) := by show S.val xs = (r.number k).2; rw [hxs]; rfl
  have R1 : Hid (RdIs w1 g t (r.number k).1) := hr1
  have C1 := hide hc1
  have HV := hide hv
  obtain ⟨ao, len, cap, rfl, hlen, hmax⟩ := hv.form
  have HL := hide hlen
  clear hv hr1 hc1 hxs hlen HR
  have hln : len ≤ 8 := by have := HL.out; omega
  go_wp2_with fail
  go_loopw [5, 13] (fun n i wr => ∃ k : Nat, k ≤ len ∧ i = .int .i64 (k : Int) ∧ n = .int .u64 (S.val (xs.take k) : Int) ∧ wr = w1) (fun _ i _ => len - (intOf i).toNat)
  case atStart => exact ⟨0, Nat.zero_le _, rfl, rfl, rfl⟩
  case round =>
    obtain ⟨j, hj, rfl, rfl, rfl⟩ := hrel
    by_cases hlt : j < len
    · have q1 : (0 : Int) ≤ (j : Int) := by omega
      have q2 : (j : Int) < (len : Int) := by omega
      have hp : 0 < xs.length := by have := HL.out; omega
      obtain ⟨b, off, rfl, _, _, hc⟩ := HV.out.src hp
      have c1 := hc j (by have := HL.out; omega)
      have q4 : IntKind.i64.wrap ((j : Int) + 1) = (j : Int) + 1 := by rw [IntKind.wrap_i64]; omega
      have hjx : j < xs.length := by have := HL.out; omega
      have e1 := or_byte (S.val (xs.take j)) (xs.getD j 0) (val_small xs j hjx hl8)
      rw [← S.val_take xs j hjx] at e1
      generalize xs.getD j 0 = x at c1 e1
      clear hc
      go_wp2
      exact ⟨⟨j + 1, by omega, by go_num, rfl, trivial⟩, by simp [intOf]; omega⟩
    · obtain rfl : j = len := by omega
      have q2 : ¬ ((j : Int) < (j : Int)) := by omega
      have E : Hid (S.val (xs.take j) = (r.number k).2) := by rw [← FIN.out, HL.out, List.take_length]; exact rfl
      go_wp2
      go_ret
      exact ⟨by rw [← E.out]; rfl, R1.out, C1.out⟩
end Go.Proofs.YtlcilclhaahopaaDoor
namespace Go.Proofs.YtlcilclhaahopaaDoor
open Go.RowKit
namespace S
def Rd.bytes (r : Rd) (most : Int) : Rd × List UInt8 :=
  (if most < ((r.number 2).2 : Int) then (r.number 2).1.refuse (r.pl : Int) 3 else (r.number 2).1).take (r.number 2).2
def Rd.digest (r : Rd) : Rd × List UInt8 := ((r.take 32).1, splice (zeros 32) 0 (r.take 32).2)
def Rd.fail (r : Rd) (why : Int) : Rd := r.refuse (r.pl : Int) why
theorem Rd.digest_length (r : Rd) : r.digest.2.length = 32 := by
  show (splice (zeros 32) 0 (r.take 32).2).length = 32
  rw [length_splice _ _ _ (by have := r.take_len 32; rw [zeros_length]; omega), zeros_length]
/-- End: at which place, and why (0: nothing). -/
def Rd.fin (r : Rd) : Int × Int := if r.why = 0 then (if r.pl < r.bs.length then ((r.pl : Int), 11) else (0, 0)) else (r.ba, r.why)
theorem number2_lt (r : Rd) : (r.number 2).2 < 65536 := by
  have h1 := val_lt (r.take (size 2)).2
  have h2 : (r.take (size 2)).2.length ≤ 2 := r.take_len (size 2)
  have h3 : 256 ^ (r.take (size 2)).2.length ≤ 256 ^ 2 := Nat.pow_le_pow_right (by decide) h2
  exact Nat.lt_of_lt_of_le h1 h3
end S
theorem belowN {B : Nat} {w W : World} (h : Below B w W) (n : Nat) : Below B w (W.drewN n) := ⟨h.os, h.tape, h.output, h.size, h.block⟩
theorem rfail_any (g t : Nat) (r : S.Rd) (why : Int) (w : World) (hr : RdIs w g t r) :
   Calls Tryd.prog 70 #[.pointer (some ⟨g, 0, none⟩), .int .i64 why] w fun e w' => e = .returned (.tuple #[]) ∧ RdIs w' g t (r.fail why) ∧ Chg (fun k => k = g) w w' := by
  have HR := hide hr
  obtain ⟨c0, c1, c2, c3⟩ := cells4 hr.row
  clear hr
  go_enter Tryd.func70, Tryd.ntmps70
  go_wp2_with fail
  refine (rrefuse_any g t r _ why w HR.out).mono ?_
  rintro e w1 ⟨rfl, h1, h2⟩
  have H1 := hide h1
  have H2 := hide h2
  clear h1 h2 c0 c1 c2 c3
  go_wp2_with fail
  go_end0
  exact ⟨rfl, H1.out, H2.out⟩
set_option maxHeartbeats 800000 in
set_option maxRecDepth 100000 in
theorem rend_any (g t : Nat) (r : S.Rd) (w : World) (hr : RdIs w g t r) :
   Calls Tryd.prog 47 #[.pointer (some ⟨g, 0, none⟩)] w fun e w' => ((r.fin.2 = 0 ∧ e = .returned .nilIface) ∨ (r.fin.2 ≠ 0 ∧ ∃ q, e = .returned (.iface 93 (.pointer (some ⟨q, 0, none⟩))) ∧ w.heap.size ≤ q ∧ w'.heap[q]? = some (.cells #[.int .i64 r.fin.1, .int .i64 r.fin.2] 96 (0, 0)))) ∧ Below w.heap.size w w' := by
  have HR := hide hr
  obtain ⟨c0, c1, c2, c3⟩ := cells4 hr.row
  clear hr
  by_cases h0 : r.why = 0
  · have b0 : (r.why != 0) = false := by simp [h0]
    by_cases hp : r.pl < r.bs.length
    · have E : Hid (r.fin = ((r.pl : Int), 11)) := by show r.fin = _; unfold S.Rd.fin; rw [if_pos h0, if_pos hp]
      have q1 : (r.pl : Int) < (r.bs.length : Int) := by omega
      clear h0
      go_enter Tryd.func47, Tryd.ntmps47
      go_wp2_with fail
      refine (rrefused_any g t r w HR.out).mono ?_
      rintro e w1 ⟨rfl, rfl⟩
      go_wp2_with fail
      go_quiet (fail)
      go_wp2_with fail
      go_ret
      refine ⟨Or.inr ⟨by rw [E.out]; exact (by decide : (11 : Int) ≠ 0), w.heap.size, rfl, Nat.le_refl _, ?_⟩, ?_⟩
      · rw [E.out]; exact heap_alloc_new w _
      · exact belowN ((Below.refl _ _).alloc (Nat.le_refl _) _) nq
    · have E : Hid (r.fin = (0, 0)) := by show r.fin = _; unfold S.Rd.fin; rw [if_pos h0, if_neg hp]
      have q1 : ¬ ((r.pl : Int) < (r.bs.length : Int)) := by omega
      clear h0
      go_enter Tryd.func47, Tryd.ntmps47
      go_wp2_with fail
      refine (rrefused_any g t r w HR.out).mono ?_
      rintro e w1 ⟨rfl, rfl⟩
      go_wp2_with fail
      go_quiet (fail)
      go_wp2_with fail
      go_ret
      exact ⟨Or.inl ⟨by rw [E.out], rfl⟩, belowN (Below.refl _ _) nq⟩
  · have b0 : (r.why != 0) = true := by simp [h0]
    have E : Hid (r.fin = (r.ba, r.why)) := by show r.fin = _; unfold S.Rd.fin; rw [if_neg h0]
    have HW := hide h0
    clear h0
    go_enter Tryd.func47, Tryd.ntmps47
    go_wp2_with fail
    refine (rrefused_any g t r w HR.out).mono ?_
    rintro e w1 ⟨rfl, rfl⟩
    go_wp2_with fail
    go_ret
    refine ⟨Or.inr ⟨by rw [E.out]; exact HW.out, w.heap.size, rfl, Nat.le_refl _, ?_⟩, ?_⟩
    · rw [E.out]; exact heap_alloc_new w _
    · exact (Below.refl _ _).alloc (Nat.le_refl _) _
end Go.Proofs.YtlcilclhaahopaaDoor
namespace Go.Proofs.YtlcilclhaahopaaDoor
open Go.RowKit
theorem size40 : (Tryd.prog.info? 25).map (·.size) = some 32 := by kernel_rfl
theorem size_dig (d : List UInt8) (h : d.length = 32) : (Tryd.prog.info? 25).map (·.size) = some (S.v8 d).size := by rw [S.v8_size, h]; exact size40
theorem zeros_dig (d : List UInt8) (h : d.length = 32) : (S.v8 (S.zeros 32)).size = (S.v8 d).size := by rw [S.v8_size, S.v8_size, h]; rfl
set_option maxHeartbeats 1600000 in
set_option maxRecDepth 100000 in
theorem rdigest_any (g t : Nat) (r : S.Rd) (w : World) (hr : RdIs w g t r) :
   Calls Tryd.prog 46 #[.pointer (some ⟨g, 0, none⟩)] w fun e w' => e = .returned (.agg (S.v8 r.digest.2)) ∧ RdIs w' g t r.digest.1 ∧ Chg (fun k => k = g) w w' := by
  have HR := hide hr
  have hg := hr.lt
  have ht := hr.tlt
  clear hr
  go_enter Tryd.func46, Tryd.ntmps46
  go_wp2_with fail
  generalize hW : World.alloc (World.alloc w _) _ = W
  have ra : W.heap[w.heap.size]? = some (.cells (S.v8 (S.zeros 32)) 25 (0, 0)) := by rw [← hW]; exact heap_alloc2_old _ _ _
  have rb : W.heap[w.heap.size + 1]? = some (.cells (S.v8 (S.zeros 32)) 25 (0, 0)) := by rw [← hW]; exact heap_alloc2_new _ _ _
  have hc : Chg (fun k => k = g) w W := by rw [← hW]; exact ((Chg.refl _ _).alloc _).alloc _
  have hb : Below w.heap.size w W := by rw [← hW]; exact ((Below.refl _ _).alloc (Nat.le_refl _) _).alloc (by simp) _
  have RA := hide ra
  have RB := hide rb
  have CW := hide hc
  have RW := hide (HR.out.below hb)
  clear hW ra rb hc hb HR
  generalize hga : w.heap.size = ga at *
  refine wp_region_noPanic ?_
  refine wp_region_held_drew (S := (fun _ => True)) follows trivial (fun hHeld => ?_)
  refine wpAnyH_take (i := 0) (oi := { dst := some 4, op := Op.slice 25 (Operand.tmp 3) none none none, type := 30, pos := "reader.go:37", after := #[], guard := none }) (v := ?_) rfl (by kernel_rfl) (by kernel_rfl) (by kernel_rfl) (fun _ _ _ h => h) (Or.inl ⟨by rfl, ?_⟩) (by assumption) ?_
  rotate_left
  · intro w hSw
    clear hSw
    go_simp
    all_goals with_reducible rfl
  simp only [Act.put, List.setIfInBounds_toArray, List.set_cons_zero, List.set_cons_succ]
  refine wpAnyH_take (i := 1) (oi := { dst := some 5, op := Op.move (Operand.tmp 0), type := 85, pos := "reader.go:37", after := #[], guard := none }) (v := ?_) rfl (by kernel_rfl) (by kernel_rfl) (by kernel_rfl) (fun _ _ _ h => h) (Or.inl ⟨by rfl, ?_⟩) (by assumption) ?_
  rotate_left
  · intro w hSw
    clear hSw
    go_simp
    all_goals with_reducible rfl
  simp only [Act.put, List.setIfInBounds_toArray, List.set_cons_zero, List.set_cons_succ]
  refine wpAnyH_ready (rs := [2]) (by kernel_rfl) (by simp) ?_
  refine AllReadyH.cons (o := { dst := some 6, op := Op.call { callee := Callee.value (Operand.func 69), args := #[Operand.tmp 5, Operand.const (Value.int IntKind.i64 32)], argTypes := #[85, 3] }, type := 30, pos := "reader.go:37", after := #[{ on := 1, ground := Ground.data }], guard := none }) rfl (fun K hK => ?_) AllReadyH.nil
  go_simp
  refine (take_any g t r 32 W.drew (by omega) (RW.out.chg (p := fun _ => False) ((Chg.refl _ _).drew) (fun e => e) (fun e => e))).mono ?_
  rintro e w3 ⟨v, rfl, hv, h1, h2⟩
  obtain ⟨xs, hxs⟩ : ∃ xs, xs = (r.take 32).2 := ⟨_, rfl⟩
  have hxl : xs.length ≤ 32 := by rw [hxs]; exact r.take_len 32
  rw [← hxs] at hv
  have FIN : Hid (splice (S.zeros 32) 0 xs = r.digest.2) := by rw [hxs]; exact rfl
  have R3 : Hid (RdIs w3 g t r.digest.1) := h1
  have C3 := hide (CW.out.trans (((Chg.refl (fun k => k = g) W).drew).trans h2 (fun _ _ h => h)) (fun _ _ h => h))
  have RA3 := hide (h2.row (g := ga) RA.out (by omega))
  have RB3 := hide (h2.row (g := ga + 1) RB.out (by omega))
  obtain ⟨ao, len, cap, rfl, hlen, hmax, hsrc⟩ := hv.shape
  have HS := hide hsrc
  have HN : Hid ((S.v8l xs).length = Nat.min len 32) := by show (S.v8l xs).length = Nat.min len 32; rw [S.v8l_length]; show _ = min _ _; omega
  have HF : Hid (0 + (S.v8l xs).length ≤ (S.v8l (S.zeros 32)).length) := by show 0 + (S.v8l xs).length ≤ (S.v8l (S.zeros 32)).length; rw [S.v8l_length, S.v8l_length, S.zeros_length]; omega
  clear hv h1 h2 hxs hlen hsrc CW RA RB RW
  go_wp2_with fail
  refine hK.out _ _ trivial (fun hHeld => ?_)
  clear hK K 
  try simp only [Act.put, List.setIfInBounds_toArray, List.set_cons_zero, List.set_cons_succ]
  refine wpAnyH_ready (rs := [3]) (by kernel_rfl) (by simp) ?_
  refine AllReadyH.cons (o := { dst := some 7, op := Op.call { callee := Callee.builtin Builtin.copy, args := #[Operand.tmp 4, Operand.tmp 6], argTypes := #[30, 30] }, type := 3, pos := "reader.go:37", after := #[{ on := 0, ground := Ground.data }, { on := 2, ground := Ground.data }, { on := 2, ground := Ground.chain }], guard := none }) rfl (fun K hK => ?_) AllReadyH.nil
  refine step_copy_splice rfl (.tmp 4) (.tmp 6) 30 30 rfl 5 Tryd.underlying30 size5 _ _ _ _ _ _ rfl rfl (ga + 1) 0 (S.v8l (S.zeros 32)) 25 RB3.out (S.v8l xs) HN.out (copy_src _ HS.out (Below.refl _ _)) HF.out (S.v8l_one _) (ga + 1) w3 (Below.refl _ _) (Nat.le_refl _) ?_
  intro w4 HG4 hB4
  have RB4 := hide (spl_rowT HG4)
  rw [FIN.out] at RB4
  have RA4 := hide ((hB4.block ga (by omega)).trans RA3.out)
  have R4 := hide (R3.out.chg (p := fun k => ga + 1 ≤ k) (Chg.ofBelow hB4 (fun _ _ h => h)) (by omega) (by omega))
  have C4 := hide (C3.out.trans (Chg.ofBelow (p := fun k => ga + 1 ≤ k) hB4 (fun _ _ h => h)) (fun k hk h => by omega))
  clear HG4 hB4 R3 C3 RA3 RB3 HS HN HF FIN
  refine hK.out _ _ trivial (fun hHeld => ?_)
  clear hK K 
  try simp only [Act.put, List.setIfInBounds_toArray, List.set_cons_zero, List.set_cons_succ]
  refine wpAnyH_done (by kernel_rfl) ?_ _
  refine NoPanic.normal ?_
  clear hHeld
  go_wp2_with (first | refine wpList_load_row rfl 25 _ rfl (ga + 1) rfl 25 _ _ _ RB4.out Tryd.underlying25 rfl (size_dig _ r.digest_length) ?_ | refine wpList_store_row rfl 25 _ _ rfl ga (S.v8 r.digest.2) rfl rfl 25 _ RA4.out (size_dig _ r.digest_length) (zeros_dig _ r.digest_length) (S.v8_one _) ?_)
  refine bodyPost_ret (v := .agg (S.v8 r.digest.2)) (results_cell_row (g := ga) (t := 25) (fr := (0, 0)) Tryd.results46 _ _ _ _ rfl (setRow_heap _ _ _ _ _ _ RA4.out) Tryd.underlying25 rfl (size_dig _ r.digest_length)) rfl ⟨rfl, ?_, ?_⟩
  · exact R4.out.chg (p := fun k => ga ≤ k) (Chg.ofBelow (below_setRow (Below.refl ga w4) (Nat.le_refl _) _) (fun _ _ h => h)) (by omega) (by omega)
  · exact C4.out.trans (Chg.ofBelow (p := fun k => ga ≤ k) (below_setRow (Below.refl ga w4) (Nat.le_refl _) _) (fun _ _ h => h)) (fun k hk h => by omega)
end Go.Proofs.YtlcilclhaahopaaDoor
namespace Go.Proofs.YtlcilclhaahopaaDoor
open Go.RowKit
namespace S
theorem val_cons (x : UInt8) (l : List UInt8) : val (x :: l) = x.toNat * 256 ^ l.length + val l := by
  have key : ∀ (l : List UInt8) (a : Nat), l.foldl (fun a x => a * 256 + x.toNat) a = a * 256 ^ l.length + l.foldl (fun a x => a * 256 + x.toNat) 0 := by
    intro l
    induction l with
    | nil => intro a; simp
    | cons y t ih =>
      intro a
      rw [List.foldl_cons, List.foldl_cons, ih (a * 256 + y.toNat), ih (0 * 256 + y.toNat), List.length_cons, Nat.pow_succ, Nat.add_mul]
      simp only [Nat.zero_mul, Nat.zero_add]
      rw [Nat.mul_assoc, Nat.mul_comm 256, Nat.add_assoc]
  unfold val
  rw [List.foldl_cons, key]
  simp
theorem val_num (n m : Nat) : val (num n m) = n % 256 ^ m := by
  induction m with
  | zero => simp [num, val, Nat.mod_one]
  | succ m ih =>
    rw [num, val_cons, num_length, ih, UInt8.toNat_ofNat']
    have h := Nat.mod_mul_right_div_self n (256 ^ m) 256
    have h2 := Nat.div_add_mod (n % (256 ^ m * 256)) (256 ^ m)
    rw [h, Nat.mod_mul_right_mod] at h2
    have e : (2 : Nat) ^ 8 = 256 := by decide
    rw [e, show 256 ^ (m + 1) = 256 ^ m * 256 from Nat.pow_succ .., ← h2, Nat.mul_comm]
theorem Rd.take_app (A B C : List UInt8) (ba : Int) : (Rd.mk (A ++ (B ++ C)) A.length ba 0).take B.length = (⟨A ++ (B ++ C), A.length + B.length, ba, 0⟩, B) := by
  unfold Rd.take
  rw [if_pos rfl, if_pos (by simp only [List.length_append]; omega)]
  simp
theorem Rd.number_app (A B C : List UInt8) (ba k : Int) (h : B.length = size k) : (Rd.mk (A ++ (B ++ C)) A.length ba 0).number k = (⟨A ++ (B ++ C), A.length + B.length, ba, 0⟩, val B) := by
  unfold Rd.number
  rw [← h, Rd.take_app]
theorem Rd.bytes_app (A xs C : List UInt8) (ba most : Int) (hx : xs.length < 65536) (hm : (xs.length : Int) ≤ most) : (Rd.mk (A ++ (num xs.length 2 ++ (xs ++ C))) A.length ba 0).bytes most = (⟨A ++ (num xs.length 2 ++ (xs ++ C)), A.length + 2 + xs.length, ba, 0⟩, xs) := by
  have h1 := Rd.number_app A (num xs.length 2) (xs ++ C) ba 2 (by rw [num_length]; decide)
  have e : (256 : Nat) ^ 2 = 65536 := by decide
  have h2 : val (num xs.length 2) = xs.length := by rw [val_num, e]; exact Nat.mod_eq_of_lt hx
  unfold Rd.bytes
  rw [h1, h2]
  simp only
  rw [if_neg (by omega)]
  have h3 := Rd.take_app (A ++ num xs.length 2) xs C ba
  rw [List.append_assoc, List.length_append, num_length] at h3
  rw [num_length]
  exact h3
theorem Rd.digest_app (A d C : List UInt8) (ba : Int) (hd : d.length = 32) : (Rd.mk (A ++ (d ++ C)) A.length ba 0).digest = (⟨A ++ (d ++ C), A.length + 32, ba, 0⟩, d) := by
  have h := Rd.take_app A d C ba
  rw [hd] at h
  unfold Rd.digest
  rw [h, splice_front, hd]
  simp [zeros]
theorem Rd.digest_end (A B : List UInt8) (ba : Int) (hB : B.length < 32) : (Rd.mk (A ++ B) A.length ba 0).digest = (⟨A ++ B, A.length, ((A ++ B).length : Nat), 10⟩, zeros 32) := by
  have h : (Rd.mk (A ++ B) A.length ba 0).take 32 = (⟨A ++ B, A.length, ((A ++ B).length : Nat), 10⟩, []) := by
    unfold Rd.take
    rw [if_pos rfl, if_neg (by simp only [List.length_append]; omega)]
  unfold Rd.digest
  rw [h, splice_front]
  simp
theorem text_short (xs : List UInt8) (h : xs.length < 65536) : text xs = num xs.length 2 ++ xs := by
  unfold text
  rw [Nat.mod_eq_of_lt h, List.take_length]
theorem size_nat (a : Nat) (h : a ≤ 7) : size ((a : Int) + 1) = a + 1 := by unfold size; omega
end S
end Go.Proofs.YtlcilclhaahopaaDoor
