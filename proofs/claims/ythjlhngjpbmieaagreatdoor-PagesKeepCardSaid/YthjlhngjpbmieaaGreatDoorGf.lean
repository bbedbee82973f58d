/- A Reader's Number, Bytes, Digest and Fail: what is read is the plain function's; only the reader's own block changes. -/
/- A Reader's Bytes, Digest, Fail and End: what is read is the plain function's; only the reader's own block changes. -/
/- A Reader's Digest: what is read is the plain function's; only the reader's own block changes. -/
/- What is written is read: plain facts about bytes, numbers and readers. -/
import Derived.Test.YthjlhngjpbmieaaGreatDoorGe
import Derived.Laws.Bits64b
import Derived.Laws.BitsAllLaws
namespace Go.Proofs.YthjlhngjpbmieaaGreatDoor
open Go.RowKit
namespace S
/-- The number of some bytes, the highest first. -/
def val (xs : List UInt8) : Nat := xs.foldl (fun a x => a * 256 + x.toNat) 0
theorem val_snoc (xs : List UInt8) (x : UInt8) : val (xs ++ [x]) = val xs * 256 + x.toNat := by simp [val]
theorem val_lt_aux (xs : List UInt8) : ∀ a m : Nat, a < 256 ^ m → xs.foldl (fun a x => a * 256 + x.toNat) a < 256 ^ (m + xs.length) := by
  induction xs with
  | nil => intro a m h; exact h
  | cons x l ih =>
    intro a m h
    rw [List.foldl_cons, List.length_cons, show m + (l.length + 1) = (m + 1) + l.length from by omega]
    refine ih _ _ ?_
    rw [Nat.pow_succ]
    have := x.toNat_lt
    omega
theorem val_lt (xs : List UInt8) : val xs < 256 ^ xs.length := by
  have := val_lt_aux xs 0 0 (by decide)
  rwa [Nat.zero_add] at this
theorem val_take (xs : List UInt8) (k : Nat) (h : k < xs.length) : val (xs.take (k + 1)) = val (xs.take k) * 256 + (xs.getD k 0).toNat := by
  rw [List.take_succ_eq_append_getElem h, val_snoc]
  simp [List.getD_eq_getElem?_getD, h]
def Rd.number (r : Rd) (k : Int) : Rd × Nat := ((r.take (size k)).1, val (r.take (size k)).2)
theorem Rd.take_len (r : Rd) (n : Nat) : (r.take n).2.length ≤ n := by
  unfold Rd.take
  split
  · split
    · simp only [List.length_take]; omega
    · simp
  · simp
end S
theorem or_byte (a : Nat) (x : UInt8) (ha : a * 256 < 18446744073709551616) : bits .or .u64 (IntKind.u64.wrap ((a : Int) * 256)) (IntKind.u64.wrap (x.toNat : Int)) = ((a * 256 + x.toNat : Nat) : Int) := by
  have hx := x.toNat_lt
  have e1 : IntKind.u64.wrap ((a : Int) * 256) = ((a * 256 : Nat) : Int) := by rw [IntKind.wrap_u64]; omega
  have e2 : IntKind.u64.wrap (x.toNat : Int) = (x.toNat : Int) := by rw [IntKind.wrap_u64]; omega
  rw [e1, e2, u64_or_nat _ _ ha (by omega)]
  have := Nat.shiftLeft_add_eq_or_of_lt (i := 8) (b := x.toNat) (by omega) a
  rw [Nat.shiftLeft_eq] at this
  rw [show a * 256 = a * 2 ^ 8 from rfl, this]
theorem val_small (xs : List UInt8) (j : Nat) (h : j < xs.length) (h8 : xs.length ≤ 8) : S.val (xs.take j) * 256 < 18446744073709551616 := by
  have h1 := S.val_lt (xs.take j)
  have h2 : (xs.take j).length ≤ 7 := by rw [List.length_take]; omega
  have h3 : 256 ^ (xs.take j).length ≤ 256 ^ 7 := Nat.pow_le_pow_right (by decide) h2
  have h4 : (256 : Nat) ^ 7 = 72057594037927936 := by decide
  omega
set_option maxHeartbeats 800000 in
set_option maxRecDepth 100000 in
theorem rnumber_any (g t : Nat) (r : S.Rd) (k : Int) (w : World) (hr : RdIs w g t r) :
   Calls Tryz.prog 94 #[.pointer (some ⟨g, 0, none⟩), .int .i64 k] w fun e w' => e = .returned (.int .u64 ((r.number k).2 : Int)) ∧ RdIs w' g t (r.number k).1 ∧ Chg (fun k => k = g) w w' := by
  have HR := hide hr
  clear hr
  go_enter Tryz.func94, Tryz.ntmps94
  go_wp2_with fail
  refine (numberSize_any k w).mono ?_
  rintro e w1 ⟨rfl, rfl⟩
  go_wp2_with fail
  refine (take_any g t r (S.size k) w (by have := S.size_le k; omega) HR.out).mono ?_
  rintro e w1 ⟨v, rfl, hv, hr1, hc1⟩
  obtain ⟨xs, hxs⟩ : ∃ xs, xs = (r.take (S.size k)).2 := ⟨_, rfl⟩
  have hl8 : xs.length ≤ 8 := by rw [hxs]; exact Nat.le_trans (r.take_len _) (S.size_le k)
  rw [← hxs] at hv
  have FIN : Hid (S.val xs = (r.number k).2) := by show S.val xs = (r.number k).2; rw [hxs]; rfl
  have R1 : Hid (RdIs w1 g t (r.number k).1) := hr1
  have C1 := hide hc1
  have HV := hide hv
  obtain ⟨ao, len, cap, rfl, hlen, hmax⟩ := hv.form
  have HL := hide hlen
  clear hv hr1 hc1 hxs hlen HR
  have hln : len ≤ 8 := by have := HL.out; omega
  go_wp2_with fail
  go_loopw [5, 13] (fun n i wr => ∃ k : Nat, k ≤ len ∧ i = .int .i64 (k : Int) ∧ n = .int .u64 (S.val (xs.take k) : Int) ∧ wr = w1) (fun _ i _ => len - (intOf i).toNat)
  case atStart => exact ⟨0, Nat.zero_le _, rfl, rfl, rfl⟩
  case round =>
    obtain ⟨j, hj, rfl, rfl, rfl⟩ := hrel
    by_cases hlt : j < len
    · have q1 : (0 : Int) ≤ (j : Int) := by omega
      have q2 : (j : Int) < (len : Int) := by omega
      have hp : 0 < xs.length := by have := HL.out; omega
      obtain ⟨b, off, rfl, _, _, hc⟩ := HV.out.src hp
      have c1 := hc j (by have := HL.out; omega)
      have q4 : IntKind.i64.wrap ((j : Int) + 1) = (j : Int) + 1 := by rw [IntKind.wrap_i64]; omega
      have hjx : j < xs.length := by have := HL.out; omega
      have e1 := or_byte (S.val (xs.take j)) (xs.getD j 0) (val_small xs j hjx hl8)
      rw [← S.val_take xs j hjx] at e1
      generalize xs.getD j 0 = x at c1 e1
      clear hc
      go_wp2
      exact ⟨⟨j + 1, by omega, by go_num, rfl, trivial⟩, by simp [intOf]; omega⟩
    · obtain rfl : j = len := by omega
      have q2 : ¬ ((j : Int) < (j : Int)) := by omega
      have E : Hid (S.val (xs.take j) = (r.number k).2) := by rw [← FIN.out, HL.out, List.take_length]; exact rfl
      go_wp2
      go_ret
      exact ⟨by rw [← E.out]; rfl, R1.out, C1.out⟩
end Go.Proofs.YthjlhngjpbmieaaGreatDoor
namespace Go.Proofs.YthjlhngjpbmieaaGreatDoor
open Go.RowKit
namespace S
def Rd.digest (r : Rd) : Rd × List UInt8 := ((r.take 32).1, splice (zeros 32) 0 (r.take 32).2)
theorem Rd.digest_length (r : Rd) : r.digest.2.length = 32 := by
  show (splice (zeros 32) 0 (r.take 32).2).length = 32
  rw [length_splice _ _ _ (by have := r.take_len 32; rw [zeros_length]; omega), zeros_length]
end S
end Go.Proofs.YthjlhngjpbmieaaGreatDoor
namespace Go.Proofs.YthjlhngjpbmieaaGreatDoor
open Go.RowKit
theorem size40 : (Tryz.prog.info? 104).map (·.size) = some 32 := by kernel_rfl
theorem size_dig (d : List UInt8) (h : d.length = 32) : (Tryz.prog.info? 104).map (·.size) = some (S.v8 d).size := by rw [S.v8_size, h]; exact size40
theorem zeros_dig (d : List UInt8) (h : d.length = 32) : (S.v8 (S.zeros 32)).size = (S.v8 d).size := by rw [S.v8_size, S.v8_size, h]; rfl
set_option maxHeartbeats 1600000 in
set_option maxRecDepth 100000 in
theorem rdigest_any (g t : Nat) (r : S.Rd) (w : World) (hr : RdIs w g t r) :
   Calls Tryz.prog 126 #[.pointer (some ⟨g, 0, none⟩)] w fun e w' => e = .returned (.agg (S.v8 r.digest.2)) ∧ RdIs w' g t r.digest.1 ∧ Chg (fun k => k = g) w w' := by
  have HR := hide hr
  have hg := hr.lt
  have ht := hr.tlt
  clear hr
  go_enter Tryz.func126, Tryz.ntmps126
  go_wp2_with fail
  generalize hW : World.alloc (World.alloc w _) _ = W
  have ra : W.heap[w.heap.size]? = some (.cells (S.v8 (S.zeros 32)) 104 (0, 0)) := by rw [← hW]; exact heap_alloc2_old _ _ _
  have rb : W.heap[w.heap.size + 1]? = some (.cells (S.v8 (S.zeros 32)) 104 (0, 0)) := by rw [← hW]; exact heap_alloc2_new _ _ _
  have hc : Chg (fun k => k = g) w W := by rw [← hW]; exact ((Chg.refl _ _).alloc _).alloc _
  have hb : Below w.heap.size w W := by rw [← hW]; exact ((Below.refl _ _).alloc (Nat.le_refl _) _).alloc (by simp) _
  have RA := hide ra
  have RB := hide rb
  have CW := hide hc
  have RW := hide (HR.out.below hb)
  clear hW ra rb hc hb HR
  generalize hga : w.heap.size = ga at *
  refine wp_region_noPanic ?_
  refine wp_region_held_drew (S := (fun _ => True)) follows trivial (fun hHeld => ?_)
  refine tk 0 ?_ rfl (Or.inl ⟨by rfl, ?_⟩) ?_
  rotate_left
  · intro w hSw
    clear hSw
    go_simp
    all_goals with_reducible rfl
  simp only [Act.put, List.setIfInBounds_toArray, List.set_cons_zero, List.set_cons_succ]
  refine tk 1 ?_ rfl (Or.inl ⟨by rfl, ?_⟩) ?_
  rotate_left
  · intro w hSw
    clear hSw
    go_simp
    all_goals with_reducible rfl
  simp only [Act.put, List.setIfInBounds_toArray, List.set_cons_zero, List.set_cons_succ]
  refine wpAnyH_ready (rs := [2]) (by kernel_rfl) (by simp) ?_
  refine AllReadyH.cons (o := { dst := some 6, op := Op.call { callee := Callee.value (Operand.func 117), args := #[Operand.tmp 5, Operand.const (Value.int IntKind.i64 32)], argTypes := #[145, 3] }, type := 31, pos := "reader.go:37", after := #[⟨1, .data⟩], guard := none }) rfl (fun K hK => ?_) AllReadyH.nil
  go_simp
  refine (take_any g t r 32 W.drew (by omega) (RW.out.chg (p := fun _ => False) ((Chg.refl _ _).drew) (fun e => e) (fun e => e))).mono ?_
  rintro e w3 ⟨v, rfl, hv, h1, h2⟩
  obtain ⟨xs, hxs⟩ : ∃ xs, xs = (r.take 32).2 := ⟨_, rfl⟩
  have hxl : xs.length ≤ 32 := by rw [hxs]; exact r.take_len 32
  rw [← hxs] at hv
  have FIN : Hid (splice (S.zeros 32) 0 xs = r.digest.2) := by rw [hxs]; exact rfl
  have R3 : Hid (RdIs w3 g t r.digest.1) := h1
  have C3 := hide (CW.out.trans (((Chg.refl (fun k => k = g) W).drew).trans h2 (fun _ _ h => h)) (fun _ _ h => h))
  have RA3 := hide (h2.row (g := ga) RA.out (by omega))
  have RB3 := hide (h2.row (g := ga + 1) RB.out (by omega))
  obtain ⟨ao, len, cap, rfl, hlen, hmax, hsrc⟩ := hv.shape
  have HS := hide hsrc
  have HN : Hid ((S.v8l xs).length = Nat.min len 32) := by show (S.v8l xs).length = Nat.min len 32; rw [S.v8l_length]; show _ = min _ _; omega
  have HF : Hid (0 + (S.v8l xs).length ≤ (S.v8l (S.zeros 32)).length) := by show 0 + (S.v8l xs).length ≤ (S.v8l (S.zeros 32)).length; rw [S.v8l_length, S.v8l_length, S.zeros_length]; omega
  clear hv h1 h2 hxs hlen hsrc CW RA RB RW
  go_wp2_with fail
  refine hK.out _ _ trivial (fun hHeld => ?_)
  clear hK K 
  try simp only [Act.put, List.setIfInBounds_toArray, List.set_cons_zero, List.set_cons_succ]
  refine wpAnyH_ready (rs := [3]) (by kernel_rfl) (by simp) ?_
  refine AllReadyH.cons (o := { dst := some 7, op := Op.call { callee := Callee.builtin Builtin.copy, args := #[Operand.tmp 4, Operand.tmp 6], argTypes := #[31, 31] }, type := 3, pos := "reader.go:37", after := #[⟨0, .data⟩, ⟨2, .data⟩, ⟨2, .chain⟩], guard := none }) rfl (fun K hK => ?_) AllReadyH.nil
  refine step_copy_splice rfl (.tmp 4) (.tmp 6) 31 31 rfl 5 Tryz.underlying31 size5 _ _ _ _ _ _ rfl rfl (ga + 1) 0 (S.v8l (S.zeros 32)) 104 RB3.out (S.v8l xs) HN.out (copy_src _ HS.out (Below.refl _ _)) HF.out (S.v8l_one _) (ga + 1) w3 (Below.refl _ _) (Nat.le_refl _) ?_
  intro w4 HG4 hB4
  have RB4 := hide (spl_rowT HG4)
  rw [FIN.out] at RB4
  have RA4 := hide ((hB4.block ga (by omega)).trans RA3.out)
  have R4 := hide (R3.out.chg (p := fun k => ga + 1 ≤ k) (Chg.ofBelow hB4 (fun _ _ h => h)) (by omega) (by omega))
  have C4 := hide (C3.out.trans (Chg.ofBelow (p := fun k => ga + 1 ≤ k) hB4 (fun _ _ h => h)) (fun k hk h => by omega))
  clear HG4 hB4 R3 C3 RA3 RB3 HS HN HF FIN
  refine hK.out _ _ trivial (fun hHeld => ?_)
  clear hK K 
  try simp only [Act.put, List.setIfInBounds_toArray, List.set_cons_zero, List.set_cons_succ]
  refine wpAnyH_done (by kernel_rfl) ?_ _
  refine NoPanic.normal ?_
  clear hHeld
  go_wp2_with (first | refine wpList_load_row rfl 104 _ rfl (ga + 1) rfl 104 _ _ _ RB4.out Tryz.underlying104 rfl (size_dig _ r.digest_length) ?_ | refine wpList_store_row rfl 104 _ _ rfl ga (S.v8 r.digest.2) rfl rfl 104 _ RA4.out (size_dig _ r.digest_length) (zeros_dig _ r.digest_length) (S.v8_one _) ?_)
  refine bodyPost_ret (v := .agg (S.v8 r.digest.2)) (results_cell_row (g := ga) (t := 104) (fr := (0, 0)) Tryz.results126 _ _ _ _ rfl (setRow_heap _ _ _ _ _ _ RA4.out) Tryz.underlying104 rfl (size_dig _ r.digest_length)) rfl ⟨rfl, ?_, ?_⟩
  · exact R4.out.chg (p := fun k => ga ≤ k) (Chg.ofBelow (below_setRow (Below.refl ga w4) (Nat.le_refl _) _) (fun _ _ h => h)) (by omega) (by omega)
  · exact C4.out.trans (Chg.ofBelow (p := fun k => ga ≤ k) (below_setRow (Below.refl ga w4) (Nat.le_refl _) _) (fun _ _ h => h)) (fun k hk h => by omega)
end Go.Proofs.YthjlhngjpbmieaaGreatDoor
namespace Go.Proofs.YthjlhngjpbmieaaGreatDoor
open Go.RowKit
namespace S
theorem val_cons (x : UInt8) (l : List UInt8) : val (x :: l) = x.toNat * 256 ^ l.length + val l := by
  have key : ∀ (l : List UInt8) (a : Nat), l.foldl (fun a x => a * 256 + x.toNat) a = a * 256 ^ l.length + l.foldl (fun a x => a * 256 + x.toNat) 0 := by
    intro l
    induction l with
    | nil => intro a; simp
    | cons y t ih =>
      intro a
      rw [List.foldl_cons, List.foldl_cons, ih (a * 256 + y.toNat), ih (0 * 256 + y.toNat), List.length_cons, Nat.pow_succ, Nat.add_mul]
      simp only [Nat.zero_mul, Nat.zero_add]
      rw [Nat.mul_assoc, Nat.mul_comm 256, Nat.add_assoc]
  unfold val
  rw [List.foldl_cons, key]
  simp
theorem val_num (n m : Nat) : val (num n m) = n % 256 ^ m := by
  induction m with
  | zero => simp [num, val, Nat.mod_one]
  | succ m ih =>
    rw [num, val_cons, num_length, ih, UInt8.toNat_ofNat']
    have h := Nat.mod_mul_right_div_self n (256 ^ m) 256
    have h2 := Nat.div_add_mod (n % (256 ^ m * 256)) (256 ^ m)
    rw [h, Nat.mod_mul_right_mod] at h2
    have e : (2 : Nat) ^ 8 = 256 := by decide
    rw [e, show 256 ^ (m + 1) = 256 ^ m * 256 from Nat.pow_succ .., ← h2, Nat.mul_comm]
end S
end Go.Proofs.YthjlhngjpbmieaaGreatDoor
