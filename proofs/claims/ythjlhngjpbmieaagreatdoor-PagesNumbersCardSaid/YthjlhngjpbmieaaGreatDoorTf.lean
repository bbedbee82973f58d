/- The pages of any set. -/
import Derived.Test.YthjlhngjpbmieaaGreatDoorTe
import Derived.Test.YthjlhngjpbmieaaGreatDoorJe
namespace Go.Proofs.YthjlhngjpbmieaaGreatDoor
open Go.RowKit

theorem ownsRow_below {w W : World} {base : Nat} {e : TypeId} {size : Nat} {v : Value} {n : Nat} {xs : List Value} (h : w.ownsRow base e size v n xs) (hb : Below w.heap.size w W) : W.ownsRow base e size v n xs := by
  refine ⟨h.1, ?_⟩
  rcases h.2 with h2 | ⟨g, cap, cur, h1, h2, h3, h4⟩
  · exact Or.inl h2
  · exact Or.inr ⟨g, cap, cur, h1, h2, (hb.block g (block_lt_of_row h3)).trans h3, h4⟩
namespace S
/-- The pages below k that a set holds. -/
def inSet (s : List UInt8) (k : Nat) : List Nat := (List.range k).filter (bit s)
theorem inSet_succ (s : List UInt8) (k : Nat) : inSet s (k + 1) = inSet s k ++ (if bit s k then [k] else []) := by
  unfold inSet
  rw [List.range_succ, List.filter_append]
  congr 1
  by_cases h : bit s k = true
  · rw [if_pos h, List.filter_cons_of_pos h]; rfl
  · rw [if_neg h, List.filter_cons_of_neg h]; rfl
theorem inSet_length (s : List UInt8) (k : Nat) : (inSet s k).length ≤ k := by
  unfold inSet
  exact Nat.le_trans (List.length_filter_le _ _) (by rw [List.length_range]; exact Nat.le_refl _)
def ints (l : List Nat) : List Value := l.map (fun n : Nat => Value.int .i64 (n : Int))
end S
/-- append of one int onto a row of the call's own. -/
theorem run_append_int_on (w : World) (base gx : Nat) (n : Int) (ty : TypeId) (v : Value) (m : Nat) (xs : List Value) (hown : w.ownsRow base 3 1 v m xs) (hm : m ≤ 1000) (hb : base ≤ w.heap.size) (hx : w.heap[gx]? = some (.cells #[.int .i64 n] 3 (0, 0))) :
    ∃ v' w', (Builtin.append_ #[46, 46] ty #[v, .slice (some ⟨gx, 0, none⟩) 1 1]).run Tryz.prog w = .ok v' w' ∧ (w'.ownsRow base 3 1 v' (m + 1) (xs ++ [.int .i64 n]) ∧ w.grownBy w' v.ownBlock) := by
  obtain ⟨i, hi, hz0, hz1, hz2⟩ := info_parts info3
  obtain ⟨v', w', hr, ho, hg, hn⟩ := run_append_own (P := Tryz.prog) w base 46 ty 3 i (.int .i64 0) 1 8 Tryz.underlying46 hi hz0 hz1 hz2 rfl (by omega) v m xs hown ⟨gx, 0, none⟩ 1 1 [.int .i64 n] rfl (fun j u hu => by
    rw [Addr.add_lit, Nat.zero_add, cell_of_row w gx j _ 3 (0, 0) hx]
    simpa using hu) (fun u hu => by simp only [List.mem_singleton] at hu; rw [hu]; rfl) (by simp [maxLen]; omega) (by omega) hb
  exact ⟨v', w', hr, ho, hg⟩
set_option maxHeartbeats 4000000 in
set_option maxRecDepth 10000 in
theorem pages_any (s : List UInt8) (w : World) (hs : s.length = 64) :
   Calls Tryz.prog 48 #[.agg (S.v8 s)] w fun e w' => ∃ v, e = .returned v ∧ w'.ownsRow w.heap.size 3 1 v (S.inSet s 512).length (S.ints (S.inSet s 512)) ∧ Below w.heap.size w w' := by
  obtain ⟨Z, hZ⟩ : ∃ Z, Z = S.v8 s := ⟨_, rfl⟩
  obtain ⟨w1, hw1⟩ : ∃ w1, w1 = w.alloc (.cells Z 65) := ⟨_, rfl⟩
  have B1 : Hid (Below w.heap.size w w1) := by rw [hw1]; exact (Below.refl _ _).alloc (Nat.le_refl _) _
  have R1 : Hid (w1.heap[w.heap.size]? = some (.cells (S.v8 s) 65 (0, 0))) := by rw [hw1, hZ]; exact heap_alloc_new _ _
  obtain ⟨gs, hgs⟩ : ∃ gs, gs = w.heap.size := ⟨_, rfl⟩
  rw [← hgs] at R1
  obtain ⟨bs, hbs⟩ : ∃ bs, bs = w.heap.size + 1 := ⟨_, rfl⟩
  have NB := hide (show gs < bs by omega)
  have WB := hide (show w.heap.size ≤ bs by omega)
  have BS1 : Hid (bs ≤ w1.heap.size) := by have := block_lt_of_row R1.out; show bs ≤ w1.heap.size; omega
  rw [← hZ]
  have HZ := hide hZ
  have HS := hide hs
  clear hZ hbs hs
  go_enter Tryz.func48, Tryz.ntmps48
  go_wp2_with fail
  rw [← hw1, ← hgs]
  clear hw1 hgs
  go_loopw [3, 5] (fun l i wr => ∃ k : Nat, k ≤ 512 ∧ i = .int .i64 (k : Int) ∧ wr.heap[gs]? = some (.cells (S.v8 s) 65 (0, 0)) ∧ Below w.heap.size w wr ∧ bs ≤ wr.heap.size ∧ wr.ownsRow bs 3 1 l (S.inSet s k).length (S.ints (S.inSet s k))) (fun _ i _ => 512 - (intOf i).toNat)
  case atStart => exact ⟨0, by omega, rfl, R1.out, B1.out, BS1.out, World.ownsRow_nil _ _ _ _⟩
  case round =>
  obtain ⟨k, hk, rfl, hr, hb, hbs, hl⟩ := hrel
  have RR := hide hr
  have BB := hide hb
  have BS := hide hbs
  have HL := hide hl
  clear hr hb hl hbs R1 B1 BS1
  by_cases hlt : k < 512
  · have q1 : (k : Int) < 512 := by omega
    have q2 : IntKind.i64.wrap ((k : Int) + 1) = (k : Int) + 1 := by rw [IntKind.wrap_i64]; omega
    have ld := load57 RR.out HS.out
    rw [← HZ.out] at ld
    go_wp2_with (with_reducible refine at_op { dst := some 8, op := Op.load 65 (Operand.tmp 1), type := 65, pos := "set.go:50", after := #[], guard := none } ?_; refine wpList_load_as rfl 65 (.tmp 1) rfl (.pointer (some ⟨gs, 0, none⟩)) rfl (.agg Z) ld ?_)
    clear ld
    refine (bit_any Z s k wr HZ.out HS.out hlt).mono ?_
    rintro e w2 ⟨rfl, b2⟩
    have R2 : Hid (w2.heap[gs]? = some (.cells (S.v8 s) 65 (0, 0))) := (b2.block gs (block_lt_of_row RR.out)).trans RR.out
    have B2 := hide (BB.out.trans (b2.mono BB.out.size))
    have S2 := hide (Nat.le_trans BS.out b2.size)
    have L2 := hide (ownsRow_below HL.out b2)
    have SU := hide (S.inSet_succ s k)
    have SLE := hide (S.inSet_length s k)
    clear b2 RR BB BS HL
    by_cases hkn : S.bit s k = true
    · rw [hkn]
      obtain ⟨w3, hw3⟩ : ∃ w3, w3 = w2.alloc (.cells #[.int .i64 (k : Int)] 3) := ⟨_, rfl⟩
      have b3 : Below w2.heap.size w2 w3 := by rw [hw3]; exact (Below.refl _ _).alloc (Nat.le_refl _) _
      have r3 : w3.heap[w2.heap.size]? = some (.cells #[.int .i64 (k : Int)] 3 (0, 0)) := by rw [hw3]; exact heap_alloc_new _ _
      have S3 := hide (Nat.le_trans S2.out b3.size)
      have L3 := hide (ownsRow_below L2.out b3)
      have APP := hide (run_append_int_on w3 bs w2.heap.size (k : Int) 46 u3 _ _ L3.out (by have := SLE.out; omega) S3.out r3)
      have R3 : Hid (w3.heap[gs]? = some (.cells (S.v8 s) 65 (0, 0))) := (b3.block gs (block_lt_of_row R2.out)).trans R2.out
      have B3 := hide (B2.out.trans (b3.mono B2.out.size))
      have HW3 := hide hw3
      clear b3 r3 hw3 R2 B2 L2 S2
      go_wp2_with (at_builtin; (rw [← HW3.out]; refine wpList_append_known rfl (.tmp 11) (.tmp 13) 46 46 rfl _ _ rfl rfl APP.out ?_; rintro v4 w4 ⟨ho4, hg4⟩; have O4 := hide ho4; have G4 := hide hg4; clear ho4 hg4))
      have LT3 := L3.out.lt
      have R4 : Hid (w4.heap[gs]? = some (.cells (S.v8 s) 65 (0, 0))) := (G4.out.block gs (block_lt_of_row R3.out) (fun e => by have := (LT3 gs e.symm).1; have := NB.out; omega)).trans R3.out
      have B5 : Hid (Below w.heap.size w w4) := B3.out.grown G4.out B3.out.size (fun j e => Nat.le_trans WB.out (LT3 j e).1)
      have S5 := hide (Nat.le_trans S3.out G4.out.size)
      have L5 : Hid (w4.ownsRow bs 3 1 v4 (S.inSet s (k + 1)).length (S.ints (S.inSet s (k + 1)))) := by
        show w4.ownsRow bs 3 1 v4 (S.inSet s (k + 1)).length (S.ints (S.inSet s (k + 1)))
        rw [SU.out, if_pos hkn, List.length_append, S.ints, List.map_append]
        exact O4.out
      clear APP LT3 O4 G4 L3 R3 B3 S3
      go_roundw
      case rel => exact ⟨k + 1, by omega, by go_num, R4.out, B5.out, S5.out, L5.out⟩
      case measure => simp [intOf]; omega
    · have hkf : S.bit s k = false := by simpa using hkn
      rw [hkf]
      have L5 : Hid (w2.ownsRow bs 3 1 u3 (S.inSet s (k + 1)).length (S.ints (S.inSet s (k + 1)))) := by
        show w2.ownsRow bs 3 1 u3 (S.inSet s (k + 1)).length (S.ints (S.inSet s (k + 1)))
        rw [SU.out, if_neg hkn, List.append_nil]
        exact L2.out
      clear L2 hkf hkn
      go_wp2_with fail
      go_roundw
      case rel => exact ⟨k + 1, by omega, by go_num, R2.out, B2.out, S2.out, L5.out⟩
      case measure => simp [intOf]; omega
  · obtain rfl : k = 512 := by omega
    go_wp2_with fail
    go_ret
    exact ⟨_, rfl, ⟨HL.out.1, HL.out.2.imp id (fun ⟨g, cap, cur, h1, h2, h3⟩ => ⟨g, cap, cur, h1, Nat.le_trans WB.out h2, h3⟩)⟩, BB.out⟩
end Go.Proofs.YthjlhngjpbmieaaGreatDoor
