/- A head's sector with a mark at both ends; a blank one; the place beside a place. -/
/- A head of a log in memory: how it is made, stored and loaded; results that lie in memory beside others; a disk with the table of the hashes. -/
import Derived.Test.YthjlhngjpbmieaaGreatDoorGl
namespace Go.Proofs.YthjlhngjpbmieaaGreatDoor
open Go.RowKit

namespace S
theorem marked_made (T x : List UInt8) (m : UInt8) (hT : T.length = 8) (hx : x.length ≤ 118) : ((splice (splice (zeros 128) 0 T) 9 x).set 8 m).set 127 m = T ++ (m :: (x ++ (zeros (118 - x.length) ++ [m]))) := by
  rw [splice_front, hT]
  have e1 : (T ++ zeros (128 - 8)).take 9 = T ++ [0] := by
    rw [List.take_append, List.take_of_length_le (by omega), hT]
    rfl
  have e2 : (T ++ zeros (128 - 8)).drop (9 + x.length) = zeros (118 - x.length) ++ [0] := by
    rw [List.drop_append, List.drop_eq_nil_of_le (by omega), hT, List.nil_append]
    have : zeros (118 - x.length) ++ [(0 : UInt8)] = zeros (118 - x.length + 1) := by simp [zeros, List.replicate_succ']
    rw [this]
    unfold zeros
    rw [List.drop_replicate, show 128 - 8 - (9 + x.length - 8) = 118 - x.length + 1 from by omega]
  unfold splice
  rw [e1, e2]
  have e3 : (T ++ [0] ++ (x ++ (zeros (118 - x.length) ++ [0]))).set 8 m = T ++ (m :: (x ++ (zeros (118 - x.length) ++ [0]))) := by
    rw [List.append_assoc, List.set_append_right _ _ (by omega), hT]
    rfl
  have e4 : T ++ (m :: (x ++ (zeros (118 - x.length) ++ [0]))) = (T ++ (m :: (x ++ zeros (118 - x.length)))) ++ [(0 : UInt8)] := by simp
  have hl : (T ++ (m :: (x ++ zeros (118 - x.length)))).length = 127 := by simp [zeros_length]; omega
  rw [e3, e4, List.set_append_right _ _ (by omega), hl]
  simp
end S
theorem spl_rowY {w2 : World} {g n : Nat} {Y bs : List UInt8} {t : TypeId} (h : Hid (w2.heap[g]? = some (.cells (splice (S.v8l Y) n (S.v8l bs)).toArray t (0, 0)))) : w2.heap[g]? = some (.cells (S.v8 (splice Y n bs)) t (0, 0)) := by
  have := h.out
  rw [S.v8l_splice] at this
  exact this
set_option maxHeartbeats 1600000 in
set_option maxRecDepth 10000 in
theorem marked_any (p : Value) (f c k : Nat) (m : UInt8) (ao : Option Addr) (n cap : Nat) (x : List UInt8) (w : World) (hf : f ≤ 100000) (hc : c ≤ 100000) (hk : k ≤ 100000) (hx : x.length ≤ 118) (hv : SliceAt w (.slice ao n cap) x) :
   Calls Tryz.prog 111 #[arv p f c, .int .i64 (k : Int), .int .u8 (m.toNat : Int), .slice ao n cap] w fun e w' => ∃ g, e = .returned (.slice (some ⟨g, 0, none⟩) 128 128) ∧ w.heap.size ≤ g ∧ w'.heap[g]? = some (.cells (S.v8 (S.marked f c k m x)) 5 (0, 0)) ∧ Below w.heap.size w w' := by
  obtain ⟨ax, ln, cx, hsh, hln, hmx, hsrc⟩ := hv.shape
  simp only [Value.slice.injEq] at hsh
  obtain ⟨rfl, rfl, rfl⟩ := hsh
  obtain ⟨w0, hw0, HA, HB, HZ⟩ := ar_box w p f c
  have hmk : ∀ w : World, (Instr.makeSlice 31 (.int .i64 128) (.int .i64 128)).run Tryz.prog w = .ok (.slice (some ⟨w.heap.size, 0, none⟩) 128 128) (w.alloc (.cells (S.v8 (S.zeros 128)) 5)) := fun w => make_bytes_big 128 (by omega) w
  obtain ⟨w1, hw1⟩ : ∃ w1, w1 = w0.alloc (.cells (S.v8 (S.zeros 128)) 5) := ⟨_, rfl⟩
  have b1 : Below w0.heap.size w0 w1 := by rw [hw1]; exact (Below.refl _ _).alloc (Nat.le_refl _) _
  have HB1 : Hid (Below w.heap.size w w1) := HB.out.trans (b1.mono (by have := HZ.out; omega))
  have R1 : Hid (w1.heap[w0.heap.size]? = some (.cells (S.v8 (S.zeros 128)) 5 (0, 0))) := by rw [hw1]; exact heap_alloc_new _ _
  have Z1 : Hid (w1.heap.size = w0.heap.size + 1) := by show w1.heap.size = _; rw [hw1]; simp
  obtain ⟨a0, a1, a2⟩ := (HA.out.below b1 (by have := HZ.out; omega)).cells
  have HS : Hid (Src w ao x) := hsrc
  have HLN := hide hln
  obtain ⟨gb, hgb⟩ : ∃ gb, gb = w.heap.size + 1 := ⟨_, rfl⟩
  rw [HZ.out, ← hgb] at R1 Z1
  have HGB : Hid (gb = w.heap.size + 1) := hgb
  rw [hw1] at a0 a1 a2
  rw [hw0] at a0 a1 a2 hw1
  unfold arv
  clear hv hsrc hln b1
  go_enter Tryz.func111, Tryz.ntmps111
  go_wp2_with fail
  rw [← hw1, ← hgb]
  clear hw1 hgb a0 a1 a2 hmk hw0
  refine (tag_any p f c k w1 hf hc hk).mono ?_
  rintro e w2 ⟨gt, rfl, g2, r2, b2⟩
  have tl := S.tag_length f c k
  have R2 : Hid (w2.heap[gb]? = some (.cells (S.v8l (S.zeros 128)).toArray 5 (0, 0))) := (b2.block gb (by have := Z1.out; omega)).trans R1.out
  have HB2 : Hid (Below w.heap.size w w2) := HB1.out.trans (b2.mono HB1.out.size)
  have HST : Hid (Src w2 (some ⟨gt, 0, none⟩) (S.tag f c k)) := fun _ => ⟨gt, 0, rfl, block_lt_of_row r2, fun j hj => by rw [Nat.zero_add]; exact v8_cell r2 j hj⟩
  obtain ⟨T, hT⟩ : ∃ T, T = S.tag f c k := ⟨_, rfl⟩
  rw [← hT] at HST tl
  have HT : Hid (T = S.tag f c k) := hT
  have HTL := hide tl
  have HN1 : Hid ((S.v8l T).length = Nat.min 8 128) := by show (S.v8l T).length = Nat.min 8 128; rw [S.v8l_length, tl]; rfl
  have HF1 : Hid (0 + (S.v8l T).length ≤ (S.v8l (S.zeros 128)).length) := by show 0 + (S.v8l T).length ≤ (S.v8l (S.zeros 128)).length; rw [S.v8l_length, S.v8l_length, S.zeros_length, tl]; omega
  have LG : Hid (w.heap.size ≤ gb) := by show w.heap.size ≤ gb; have := HGB.out; omega
  clear g2 r2 b2 hT R1 tl
  go_wp2_with (first | (
      refine wpList_copy_splice rfl (.tmp 11) (.tmp 14) 31 31 rfl 5 Tryz.underlying31 size5 _ _ _ _ _ _ rfl rfl gb 0 (S.v8l (S.zeros 128)) 5 R2.out (S.v8l T) HN1.out (copy_src gb HST.out (Below.refl _ _)) HF1.out (S.v8l_one _) w.heap.size w HB2.out LG.out ?_
      intro w3 HG2 hB2
      have HG3 := hide (spl_rowT HG2)
      clear HG2
      have B3 := hide hB2
      clear hB2
      have hs3 : Src w3 ao x := HS.out.below B3.out
      have HS3 := hide hs3
      have R3 : Hid (w3.heap[gb]? = some (.cells (S.v8l (splice (S.zeros 128) 0 T)).toArray 5 (0, 0))) := HG3.out
      obtain ⟨Y, hY⟩ : ∃ Y, Y = splice (S.zeros 128) 0 T := ⟨_, rfl⟩
      have hYl : Y.length = 128 := by rw [hY, splice_front, List.length_append, S.zeros_length, HTL.out]
      rw [← hY] at R3
      have HY : Hid (Y = splice (S.zeros 128) 0 T) := hY
      have HN2 : Hid ((S.v8l x).length = Nat.min n 118) := by show (S.v8l x).length = min n 118; rw [S.v8l_length]; have := HLN.out; omega
      have HF2 : Hid (9 + (S.v8l x).length ≤ (S.v8l Y).length) := by show 9 + (S.v8l x).length ≤ (S.v8l Y).length; rw [S.v8l_length, S.v8l_length, hYl]; omega
      have HCP : Hid (0 < (S.v8l x).length → some (⟨gb, 9, none⟩ : Addr) = some ⟨gb, 9, none⟩ ∧ ∃ ad, ao = some ad ∧ ∀ j v, (S.v8l x)[j]? = some v → w3.cell? (ad.add j) = some v) := fun hp => ⟨rfl, (copy_src gb HS3.out (Below.refl _ _) hp).2⟩
      have HYL := hide hYl
      clear hs3 hY HG3 hYl R2 HST HN1 HF1) | (
      refine wpList_copy_splice rfl (.tmp 17) (.tmp 18) 31 31 rfl 5 Tryz.underlying31 size5 _ _ _ _ _ _ rfl rfl gb 9 (S.v8l Y) 5 R3.out (S.v8l x) HN2.out HCP.out HF2.out (S.v8l_one _) w.heap.size w B3.out LG.out ?_
      intro w4 HG4 hB4
      have HG5 := hide (spl_rowY HG4)
      clear HG4
      have B4 := hide hB4
      clear hB4
      obtain ⟨X, hX⟩ : ∃ X, X = splice Y 9 x := ⟨_, rfl⟩
      rw [← hX] at HG5
      have hXl : X.length = 128 := by rw [hX, splice, List.length_append, List.length_append, List.length_take, List.length_drop, HYL.out]; omega
      have c8 := v8_cell HG5.out 8 (by omega)
      have f8 := frozen_of_row _ _ 8 _ _ HG5.out
      have s8 := v8_set HG5.out 8 m
      have c127 := v8_cell s8 127 (by rw [List.length_set]; omega)
      have f127 := frozen_of_row _ _ 127 _ _ s8
      have S127 := hide (v8_set s8 127 m)
      have B6 := hide ((B4.out.setCell (p := ⟨gb, 8, none⟩) LG.out (.int .u8 (m.toNat : Int))).setCell (p := ⟨gb, 127, none⟩) LG.out (.int .u8 (m.toNat : Int)))
      have HX : Hid ((X.set 8 m).set 127 m = S.marked f c k m x) := by
        show (X.set 8 m).set 127 m = S.marked f c k m x
        rw [hX, HY.out, S.marked, ← HT.out]
        exact S.marked_made T x m HTL.out hx
      clear s8 hX hXl HG5 R3 HYL HF2 HN2 HCP))
  go_ret
  refine ⟨gb, rfl, LG.out, ?_, B6.out⟩
  rw [← HX.out]
  exact S127.out
theorem blank_any (p : Value) (f c k : Nat) (w : World) (hf : f ≤ 100000) (hc : c ≤ 100000) (hk : k ≤ 100000) :
   Calls Tryz.prog 86 #[arv p f c, .int .i64 (k : Int)] w fun e w' => ∃ g, e = .returned (.slice (some ⟨g, 0, none⟩) 128 128) ∧ w.heap.size ≤ g ∧ w'.heap[g]? = some (.cells (S.v8 (S.blank f c k)) 5 (0, 0)) ∧ Below w.heap.size w w' := by
  obtain ⟨w0, hw0, HA, HB, HZ⟩ := ar_box w p f c
  obtain ⟨a0, a1, a2⟩ := ar_new w p f c
  unfold arv
  go_enter Tryz.func86, Tryz.ntmps86
  go_wp2_with fail
  rw [← hw0]
  clear hw0 a0 a1 a2
  refine (marked_any p f c k 15 none 0 0 [] w0 hf hc hk (by simp) (Or.inl ⟨rfl, rfl⟩)).mono ?_
  rintro e w1 ⟨g, rfl, g1, r1, b1⟩
  have R1 : Hid (w1.heap[g]? = some (.cells (S.v8 (S.blank f c k)) 5 (0, 0))) := r1
  have B1 : Hid (Below w.heap.size w w1) := HB.out.trans (b1.mono (by have := HZ.out; omega))
  have G1 : Hid (w.heap.size ≤ g) := by show _ ≤ g; have := HZ.out; omega
  clear g1 r1 b1
  go_wp2_with fail
  go_ret
  exact ⟨g, rfl, G1.out, R1.out, B1.out⟩
theorem other_any (k : Nat) (w : World) (hk : k ≤ 1) :
   Calls Tryz.prog 107 #[.int .i64 (k : Int)] w fun e w' => e = .returned (.int .i64 ((1 - k : Nat) : Int)) ∧ w = w' := by
  have q1 : (k : Int) ≤ 1 := by omega
  have q2 : (0 : Int) ≤ (k : Int) := by omega
  have E : Hid ((1 : Int) - (k : Int) = ((1 - k : Nat) : Int)) := by show _ = _; omega
  go_enter Tryz.func107, Tryz.ntmps107
  go_wp2_with fail
  go_ret
  exact ⟨by rw [← E.out]; rfl, rfl⟩
theorem u8_eq (x : UInt8) (n : Nat) (hn : n < 256) : decide ((x.toNat : Int) = (n : Int)) = (x == UInt8.ofNat n) := by
  rw [Bool.eq_iff_iff]
  simp only [decide_eq_true_eq, beq_iff_eq]
  constructor
  · intro h
    apply UInt8.toNat_inj.1
    rw [UInt8.toNat_ofNat']
    omega
  · rintro rfl
    rw [UInt8.toNat_ofNat']
    omega
theorem isMark_any (x : UInt8) (w : World) :
   Calls Tryz.prog 114 #[.int .u8 (x.toNat : Int)] w fun e w' => e = .returned (.bool (S.isMark x)) ∧ w = w' := by
  have e1 := u8_eq x 15 (by omega)
  have e2 := u8_eq x 240 (by omega)
  by_cases h1 : (x.toNat : Int) = 15
  · have E : Hid (S.isMark x = true) := by
      show S.isMark x = true
      rw [S.isMark, ← show decide ((x.toNat : Int) = (15 : Nat)) = (x == 15) from e1, decide_eq_true (by omega)]
      rfl
    clear e1 e2
    go_enter Tryz.func114, Tryz.ntmps114
    go_wp2_with fail
    go_ret
    exact ⟨by rw [E.out]; rfl, rfl⟩
  · by_cases h2 : (x.toNat : Int) = 240
    · have E : Hid (S.isMark x = true) := by
        show S.isMark x = true
        rw [S.isMark, ← show decide ((x.toNat : Int) = (240 : Nat)) = (x == 240) from e2, decide_eq_true (by omega)]
        simp
      clear e1 e2
      go_enter Tryz.func114, Tryz.ntmps114
      go_wp2_with fail
      go_ret
      exact ⟨by rw [E.out]; rfl, rfl⟩
    · have E : Hid (S.isMark x = false) := by
        show S.isMark x = false
        rw [S.isMark, ← show decide ((x.toNat : Int) = (15 : Nat)) = (x == 15) from e1, ← show decide ((x.toNat : Int) = (240 : Nat)) = (x == 240) from e2, decide_eq_false (by omega), decide_eq_false (by omega)]
        rfl
      clear e1 e2
      go_enter Tryz.func114, Tryz.ntmps114
      go_wp2_with fail
      go_ret
      have z1 : ((x.toNat : Int) == 15) = false := by simpa using h1
      have z2 : ((x.toNat : Int) == 240) = false := by simpa using h2
      refine ⟨?_, rfl⟩
      rw [E.out, ← show ((x.toNat : Int) == 15 || (x.toNat : Int) == 240) = false from by rw [z1, z2]; rfl]
      rfl
end Go.Proofs.YthjlhngjpbmieaaGreatDoor
namespace Go.Proofs.YthjlhngjpbmieaaGreatDoor
open Go.RowKit

namespace S
/-- The cells of a head. -/
def hc (h : Hd) : List Value := .int .u64 (h.turn : Int) :: .int .i64 (h.used : Int) :: v8l h.sl
theorem hc_length {h : Hd} (o : h.sl.length = 32) : (hc h).length = 34 := by simp [hc, v8l_length, o]
theorem hc_one (h : Hd) : (hc h).toArray.all (·.oneCell') = true := by
  refine all_oneCell_toArray fun v hv => ?_
  rcases List.mem_cons.1 hv with rfl | hv
  · rfl
  · rcases List.mem_cons.1 hv with rfl | hv
    · rfl
    · exact v8l_one h.sl v hv
end S
def hdv (h : S.Hd) : Value := .agg (S.hc h).toArray
def HdAt (w : World) (b : Nat) (h : S.Hd) : Prop := w.heap[b]? = some (.cells (S.hc h).toArray 106 (0, 0))
theorem HdAt.below {w W : World} {b B : Nat} {h : S.Hd} (a : HdAt w b h) (hb : Below B w W) (hB : b < B) : HdAt W b h := (hb.block b hB).trans a
theorem HdAt.turn {w : World} {b : Nat} {h : S.Hd} (a : HdAt w b h) : w.cell? ⟨b, 0, none⟩ = some (.int .u64 (h.turn : Int)) := by rw [cell_of_row w b 0 _ _ _ a]; rfl
theorem HdAt.used {w : World} {b : Nat} {h : S.Hd} (a : HdAt w b h) : w.cell? ⟨b, 1, none⟩ = some (.int .i64 (h.used : Int)) := by rw [cell_of_row w b 1 _ _ _ a]; rfl
theorem size71 : (Tryz.prog.info? 104).map (·.size) = some 32 := by kernel_rfl
theorem size73h : (Tryz.prog.info? 106).map (·.size) = some 34 := by kernel_rfl
theorem HdAt.range {w : World} {b : Nat} {h : S.Hd} (a : HdAt w b h) : w.rangeAt b 2 (S.v8l h.sl) := fun j v hv => by
  rw [cell_of_row w b _ _ _ _ a, Nat.add_comm]
  simpa [S.hc] using hv
theorem HdAt.seal {w : World} {b : Nat} {h : S.Hd} (a : HdAt w b h) (hl : h.sl.length = 32) : (Instr.loadAt 104 (.pointer (some ⟨b, 2, none⟩))).run Tryz.prog w = .ok (.agg (S.v8 h.sl)) w := by
  have := run_loadAt_mid (P := Tryz.prog) w b 2 104 _ _ a.range Tryz.underlying104 rfl (by rw [size71, S.v8l_length, hl])
  rwa [← S.v8_eq] at this
theorem HdAt.load {w : World} {b : Nat} {h : S.Hd} (a : HdAt w b h) (hl : h.sl.length = 32) : (Instr.loadAt 106 (.pointer (some ⟨b, 0, none⟩))).run Tryz.prog w = .ok (hdv h) w :=
  run_loadAt_mid (P := Tryz.prog) w b 0 106 _ _ (rangeAt_row a) Tryz.underlying106 rfl (by rw [size73h, S.hc_length hl])
theorem HdAt.loadVar {w : World} {b : Nat} {h : S.Hd} (a : HdAt w b h) (hl : h.sl.length = 32) : (loadVar 106 ⟨b, 0, none⟩).run Tryz.prog w = .ok (hdv h) w :=
  run_loadVar_mid (P := Tryz.prog) w b 0 106 _ _ (rangeAt_row a) Tryz.underlying106 rfl (by rw [size73h, S.hc_length hl])
theorem info73h : (Tryz.prog.info? 106).map (fun i => (i.size, i.bytes)) = some (34, 48) := by kernel_rfl
theorem zero73h : (Tryz.prog.info? 106).bind (·.zero) = some (.agg (S.hc S.Hd.none).toArray) := by kernel_rfl
theorem alloc73 (w : World) : (Instr.alloc 106 true (.tuple #[])).run Tryz.prog w = .ok (.pointer (some ⟨w.heap.size, 0, none⟩)) (w.alloc (.cells (S.hc S.Hd.none).toArray 106)) := by
  obtain ⟨i, hi, hz, _, _⟩ := info_pair info73h zero73h
  simp [Instr.alloc, zeroValue, typeInfo, hi, hz, newVar, newRow, Value.cells]
set_option maxRecDepth 100000 in
theorem built73 (parts : List (Nat × Value)) : Tryz.prog.built 106 parts = Instr.fill ((#[(0, 1), (1, 1), (2, 32)] : Array (Nat × Nat))[·]?) (S.hc S.Hd.none).toArray parts := by
  obtain ⟨i, hi, hz, _, _⟩ := info_pair info73h zero73h
  unfold Program.built
  rw [hi, Tryz.underlying106]
  simp only [hz]
  rfl
theorem build73e (w : World) : (Instr.build 106 #[]).run Tryz.prog w = .ok (hdv S.Hd.none) w :=
  run_build w 106 _ _ (by rw [built73]; rfl)
theorem build73t (t : Nat) (w : World) : (Instr.build 106 #[(0, .int .u64 (t : Int))]).run Tryz.prog w = .ok (hdv ⟨t, 0, S.zeros 32⟩) w :=
  run_build w 106 _ _ (by
    rw [built73]
    unfold Instr.fill
    simp only [show (#[(0, 1), (1, 1), (2, 32)] : Array (Nat × Nat))[0]? = some (0, 1) from rfl]
    rw [if_neg (by simp [Value.cells, S.hc])]
    unfold Instr.fill
    rfl)
/-- A part is laid in the midst of cells. -/
theorem lay_mid (pre old post : List Value) (v : Array Value) (off : Nat) (ho : off = pre.length) (h : old.length = v.size) : v.zipIdx.foldl (fun cs (x : Value × Nat) => cs.setIfInBounds (off + x.2) x.1) (pre ++ (old ++ post)).toArray = (pre ++ (v.toList ++ post)).toArray := by
  subst ho
  apply Array.ext_getElem?
  intro k
  rw [lay_at]
  simp only [List.size_toArray, List.length_append, List.getElem?_toArray]
  by_cases h1 : pre.length ≤ k
  · by_cases h2 : k < pre.length + v.size
    · rw [if_pos ⟨h1, h2, by omega⟩, List.getElem?_append_right h1, List.getElem?_append_left (by simp; omega)]
      simp
    · rw [if_neg (by omega), List.getElem?_append_right h1, List.getElem?_append_right (by omega), List.getElem?_append_right h1, List.getElem?_append_right (by simp; omega), h]
      simp
  · rw [if_neg (by omega), List.getElem?_append_left (by omega), List.getElem?_append_left (by omega)]
set_option maxRecDepth 100000 in
theorem build73 (h : S.Hd) (hl : h.sl.length = 32) (w : World) : (Instr.build 106 #[(0, .int .u64 (h.turn : Int)), (1, .int .i64 (h.used : Int)), (2, .agg (S.v8 h.sl))]).run Tryz.prog w = .ok (hdv h) w :=
  run_build w 106 _ _ (by
    have hz : (S.hc S.Hd.none).length = 34 := S.hc_length (S.zeros_length _)
    rw [built73]
    unfold Instr.fill
    simp only [show (#[(0, 1), (1, 1), (2, 32)] : Array (Nat × Nat))[0]? = some (0, 1) from rfl]
    rw [if_neg (by simp [Value.cells, hz])]
    unfold Instr.fill
    simp only [show (#[(0, 1), (1, 1), (2, 32)] : Array (Nat × Nat))[1]? = some (1, 1) from rfl]
    rw [if_neg (by simp [Value.cells, hz])]
    unfold Instr.fill
    simp only [show (#[(0, 1), (1, 1), (2, 32)] : Array (Nat × Nat))[2]? = some (2, 32) from rfl]
    rw [if_neg (by simp [Value.cells, hz, S.v8_size, hl])]
    unfold Instr.fill
    congr 1
    have c2 : (Value.agg (S.v8 h.sl)).cells = S.v8 h.sl := rfl
    rw [c2]
    have e := lay_mid [.int .u64 (h.turn : Int), .int .i64 (h.used : Int)] (S.v8l (S.zeros 32)) [] (S.v8 h.sl) 2 rfl (by rw [S.v8l_length, S.v8_size, S.zeros_length, hl])
    simp only [List.append_nil] at e
    rw [S.v8_eq] at e ⊢
    exact e)
/-- A head is stored over another one. -/
theorem store73 {w : World} {g : Nat} {h0 h : S.Hd} (a : HdAt w g h0) (l0 : h0.sl.length = 32) (l : h.sl.length = 32) :
    ∃ w', (Instr.storeAt 106 (.pointer (some ⟨g, 0, none⟩)) (hdv h)).run Tryz.prog w = .ok () w' ∧ HdAt w' g h ∧ Chg (fun k => k = g) w w' := by
  have hr := run_storeVar_row (P := Tryz.prog) w g 106 106 _ (S.hc h).toArray a (by rw [size73h, List.size_toArray, S.hc_length l]) (by rw [List.size_toArray, List.size_toArray, S.hc_length l0, S.hc_length l]) (S.hc_one _)
  refine ⟨w.setRow g (S.hc h).toArray, ?_, setRow_heap w g _ _ _ _ a, Chg.setRow (p := fun k => k = g) g _ rfl⟩
  unfold hdv
  simp only [Instr.storeAt, Instr.sureAddr, Sem.run_bind, Sem.run_pure, Result.andThen_ok, hr]
/-- A seal is stored in a head. -/
theorem store71 {w : World} {g : Nat} {h : S.Hd} {sl : List UInt8} (a : HdAt w g h) (l0 : h.sl.length = 32) (l : sl.length = 32) :
    ∃ w', (Instr.storeAt 104 (.pointer (some ⟨g, 2, none⟩)) (.agg (S.v8 sl))).run Tryz.prog w = .ok () w' ∧ HdAt w' g { h with sl := sl } ∧ Chg (fun k => k = g) w w' := by
  have hth : w.there g 2 (S.v8 sl).size := fun j hj => by
    rw [S.v8_size] at hj
    refine ⟨?_, frozen_of_row _ _ _ _ _ a⟩
    rw [cell_of_row w g _ _ _ _ a, Array.getElem?_eq_getElem (by rw [List.size_toArray, S.hc_length l0]; omega)]
    rfl
  have hr := run_storeAt_mid (P := Tryz.prog) w g 2 104 (S.v8 sl) hth (by rw [size71, S.v8_size, l]) (by rw [S.v8_eq]; exact v8l_one' _)
  have he : (S.v8 sl).toList = S.v8l sl := by rw [S.v8_eq]
  rw [he] at hr
  refine ⟨_, hr, ?_, Chg.setCells (p := fun k => k = g) g (fun _ => rfl) _ _ (Chg.refl _ _)⟩
  obtain ⟨c, h3, h4⟩ := row_setCells (w := w) (S.v8l sl) 2 a
  rw [S.v8_size] at hth
  have r1 := World.rangeAt_setCells_same w g 2 (S.v8l sl) (by rw [S.v8l_length]; exact hth)
  have r0 := World.rangeAt_setCells_apart (cs := [.int .u64 (h.turn : Int), .int .i64 (h.used : Int)]) (b' := g) (o' := 0) (fun j v hv => by
    rcases j with _ | _ | j
    · rw [← hv]; exact a.turn
    · rw [← hv]; exact a.used
    · simp at hv) g 2 (S.v8l sl) (Or.inr (Or.inl (by simp)))
  show (w.setCells g 2 (S.v8l sl)).heap[g]? = _
  rw [h3]
  have hsz : c.size = 34 := by rw [h4, List.size_toArray, S.hc_length l0]
  have e : c = (S.hc { h with sl := sl }).toArray := by
    apply Array.ext'
    apply List.ext_getElem?
    intro j
    have hc : ∀ k, (w.setCells g 2 (S.v8l sl)).cell? ⟨g, k, none⟩ = c.toList[k]? := fun k => by rw [cell_of_row _ g k _ _ _ h3]; simp
    rw [← hc]
    rcases j with _ | _ | j
    · exact r0 0 _ rfl
    · exact r0 1 _ rfl
    · by_cases hj : j < 32
      · have := v8l_get sl j (by omega)
        show _ = (S.hc { h with sl := sl })[j + 1 + 1]?
        rw [S.hc, List.getElem?_cons_succ, List.getElem?_cons_succ, this]
        rw [show j + 1 + 1 = 2 + j from by omega]
        exact r1 j _ this
      · rw [hc, List.getElem?_eq_none (by simp; omega), List.getElem?_eq_none (by simp [S.hc_length (h := { h with sl := sl }) l]; omega)]
  rw [e]
/-- How many bytes are used is stored in a head. -/
theorem HdAt.setUsed {w : World} {g : Nat} {h : S.Hd} (a : HdAt w g h) (u : Nat) : HdAt (w.setCell ⟨g, 1, none⟩ (.int .i64 (u : Int))) g { h with used := u } := by
  unfold HdAt
  rw [heap_setCell_same w g 1 _ _ _ a]
  congr 2
theorem results_row_tmp {fn : Func} {p u : Tmp} {ty : TypeId} (h : fn.results = #[.cell p ty, .tmp u]) (tmps : Array Value) (w : World) (g : Nat) (v : Value)
    (hp : tmps.getD p undef = .pointer (some ⟨g, 0, none⟩)) (hl : (loadVar ty ⟨g, 0, none⟩).run Tryz.prog w = .ok v w) :
    (results fn tmps).run Tryz.prog w = .ok (.tuple #[v, tmps.getD u undef]) w := by
  have hp' : tmps[p]?.getD undef = .pointer (some ⟨g, 0, none⟩) := by simpa using hp
  simp [results, h, hp', asAddr, hl]
theorem results_row_tmp2 {fn : Func} {p u v : Tmp} {ty : TypeId} (h : fn.results = #[.cell p ty, .tmp u, .tmp v]) (tmps : Array Value) (w : World) (g : Nat) (x : Value)
    (hp : tmps.getD p undef = .pointer (some ⟨g, 0, none⟩)) (hl : (loadVar ty ⟨g, 0, none⟩).run Tryz.prog w = .ok x w) :
    (results fn tmps).run Tryz.prog w = .ok (.tuple #[x, tmps.getD u undef, tmps.getD v undef]) w := by
  have hp' : tmps[p]?.getD undef = .pointer (some ⟨g, 0, none⟩) := by simpa using hp
  simp [results, h, hp', asAddr, hl]
theorem results_row_one {fn : Func} {p : Tmp} {ty : TypeId} (h : fn.results = #[.cell p ty]) (tmps : Array Value) (w : World) (g : Nat) (x : Value)
    (hp : tmps.getD p undef = .pointer (some ⟨g, 0, none⟩)) (hl : (loadVar ty ⟨g, 0, none⟩).run Tryz.prog w = .ok x w) :
    (results fn tmps).run Tryz.prog w = .ok x w := by
  have hp' : tmps[p]?.getD undef = .pointer (some ⟨g, 0, none⟩) := by simpa using hp
  simp [results, h, hp', asAddr, hl]
/-- The operation that stands first is this one. -/
theorem at_op {w : World} {ops : Array Oper} {rest : List Oper} {a : Act} {Q : Exit → Act → World → Prop} (o : Oper) (h : wpList Tryz.prog ops Q (o :: rest) a w) : wpList Tryz.prog ops Q (o :: rest) a w := h
/-- Steps whose runs are known, their operands given as values. -/
theorem wpList_build_as {w : World} {ops : Array Oper} {rest : List Oper} {o : Oper} {a : Act} {Q : Exit → Act → World → Prop} (hgd : o.guard = none) (t : TypeId) (parts : List (Nat × Operand)) (ho : o.op = .build t parts.toArray) (vals : List (Nat × Value)) (hv : (parts.map fun p => (p.1, a.eval p.2)) = vals) (v : Value)
    (hr : (Instr.build t vals.toArray).run Tryz.prog w = .ok v w) (h : wpList Tryz.prog ops Q rest (a.put o.dst v) w) : wpList Tryz.prog ops Q (o :: rest) a w := by
  subst hv
  exact wpList_build_known hgd t parts ho v hr h
theorem wpList_store_as {w : World} {ops : Array Oper} {rest : List Oper} {o : Oper} {a : Act} {Q : Exit → Act → World → Prop} (hgd : o.guard = none) (t : TypeId) (x y : Operand) (ho : o.op = .store t x y) (vx vy : Value) (hx : a.eval x = vx) (hy : a.eval y = vy) (w' : World)
    (hr : (Instr.storeAt t vx vy).run Tryz.prog w = .ok () w') (h : wpList Tryz.prog ops Q rest (a.put o.dst undef) w') : wpList Tryz.prog ops Q (o :: rest) a w := by
  subst hx hy
  exact wpList_store_known hgd t x y ho w' hr h
theorem wpList_load_as {w : World} {ops : Array Oper} {rest : List Oper} {o : Oper} {a : Act} {Q : Exit → Act → World → Prop} (hgd : o.guard = none) (t : TypeId) (x : Operand) (ho : o.op = .load t x) (vx : Value) (hx : a.eval x = vx) (v : Value)
    (hr : (Instr.loadAt t vx).run Tryz.prog w = .ok v w) (h : wpList Tryz.prog ops Q rest (a.put o.dst v) w) : wpList Tryz.prog ops Q (o :: rest) a w := by
  subst hx
  exact wpList_load_known hgd t x ho v hr h
/-- A disk, with the table of the hashes beside it. -/
structure Dsk (w : World) (o : Ow) (d : S.Dk) : Prop where
  dk : DkIs w o d
  k : KAt w
  no : ¬ o.has 0
theorem Dsk.below {w W : World} {o : Ow} {d : S.Dk} (h : Dsk w o d) (hb : Below w.heap.size w W) : Dsk W o d := ⟨h.dk.below hb, h.k.below hb h.k.pos, h.no⟩
theorem KAt.chg {p : Nat → Prop} {w W : World} (h : KAt w) (hc : Chg p w W) (hp : ¬ p 0) : KAt W := fun j hj => by
  rw [← h j hj]
  exact World.cell?_of_block (hc.block 0 h.pos hp)
theorem Dsk.to {w W : World} {o o' : Ow} {d d' : S.Dk} (h : Dsk w o d) (h1 : DkIs W o' d') (h2 : DkTo o w o' W) : Dsk W o' d' :=
  ⟨h1, h.k.chg h2.chg h.no, fun e => by rcases h2.own 0 e with e | e; exact h.no e; have := h.k.pos; omega⟩
/-- A list of two texts. -/
theorem two_list (w : World) (u v : Value) (xs ys : List UInt8) (h1 : SliceAt w u xs) (h2 : SliceAt w v ys) : ListAt (w.alloc (.cells #[u, v] 31)) w.heap.size [xs, ys] := by
  have hb : Below w.heap.size w (w.alloc (.cells #[u, v] 31)) := (Below.refl _ _).alloc (Nat.le_refl _) _
  refine ⟨by simp, fun j hj => ?_⟩
  have hc := heap_alloc_new w (.cells #[u, v] 31)
  rcases j with _ | _ | j
  · exact ⟨u, by rw [cell_of_row _ _ 0 _ _ _ hc]; rfl, h1.below hb (Nat.le_refl _)⟩
  · exact ⟨v, by rw [cell_of_row _ _ 1 _ _ _ hc]; rfl, h2.below hb (Nat.le_refl _)⟩
  · have : j + 1 + 1 < 2 := hj
    omega
theorem WrIs.below {w W : World} {g : Nat} {v : Value} {bs : List UInt8} (h : WrIs w g v bs) (hb : Below w.heap.size w W) : WrIs W g v bs := h.chg (p := fun _ => False) (Chg.ofBelow' hb) (fun e => e) (fun _ _ e => e)
theorem slice_row {w : World} {g n : Nat} {xs : List UInt8} (h : w.heap[g]? = some (.cells (S.v8 xs) 5 (0, 0))) (hn : n = xs.length) (hl : xs.length ≤ 140737488355328) : SliceAt w (.slice (some ⟨g, 0, none⟩) n n) xs := by
  subst hn
  exact (stays_row (p := fun _ => False) h (fun e => e) hl).now
theorem room_row {w : World} {g n : Nat} {xs : List UInt8} (h : Room w g n xs) (hn : n = xs.length) : w.heap[g]? = some (.cells (S.v8 xs) 5 (0, 0)) := by
  obtain ⟨cur, h1, h2, h3, h4⟩ := h
  rw [h1]
  have e : cur = S.v8 xs := by
    apply Array.ext'
    rw [S.v8_eq]
    rw [List.take_of_length_le (by rw [Array.length_toList]; omega)] at h4
    exact h4
  rw [e]
end Go.Proofs.YthjlhngjpbmieaaGreatDoor
