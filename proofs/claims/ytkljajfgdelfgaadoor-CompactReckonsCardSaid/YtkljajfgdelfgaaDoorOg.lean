/- The first texts of a list, none longer than so much, in new memory; two lists of texts are the same. -/
import Derived.Test.YtkljajfgdelfgaaDoorMj
import Derived.Test.YtkljajfgdelfgaaDoorPush
import Derived.Laws.IdiomStrings
import Derived.Lib.BufferRead
namespace Go.Proofs.YtkljajfgdelfgaaDoor
open Go.RowKit

def S.few (bss : List (List UInt8)) (n m : Nat) : List (List UInt8) := (bss.take n).map (fun x => x.take m)
theorem S.few_length (bss : List (List UInt8)) (n m : Nat) : (S.few bss n m).length = min n bss.length := by simp [S.few]
theorem S.few_succ (bss : List (List UInt8)) (k m : Nat) (h : k < bss.length) : S.few bss (k + 1) m = S.few bss k m ++ [(bss.getD k []).take m] := by
  rw [S.few, List.take_succ_eq_append_getElem h, List.map_append]
  simp [S.few, List.getD_eq_getElem?_getD, h]
theorem S.few_mem (bss : List (List UInt8)) (n m : Nat) : ∀ x ∈ S.few bss n m, x.length ≤ m := fun x hx => by
  simp only [S.few, List.mem_map] at hx
  obtain ⟨y, _, rfl⟩ := hx
  rw [List.length_take]; omega
/-- A list of any texts that came in: only the first ones matter. -/
def BsUp (w : World) (v : Value) (bss : List (List UInt8)) : Prop := BsAt w v bss ∧ bss.length ≤ 140737488355328
set_option maxHeartbeats 4000000 in
set_option maxRecDepth 10000 in
theorem few_any (bss : List (List UInt8)) (v : Value) (n m : Nat) (w : World) (hn : n ≤ 1000) (hm : m ≤ 100000) (hv : BsAt w v bss) (hmax : bss.length ≤ 140737488355328) :
   Calls Tryd.prog 26 #[v, .int .i64 (n : Int), .int .i64 (m : Int)] w fun e w' => ∃ v', e = .returned v' ∧ TxRow w.heap.size w' v' (S.few bss n m) ∧ Below w.heap.size w w' := by
  obtain ⟨ao, cap, rfl, hcap⟩ := hv.form
  have HV := hide hv
  obtain ⟨N, hN⟩ : ∃ N, N = bss.length := ⟨_, rfl⟩
  have HN := hide hN
  rw [← hN] at hcap HV hmax ⊢
  clear hv hN
  go_enter Tryd.func26, Tryd.ntmps26
  go_wp2
  go_loopw [7, 8] (fun s i wr => ∃ k : Nat, k ≤ n ∧ k ≤ N ∧ i = .int .i64 (k : Int) ∧ TxRow w.heap.size wr s (S.few bss k m) ∧ Below w.heap.size w wr) (fun _ i _ => n - (intOf i).toNat)
  case atStart => exact ⟨0, by omega, by omega, rfl, TxRow.nil _ _, Below.refl _ _⟩
  case round =>
    obtain ⟨k, hk, hkN, rfl, hT, hB⟩ := hrel
    obtain ⟨so, sc, rfl⟩ := hT.form
    obtain ⟨sl, hsl⟩ : ∃ sl, sl = (S.few bss k m).length := ⟨_, rfl⟩
    rw [← hsl] at hT ⊢
    clear hsl
    have q4 : IntKind.i64.wrap ((k : Int) + 1) = (k : Int) + 1 := by rw [IntKind.wrap_i64]; omega
    by_cases hlt : k < N
    · by_cases hltn : k < n
      · have q1 : (k : Int) < (N : Int) := by omega
        have q2 : (k : Int) < (n : Int) := by omega
        have q3 : (0 : Int) ≤ (k : Int) := by omega
        obtain ⟨b, off, cap2, e2, e8, hbl, hcl⟩ := HV.out.src (by rw [← HN.out]; omega)
        simp only [Value.slice.injEq] at e2
        obtain ⟨rfl, e9, rfl⟩ := e2
        clear e9 e8
        obtain ⟨x, hx, hxs⟩ := hcl k (by rw [← HN.out]; exact hlt)
        obtain ⟨xo, xl, xc, rfl, hxl, hxm⟩ := hxs.form
        have c1 : wr.cell? ⟨b, off + k, none⟩ = some (.slice xo xl xc) := (hB.cell (p := ⟨b, off + k, none⟩) hbl).trans hx
        have XS := hide (hxs.below hB (Nat.le_refl _))
        have XL := hide hxl
        have TH := hide hT
        have BH := hide hB
        have hxc := hxs.le_cap
        clear hx hxs hxl hT hB hcl
        obtain ⟨Y, hY⟩ : ∃ Y, Y = (bss.getD k []).take m := ⟨_, rfl⟩
        obtain ⟨yl, hyl⟩ : ∃ yl, yl = Y.length := ⟨_, rfl⟩
        have hym : yl ≤ m := by rw [hyl, hY, List.length_take]; omega
        have YS : Hid (SliceAt wr (.slice xo yl xc) Y) := by
          have h := part_to XS.out yl (by rw [hyl, hY, List.length_take, XL.out]; omega)
          have e : (bss.getD k []).take yl = Y := by rw [hyl, hY, List.length_take, ← List.take_take, List.take_length]
          rw [e] at h
          exact h
        have HY := hide hY
        have HYL := hide hyl
        clear hY hyl
        have KEY : Hid (∃ v1 w1, (Builtin.append_ #[60, 60] 60 #[.slice (some ⟨wr.heap.size, 0, none⟩) 0 0, .slice xo yl xc]).run Tryd.prog (wr.alloc (.cells #[] 5)) = .ok v1 w1 ∧ (Own w1 wr.heap.size v1 Y ∧ Below wr.heap.size wr w1)) := by
          obtain ⟨v1, w1, h1, h2, h3⟩ := run_append_bytes (wr.alloc (.cells #[] 5)) wr.heap.size (.slice (some ⟨wr.heap.size, 0, none⟩) 0 0) (.slice xo yl xc) [] Y 60 (own_empty wr wr.heap.size (Nat.le_refl _)) (YS.out.below ((Below.refl _ _).alloc (Nat.le_refl _) _) (Nat.le_refl _)) (by rw [← HYL.out]; simp; omega) (by simp)
          exact ⟨v1, w1, h1, by simpa using h2, ((Below.refl _ _).alloc (Nat.le_refl _) _).trans h3⟩
        have KEY2 : Hid (∀ (g1 c1 : Nat) (w1 : World), Own w1 wr.heap.size (.slice (some ⟨g1, 0, none⟩) yl c1) Y → Below wr.heap.size wr w1 → ∃ v2 w2, (Builtin.append_ #[53, 53] 53 #[.slice so sl sc, .slice (some ⟨w1.heap.size, 0, none⟩) 1 1]).run Tryd.prog (w1.alloc (.cells #[.slice (some ⟨g1, 0, none⟩) yl c1] 60)) = .ok v2 w2 ∧ (TxRow w.heap.size w2 v2 (S.few bss (k + 1) m) ∧ Below w.heap.size w w2)) := fun g1 c1 w1 hO hb1 => by
          have hb2 : Below w1.heap.size w1 (w1.alloc (.cells #[.slice (some ⟨g1, 0, none⟩) yl c1] 60)) := (Below.refl _ _).alloc (Nat.le_refl _) _
          have hg := hO.1.lt g1 rfl
          have hown : ∀ j, (Value.slice so sl sc).ownBlock = some j → j < wr.heap.size := fun j hj => by
            obtain ⟨vs, h1, _⟩ := TH.out.ls
            exact h1.lt hj
          have ht : ∀ W, Chg (fun k => (Value.slice so sl sc).ownBlock = some k) (w1.alloc (.cells #[.slice (some ⟨g1, 0, none⟩) yl c1] 60)) W → SliceAt W (.slice (some ⟨g1, 0, none⟩) yl c1) Y := fun W hW => by
            have hs := hO.sliceAt (by rw [← HYL.out]; omega)
            have hs2 := hs.below hb2 (Nat.le_refl _)
            rcases hs2 with h | ⟨_, _, h, h', h''⟩ | ⟨bb, oo, cc, h, h1, h2, h3, h4⟩
            · exact Or.inl h
            · exact Or.inr (Or.inl ⟨_, _, h, h', h''⟩)
            · simp only [Value.slice.injEq, Option.some.injEq, Addr.mk.injEq, and_true] at h
              obtain ⟨⟨rfl, rfl⟩, _, rfl⟩ := h
              refine Or.inr (Or.inr ⟨g1, 0, c1, by rw [HYL.out], h1, h2, Nat.lt_of_lt_of_le h3 hW.size, fun j hj => ?_⟩)
              rw [← h4 j hj]
              exact World.cell?_of_block (hW.block g1 (by simp; omega) (fun e => by have := hown _ e; omega))
          obtain ⟨v2, w2, a1, a2, a3⟩ := run_append_tx (w1.alloc (.cells #[.slice (some ⟨g1, 0, none⟩) yl c1] 60)) w.heap.size w1.heap.size (.slice so sl sc) (some ⟨g1, 0, none⟩) _ c1 (S.few bss k m) Y 53 ((TH.out.below hb1).below hb2) (heap_alloc_new _ _) ht (by rw [S.few_length]; omega) (Nat.le_trans BH.out.size (Nat.le_trans hb1.size hb2.size))
          exact ⟨v2, w2, a1, by rw [S.few_succ bss k m (by rw [← HN.out]; exact hlt), ← HY.out]; exact a2, (BH.out.trans (hb1.mono BH.out.size)).trans ((hb2.mono (by have := BH.out.size; have := hb1.size; omega)).trans a3)⟩
        have hO2 : Hid (∀ (v1 : Value) (w1 : World), Own w1 wr.heap.size v1 Y → ∃ g1 c1, v1 = .slice (some ⟨g1, 0, none⟩) yl c1) := fun v1 w1 h => by
          obtain ⟨_, g1, c1, e⟩ := h
          exact ⟨g1, c1, by rw [e, HYL.out]⟩
        have hlen : xl ≤ m ∧ xl = yl ∨ m < xl ∧ m = yl := by
          have e : yl = min m xl := by rw [HYL.out, HY.out, List.length_take, XL.out]
          omega
        clear XS XL YS
        rcases hlen with ⟨h9, hy⟩ | ⟨h9, hy⟩
        · subst hy
          have q5 : ¬ (m : Int) < (xl : Int) := by omega
          have q6 : (xl : Int) ≤ (m : Int) := by omega
          go_wp2_with (first | (at_builtin; (refine wpList_append_known rfl (.tmp 33) (.tmp 34) 60 60 rfl _ _ rfl rfl KEY.out ?_; rintro v1 w1 ⟨hO, hB1⟩; obtain ⟨g1, cc1, rfl⟩ := hO2.out v1 w1 hO; have K2 := hide (KEY2.out g1 cc1 w1 hO hB1); clear hO hB1)) | (at_builtin; (refine wpList_append_known rfl (.tmp 32) (.tmp 36) 53 53 rfl _ _ rfl rfl K2.out ?_; rintro v2 w2 ⟨hT2, hB2⟩)))
          have T2 := hide hT2
          have B2 := hide hB2
          clear hT2 hB2
          go_roundw
          case rel => exact ⟨k + 1, by omega, by omega, by go_num, T2.out, B2.out⟩
          case measure => simp [intOf]; omega
        · subst hy
          have q5 : (m : Int) < (xl : Int) := by omega
          have q6 : (m : Int) ≤ (xc : Int) := by omega
          have q7 : (0 : Int) ≤ (m : Int) := by omega
          go_wp2_with (first | (at_builtin; (refine wpList_append_known rfl (.tmp 33) (.tmp 34) 60 60 rfl _ _ rfl rfl KEY.out ?_; rintro v1 w1 ⟨hO, hB1⟩; obtain ⟨g1, cc1, rfl⟩ := hO2.out v1 w1 hO; have K2 := hide (KEY2.out g1 cc1 w1 hO hB1); clear hO hB1)) | (at_builtin; (refine wpList_append_known rfl (.tmp 32) (.tmp 36) 53 53 rfl _ _ rfl rfl K2.out ?_; rintro v2 w2 ⟨hT2, hB2⟩)))
          have T2 := hide hT2
          have B2 := hide hB2
          clear hT2 hB2
          go_roundw
          case rel => exact ⟨k + 1, by omega, by omega, by go_num, T2.out, B2.out⟩
          case measure => simp [intOf]; omega
      · obtain rfl : k = n := by omega
        have q1 : (k : Int) < (N : Int) := by omega
        go_wp2
        go_ret
        exact ⟨_, rfl, hT, hB⟩
    · obtain rfl : k = N := by omega
      have e : S.few bss n m = S.few bss k m := by rw [S.few, S.few, HN.out, List.take_length, List.take_of_length_le (by rw [← HN.out]; exact hk)]
      have E := hide e
      clear e
      go_wp2
      go_ret
      exact ⟨_, rfl, by rw [E.out]; exact hT, hB⟩
end Go.Proofs.YtkljajfgdelfgaaDoor
namespace Go.Proofs.YtkljajfgdelfgaaDoor
open Go.RowKit

theorem conv_slice {w : World} {v : Value} {bs : List UInt8} (h : SliceAt w v bs) : (convert 60 9 v).run Tryd.prog w = .ok (.string ⟨bs.toArray⟩) w := by
  rcases h with ⟨rfl, rfl⟩ | ⟨a, cap, rfl, _, rfl⟩ | ⟨b, off, cap, rfl, h1, h2, h3, h4⟩
  · exact Lib.run_convert_nil_bytes w 60 9 5 0 Tryd.underlying60 Tryd.underlying5 Tryd.underlying9
  · exact run_convert_bytes_back w 60 9 5 a cap [] Tryd.underlying60 Tryd.underlying5 Tryd.underlying9 (fun j hj => by simp at hj)
  · refine run_convert_bytes_back w 60 9 5 ⟨b, off, none⟩ cap bs Tryd.underlying60 Tryd.underlying5 Tryd.underlying9 (fun j hj => ?_)
    rw [Addr.add_lit, h4 j hj, List.getD_eq_getElem?_getD, List.getElem?_eq_getElem hj]
    rfl
end Go.Proofs.YtkljajfgdelfgaaDoor
namespace Go.Proofs.YtkljajfgdelfgaaDoor
open Go.RowKit
theorem run_copy_list (w : World) (g0 : Nat) (lv : Value) (vs : List Value) (ty : TypeId) (h0 : w.heap[g0]? = some (.cells #[] 60 (0, 0))) (h : Lists w lv vs) (h1 : ∀ x ∈ vs, x.oneCell' = true) (hlen : vs.length ≤ 1000000) :
    ∃ v' w', (Builtin.append_ #[53, 53] ty #[.slice (some ⟨g0, 0, none⟩) 0 0, lv]).run Tryd.prog w = .ok v' w' ∧ (Lists w' v' vs ∧ w.grownBy w' (some g0) ∧ ∀ k, v'.ownBlock = some k → g0 ≤ k) := by
  obtain ⟨i, hi, hz0, hz1, hz2⟩ := info_parts infoS
  have hown : w.ownsRow g0 60 1 (.slice (some ⟨g0, 0, none⟩) 0 0) 0 [] := ⟨rfl, Or.inr ⟨g0, 0, #[], rfl, Nat.le_refl _, h0, Nat.le_refl _, by simp [maxLen], rfl, rfl⟩⟩
  rcases h with ⟨rfl, rfl⟩ | ⟨g, off, c, cur, rfl, h2, h3, h4, h5⟩
  · exact ⟨_, w, run_append_owned_none (P := Tryd.prog) (w := w) g0 53 ty 60 i 1 Tryd.underlying53 hi (.slice (some ⟨g0, 0, none⟩) 0 0) 0 [] hown, Or.inr ⟨g0, 0, 0, #[], rfl, h0, by simp, by simp, by simp⟩, ⟨rfl, rfl, rfl, Nat.le_refl _, fun _ _ _ => rfl⟩, fun k hk => by simp [Value.ownBlock] at hk; omega⟩
  · obtain ⟨v', w', hr, ho, hg, hn⟩ := run_append_own (P := Tryd.prog) w g0 53 ty 60 i (.slice none 0 0) 1 24 Tryd.underlying53 hi hz0 hz1 hz2 rfl (by omega) (.slice (some ⟨g0, 0, none⟩) 0 0) 0 [] hown ⟨g, off, none⟩ vs.length c vs (by omega) (fun j x hx => by rw [Addr.add_lit, cell_of_row w g (off + j) cur 60 (0, 0) h2]; exact h5 j x hx) h1 (by simp only [maxLen]; omega) (by omega) (Nat.le_of_lt (block_lt_of_row h0))
    refine ⟨v', w', hr, ?_, hg, fun k hk => ?_⟩
    · rcases ho.2 with ⟨e, _⟩ | ⟨g', cap', cur', e, _, q1, q2, q3, q4, q5⟩
      · exact absurd (hn.1 e).1 (by simp)
      · refine Or.inr ⟨g', 0, cap', cur', by rw [e]; simp, q1, by omega, by omega, fun j x hx => ?_⟩
        rw [Nat.zero_add]
        have hjl : j < vs.length := by
          by_cases e : j < vs.length
          · exact e
          · rw [List.getElem?_eq_none (by omega)] at hx; cases hx
        have : (cur'.toList.take ((0 + vs.length) * 1))[j]? = cur'.toList[j]? := by rw [List.getElem?_take, if_pos (by omega)]
        rw [q5, List.nil_append, hx] at this
        simpa using this.symm
    · exact (ho.lt k hk).1


/-- A row of texts is copied behind an empty one. -/
theorem run_copy_tx (w : World) (B g0 : Nat) (lv : Value) (bss : List (List UInt8)) (ty : TypeId) (h0 : w.heap[g0]? = some (.cells #[] 60 (0, 0))) (h : TxRow B w lv bss) (hg : ∀ k, lv.ownBlock = some k → k < g0) (hel : ∀ (W : World), Below g0 w W → TxRow B W lv bss) (hlen : bss.length ≤ 1000000) :
    ∃ v' w', (Builtin.append_ #[53, 53] ty #[.slice (some ⟨g0, 0, none⟩) 0 0, lv]).run Tryd.prog w = .ok v' w' ∧ (TxRow g0 w' v' bss ∧ Below g0 w w') := by
  obtain ⟨vs, h1, h2, h3, h4⟩ := h.ls
  obtain ⟨v', w', hr, a1, a2, a3⟩ := run_copy_list w g0 lv vs ty h0 h1 (fun x hx => by
    obtain ⟨j, hj⟩ := List.getElem?_of_mem hx
    obtain ⟨⟨_, _, _, rfl⟩, _⟩ := h4 j x hj
    rfl) (by omega)
  have hb : Below g0 w w' := (Below.refl _ _).grown a2 (Nat.le_of_lt (block_lt_of_row h0)) (fun k hk => by simp only [Option.some.injEq] at hk; omega)
  refine ⟨v', w', hr, ⟨vs, a1, h2, a3, fun j x hj => ⟨(h4 j x hj).1, fun W hW => ?_⟩⟩, hb⟩
  have hbW : Below g0 w W := hb.trans (hW.below g0 (Nat.le_trans (Nat.le_of_lt (block_lt_of_row h0)) hb.size) (fun k hk e => by have := a3 k e; omega))
  obtain ⟨vs2, g1, g2, g3, g4⟩ := (hel W hbW).ls
  have e : vs2[j]? = some x := by
    rcases h1 with ⟨rfl, rfl⟩ | ⟨g, off, c, cur, rfl, q1, q2, q3, q4⟩
    · simp at hj
    · have hW1 : W.heap[g]? = some (.cells cur 60 (0, 0)) := (hbW.block g (hg g rfl)).trans q1
      rcases g1 with ⟨e1, _⟩ | ⟨g', off', c', cur', e1, p1, p2, p3, p4⟩
      · simp at e1
      · simp only [Value.slice.injEq, Option.some.injEq, Addr.mk.injEq, and_true] at e1
        obtain ⟨⟨rfl, rfl⟩, e2, rfl⟩ := e1
        rw [hW1] at p1
        simp only [Option.some.injEq, Obj.cells.injEq, and_true] at p1
        obtain rfl := p1
        have hjl : j < vs2.length := by have := (List.getElem?_eq_some_iff.1 hj).1; omega
        have h6 := p4 j _ (List.getElem?_eq_getElem hjl)
        rw [q4 j x hj] at h6
        rw [List.getElem?_eq_getElem hjl, ← h6]
  exact (g4 j x e).2 W (Chg.refl _ _)
/-- One text of a row is another one. -/
theorem TxRow.set {B : Nat} {w : World} {g off n cap : Nat} {bss : List (List UInt8)} (h : TxRow B w (.slice (some ⟨g, off, none⟩) n cap) bss) (k : Nat) (hk : k < bss.length) (x : Value) (t : List UInt8) (ht : ∀ W, Chg (fun j => j = g) w W → SliceAt W x t) :
    BsAt (w.setCell ⟨g, off + k, none⟩ x) (.slice (some ⟨g, off, none⟩) n cap) (bss.set k t) ∧ Below g w (w.setCell ⟨g, off + k, none⟩ x) := by
  have hch : Chg (fun j => j = g) w (w.setCell ⟨g, off + k, none⟩ x) := (Chg.refl _ w).setCell g _ _ (fun _ => rfl)
  refine ⟨?_, (Below.refl _ _).setCell (p := ⟨g, off + k, none⟩) (Nat.le_refl _) _⟩
  obtain ⟨vs, h1, h2, h3, h4⟩ := h.ls
  rcases h1 with ⟨e1, _⟩ | ⟨g', off', c, cur, e1, q1, q2, q3, q4⟩
  · simp at e1
  · simp only [Value.slice.injEq, Option.some.injEq, Addr.mk.injEq, and_true] at e1
    obtain ⟨⟨rfl, rfl⟩, rfl, rfl⟩ := e1
    have hr := heap_setCell_same w g (off + k) cur 60 x q1
    refine ⟨_, cap, by simp [h2], by simp; omega, fun _ => ⟨g, off, rfl, block_lt_of_row hr, fun j hj => ?_⟩⟩
    have hj2 : j < bss.length := by simpa using hj
    by_cases hjk : j = k
    · subst hjk
      refine ⟨x, ?_, ?_⟩
      · rw [cell_of_row _ g (off + j) _ _ _ hr, Array.getElem?_setIfInBounds, if_pos rfl, if_pos (by omega)]
      · rw [List.getD_eq_getElem?_getD, List.getElem?_set, if_pos rfl, if_pos hk]
        exact ht _ hch
    · have hjv : vs[j]? = some (vs[j]'(by omega)) := List.getElem?_eq_getElem (by omega)
      refine ⟨vs[j]'(by omega), ?_, ?_⟩
      · rw [cell_of_row _ g (off + j) _ _ _ hr, Array.getElem?_setIfInBounds, if_neg (by omega)]
        exact q4 j _ hjv
      · rw [List.getD_eq_getElem?_getD, List.getElem?_set, if_neg (by omega), ← List.getD_eq_getElem?_getD]
        exact (h4 j _ hjv).2 _ (hch.mono (fun i _ e => by rw [e]; rfl))
end Go.Proofs.YtkljajfgdelfgaaDoor
