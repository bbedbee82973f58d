/- Encode: its bytes, or why there are none. -/
import Derived.Test.YtlcilclhaahopaaDoorTk
namespace Go.Proofs.YtlcilclhaahopaaDoor
open Go.RowKit

theorem S.any_take {cs : List S.Cv} {i : Nat} {c : S.Cv} (h : cs[i]? = some c) (h1 : (cs.take i).any S.odd = false) (h2 : S.odd c = false) : (cs.take (i + 1)).any S.odd = false := by
  rw [S.take_one h, List.any_append, h1]
  simp [h2]
theorem S.any_yes {cs : List S.Cv} {i : Nat} {c : S.Cv} (h : cs[i]? = some c) (h2 : S.odd c = true) : cs.any S.odd = true := by
  rw [List.any_eq_true]
  exact ⟨c, List.mem_of_getElem? h, h2⟩
set_option maxHeartbeats 4000000 in
theorem index_any (cs : List S.Cv) (cv : Value) (w : World) (hx : ∀ c ∈ cs, c.Ok) (hl : cs.length ≤ 140737488355328) (hv : CvAt w cv cs) :
   Calls Tryd.prog 68 #[cv, .func (.func 40) #[] #[]] w fun e w' => (∃ r : Int, e = .returned (.int .i64 r) ∧ decide (r ≥ 0) = cs.any S.odd) ∧ Below w.heap.size w w' := by
  obtain ⟨ao, n, cap, rfl, hn, hncap⟩ := hv.form
  have HN := hide hn
  have HV := hide hv
  have HX := hide hx
  have hnb : n ≤ 140737488355328 := by rw [hn]; exact hl
  clear hv hx hn hl
  go_enter Tryd.func68, Tryd.ntmps68
  go_wp2_with fail
  go_loopg [8] n (fun gk s8 wr => ∃ i : Nat, i + gk = n ∧ s8 = .int .i64 (i : Int) ∧ Hid ((cs.take i).any S.odd = false) ∧ Hid (Below w.heap.size w wr))
  case atStart => exact ⟨0, by omega, rfl, by show _ = _; simp, Below.refl _ _⟩
  case round =>
    obtain ⟨i, hi, rfl, HH, BW⟩ := hrel
    cases gk with
    | zero =>
      obtain rfl : i = n := by omega
      have q : ¬ (i : Int) < (i : Int) := by omega
      have HF := hide (show cs.any S.odd = false by
        have := HH.out
        rw [List.take_of_length_le (by rw [← HN.out]; exact Nat.le_refl _)] at this
        exact this)
      clear hi
      go_wp2_with fail
      go_ret
      exact ⟨⟨-1, rfl, by rw [HF.out]; decide⟩, BW.out⟩
    | succ gO =>
      have q : (i : Int) < (n : Int) := by omega
      have q0 : (0 : Int) ≤ (i : Int) := by omega
      have q1 : IntKind.i64.wrap ((i : Int) + 1) = (i : Int) + 1 := by rw [IntKind.wrap_i64]; omega
      have hlt : i < cs.length := by rw [← HN.out]; omega
      obtain ⟨c, hc⟩ : ∃ c, cs[i]? = some c := ⟨_, List.getElem?_eq_getElem hlt⟩
      have HC := hide hc
      obtain ⟨g, off, cap2, e, hle, hg, hra⟩ := (HV.out.below BW.out).cells i c hc
      simp only [Value.slice.injEq] at e
      obtain ⟨e1, -, -⟩ := e
      subst e1
      have HCO := hide (HX.out c (List.mem_of_getElem? hc))
      have ld1 := load_cm hra
      clear hra hg hle hc
      go_wp2_with (with_reducible refine at_op { dst := some 15, op := Op.load 42 (Operand.tmp 14), type := 42, pos := "slices.go:109", after := #[{ on := 3, ground := Ground.data }], guard := none } ?_; refine wpList_load_as rfl 42 (.tmp 14) rfl (.pointer (some ⟨g, off + i * 2, none⟩)) rfl (.agg (encC c).toArray) ld1 ?_)
      refine (strange_any c wr).mono ?_
      rintro e v2 ⟨rfl, hb2⟩
      have B2 := hide (BW.out.trans (hb2.mono BW.out.size))
      obtain ⟨b, hb⟩ : ∃ b, b = S.odd c := ⟨_, rfl⟩
      rw [← hb]
      have HB := hide hb
      clear hb hb2 ld1
      cases b with
      | false =>
        go_wp2_with fail
        go_roundg gO
        case measure => omega
        case rel => exact ⟨i + 1, by omega, by first | rfl | simp, by show _ = _; exact S.any_take HC.out HH.out HB.out.symm, B2⟩
      | true =>
        have HF := hide (S.any_yes HC.out HB.out.symm)
        have q9 : (i : Int) ≥ 0 := by omega
        go_wp2_with fail
        go_ret
        exact ⟨⟨_, rfl, by rw [HF.out]; simp⟩, B2.out⟩
set_option maxHeartbeats 800000 in
theorem contains_any (cs : List S.Cv) (cv : Value) (w : World) (hx : ∀ c ∈ cs, c.Ok) (hl : cs.length ≤ 140737488355328) (hv : CvAt w cv cs) :
   Calls Tryd.prog 39 #[cv, .func (.func 40) #[] #[]] w fun e w' => e = .returned (.bool (cs.any S.odd)) ∧ Below w.heap.size w w' := by
  obtain ⟨ao, n, cap, rfl, hn, hncap⟩ := hv.form
  have C0 := index_any cs _ w hx hl hv
  obtain ⟨b, hb⟩ : ∃ b, b = cs.any S.odd := ⟨_, rfl⟩
  rw [← hb] at C0 ⊢
  have C := hide C0
  clear hx hl hv hn hncap hb C0
  go_enter Tryd.func39, Tryd.ntmps39
  go_wp2_with fail
  refine C.out.mono ?_
  rintro e w1 ⟨⟨r, rfl, hr⟩, hb⟩
  have HB := hide hb
  clear hb C
  cases b with
  | true =>
    have hge : r ≥ 0 := by simpa using hr
    clear hr
    go_wp2_with fail
    go_ret
    exact ⟨rfl, HB.out⟩
  | false =>
    have hge : ¬ r ≥ 0 := by simpa using hr
    have hge2 : decide (0 ≤ r) = false := by simpa using hr
    clear hr
    go_wp2_with fail
    go_ret
    exact ⟨by first | rfl | (rw [← hge2]; rfl), HB.out⟩
namespace S
/-- The bytes of a token, and why there are none. -/
def bytesOf (t : Tk) : List UInt8 := num t.id 4 ++ num t.cs.length 1 ++ t.cs.flatMap cb ++ t.tag
def encode (t : Tk) : List UInt8 × Int := if 4 < t.cs.length then ([], 4) else if t.cs.any odd = true then ([], 1) else (bytesOf t, 0)
theorem flat_cb_length (cs : List Cv) : (cs.flatMap cb).length = cs.length * 5 := by
  induction cs with
  | nil => rfl
  | cons c cs ih => rw [List.flatMap_cons, List.length_append, ih, cb_length, List.length_cons]; omega
theorem bytesOf_length (t : Tk) (h : t.tag.length = 32) : (bytesOf t).length = 37 + 5 * t.cs.length := by
  rw [bytesOf, List.length_append, List.length_append, List.length_append, num_length, num_length, flat_cb_length, h]; omega
end S
theorem urow_of_row {w : World} {g : Nat} {bs : List UInt8} (h : w.heap[g]? = some (.cells (S.v8 bs) 5 (0, 0))) (hl : bs.length ≤ 140737488355328) : URow w (.slice (some ⟨g, 0, none⟩) bs.length bs.length) bs := by
  refine ⟨by simp [S.v8l], Or.inr ⟨g, bs.length, S.v8 bs, rfl, Nat.zero_le _, h, Nat.le_refl _, by simp [maxLen]; omega, by simp [S.v8], ?_⟩⟩
  rw [List.take_of_length_le (by simp [S.v8])]
  simp [S.v8, S.v8l]
set_option maxHeartbeats 8000000 in
set_option maxRecDepth 10000 in
theorem encode_any (t : S.Tk) (cv : Value) (w : World) (ht : t.Ok) (hv : CvAt w cv t.cs) :
   Calls Tryd.prog 11 #[.agg (encT t.id cv t.tag).toArray] w fun e w' => (∃ v, e = .returned (.tuple #[v, .int .i64 (S.encode t).2]) ∧ URow w' v (S.encode t).1 ∧ ∀ k, v.ownBlock = some k → w.heap.size ≤ k) ∧ Below w.heap.size w w' := by
  obtain ⟨ao, n, cap, rfl, hn, hncap⟩ := hv.form
  obtain ⟨R, hR⟩ : ∃ R, R = S.encode t := ⟨_, rfl⟩
  rw [← hR]
  rw [S.encode, ← hn] at hR
  have HRR := hide hR
  have HN := hide hn
  have HV := hide hv
  have HT := hide ht
  have hnb : n ≤ 140737488355328 := by rw [hn]; exact ht.len
  have q3 : IntKind.u64.wrap (t.id : Int) = (t.id : Int) := wrap_u64_lt t.id (by have := ht.id2; omega)
  clear hv ht hn hR
  go_enter Tryd.func11, Tryd.ntmps11
  go_upto_region 1 with fail
  generalize hW0 : w.alloc _ = W0
  have B0 : Below w.heap.size w W0 := by rw [← hW0]; exact (Below.refl _ _).alloc (Nat.le_refl _) _
  have s0 : W0.heap.size = w.heap.size + 1 := by rw [← hW0]; simp
  have r0 : W0.heap[w.heap.size]? = some (.cells (encT t.id (.slice ao n cap) t.tag).toArray 27 (0, 0)) := by rw [← hW0]; exact heap_alloc_new _ _
  have BB : Hid (Below w.heap.size w W0) := B0
  have Q0 : Hid (W0.heap[w.heap.size]? = some (.cells (encT t.id (.slice ao n cap) t.tag).toArray 27 (0, 0))) := r0
  clear hW0 B0 s0 r0
  obtain ⟨c0, c1⟩ := t_cells Q0.out
  by_cases h4 : 4 < n
  · have q1 : (n : Int) > 4 := by omega
    have q1' : (4 : Int) < (n : Int) := by omega
    have e : R = ([], 4) := by rw [HRR.out, if_pos h4]
    subst e
    clear HRR
    go_wp2_with fail
    go_ret2
    exact ⟨⟨.slice none 0 0, rfl, urow_nil _, fun k hk => (by cases hk)⟩, BB.out⟩
  have q1 : ¬ (n : Int) > 4 := by omega
  have q1' : decide ((4 : Int) < (n : Int)) = false := by simp; omega
  have HR2 := hide (show R = if t.cs.any S.odd = true then ([], 1) else (S.bytesOf t, 0) by rw [HRR.out, if_neg h4])
  clear HRR
  go_wp2_with fail
  refine (contains_any t.cs _ W0 HT.out.cs HT.out.len (HV.out.below BB.out)).mono ?_
  rintro e w1 ⟨rfl, hb1⟩
  have B1 := hide (BB.out.trans (hb1.mono BB.out.size))
  have Q1 := hide ((hb1.block _ (block_lt_of_row Q0.out)).trans Q0.out)
  obtain ⟨b, hb⟩ : ∃ b, b = t.cs.any S.odd := ⟨_, rfl⟩
  rw [← hb]
  rw [← hb] at HR2
  clear hb hb1 BB Q0 c0 c1 q1 q1'
  obtain ⟨c0, c1⟩ := t_cells Q1.out
  cases b with
  | true =>
    have e : R = ([], 1) := by rw [HR2.out, if_pos rfl]
    subst e
    clear HR2
    go_wp2_with fail
    go_ret2
    exact ⟨⟨.slice none 0 0, rfl, urow_nil _, fun k hk => (by cases hk)⟩, B1.out⟩
  | false =>
    have e : R = (S.bytesOf t, 0) := by rw [HR2.out]; rfl
    subst e
    clear HR2
    have G1 := hide (block_lt_of_row Q1.out)
    go_wp2_with fail
    refine (newWriter_any w1).mono ?_
    rintro e w2 ⟨rfl, h2, hb2⟩
    have W2 := hide h2
    have B2 := hide (B1.out.trans (hb2.mono B1.out.size))
    have Q2 := hide ((hb2.block _ (block_lt_of_row Q1.out)).trans Q1.out)
    have LW := hide hb2.size
    obtain ⟨gW, hgW⟩ : ∃ g, g = w1.heap.size := ⟨_, rfl⟩
    rw [← hgW] at W2 ⊢
    have GW := hide (show w.heap.size + 1 ≤ gW by rw [hgW]; exact G1.out)
    clear h2 hb2 B1 Q1 c0 c1 hgW
    obtain ⟨c0, c1⟩ := t_cells Q2.out
    go_wp2_with fail
    refine (wnumber_is t.id gW _ w2 rfl rfl W2.out (by simp)).mono ?_
    rintro e w3 ⟨rfl, v3, h3, k3⟩
    have b3 := k3.base (B := w.heap.size + 1) (block_lt_of_row Q2.out) GW.out (nil_base _)
    have W3 := hide h3
    have B3 := hide (B2.out.trans (b3.1.mono (by omega)))
    have V3 := hide b3.2
    have Q3 := hide ((b3.1.block _ (by omega)).trans Q2.out)
    clear h3 k3 b3 B2 W2 Q2 c0 c1 LW
    obtain ⟨c0, c1⟩ := t_cells Q3.out
    have q4 : IntKind.u64.wrap (n : Int) = (n : Int) := wrap_u64_lt n (by omega)
    go_wp2_with fail
    refine (wnumber_is n gW v3 w3 rfl rfl W3.out (by rw [List.nil_append, S.num_length, size_4]; omega)).mono ?_
    rintro e w4 ⟨rfl, v4, h4', k4⟩
    have b4 := k4.base (B := w.heap.size + 1) (block_lt_of_row Q3.out) GW.out V3.out
    have W4 : Hid (WrIs w4 gW v4 (S.num t.id 4 ++ S.num n 1)) := by
      have := h4'
      rw [List.nil_append, size_4, size_1] at this
      exact this
    have B4 := hide (B3.out.trans (b4.1.mono (by omega)))
    have V4 := hide b4.2
    have Q4 := hide ((b4.1.block _ (by omega)).trans Q3.out)
    clear h4' k4 b4 B3 W3 Q3 c0 c1 V3
    obtain ⟨c0, c1⟩ := t_cells Q4.out
    go_wp2_with fail
    go_loopg [29] n (fun gk s29 wr => ∃ (i : Nat) (v : Value), i + gk = n ∧ s29 = .int .i64 (i : Int) ∧ Hid (WrIs wr gW v (S.num t.id 4 ++ S.num n 1 ++ (t.cs.take i).flatMap S.cb)) ∧ Hid (∀ k, v.ownBlock = some k → w.heap.size + 1 ≤ k) ∧ Hid (wr.heap[w.heap.size]? = some (.cells (encT t.id (.slice ao n cap) t.tag).toArray 27 (0, 0))) ∧ Hid (Below w.heap.size w wr))
    case atStart => exact ⟨0, v4, by omega, rfl, by simpa using W4, V4, Q4, B4⟩
    case round =>
      clear Q4 B4 W4 V4 c0 c1
      obtain ⟨i, v, hi, rfl, WI, VI, QI, BW⟩ := hrel
      cases gk with
      | zero =>
        obtain rfl : i = n := by omega
        have q : ¬ (i : Int) < (i : Int) := by omega
        have WE : Hid (WrIs wr gW v (S.num t.id 4 ++ S.num i 1 ++ t.cs.flatMap S.cb)) := by
          have := WI.out
          rw [List.take_of_length_le (by rw [← HN.out]; exact Nat.le_refl _)] at this
          exact this
        obtain ⟨c0, c1⟩ := t_cells QI.out
        have ld := load_tt QI.out HT.out.tl
        have hln := S.flat_cb_length t.cs
        rw [← HN.out] at hln
        have hle : i ≤ 4 := by omega
        clear hi WI
        go_wp2_with (with_reducible refine at_op { dst := some 39, op := Op.load 25 (Operand.tmp 38), type := 25, pos := "bytes.go:24", after := #[{ on := 1, ground := Ground.data }], guard := none } ?_; refine wpList_load_as rfl 25 (.tmp 38) rfl (.pointer (some ⟨w.heap.size, 2, none⟩)) rfl (.agg (S.v8 t.tag)) ld ?_)
        refine (wdigest_any gW v _ t.tag wr HT.out.tl WE.out (by simp only [List.length_append, S.num_length, hln]; omega)).mono ?_
        rintro e w5 ⟨rfl, v5, h5, k5⟩
        have b5 := k5.base (B := w.heap.size + 1) (block_lt_of_row QI.out) GW.out VI.out
        have W5 : Hid (WrIs w5 gW v5 (S.bytesOf t)) := by
          show WrIs w5 gW v5 _
          rw [S.bytesOf, ← HN.out]
          exact h5
        have B5 := hide (BW.out.trans (b5.1.mono (by omega)))
        have HLB := hide (show (S.bytesOf t).length ≤ 140737488355328 by rw [S.bytesOf_length t HT.out.tl, ← HN.out]; omega)
        clear h5 k5 b5 c0 c1 hln ld WE
        go_wp2_with fail
        refine (done_any gW v5 (S.bytesOf t) w5 W5.out HLB.out).mono ?_
        rintro e w6 ⟨rfl, h6, hb6⟩
        have U6 := hide (urow_of_row h6 HLB.out)
        have B6 := hide (B5.out.trans (hb6.mono B5.out.size))
        obtain ⟨nb, hnb2⟩ : ∃ nb, nb = (S.bytesOf t).length := ⟨_, rfl⟩
        rw [← hnb2] at U6 ⊢
        have HS5 := hide B5.out.size
        clear h6 hb6 hnb2
        go_wp2_with fail
        go_ret2
        exact ⟨⟨_, rfl, U6.out, fun k hk => by cases hk; exact HS5.out⟩, B6.out⟩
      | succ gO =>
        have q : (i : Int) < (n : Int) := by omega
        have q0 : (0 : Int) ≤ (i : Int) := by omega
        have q1 : IntKind.i64.wrap ((i : Int) + 1) = (i : Int) + 1 := by rw [IntKind.wrap_i64]; omega
        have hlt : i < t.cs.length := by rw [← HN.out]; omega
        obtain ⟨c, hc⟩ : ∃ c, t.cs[i]? = some c := ⟨_, List.getElem?_eq_getElem hlt⟩
        have HC := hide hc
        obtain ⟨g, off, cap2, e, hle, hg, hra⟩ := (HV.out.below BW.out).cells i c hc
        simp only [Value.slice.injEq] at e
        obtain ⟨e1, -, -⟩ := e
        subst e1
        have HCO := hide (HT.out.cs c (List.mem_of_getElem? hc))
        have ld1 := load_cm hra
        have hle4 : i ≤ 4 := by omega
        obtain ⟨A1, v1, ha1, hs1, hr1, hb1⟩ := lay_c wr c
        obtain ⟨gc, hgc⟩ : ∃ g, g = wr.heap.size := ⟨_, rfl⟩
        rw [← hgc] at ha1 hs1 hr1
        have R1 := hide hr1
        have B1 := hide (BW.out.trans (hb1.mono BW.out.size))
        have Q1 := hide ((hb1.block _ (block_lt_of_row QI.out)).trans QI.out)
        have W1 := hide (WI.out.chg (p := fun _ => False) (Chg.ofBelow' hb1) (fun e => e) (fun _ _ e => e))
        clear hra hg hle hc hr1 hb1 hgc QI WI BW
        go_upto_region 11 with (first | (with_reducible refine at_op { dst := some 32, op := Op.load 42 (Operand.tmp 31), type := 42, pos := "bytes.go:21", after := #[{ on := 0, ground := Ground.data }], guard := none } ?_; refine wpList_load_as rfl 42 (.tmp 31) rfl (.pointer (some ⟨g, off + i * 2, none⟩)) rfl (.agg (encC c).toArray) ld1 ?_) | (with_reducible refine at_op { dst := some 6, op := Op.alloc 42, type := 0, pos := "bytes.go:21", after := #[], guard := none } ?_; refine wpList_alloc_known rfl 42 rfl _ _ ha1 ?_) | (with_reducible refine at_op { dst := none, op := Op.store 42 (Operand.tmp 6) (Operand.tmp 32), type := 0, pos := "bytes.go:21", after := #[{ on := 2, ground := Ground.data }, { on := 1, ground := Ground.data }, { on := 0, ground := Ground.phase }, { on := 1, ground := Ground.phase }, { on := 2, ground := Ground.phase }], guard := none } ?_; refine wpList_store_as rfl 42 (.tmp 6) (.tmp 32) rfl (.pointer (some ⟨gc, 0, none⟩)) (.agg (encC c).toArray) rfl rfl v1 hs1 ?_))
        clear ha1 hs1 A1 ld1
        have ld2 := load_c R1.out
        have hln : ((t.cs.take i).flatMap S.cb).length ≤ 25 := by rw [S.flat_cb_length, List.length_take]; omega
        go_wp2_with (with_reducible refine at_op { dst := some 34, op := Op.load 42 (Operand.tmp 6), type := 42, pos := "bytes.go:22", after := #[], guard := none } ?_; refine wpList_load_as rfl 42 (.tmp 6) rfl (.pointer (some ⟨gc, 0, none⟩)) rfl (.agg (encC c).toArray) ld2 ?_)
        refine (wcaveat_any c gW v _ v1 (w.heap.size + 1) HCO.out.n2 W1.out (by simp only [List.length_append, S.num_length]; omega) (block_lt_of_row Q1.out) GW.out VI.out).mono ?_
        rintro e w2 ⟨rfl, v', hw', hb', hv'⟩
        have WN : Hid (WrIs w2 gW v' (S.num t.id 4 ++ S.num n 1 ++ (t.cs.take (i + 1)).flatMap S.cb)) := by
          show WrIs w2 gW v' _
          rw [S.take_one HC.out, List.flatMap_append, ← List.append_assoc]
          simpa using hw'
        have VN := hide hv'
        have BN := hide (B1.out.trans (hb'.mono (by omega)))
        have QN := hide ((hb'.block _ (by omega)).trans Q1.out)
        clear hw' hb' hv' hln ld2
        go_wp2_with fail
        go_roundg gO
        case measure => omega
        case rel => exact ⟨i + 1, v', by omega, by first | rfl | simp, WN, VN, QN, BN⟩
end Go.Proofs.YtlcilclhaahopaaDoor
