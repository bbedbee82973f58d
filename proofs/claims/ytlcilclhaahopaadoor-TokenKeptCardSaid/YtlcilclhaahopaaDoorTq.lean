/- Forged; the document's Holds. -/
import Derived.Test.YtlcilclhaahopaaDoorTp
import Derived.Test.YtlcilclhaahopaaDoorArgw
namespace Go.Proofs.YtlcilclhaahopaaDoor
open Go.RowKit

theorem RowAt.form {α : Type} {k : Nat} {enc : α → List Value} {w : World} {v : Value} {l : List α} (h : RowAt k enc w v l) : ∃ ao n cap, v = .slice ao n cap ∧ n = l.length ∧ n ≤ cap := by
  obtain ⟨ao, cap, rfl, h2, _⟩ := h
  exact ⟨ao, _, cap, rfl, rfl, h2⟩
theorem RowAt.at_ {α : Type} {k : Nat} {enc : α → List Value} {w : World} {ao : Option Addr} {n cap : Nat} {l : List α} (h : RowAt k enc w (.slice ao n cap) l) (j : Nat) (x : α) (hx : l[j]? = some x) : ∃ g off, ao = some ⟨g, off, none⟩ ∧ g < w.heap.size ∧ w.rangeAt g (off + j * k) (enc x) := by
  obtain ⟨ao', cap', e, h2, h3⟩ := h
  simp only [Value.slice.injEq] at e
  obtain ⟨rfl, -, -⟩ := e
  obtain ⟨g, off, e1, e2, e3⟩ := h3 (by have := (List.getElem?_eq_some_iff.1 hx).1; omega)
  exact ⟨g, off, e1, e2, e3 j x hx⟩
theorem S.has_take {l : List Nat} {i x y : Nat} (h : l[i]? = some y) (h1 : (l.take i).contains x = false) (h2 : (x == y) = false) : (l.take (i + 1)).contains x = false := by
  have : l.take (i + 1) = l.take i ++ [y] := by
    rw [List.take_add_one, h]; rfl
  rw [this, List.contains_append, h1]
  simpa using h2
theorem S.has_yes {l : List Nat} {i x y : Nat} (h : l[i]? = some y) (h2 : (x == y) = true) : l.contains x = true := by
  rw [List.contains_iff_mem]
  have e : x = y := by simpa using h2
  subst e
  exact List.mem_of_getElem? h
set_option maxHeartbeats 4000000 in
theorem index32_any (l : List Nat) (v : Value) (x : Nat) (bb : Bool) (w : World) (hbb : bb = l.contains x) (hl : l.length ≤ 4611686018427387904) (hv : RowAt 1 encN w v l) :
   Calls Tryd.prog 76 #[v, .int .u32 (x : Int)] w fun e w' => (∃ r : Int, e = .returned (.int .i64 r) ∧ decide (r ≥ 0) = bb) ∧ w = w' := by
  obtain ⟨ao, n, cap, rfl, hn, hncap⟩ := hv.form
  have HBB := hide hbb
  clear hbb
  have HN := hide hn
  have HV := hide hv
  have hnb : n ≤ 4611686018427387904 := by rw [hn]; exact hl
  clear hv hn hl
  go_enter Tryd.func76, Tryd.ntmps76
  go_wp2_with fail
  go_loopg [8] n (fun gk s8 wr => ∃ i : Nat, i + gk = n ∧ s8 = .int .i64 (i : Int) ∧ Hid ((l.take i).contains x = false) ∧ w = wr)
  case atStart => exact ⟨0, by omega, rfl, by show _ = _; simp, rfl⟩
  case round =>
    obtain ⟨i, hi, rfl, HH, rfl⟩ := hrel
    cases gk with
    | zero =>
      obtain rfl : i = n := by omega
      have q : ¬ (i : Int) < (i : Int) := by omega
      have HF := hide (show bb = false by rw [HBB.out]; exact (show l.contains x = false by
        have := HH.out
        rw [List.take_of_length_le (by rw [← HN.out]; exact Nat.le_refl _)] at this
        exact this))
      clear hi
      go_wp2_with fail
      go_ret
      exact ⟨⟨-1, rfl, by rw [HF.out]; decide⟩, rfl⟩
    | succ gO =>
      have q : (i : Int) < (n : Int) := by omega
      have q0 : (0 : Int) ≤ (i : Int) := by omega
      have q1 : IntKind.i64.wrap ((i : Int) + 1) = (i : Int) + 1 := by rw [IntKind.wrap_i64]; omega
      have hlt : i < l.length := by rw [← HN.out]; omega
      obtain ⟨y, hy⟩ : ∃ y, l[i]? = some y := ⟨_, List.getElem?_eq_getElem hlt⟩
      obtain ⟨g, off, e, hg, hra⟩ := HV.out.at_ i y hy
      subst e
      have c0 : w.cell? ⟨g, off + i, none⟩ = some (.int .u32 (y : Int)) := by
        have h5 := hra 0 (.int .u32 (y : Int)) rfl
        rw [Nat.mul_one, Nat.add_zero] at h5
        exact h5
      have HY := hide hy
      obtain ⟨b, hb⟩ : ∃ b, b = (x == y) := ⟨_, rfl⟩
      have HB := hide hb
      have qb : ((x : Int) == (y : Int)) = b := by rw [hb, Bool.eq_iff_iff, beq_iff_eq, beq_iff_eq]; exact Int.ofNat_inj
      clear hra hg hy hb hlt
      cases b with
      | false =>
        go_wp2_with fail
        go_roundg gO
        case measure => omega
        case rel => exact ⟨i + 1, by omega, by first | rfl | simp, by show _ = _; exact S.has_take HY.out HH.out HB.out.symm, rfl⟩
      | true =>
        have HF := hide (show bb = true by rw [HBB.out]; exact S.has_yes HY.out HB.out.symm)
        go_wp2_with fail
        go_ret
        exact ⟨⟨_, rfl, by rw [HF.out]; simp⟩, rfl⟩
set_option maxHeartbeats 800000 in
theorem has32_any (l : List Nat) (v : Value) (x : Nat) (w : World) (hl : l.length ≤ 4611686018427387904) (hv : RowAt 1 encN w v l) :
   Calls Tryd.prog 52 #[v, .int .u32 (x : Int)] w fun e w' => e = .returned (.bool (l.contains x)) ∧ w = w' := by
  obtain ⟨ao, n, cap, rfl, hn, hncap⟩ := hv.form
  obtain ⟨b, hb⟩ : ∃ b, b = l.contains x := ⟨_, rfl⟩
  have C0 := index32_any l _ x b w hb hl hv
  rw [← hb]
  have C := hide C0
  clear hl hv hn hncap hb C0
  go_enter Tryd.func52, Tryd.ntmps52
  go_wp2_with fail
  refine C.out.mono ?_
  rintro e w1 ⟨⟨r, rfl, hr⟩, rfl⟩
  clear C
  cases b with
  | true =>
    have hge : r ≥ 0 := by simpa using hr
    clear hr
    go_wp2_with fail
    go_ret
    exact ⟨rfl, rfl⟩
  | false =>
    have hge : ¬ r ≥ 0 := by simpa using hr
    have hge2 : decide (0 ≤ r) = false := by simpa using hr
    clear hr
    go_wp2_with fail
    go_ret
    exact ⟨by first | rfl | (rw [← hge2]; rfl), rfl⟩
set_option maxHeartbeats 8000000 in
set_option maxRecDepth 10000 in
theorem forged_any (r : List UInt8) (l : List Nat) (lv : Value) (x : S.Tk) (cv : Value) (w : World) (hr : r.length = 32) (hl : l.length ≤ 4611686018427387904) (hlv : RowAt 1 encN w lv l) (hx : x.Ok) (hv : CvAt w cv x.cs) (hK : KAt w) :
   Calls Tryd.prog 18 #[.agg (S.v8 r), lv, .agg (encT x.id cv x.tag).toArray] w fun e w' => e = .returned (.bool (S.genuine r x && !(l.contains x.id))) ∧ Below w.heap.size w w' := by
  obtain ⟨ao, n, cap, rfl, hn, hncap⟩ := hv.form
  obtain ⟨lo, ln, lc, rfl, hln, hlcap⟩ := hlv.form
  have HLV := hide hlv
  have HL : Hid (l.length ≤ 4611686018427387904) := hl
  have HV := hide hv
  have HX := hide hx
  have HR := hide hr
  have HK := hide hK
  have h0 := hK.pos
  obtain ⟨b, hb⟩ : ∃ b, b = S.genuine r x := ⟨_, rfl⟩
  obtain ⟨c, hc⟩ : ∃ c, c = l.contains x.id := ⟨_, rfl⟩
  have HB := hide hb
  have HC := hide hc
  rw [← hb, ← hc]
  clear hv hlv hx hr hK hb hc hn hln hl hncap hlcap
  go_enter Tryd.func18, Tryd.ntmps18
  go_upto_region 1 with fail
  generalize hW0 : w.alloc _ = W0
  generalize hW1 : W0.alloc _ = W1
  have B0 : Below w.heap.size w W0 := by rw [← hW0]; exact (Below.refl _ _).alloc (Nat.le_refl _) _
  have s0 : W0.heap.size = w.heap.size + 1 := by rw [← hW0]; simp
  have r0 : W0.heap[w.heap.size]? = some (.cells (S.v8 r) 25 (0, 0)) := by rw [← hW0]; exact heap_alloc_new _ _
  have B1 : Below W0.heap.size W0 W1 := by rw [← hW1]; exact (Below.refl _ _).alloc (Nat.le_refl _) _
  have s1 : W1.heap.size = w.heap.size + 2 := by rw [← hW1]; simp [s0]
  have r1 : W1.heap[w.heap.size + 1]? = some (.cells (encT x.id (.slice ao n cap) x.tag).toArray 27 (0, 0)) := by rw [← hW1, ← s0]; exact heap_alloc_new _ _
  have BB : Hid (Below w.heap.size w W1) := (B0.trans (B1.mono (by omega)))
  have Q0 : Hid (W1.heap[w.heap.size]? = some (.cells (S.v8 r) 25 (0, 0))) := ((B1.block _ (by omega)).trans r0)
  have Q1 : Hid (W1.heap[w.heap.size + 1]? = some (.cells (encT x.id (.slice ao n cap) x.tag).toArray 27 (0, 0))) := r1
  clear hW0 B0 s0 r0 hW1 B1 s1 r1
  obtain ⟨c0, c1⟩ := t_cells Q1.out
  have ld0 := load_digv Q0.out HR.out
  have ld1 := load_t Q1.out HX.out.tl
  go_wp2_with (first | (with_reducible refine at_op { dst := some 7, op := Op.load 25 (Operand.tmp 3), type := 25, pos := "token.go:62", after := #[], guard := none } ?_; refine wpList_load_as rfl 25 (.tmp 3) rfl (.pointer (some ⟨w.heap.size, 0, none⟩)) rfl (.agg (S.v8 r)) ld0 ?_) | (with_reducible refine at_op { dst := some 8, op := Op.load 27 (Operand.tmp 5), type := 27, pos := "token.go:62", after := #[], guard := none } ?_; refine wpList_load_as rfl 27 (.tmp 5) rfl (.pointer (some ⟨w.heap.size + 1, 0, none⟩)) rfl (.agg (encT x.id (.slice ao n cap) x.tag).toArray) ld1 ?_))
  refine (genuine_any r x _ W1 HR.out HX.out (HV.out.below BB.out) (HK.out.below BB.out h0)).mono ?_
  rintro e w2 ⟨rfl, hb2⟩
  rw [← HB.out]
  have B2 := hide (BB.out.trans (hb2.mono BB.out.size))
  have Q2 := hide ((hb2.block _ (block_lt_of_row Q1.out)).trans Q1.out)
  clear hb2 c0 c1 ld0 ld1 Q0 Q1 BB
  obtain ⟨c0, c1⟩ := t_cells Q2.out
  cases b with
  | false =>
    go_wp2_with fail
    go_ret
    exact ⟨rfl, B2.out⟩
  | true =>
    go_wp2_with fail
    refine (has32_any l _ x.id w2 HL.out (HLV.out.below B2.out)).mono ?_
    rintro e w3 ⟨rfl, rfl⟩
    rw [← HC.out]
    go_wp2_with fail
    go_ret
    exact ⟨by cases c <;> rfl, B2.out⟩
end Go.Proofs.YtlcilclhaahopaaDoor
