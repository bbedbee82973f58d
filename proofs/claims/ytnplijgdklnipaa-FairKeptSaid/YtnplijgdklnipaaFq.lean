/- FairKept's walk. -/
import Derived.Test.YtnplijgdklnipaaKg
import Derived.Test.YtnplijgdklnipaaFm
namespace Go.Proofs.Ytnplijgdklnipaa
open Go.RowKit
namespace Dg
theorem BookIs.below {w W : World} {gB base top : Nat} {vl vw : Value} {es : List Entry} (h : BookIs w gB base top vl vw es) (hb : Below w.heap.size w W) : BookIs W gB base top vl vw es := by
  have ht := h.top_le
  have hf : Fr gB vl vw w W := ⟨hb.os, hb.tape, hb.output, hb.size, fun k hk _ _ _ => hb.block k hk⟩
  exact ⟨(hb.block gB (Nat.lt_of_lt_of_le h.hi ht)).trans h.row, h.lo, h.hi, Nat.le_trans ht hb.size, h.lists.kept fun k hk => hb.block k (h.lists.lt hk), h.was.kept fun k hk => hb.block k (h.was.lt hk), h.vlSep, h.vwSep,
    fun e he => (h.ents e he).kept hf ht (Nat.le_refl _) (fun k hk => Or.inl hk) (fun k hk => Or.inl hk), h.nodup, h.few⟩
/-- A list that lies behind all of the book. -/
theorem BookIs.new {w : World} {gB base top g : Nat} {vl vw : Value} {es : List Entry} (h : BookIs w gB base top vl vw es) (hg : top ≤ g) : BookNew g gB vl vw es :=
  ⟨by have := h.hi; omega, fun e => by have := (h.vlSep g e).2.1; omega, fun e => by have := (h.vwSep g e).2.1; omega, fun e he e2 => by have := (h.ents e he).2.2.1; omega⟩
theorem BookIs.nos {w : World} {gB base top : Nat} {vl vw : Value} {es : List Entry} (H G : Nat → Prop) (h : BookIs w gB base top vl vw es) (hH : ∀ k, H k → top ≤ k) (hG : ∀ k, G k → top ≤ k) : BookNo H G vl vw es :=
  ⟨fun k e e2 => by have := (h.vlSep k e).2.1; have := hH k e2; omega, fun k e e2 => by have := (h.vwSep k e).2.1; have := hH k e2; omega, fun e he => ⟨fun e2 => by have := (h.ents e he).2.2.1; have := hG _ e2; omega, fun k hk e2 => by have := ((h.ents e he).2.2.2.2.2.2.2.1 k hk).1; have := hH k e2; omega⟩⟩
theorem BookNo.mono {H H' G G' : Nat → Prop} {vl vw : Value} {es : List Entry} (h : BookNo H G vl vw es) (hH : ∀ k, H' k → H k) (hG : ∀ k, G' k → G k) : BookNo H' G' vl vw es :=
  ⟨fun k e e2 => h.vl k e (hH k e2), fun k e e2 => h.vw k e (hH k e2), fun e he => ⟨fun e2 => (h.ents e he).1 (hG _ e2), fun k hk e2 => (h.ents e he).2 k hk (hH k e2)⟩⟩
theorem BookNo.new {H G : Nat → Prop} {g gB : Nat} {vl vw : Value} {es : List Entry} (h : BookNo H G vl vw es) (hg : g ≠ gB) (h1 : H g) (h2 : G g) : BookNew g gB vl vw es :=
  ⟨hg, fun e => h.vl g e h1, fun e => h.vw g e h1, fun e he e2 => (h.ents e he).1 (e2 ▸ h2)⟩
theorem book_empty {w : World} {gB : Nat} (h : w.heap[gB]? = some (.cells #[.slice none 0 0, .slice none 0 0, .int .i64 0, .bool false] 49 (0, 0))) : BookIs w gB gB (gB + 1) (.slice none 0 0) (.slice none 0 0) [] :=
  ⟨h, Nat.le_refl _, Nat.lt_succ_self _, block_lt_of_row h, Or.inl ⟨rfl, rfl⟩, Or.inl ⟨rfl, rfl⟩, fun k hk => by simp [Value.ownBlock] at hk, fun k hk => by simp [Value.ownBlock] at hk, fun e he => by simp at he, by simp, by simp⟩
end Dg
open Dg in
set_option maxHeartbeats 6400000 in
set_option maxRecDepth 100000 in
theorem fairKept_walk (v : Value) (l0 : List S.Ln) (w : World) (hv : LnAt w v l0) :
   Calls Try.prog 7 #[v] w fun e w' => e = .returned (.bool true) ∧ Below w.heap.size w w' := by
  have HV := hide hv
  clear hv
  go_enter Try.func7, Try.ntmps7
  go_wp2_with fail
  go_at_call 12
  refine (small_any v l0 w HV.out).mono ?_
  rintro e W1 ⟨u0, rfl, hu, hb⟩
  obtain ⟨l, hl⟩ : ∃ l, l = S.small l0 := ⟨_, rfl⟩
  rw [← hl] at hu
  have HM : Hid ((∀ x ∈ l, S.Mild x) ∧ l.length ≤ 20) := by rw [hl]; exact ⟨S.small_mild l0, S.small_length l0⟩
  obtain ⟨gB, hgB⟩ : ∃ gB, gB = W1.heap.size := ⟨_, rfl⟩
  have HU : Hid (∀ g off n c, u0 = .slice (some ⟨g, off, none⟩) n c → g < gB) := fun g off n c e => by
    rw [hgB]
    exact (hu.blk (j := g) (by rw [e]; rfl)).2.1
  have U1 := hide hu.lnAt
  have B1 := hide hb
  clear hl hu hb HV
  go_upto_region 3 with fail
  generalize hX : World.alloc _ _ = X
  have X0 : Hid (BookIs X gB gB (gB + 1) (.slice none 0 0) (.slice none 0 0) [] ∧ LnAt X u0 l ∧ Below w.heap.size w X ∧ w.heap.size ≤ gB) := by
    have := B1.out.size
    show _ ∧ _ ∧ _ ∧ _
    rw [← hX, hgB]
    exact ⟨book_empty (heap_alloc_new _ _), U1.out.below (one_below _ _), B1.out.trans ((one_below _ _).mono this), this⟩
  rw [← hgB]
  clear hX hgB U1 B1
  go_wp2_with fail
  go_loopw [4] (fun s4 wr => ∃ (i top : Nat) (vl vw : Value) (es : List Entry), i ≤ 2 ∧ s4 = .int .i64 (i : Int) ∧ es.length ≤ i ∧ Hid (BookIs wr gB gB top vl vw es) ∧ Hid (LnAt wr u0 l) ∧ Hid (Below w.heap.size w wr)) (fun s4 _ => 2 - (intOf s4).toNat)
  case atStart => exact ⟨0, gB + 1, _, _, [], by omega, rfl, by simp, X0.out.1, X0.out.2.1, X0.out.2.2.1⟩
  case round =>
    obtain ⟨i, top, vl, vw, es, hi, rfl, hes, BK, LN, BW⟩ := hrel
    have GW : Hid (w.heap.size ≤ gB) := X0.out.2.2.2
    clear X0
    by_cases hi2 : i < 2
    · have p1 : (i : Int) < 2 := by omega
      have q1 : IntKind.i64.wrap ((i : Int) + 1) = (i : Int) + 1 := wrap_small (by omega) (by omega)
      have HI := hide (And.intro hi2 hes)
      clear hi hi2 hes
      go_wp2_with fail
      go_at_call 9
      refine (Serve_row u0 l 0 1 wr LN.out HM.out.1 (by have := HM.out.2; omega)).mono ?_
      rintro e W2 ⟨g, rfl, hg, hrow, hb⟩
      obtain ⟨t1, ht1⟩ : ∃ t1, t1 = S.lane l (S.pos 0 l.length) := ⟨_, rfl⟩
      obtain ⟨t2, ht2⟩ : ∃ t2, t2 = S.took l (S.pos 0 l.length) 1 := ⟨_, rfl⟩
      obtain ⟨t3, ht3⟩ : ∃ t3, t3 = (S.next l (S.pos 0 l.length) : Int) := ⟨_, rfl⟩
      obtain ⟨A, hA⟩ : ∃ A, A = S.after l (S.pos 0 l.length) 1 := ⟨_, rfl⟩
      have hAl : l.length = A.length := by rw [hA, S.after_length]
      rw [← ht1, ← ht2, ← ht3, hAl]
      rw [← hA] at hrow
      have HA : Hid (A.length ≤ 20) := by show A.length ≤ 20; rw [← hAl]; exact HM.out.2
      have BK2 := hide (BK.out.below hb)
      have LN2 := hide (LN.out.below hb)
      have BW2 := hide (BW.out.trans (hb.mono BW.out.size))
      have HG : Hid (W2.heap[g]? = some (.cells (A.flatMap encL).toArray 28 (0, 0)) ∧ top ≤ g ∧ gB ≤ g) := ⟨hrow, Nat.le_trans BK.out.top_le hg, by have := BK.out.hi; have := BK.out.top_le; omega⟩
      clear ht1 ht2 ht3 hA hAl hb hrow hg BK LN BW
      obtain ⟨na, hna⟩ : ∃ na, na = A.length := ⟨_, rfl⟩
      rw [← hna]
      have HNA := hide hna
      clear hna
      go_upto_region 7 with fail
      generalize hX : World.alloc _ _ = Y
      have bY : Below W2.heap.size W2 Y := by rw [← hX]; exact one_below _ _
      have BK3 := hide (BK2.out.below bY)
      have LN3 := hide (LN2.out.below bY)
      have BW3 := hide (BW2.out.trans (bY.mono BW2.out.size))
      have RM : Hid (Dg.Room Y g na A) := by
        have e : (A.flatMap encL).length = A.length * 3 := flat_gen A (lenL A)
        refine ⟨_, (bY.block g (block_lt_of_row HG.out.1)).trans HG.out.1, by rw [List.size_toArray, e, HNA.out], by rw [HNA.out]; exact Nat.le_refl _, ?_, by have := HA.out; omega⟩
        show List.take (A.length * 3) (A.flatMap encL) = _
        rw [← e, List.take_length]
      generalize W2.heap.size = gt
      clear hX bY BK2 LN2 BW2
      go_wp2_with fail
      go_at_call 20
      rw [HNA.out] at RM ⊢
      refine (keep_any (fun _ => False) (fun _ => False) gB gB top g A.length vl vw A es Y BK3.out RM.out (BK3.out.new HG.out.2.1) HG.out.2.2 (by have := HA.out; omega) (by have := HA.out; omega) (by have := HI.out; omega) (BK3.out.nos _ _ (fun _ h => h.elim) (fun _ h => h.elim)) (fun _ _ h => h) (fun h => h)).mono ?_
      rintro e W4 ⟨rfl, ⟨vl', vw', es', hbk, hle, -⟩, hk⟩
      have BK4 := hide hbk
      have LN4 : Hid (LnAt W4 u0 l) := LN3.out.chg (p := fun z => gB ≤ z) (Chg.ofBelow hk.1 (fun z _ h => h)) (fun g off n c e h => by have := HU.out g off n c e; omega)
      have BW4 := hide (BW3.out.trans (hk.1.mono GW.out))
      have HE : Hid (es'.length ≤ i + 1) := by show es'.length ≤ i + 1; have := HI.out; omega
      clear hbk hle hk BK3 LN3 BW3
      go_wp2
      exact ⟨⟨i + 1, _, vl', vw', es', by have := HI.out; omega, by simp, HE.out, BK4, LN4, BW4⟩, by simp [intOf]; have := HI.out; omega⟩
    · obtain rfl : i = 2 := by omega
      clear hi hi2 hes
      go_wp2_with fail
      go_at_call 21
      refine (apart_any gB gB top vl vw es wr BK.out).mono ?_
      rintro e W5 ⟨rfl, hk⟩
      have B5 := hide (BW.out.trans (hk.1.mono GW.out))
      clear hk BK
      go_wp2_with fail
      go_at_call 11
      refine (known_any W5).mono ?_
      rintro e W6 ⟨rfl, hb⟩
      have B6 := hide (B5.out.trans (hb.mono B5.out.size))
      clear hb
      go_wp2
      go_ret
      exact ⟨rfl, B6.out⟩
end Go.Proofs.Ytnplijgdklnipaa
