/- MerkleKept. -/
import Derived.Test.YtmhmebblmgfgaaaDoorQg
import Derived.Test.YtmhmebblmgfgaaaDoorOc
import Derived.Test.YtmhmebblmgfgaaaDoorWithin
namespace Go.Proofs.YtmhmebblmgfgaaaDoor
open Go.RowKit

namespace Dg
theorem BookIs.below {w W : World} {gB base top : Nat} {vl vw : Value} {es : List Entry} (h : BookIs w gB base top vl vw es) (hb : Below w.heap.size w W) : BookIs W gB base top vl vw es := by
  have ht := h.top_le
  have hf : Fr gB vl vw w W := ⟨hb.os, hb.tape, hb.output, hb.size, fun k hk _ _ _ => hb.block k hk⟩
  exact ⟨(hb.block gB (Nat.lt_of_lt_of_le h.hi ht)).trans h.row, h.lo, h.hi, Nat.le_trans ht hb.size, h.lists.kept fun k hk => hb.block k (h.lists.lt hk), h.was.kept fun k hk => hb.block k (h.was.lt hk), h.vlSep, h.vwSep,
    fun e he => (h.ents e he).kept hf ht (Nat.le_refl _) (fun k hk => Or.inl hk) (fun k hk => Or.inl hk), h.nodup, h.few⟩
/-- A list that lies behind all of the book. -/
theorem BookIs.new {w : World} {gB base top g : Nat} {vl vw : Value} {es : List Entry} (h : BookIs w gB base top vl vw es) (hg : top ≤ g) : BookNew g gB vl vw es :=
  ⟨by have := h.hi; omega, fun e => by have := (h.vlSep g e).2.1; omega, fun e => by have := (h.vwSep g e).2.1; omega, fun e he e2 => by have := (h.ents e he).2.2.1; omega⟩
theorem BookIs.no {w : World} {gB base top g : Nat} {vl vw : Value} {es : List Entry} (h : BookIs w gB base top vl vw es) (hg : top ≤ g) : BookNo (fun k => k = g) vl vw es :=
  ⟨fun k e e2 => by have := (h.vlSep k e).2.1; omega, fun k e e2 => by have := (h.vwSep k e).2.1; omega, fun e he => ⟨fun e2 => by have := (h.ents e he).2.2.1; omega, fun k hk e2 => by have := ((h.ents e he).2.2.2.2.2.2.2.1 k hk).1; omega⟩⟩
theorem BookNo.new {g gB : Nat} {vl vw : Value} {es : List Entry} (h : BookNo (fun k => k = g) vl vw es) (hg : g ≠ gB) : BookNew g gB vl vw es :=
  ⟨hg, fun e => h.vl g e rfl, fun e => h.vw g e rfl, fun e he e2 => (h.ents e he).1 e2⟩
theorem book_empty {w : World} {gB : Nat} (h : w.heap[gB]? = some (.cells #[.slice none 0 0, .slice none 0 0, .int .i64 0, .bool false] 52 (0, 0))) : BookIs w gB gB (gB + 1) (.slice none 0 0) (.slice none 0 0) [] :=
  ⟨h, Nat.le_refl _, Nat.lt_succ_self _, block_lt_of_row h, Or.inl ⟨rfl, rfl⟩, Or.inl ⟨rfl, rfl⟩, fun k hk => by simp [Value.ownBlock] at hk, fun k hk => by simp [Value.ownBlock] at hk, fun e he => by simp at he, by simp, by simp⟩
/-- A row of digests that is not empty is a room. -/
theorem DgRow.room {B : Nat} {w : World} {v : Value} {ds : List (List UInt8)} (h : DgRow B w v ds) (hp : 0 < ds.length) (hd : ∀ d ∈ ds, d.length = 32) (hl : ds.length ≤ 1000) : ∃ g cap, v = .slice (some ⟨g, 0, none⟩) ds.length cap ∧ Room w g cap ds ∧ B ≤ g ∧ cap ≤ 9223372036854775807 := by
  rcases h.2 with ⟨rfl, h0⟩ | ⟨g, cap, cur, rfl, hB, hr, h1, h2, h3, h4⟩
  · omega
  · exact ⟨g, cap, rfl, ⟨cur, hr, h3, h1, h4, hd, hl⟩, hB, by simp only [maxLen] at h2; omega⟩
end Dg
theorem S.path_pos (a : Int) (l : List (List UInt8)) (i : Nat) (h : 2 ≤ l.length) : 0 < (S.path a l i).length := by
  by_cases hi : i < S.half l.length
  · rw [S.path_left a l i h hi, List.length_append]; simp
  · rw [S.path_right a l i h hi, List.length_append]; simp
theorem S.grow_pos (a : Int) (l : List (List UInt8)) (m : Nat) (b : Bool) (h : 2 ≤ l.length) (hm : m ≠ l.length) : 0 < (S.grow a l m b).length := by
  by_cases hi : m ≤ S.half l.length
  · rw [S.grow_left a l m b h hm hi, List.length_append]; simp
  · rw [S.grow_right a l m b h hm hi, List.length_append]; simp
open Dg in
set_option maxHeartbeats 8000000 in
set_option maxRecDepth 10000 in
theorem merkleKept_walk (a n0 : Int) (w : World) (h1 : -9223372036854775808 ≤ n0) (h2 : n0 ≤ 9223372036854775807) (hK : KAt w) :
   Calls Tryd.prog 7 #[.int .i64 a, .int .i64 n0] w fun e w' => e = .returned (.bool true) ∧ Below w.heap.size w w' := by
  have HK := hide hK
  have h0 := hK.pos
  clear hK
  go_enter Tryd.func7, Tryd.ntmps7
  go_wp2_with fail
  refine (within_any n0 30 w h1 h2 (by omega) (by omega)).mono ?_
  rintro e w1 ⟨rfl, rfl⟩
  have hj := S.within_le n0 30 (by omega)
  obtain ⟨N0, hN⟩ : ∃ N, N = S.within n0 30 := ⟨_, rfl⟩
  rw [← hN] at hj ⊢
  clear hN h1 h2
  obtain ⟨N, hN⟩ : ∃ N, N = N0 + 2 := ⟨_, rfl⟩
  have q1 : IntKind.i64.wrap ((N0 : Int) + 2) = (N : Int) := by rw [IntKind.wrap_i64]; omega
  have hN2 : 2 ≤ N := by omega
  have hN32 : N ≤ 32 := by omega
  clear hN
  go_wp2_with fail
  clear q1 hj
  refine (list_any N 1 (by omega) w).mono ?_
  rintro e w1 ⟨vl, rfl, t1, b1⟩
  obtain ⟨lo, lc, rfl⟩ := t1.form
  have hlen : (S.lst N 1).length = N := S.lst_length _ _
  have hb := t1.bsAt
  obtain ⟨L, hL⟩ : ∃ L, L = S.lst N 1 := ⟨_, rfl⟩
  have hfit : Fit L := by rw [hL]; exact S.lst_fit _ _
  rw [← hL] at hb hlen ⊢
  rw [hlen] at hb ⊢
  have HLN := hide hlen
  have HF := hide hfit
  have V1 := hide hb
  have B1 := hide b1
  obtain ⟨ps, hps⟩ : ∃ ps, ps = S.prove a L 1 := ⟨_, rfl⟩
  obtain ⟨qs, hqs⟩ : ∃ qs, qs = S.comp_ a L 1 := ⟨_, rfl⟩
  have PP := hide (show 0 < ps.length ∧ (∀ d ∈ ps, d.length = 32) ∧ ps.length ≤ 1000 by
    rw [hps]
    refine ⟨?_, S.prove_len32 a L 1, by have := S.prove_len a L 1 8 (by rw [HLN.out]; omega); omega⟩
    rw [S.prove, if_pos (by rw [HLN.out]; omega)]
    exact S.path_pos a L 1 (by rw [HLN.out]; exact hN2))
  have QQ := hide (show 0 < qs.length ∧ (∀ d ∈ qs, d.length = 32) ∧ qs.length ≤ 1000 by
    rw [hqs]
    refine ⟨?_, S.comp_len32 a L 1, by have := S.comp_len a L 1 8 (by rw [HLN.out]; omega); omega⟩
    rw [S.comp_, if_neg (by rw [HLN.out]; omega)]
    exact S.grow_pos a L 1 true (by rw [HLN.out]; exact hN2) (by rw [HLN.out]; omega))
  have HPS := hide hps
  have HQS := hide hqs
  clear t1 b1 hlen hb hL hfit hps hqs
  go_wp2_with fail
  obtain ⟨gB, hgB⟩ : ∃ g, g = w1.heap.size := ⟨_, rfl⟩
  rw [← hgB]
  generalize hWB : w1.alloc _ = WB
  have rB : WB.heap[gB]? = some (.cells #[.slice none 0 0, .slice none 0 0, .int .i64 0, .bool false] 52 (0, 0)) := by rw [← hWB, hgB]; exact heap_alloc_new _ _
  have bB : Below gB w1 WB := by rw [← hWB, hgB]; exact (Below.refl _ _).alloc (Nat.le_refl _) _
  have BK0 := hide (book_empty rB)
  have BB := hide bB
  have HGB := hide hgB
  clear hWB rB bB hgB
  go_loopw [7] (fun i wr => ∃ k : Nat, k ≤ 2 ∧ i = .int .i64 (k : Int) ∧ Below gB w1 wr ∧ ∃ vl vw es top, BookIs wr gB gB top vl vw es ∧ es.length ≤ 2 * k) (fun i _ => 2 - (intOf i).toNat)
  case atStart => exact ⟨0, by omega, rfl, BB.out, _, _, _, _, BK0.out, by simp⟩
  case round =>
    obtain ⟨k, hk, rfl, hbw, vl, vw, es, top, hbk, hes⟩ := hrel
    have BW := hide hbw
    have BK := hide hbk
    clear hbw hbk BK0 BB
    by_cases hlt : k < 2
    · have q1 : (k : Int) < 2 := by omega
      have q4 : IntKind.i64.wrap ((k : Int) + 1) = (k : Int) + 1 := by rw [IntKind.wrap_i64]; omega
      have KW := hide (HK.out.below (B1.out.trans (BW.out.mono (by rw [HGB.out]; exact B1.out.size))) h0)
      have VW := hide (V1.out.below BW.out (by rw [HGB.out]; exact Nat.le_refl _))
      go_wp2_with fail
      refine (prove_lit a L _ 1 1 rfl wr (by omega) (by rw [HLN.out]; omega) VW.out HF.out KW.out).mono ?_
      rintro e w2 ⟨⟨vp, rfl, p2⟩, b2⟩
      rw [← HPS.out] at p2
      obtain ⟨gp, cp, rfl, rp, hgp, hcp⟩ := DgRow.room p2 PP.out.1 PP.out.2.1 PP.out.2.2
      obtain ⟨pn, hpn⟩ : ∃ pn, pn = S.proveNo L 1 := ⟨_, rfl⟩
      rw [← hpn]
      have RP := hide rp
      have V2 := hide (VW.out.below b2 (Nat.le_refl _))
      have K2 := hide (KW.out.below b2 (by have := KW.out.pos; exact this))
      have BK2 := hide (BK.out.below b2)
      have B2 := hide (BW.out.trans (b2.mono (by have := BK.out.hi; have := BK.out.top_le; omega)))
      have GP := hide (show top ≤ gp from Nat.le_trans BK.out.top_le hgp)
      obtain ⟨pl, hpl⟩ : ∃ pl, pl = ps.length := ⟨_, rfl⟩
      rw [← hpl]
      have HPL := hide hpl
      have S2 := hide (show top ≤ w2.heap.size from Nat.le_trans BK.out.top_le b2.size)
      clear p2 b2 rp hgp hpn hpl BK BW VW KW
      go_wp2_with fail
      refine (compare_lit a L _ 1 1 rfl w2 (by omega) (by rw [HLN.out]; omega) V2.out HF.out K2.out).mono ?_
      rintro e w3 ⟨⟨vq, rfl, p3⟩, b3⟩
      rw [← HQS.out] at p3
      obtain ⟨gq, cq, rfl, rq, hgq, hcq⟩ := DgRow.room p3 QQ.out.1 QQ.out.2.1 QQ.out.2.2
      obtain ⟨qn, hqn⟩ : ∃ qn, qn = S.compNo L 1 := ⟨_, rfl⟩
      rw [← hqn]
      have RQ3 := hide rq
      have hgpl : gp < w2.heap.size := by obtain ⟨_, q, _⟩ := RP.out; exact block_lt_of_row q
      have RP3 := hide (RP.out.below b3 hgpl)
      have BK3 := hide (BK2.out.below b3)
      have B3 := hide (B2.out.trans (b3.mono (by have := BK2.out.hi; have := BK2.out.top_le; omega)))
      have GQ := hide (show top ≤ gq ∧ gp ≠ gq from ⟨Nat.le_trans S2.out hgq, by omega⟩)
      obtain ⟨ql, hql⟩ : ∃ ql, ql = qs.length := ⟨_, rfl⟩
      rw [← hql]
      have HQL := hide hql
      clear p3 b3 rq hgq hqn hql hgpl BK2 B2 RP V2 K2 S2
      go_wp2_with fail
      have hbl := BK3.out.lo
      have C1 := keep_any (fun j => j = gq) gB gB top gp cp vl vw ps es w3 BK3.out RP3.out (BK3.out.new GP.out) (by have := BK3.out.hi; have := GP.out; omega) hcp PP.out.2.2 (by omega) (BK3.out.no GQ.out.1) (fun j hj e => by have := (show gq < w3.heap.size from by obtain ⟨_, q, _⟩ := RQ3.out; exact block_lt_of_row q); omega) GQ.out.2
      rw [← HPL.out] at C1
      refine C1.mono ?_
      clear C1
      rintro e w4 ⟨rfl, ⟨vl', vw', es', hb4, hes4, hno4⟩, hkf⟩
      have BK4 := hide hb4
      have NO4 := hide hno4
      have B4 := hide (B3.out.trans hkf.1)
      have RQ4 : Hid (Dg.Room w4 gq cq qs) := by
        obtain ⟨cur, q1, q2⟩ := RQ3.out
        exact ⟨cur, (hkf.2 gq GQ.out.1 (block_lt_of_row q1)).trans q1, q2⟩
      have hgqB : gB ≤ gq ∧ gq ≠ gB := by have := BK3.out.hi; have := GQ.out.1; omega
      have hes5 : es'.length < 100 ∧ es'.length ≤ 2 * k + 1 := by omega
      clear hb4 hno4 hkf hes4 BK3 RP3 B3 hbl
      go_wp2_with fail
      have C2 := keep_any (fun _ => False) gB gB w4.heap.size gq cq vl' vw' qs es' w4 BK4.out RQ4.out (NO4.out.new hgqB.2) hgqB.1 hcq QQ.out.2.2 hes5.1 ⟨fun _ _ e => e, fun _ _ e => e, fun _ _ => ⟨fun e => e, fun _ _ e => e⟩⟩ (fun _ _ e => e) (fun e => e)
      rw [← HQL.out] at C2
      refine C2.mono ?_
      clear C2
      rintro e w5 ⟨rfl, ⟨vl2, vw2, es2, hb5, hes6, _⟩, hkf⟩
      have BK5 := hide hb5
      have B5 := hide (B4.out.trans hkf.1)
      have hes7 : es2.length ≤ 2 * (k + 1) := by omega
      clear hb5 hkf hes6 BK4 NO4 RQ4 B4
      go_wp2_with fail
      go_roundw
      case rel => exact ⟨k + 1, by omega, by go_num, B5.out, _, _, _, _, BK5.out, hes7⟩
      case measure => simp [intOf]; omega
    · obtain rfl : k = 2 := by omega
      go_wp2_with fail
      refine (apart_any gB gB top vl vw es wr BK.out).mono ?_
      rintro e w2 ⟨rfl, hkf⟩
      have B2 := hide (BW.out.trans hkf.1)
      clear hkf
      go_wp2_with fail
      refine (known_any w2 (HK.out.below (B1.out.trans (B2.out.mono (by rw [HGB.out]; exact B1.out.size))) h0)).mono ?_
      rintro e w9 ⟨rfl, b9⟩
      have hsz : gB ≤ w2.heap.size := Nat.le_trans (by rw [HGB.out]; exact Nat.le_refl _) B2.out.size
      have B9 := hide ((B1.out.trans (B2.out.mono (by rw [HGB.out]; exact B1.out.size))).trans (b9.mono (Nat.le_trans B1.out.size (by rw [← HGB.out]; exact hsz))))
      clear b9
      go_wp2_with fail
      go_ret
      exact ⟨rfl, B9.out⟩
end Go.Proofs.YtmhmebblmgfgaaaDoor
