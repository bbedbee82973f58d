/- CompactKept. -/
import Derived.Test.YtkljajfgdelfgaaDoorHc
import Derived.Test.YtkljajfgdelfgaaDoorQg
namespace Go.Proofs.YtkljajfgdelfgaaDoor
open Go.RowKit
namespace Dg
theorem BookIs.below {w W : World} {gB base top : Nat} {vl vw : Value} {es : List Entry} (h : BookIs w gB base top vl vw es) (hb : Below w.heap.size w W) : BookIs W gB base top vl vw es := by
  have ht := h.top_le
  have hf : Fr gB vl vw w W := ⟨hb.os, hb.tape, hb.output, hb.size, fun k hk _ _ _ => hb.block k hk⟩
  exact ⟨(hb.block gB (Nat.lt_of_lt_of_le h.hi ht)).trans h.row, h.lo, h.hi, Nat.le_trans ht hb.size, h.lists.kept fun k hk => hb.block k (h.lists.lt hk), h.was.kept fun k hk => hb.block k (h.was.lt hk), h.vlSep, h.vwSep,
    fun e he => (h.ents e he).kept hf ht (Nat.le_refl _) (fun k hk => Or.inl hk) (fun k hk => Or.inl hk), h.nodup, h.few⟩
/-- A list that lies behind all of the book. -/
theorem BookIs.new {w : World} {gB base top g : Nat} {vl vw : Value} {es : List Entry} (h : BookIs w gB base top vl vw es) (hg : top ≤ g) : BookNew g gB vl vw es :=
  ⟨by have := h.hi; omega, fun e => by have := (h.vlSep g e).2.1; omega, fun e => by have := (h.vwSep g e).2.1; omega, fun e he e2 => by have := (h.ents e he).2.2.1; omega⟩
theorem BookIs.no {w : World} {gB base top g : Nat} {vl vw : Value} {es : List Entry} (h : BookIs w gB base top vl vw es) (hg : top ≤ g) : BookNo (fun k => k = g) vl vw es :=
  ⟨fun k e e2 => by have := (h.vlSep k e).2.1; omega, fun k e e2 => by have := (h.vwSep k e).2.1; omega, fun e he => ⟨fun e2 => by have := (h.ents e he).2.2.1; omega, fun k hk e2 => by have := ((h.ents e he).2.2.2.2.2.2.2.1 k hk).1; omega⟩⟩
theorem BookNo.new {g gB : Nat} {vl vw : Value} {es : List Entry} (h : BookNo (fun k => k = g) vl vw es) (hg : g ≠ gB) : BookNew g gB vl vw es :=
  ⟨hg, fun e => h.vl g e rfl, fun e => h.vw g e rfl, fun e he e2 => (h.ents e he).1 e2⟩
theorem book_empty {w : World} {gB : Nat} (h : w.heap[gB]? = some (.cells #[.slice none 0 0, .slice none 0 0, .int .i64 0, .bool false] 66 (0, 0))) : BookIs w gB gB (gB + 1) (.slice none 0 0) (.slice none 0 0) [] :=
  ⟨h, Nat.le_refl _, Nat.lt_succ_self _, block_lt_of_row h, Or.inl ⟨rfl, rfl⟩, Or.inl ⟨rfl, rfl⟩, fun k hk => by simp [Value.ownBlock] at hk, fun k hk => by simp [Value.ownBlock] at hk, fun e he => by simp at he, by simp, by simp⟩
/-- A row of digests that is not empty is a room. -/
theorem DgRow.room {B : Nat} {w : World} {v : Value} {ds : List (List UInt8)} (h : DgRow B w v ds) (hp : 0 < ds.length) (hd : ∀ d ∈ ds, d.length = 32) (hl : ds.length ≤ 1000) : ∃ g cap, v = .slice (some ⟨g, 0, none⟩) ds.length cap ∧ Room w g cap ds ∧ B ≤ g ∧ cap ≤ 9223372036854775807 := by
  rcases h.2 with ⟨rfl, h0⟩ | ⟨g, cap, cur, rfl, hB, hr, h1, h2, h3, h4⟩
  · omega
  · exact ⟨g, cap, rfl, ⟨cur, hr, h3, h1, h4, hd, hl⟩, hB, by simp only [maxLen] at h2; omega⟩
end Dg

namespace Dg
theorem BookIs.nos {w : World} {gB base top : Nat} {vl vw : Value} {es : List Entry} (H : Nat → Prop) (h : BookIs w gB base top vl vw es) (hH : ∀ k, H k → top ≤ k) : BookNo H vl vw es :=
  ⟨fun k e e2 => by have := (h.vlSep k e).2.1; have := hH k e2; omega, fun k e e2 => by have := (h.vwSep k e).2.1; have := hH k e2; omega, fun e he => ⟨fun e2 => by have := (h.ents e he).2.2.1; have := hH _ e2; omega, fun k hk e2 => by have := ((h.ents e he).2.2.2.2.2.2.2.1 k hk).1; have := hH k e2; omega⟩⟩
theorem book_far {w W : World} {gB base top g : Nat} {vl vw : Value} {es : List Entry} (h : BookIs w gB base top vl vw es) (hc : Chg (fun k => k = g) w W) (hg : top ≤ g) : BookIs W gB base top vl vw es := by
  have ht := h.top_le
  have hlo : ∀ k, k < top → W.heap[k]? = w.heap[k]? := fun k hk => hc.block k (by omega) (by omega)
  refine ⟨(hlo gB h.hi).trans h.row, h.lo, h.hi, Nat.le_trans ht hc.size, h.lists.kept fun k hk => hlo k (h.vlSep k hk).2.1, h.was.kept fun k hk => hlo k (h.vwSep k hk).2.1, h.vlSep, h.vwSep, fun e he => ?_, h.nodup, h.few⟩
  obtain ⟨r1, r2, r3, r4, r5, r6, r7, r8, r9⟩ := h.ents e he
  refine ⟨?_, r2, r3, r4, r5, r6, r7.kept fun k hk => hlo k (r8 k hk).1, r8, r9⟩
  obtain ⟨cur, q1, q2⟩ := r1
  exact ⟨cur, (hlo _ r3).trans q1, q2⟩
theorem BookNo.mono {H H' : Nat → Prop} {vl vw : Value} {es : List Entry} (h : BookNo H vl vw es) (hH : ∀ k, H' k → H k) : BookNo H' vl vw es :=
  ⟨fun k e e2 => h.vl k e (hH k e2), fun k e e2 => h.vw k e (hH k e2), fun e he => ⟨fun e2 => (h.ents e he).1 (hH _ e2), fun k hk e2 => (h.ents e he).2 k hk (hH k e2)⟩⟩
end Dg
namespace C
theorem glue_all {α : Type} (nd : α → α → α) (z : α) (P : α → Prop) (hnd : ∀ a b, P (nd a b)) (p m e : Nat) (ha hb : List α) (h1 : p ≤ m) (h2 : m ≤ e) (he : e ≤ 2 ^ 32) (la : ha.length = (blocks p m).length) (lb : hb.length = (blocks m e).length) (pa : ∀ x ∈ ha, P x) (pb : ∀ x ∈ hb, P x) : ∀ x ∈ glue nd z p m e ha hb, P x := by
  have t1 := blocks_tiles _ p m rfl h1 (by omega)
  have t2 := blocks_tiles _ m e rfl h2 he
  have t3 := tiles_append _ _ _ _ _ t1 t2
  have hl : (ha ++ hb).length = (blocks p m ++ blocks m e).length := by rw [List.length_append, List.length_append, la, lb]
  have key : ∀ k, k ≤ (blocks p m ++ blocks m e).length → ∃ st, Inv nd z p e (blocks p m ++ blocks m e) (ha ++ hb) k st ∧ ∀ f ∈ st, P f.h := by
    intro k
    induction k with
    | zero => intro _; exact ⟨[], Inv.start nd z p e _ _ t3 hl, fun f hf => by simp at hf⟩
    | succ k ih =>
      intro hk
      obtain ⟨st, hi, hp⟩ := ih (by omega)
      obtain ⟨x, hx, -, hn⟩ := Inv.item nd z hi (by omega)
      refine ⟨_, hn, push_all nd P hnd st x hp ?_⟩
      have hm : x.h ∈ ha ++ hb := by
        rw [← mkB_h (blocks p m ++ blocks m e) (ha ++ hb) p hl]
        exact List.mem_map_of_mem (List.mem_of_getElem? hx)
      rcases List.mem_append.1 hm with h | h
      · exact pa _ h
      · exact pb _ h
  obtain ⟨st, hi, hp⟩ := key _ (Nat.le_refl _)
  intro x hx
  rw [← Inv.done nd z hi he rfl hl] at hx
  rw [List.mem_map] at hx
  obtain ⟨f, hf, rfl⟩ := hx
  exact hp f (List.mem_reverse.1 hf)
end C
theorem Ansd.at {w w' : World} {r : Ending} {b e n : Nat} {hs : List (List UInt8)} (h : Ansd w w' r ⟨b, e, hs, n⟩) : ∃ vo vc, r = .returned (.tuple #[.agg #[.int .u64 (b : Int), .int .u64 (e : Int), .slice vo hs.length vc], .int .i64 (n : Int)]) ∧ DgRow w.heap.size w' (.slice vo hs.length vc) hs ∧ Below w.heap.size w w' := by
  obtain ⟨⟨v, h1, h2⟩, h3⟩ := h
  obtain ⟨vo, vc, rfl⟩ := h2.form
  exact ⟨vo, vc, h1, h2, h3⟩
open Dg in
set_option maxHeartbeats 80000000 in
set_option maxRecDepth 10000 in
theorem compactKept_walk (a n0 : Int) (w : World) (h1 : -9223372036854775808 ≤ n0) (h2 : n0 ≤ 9223372036854775807) (hK : KAt w) :
   Calls Tryd.prog 8 #[.int .i64 a, .int .i64 n0] w fun e w' => e = .returned (.bool true) ∧ Below w.heap.size w w' := by
  have HK := hide hK
  have h0 := hK.pos
  clear hK
  have hbu : ∀ W : World, (Instr.build 23 #[]).run Tryd.prog W = .ok (.agg (S.v8 (S.zeros 32))) W := fun W => congrFun zero_dig W
  go_enter Tryd.func8, Tryd.ntmps8
  go_wp2_with fail
  refine (within_any n0 30 w h1 h2 (by omega) (by omega)).mono ?_
  rintro e w1 ⟨rfl, rfl⟩
  have hj := S.within_le n0 30 (by omega)
  obtain ⟨N0, hN⟩ : ∃ N, N = S.within n0 30 := ⟨_, rfl⟩
  rw [← hN] at hj ⊢
  clear hN h1 h2
  obtain ⟨N, hN⟩ : ∃ N, N = N0 + 1 := ⟨_, rfl⟩
  have q1 : IntKind.i64.wrap ((N0 : Int) + 1) = (N : Int) := by rw [IntKind.wrap_i64]; omega
  have hN1 : 1 ≤ N := by omega
  have hN31 : N ≤ 31 := by omega
  clear hN
  go_wp2_with fail
  clear q1 hj
  refine (list10_any N (by omega) w).mono ?_
  rintro e w1 ⟨vl, rfl, tl, bl⟩
  obtain ⟨lo, lc, rfl⟩ := tl.form
  obtain ⟨l, hl⟩ : ∃ l, l = S.l10 N := ⟨_, rfl⟩
  have hfit : Fit l := by rw [hl]; exact S.l10_fit N
  have hlen : l.length = N := by rw [hl]; exact S.l10_length N
  rw [← hl] at tl ⊢
  have V1 := hide tl.bsAt
  rw [hlen] at V1 ⊢
  have HF := hide hfit
  have HLN := hide hlen
  have B1 := hide bl
  obtain ⟨O, hO⟩ : ∃ O, O = C.ofs a l 0 N := ⟨_, rfl⟩
  obtain ⟨G, hG⟩ : ∃ G, G = C.glue (S.node a) [] 0 N (N + 1) O [S.zeros 32] := ⟨_, rfl⟩
  have hO0 : 0 < O.length := by rw [hO, C.ofs_length, C.blocks_cons 0 N (by omega) (by omega)]; simp
  have hO32 : ∀ d ∈ O, d.length = 32 := by rw [hO]; exact C.ofs_32 a l 0 N
  have hO64 : O.length ≤ 64 := by rw [hO]; exact C.ofs_few a l 0 N
  have hOl : O.length = (C.blocks 0 N).length := by rw [hO]; exact C.ofs_length a l 0 N
  have hGl : G.length = (C.blocks 0 (N + 1)).length := by rw [hG]; exact C.glue_length (S.node a) [] 0 N (N + 1) O [S.zeros 32] (by omega) (by omega) (by omega) hOl (by rw [blocks_next N (by omega)]; rfl)
  have hG0 : 0 < G.length := by rw [hGl, C.blocks_cons 0 (N + 1) (by omega) (by omega)]; simp
  have hG64 : G.length ≤ 64 := by rw [hGl]; exact C.blocks_len 0 (N + 1)
  have hG32 : ∀ d ∈ G, d.length = 32 := by
    rw [hG]
    exact C.glue_all (S.node a) [] (fun d => d.length = 32) (fun _ _ => S.node_length _ _ _) 0 N (N + 1) O [S.zeros 32] (by omega) (by omega) (by omega) hOl (by rw [blocks_next N (by omega)]; rfl) hO32 (fun x hx => by simp only [List.mem_singleton] at hx; rw [hx]; exact S.zeros_length 32)
  have hof : C.ofA a l 0 N = ⟨0, N, O, 0⟩ := by rw [hO]; exact C.ofA_ofs a l 0 N (by omega) (by omega)
  have hrt : S.right 0 N O.length = true := by rw [hO]; exact C.right_ofs a l 0 N (by omega) (by omega)
  have had : C.addA a 0 N O (S.zeros 32) = ⟨0, N + 1, G, 0⟩ := by rw [C.addA, if_pos ⟨hrt, by omega⟩, hG]
  have hmg : C.mergeA a 0 N O N N [] = ⟨0, N, O, 0⟩ := by
    have h := C.mergeA_ofs a l 0 N N (by omega) (by omega) (by omega) (by omega)
    rw [show C.ofs a l N N = [] by rw [C.ofs, C.blocks_none N N (by omega)]; rfl, ← hO] at h
    exact h
  have OO := hide (And.intro hO0 (And.intro hO32 hO64))
  have GG := hide (And.intro hG0 (And.intro hG32 hG64))
  have HOF := hide hof
  have HAD := hide had
  have HMG := hide hmg
  have qn : IntKind.u64.wrap (N : Int) = (N : Int) := by rw [IntKind.wrap_u64]; omega
  clear tl bl hlen hl hfit hO hG hO0 hO32 hO64 hOl hGl hG0 hG64 hG32 hof hrt had hmg
  go_wp2_with fail
  obtain ⟨gB, hgB⟩ : ∃ g, g = w1.heap.size := ⟨_, rfl⟩
  rw [← hgB]
  generalize hWB : w1.alloc _ = WB
  have rB : WB.heap[gB]? = some (.cells #[.slice none 0 0, .slice none 0 0, .int .i64 0, .bool false] 66 (0, 0)) := by rw [← hWB, hgB]; exact heap_alloc_new _ _
  have bB : Below gB w1 WB := by rw [← hWB, hgB]; exact (Below.refl _ _).alloc (Nat.le_refl _) _
  have BK0 := hide (book_empty rB)
  have BB0 := hide bB
  have HGB := hide hgB
  clear hWB rB bB hgB
  go_loopw [7] (fun i wr => ∃ k : Nat, k ≤ 2 ∧ i = .int .i64 (k : Int) ∧ Below gB w1 wr ∧ ∃ vl vw es top, BookIs wr gB gB top vl vw es ∧ es.length ≤ 3 * k) (fun i _ => 2 - (intOf i).toNat)
  case atStart => exact ⟨0, by omega, rfl, BB0.out, _, _, _, _, BK0.out, by simp⟩
  case round =>
    obtain ⟨k, hk, rfl, hbw, vl, vw, es, top, hbk, hes⟩ := hrel
    have BW := hide hbw
    have BK := hide hbk
    clear hbw hbk BK0 BB0
    by_cases hlt : k < 2
    · have q1 : (k : Int) < 2 := by omega
      have q4 : IntKind.i64.wrap ((k : Int) + 1) = (k : Int) + 1 := by rw [IntKind.wrap_i64]; omega
      have BWW := hide (B1.out.trans (BW.out.mono (by rw [HGB.out]; exact B1.out.size)))
      have VW := hide (V1.out.below BW.out (by rw [HGB.out]; exact Nat.le_refl _))
      have T0 := hide BK.out.top_le
      go_wp2_with fail
      refine (of_lit a (.slice lo N lc) l 0 N 0 (N : Int) rfl rfl _ HOF.out wr (by omega) (by omega) VW.out (by rw [HLN.out]; omega) HF.out (HK.out.below BWW.out h0)).mono ?_
      rintro r V1' ha
      obtain ⟨or_, cr, rfl, hd, hb⟩ := ha.at
      obtain ⟨nr, hnr⟩ : ∃ n, n = O.length := ⟨_, rfl⟩
      rw [← hnr] at hd ⊢
      have HNR := hide hnr
      have DR := hide hd
      have BK1 := hide (BK.out.below hb)
      have BW1 := hide (BW.out.trans (hb.mono (by have := BK.out.hi; have := BK.out.top_le; omega)))
      have BWW1 := hide (BWW.out.trans (hb.mono BWW.out.size))
      have T1 := hide (show wr.heap.size ≤ V1'.heap.size from hb.size)
      clear hd hb hnr BK BW BWW VW
      go_upto_region 7 with fail
      generalize hA_ : V1'.alloc _ = V2
      obtain ⟨g8, hg8⟩ : ∃ g, g = V1'.heap.size := ⟨_, rfl⟩
      have hb : Below V1'.heap.size V1' V2 := by rw [← hA_]; exact (Below.refl _ _).alloc (Nat.le_refl _) _
      have R8 : Hid (V2.heap[g8]? = some (.cells #[.int .u64 0, .int .u64 (N : Int), .slice or_ nr cr] 30 (0, 0))) := by rw [← hA_, hg8]; exact heap_alloc_new _ _
      rw [← hg8]
      have DR2 := hide (Rw.below (el := 23) DR.out hb)
      have DRB := hide (show ∀ j, (Value.slice or_ nr cr).ownBlock = some j → wr.heap.size ≤ j ∧ j < V2.heap.size from fun j hj => ⟨(Rw.blk (el := 23) DR.out hj).1, Nat.lt_of_lt_of_le (Rw.blk (el := 23) DR.out hj).2.1 hb.size⟩)
      have G8 := hide (show wr.heap.size ≤ g8 ∧ g8 < V2.heap.size from ⟨by rw [hg8]; exact T1.out, block_lt_of_row R8.out⟩)
      have BK2 := hide (BK1.out.below hb)
      have BW2 := hide (BW1.out.trans (hb.mono (by have := BK1.out.hi; have := BK1.out.top_le; omega)))
      have BWW2 := hide (BWW1.out.trans (hb.mono BWW1.out.size))
      clear hA_ hb hg8 DR BK1 BW1 BWW1 T1
      obtain ⟨x0, x1, x2⟩ := cells3 R8.out
      go_wp2_with (with_reducible refine at_op { dst := some 34, op := Op.build 23 #[], type := 23, pos := "law.go:122", after := #[], guard := none } ?_; refine wpList_build_as rfl 23 [] rfl [] rfl (.agg (S.v8 (S.zeros 32))) (hbu _) ?_)
      refine (add_lit a 0 N 0 (N : Int) rfl rfl (.slice or_ nr cr) O (S.zeros 32) _ HAD.out V2 (by omega) (by omega) (S.zeros_length 32) (DgRow.dgAt DR2.out (by have := OO.out.2.2; omega) OO.out.2.1) (HK.out.below BWW2.out h0)).mono ?_
      rintro r V3 ha
      obtain ⟨os_, cs_, rfl, hd, hb⟩ := ha.at
      obtain ⟨ns, hns⟩ : ∃ n, n = G.length := ⟨_, rfl⟩
      rw [← hns] at hd ⊢
      have HNS := hide hns
      have DS := hide hd
      have R83 := hide ((hb.block _ (block_lt_of_row R8.out)).trans R8.out)
      have DR3 := hide (Rw.below (el := 23) DR2.out hb)
      have BK3 := hide (BK2.out.below hb)
      have BW3 := hide (BW2.out.trans (hb.mono (by have := BK2.out.hi; have := BK2.out.top_le; omega)))
      have BWW3 := hide (BWW2.out.trans (hb.mono BWW2.out.size))
      have T3 := hide (show V2.heap.size ≤ V3.heap.size from hb.size)
      clear hd hb hns BK2 BW2 BWW2 R8 DR2 x0 x1 x2
      go_upto_region 8 with fail
      generalize hA_ : V3.alloc _ = V4
      obtain ⟨g10, hg10⟩ : ∃ g, g = V3.heap.size := ⟨_, rfl⟩
      have hb : Below V3.heap.size V3 V4 := by rw [← hA_]; exact (Below.refl _ _).alloc (Nat.le_refl _) _
      have R10 : Hid (V4.heap[g10]? = some (.cells #[.int .u64 0, .int .u64 ((N + 1 : Nat) : Int), .slice os_ ns cs_] 30 (0, 0))) := by rw [← hA_, hg10]; exact heap_alloc_new _ _
      rw [← hg10]
      have R84 := hide ((hb.block _ (block_lt_of_row R83.out)).trans R83.out)
      have DR4 := hide (Rw.below (el := 23) DR3.out hb)
      have DS4 := hide (Rw.below (el := 23) DS.out hb)
      have DSB := hide (show ∀ j, (Value.slice os_ ns cs_).ownBlock = some j → V2.heap.size ≤ j ∧ j < V4.heap.size from fun j hj => ⟨(Rw.blk (el := 23) DS.out hj).1, Nat.lt_of_lt_of_le (Rw.blk (el := 23) DS.out hj).2.1 hb.size⟩)
      have G10 := hide (show V2.heap.size ≤ g10 ∧ g10 < V4.heap.size from ⟨by rw [hg10]; exact T3.out, block_lt_of_row R10.out⟩)
      have BK4 := hide (BK3.out.below hb)
      have BW4 := hide (BW3.out.trans (hb.mono (by have := BK3.out.hi; have := BK3.out.top_le; omega)))
      have BWW4 := hide (BWW3.out.trans (hb.mono BWW3.out.size))
      have TV := hide (show top ≤ V4.heap.size from BK4.out.top_le)
      clear hA_ hb hg10 DS DR3 R83 BK3 BW3 BWW3 T3
      go_wp2_with fail
      refine wp_region_noPanic ?_
      refine wp_region_held_drew (S := (fun W => Chg (fun _ => False) V4 W)) follows ((Chg.refl _ _).drew) (fun hHeld => ?_)
      clear hHeld
      have hHeld : Chg (fun _ => False) V4 V4.drew := (Chg.refl _ _).drew
      have CZ0 := hide hHeld
      have R84' : Hid (V4.drew.heap[g8]? = some (.cells #[.int .u64 0, .int .u64 (N : Int), .slice or_ nr cr] 30 (0, 0))) := R84.out
      have R10' : Hid (V4.drew.heap[g10]? = some (.cells #[.int .u64 0, .int .u64 ((N + 1 : Nat) : Int), .slice os_ ns cs_] 30 (0, 0))) := R10.out
      have BK4' : Hid (BookIs V4.drew gB gB top vl vw es) := BK4.out.below ((Below.refl _ _).drew)
      have DR4' : Hid (DgRow wr.heap.size V4.drew (.slice or_ nr cr) O) := Rw.below (el := 23) DR4.out ((Below.refl _ _).drew)
      have DS4' : Hid (DgRow V2.heap.size V4.drew (.slice os_ ns cs_) G) := Rw.below (el := 23) DS4.out ((Below.refl _ _).drew)
      generalize V4.drew = Z0 at CZ0 hHeld R84' R10' BK4' DR4' DS4' ⊢
      refine wpAnyH_take (i := 0) (oi := { dst := some 39, op := Op.move (Operand.tmp 0), type := 3, pos := "law.go:123", after := #[], guard := none }) (v := ?_) rfl (by kernel_rfl) (by kernel_rfl) (by kernel_rfl) (fun _ _ _ h => h) (Or.inl ⟨by rfl, ?_⟩) (by assumption) ?_
      rotate_left
      · intro w hSw
        clear hSw
        go_simp
        all_goals with_reducible rfl
      simp only [Act.put, List.setIfInBounds_toArray, List.set_cons_zero, List.set_cons_succ]
      refine wpAnyH_take (i := 1) (oi := { dst := some 40, op := Op.load 30 (Operand.tmp 8), type := 30, pos := "law.go:123", after := #[], guard := none }) (v := ?_) rfl (by kernel_rfl) (by kernel_rfl) (by kernel_rfl) (fun _ _ _ h => h) (Or.inl ⟨by rfl, ?_⟩) (by assumption) ?_
      rotate_left
      · intro w hSw
        obtain ⟨e0, e1, e2⟩ := cells3 (hSw.row R84.out (fun e => e))
        clear hSw
        go_simp
        all_goals with_reducible rfl
      simp only [Act.put, List.setIfInBounds_toArray, List.set_cons_zero, List.set_cons_succ]
      refine wpAnyH_take (i := 2) (oi := { dst := some 41, op := Op.fieldAddr 30 (Operand.tmp 8) 1, type := 0, pos := "law.go:123", after := #[], guard := none }) (v := ?_) rfl (by kernel_rfl) (by kernel_rfl) (by kernel_rfl) (fun _ _ _ h => h) (Or.inl ⟨by rfl, ?_⟩) (by assumption) ?_
      rotate_left
      · intro w hSw
        clear hSw
        go_simp
        all_goals with_reducible rfl
      simp only [Act.put, List.setIfInBounds_toArray, List.set_cons_zero, List.set_cons_succ]
      refine wpAnyH_take (i := 3) (oi := { dst := some 42, op := Op.load 27 (Operand.tmp 41), type := 27, pos := "law.go:123", after := #[{ on := 2, ground := Ground.data }], guard := none }) (v := ?_) rfl (by kernel_rfl) (by kernel_rfl) (by kernel_rfl) (fun _ _ _ h => h) (Or.inl ⟨by rfl, ?_⟩) (by assumption) ?_
      rotate_left
      · intro w hSw
        obtain ⟨e0, e1, e2⟩ := cells3 (hSw.row R84.out (fun e => e))
        clear hSw
        go_simp
        all_goals with_reducible rfl
      simp only [Act.put, List.setIfInBounds_toArray, List.set_cons_zero, List.set_cons_succ]
      refine wpAnyH_ready (rs := [4, 9]) (by kernel_rfl) (by simp) ?_
      refine AllReadyH.cons (o := { dst := some 43, op := Op.call { callee := Callee.value (Operand.func 10), args := #[Operand.tmp 42], argTypes := #[27] }, type := 30, pos := "law.go:123", after := #[{ on := 3, ground := Ground.data }], guard := none }) rfl (fun K hK => ?_) ?_
      · skip
        go_simp
        refine (empty_any N Z0).mono ?_
        rintro e Z1 ⟨rfl, hb2⟩
        replace R84' : Hid (Z1.heap[g8]? = some (.cells #[.int .u64 0, .int .u64 (N : Int), .slice or_ nr cr] 30 (0, 0))) := (hb2.block _ (block_lt_of_row R84'.out)).trans R84'.out
        replace R10' : Hid (Z1.heap[g10]? = some (.cells #[.int .u64 0, .int .u64 ((N + 1 : Nat) : Int), .slice os_ ns cs_] 30 (0, 0))) := (hb2.block _ (block_lt_of_row R10'.out)).trans R10'.out
        replace BK4' : Hid (BookIs Z1 gB gB top vl vw es) := BK4'.out.below hb2
        replace DR4' : Hid (DgRow wr.heap.size Z1 (.slice or_ nr cr) O) := Rw.below (el := 23) DR4'.out hb2
        replace DS4' : Hid (DgRow V2.heap.size Z1 (.slice os_ ns cs_) G) := Rw.below (el := 23) DS4'.out hb2
        have CZ1 : Hid (Chg (fun _ => False) V4 Z1) := CZ0.out.then hb2
        clear hb2 CZ0
        clear hHeld
        refine hK.out _ _ CZ1.out (fun hHeld => ?_)
        clear hK K
        try simp only [Act.put, List.setIfInBounds_toArray, List.set_cons_zero, List.set_cons_succ]
        refine wpAnyH_ready (rs := [5, 9]) (by kernel_rfl) (by simp) ?_
        refine AllReadyH.cons (o := { dst := some 44, op := Op.call { callee := Callee.value (Operand.func 13), args := #[Operand.tmp 39, Operand.tmp 40, Operand.tmp 43], argTypes := #[3, 30, 30] }, type := 32, pos := "law.go:123", after := #[{ on := 0, ground := Ground.data }, { on := 1, ground := Ground.data }, { on := 4, ground := Ground.data }, { on := 4, ground := Ground.chain }], guard := none }) rfl (fun K hK => ?_) ?_
        · skip
          go_simp
          refine (merge_lit a 0 N N N 0 (N : Int) (N : Int) (N : Int) rfl rfl rfl rfl (.slice or_ nr cr) (.slice none 0 0) O [] _ HMG.out Z1 (by omega) (by omega) (by omega) (by omega) (DgRow.dgAt DR4'.out (by have := OO.out.2.2; omega) OO.out.2.1) (DgAt.nil _) (HK.out.below (BWW4.out.trans (CZ1.out.below w.heap.size BWW4.out.size (fun k hk e => by omega))) h0)).mono ?_
          rintro e Z2 ha
          obtain ⟨ot, ct, rfl, hd, hb2⟩ := ha.at
          obtain ⟨nt, hnt⟩ : ∃ n, n = O.length := ⟨_, rfl⟩
          rw [← hnt] at hd ⊢
          have HNT := hide hnt
          have DT : Hid (DgRow V4.heap.size _ (.slice ot nt ct) O) := hd.mono CZ1.out.size
          clear hd hnt
          replace R84' : Hid (Z2.heap[g8]? = some (.cells #[.int .u64 0, .int .u64 (N : Int), .slice or_ nr cr] 30 (0, 0))) := (hb2.block _ (block_lt_of_row R84'.out)).trans R84'.out
          replace R10' : Hid (Z2.heap[g10]? = some (.cells #[.int .u64 0, .int .u64 ((N + 1 : Nat) : Int), .slice os_ ns cs_] 30 (0, 0))) := (hb2.block _ (block_lt_of_row R10'.out)).trans R10'.out
          replace BK4' : Hid (BookIs Z2 gB gB top vl vw es) := BK4'.out.below hb2
          replace DR4' : Hid (DgRow wr.heap.size Z2 (.slice or_ nr cr) O) := Rw.below (el := 23) DR4'.out hb2
          replace DS4' : Hid (DgRow V2.heap.size Z2 (.slice os_ ns cs_) G) := Rw.below (el := 23) DS4'.out hb2
          have CZ2 : Hid (Chg (fun _ => False) V4 Z2) := CZ1.out.then hb2
          clear hb2 CZ1
          clear hHeld
          refine hK.out _ _ CZ2.out (fun hHeld => ?_)
          clear hK K
          try simp only [Act.put, List.setIfInBounds_toArray, List.set_cons_zero, List.set_cons_succ]
          refine wpAnyH_take (i := 6) (oi := { dst := some 38, op := Op.move (Operand.tmp 44), type := 32, pos := "law.go:123", after := #[{ on := 5, ground := Ground.data }], guard := none }) (v := ?_) rfl (by kernel_rfl) (by kernel_rfl) (by kernel_rfl) (fun _ _ _ h => h) (Or.inl ⟨by rfl, ?_⟩) (by assumption) ?_
          rotate_left
          · intro w hSw
            clear hSw
            go_simp
            all_goals with_reducible rfl
          simp only [Act.put, List.setIfInBounds_toArray, List.set_cons_zero, List.set_cons_succ]
          refine wpAnyH_take (i := 7) (oi := { dst := some 45, op := Op.extract (Operand.tmp 38) 0, type := 30, pos := "law.go:123", after := #[{ on := 6, ground := Ground.data }], guard := none }) (v := ?_) rfl (by kernel_rfl) (by kernel_rfl) (by kernel_rfl) (fun _ _ _ h => h) (Or.inl ⟨by rfl, ?_⟩) (by assumption) ?_
          rotate_left
          · intro w hSw
            clear hSw
            go_simp
            all_goals with_reducible rfl
          simp only [Act.put, List.setIfInBounds_toArray, List.set_cons_zero, List.set_cons_succ]
          refine wpAnyH_take (i := 8) (oi := { dst := some 46, op := Op.extract (Operand.tmp 38) 1, type := 24, pos := "law.go:123", after := #[{ on := 6, ground := Ground.data }, { on := 10, ground := Ground.gcOnly Departure.lateStores }], guard := none }) (v := ?_) rfl (by kernel_rfl) (by kernel_rfl) (by kernel_rfl) (fun _ _ _ h => h) (Or.inl ⟨by rfl, ?_⟩) (by assumption) ?_
          rotate_left
          · intro w hSw
            clear hSw
            go_simp
            all_goals with_reducible rfl
          simp only [Act.put, List.setIfInBounds_toArray, List.set_cons_zero, List.set_cons_succ]
          refine wpAnyH_ready (rs := [9]) (by kernel_rfl) (by simp) ?_
          refine step_alloc_as (o := { dst := some 12, op := Op.alloc 30, type := 0, pos := "law.go:123", after := #[], guard := none }) rfl rfl 30 rfl _ _ (alloc30 Z2) AllReadyH.nil ⟨CZ2.out.alloc _, fun hHeld => ?_⟩
          clear hHeld
          simp only [Act.put, List.setIfInBounds_toArray, List.set_cons_zero, List.set_cons_succ]
          obtain ⟨g12, hg12⟩ : ∃ gg, gg = Z2.heap.size := ⟨_, rfl⟩
          rw [← hg12]
          generalize hZ : Z2.alloc _ = Z3
          have hb2 : Below Z2.heap.size Z2 Z3 := by rw [← hZ]; exact (Below.refl _ _).alloc (Nat.le_refl _) _
          have Rg12 : Hid (Z3.heap[g12]? = some (.cells #[.int .u64 0, .int .u64 0, .slice none 0 0] 30 (0, 0))) := by rw [← hZ, hg12]; exact heap_alloc_new _ _
          have Gg12 := hide (show V4.heap.size ≤ g12 by rw [hg12]; exact CZ2.out.size)
          clear hZ hg12
          replace R84' : Hid (Z3.heap[g8]? = some (.cells #[.int .u64 0, .int .u64 (N : Int), .slice or_ nr cr] 30 (0, 0))) := (hb2.block _ (block_lt_of_row R84'.out)).trans R84'.out
          replace R10' : Hid (Z3.heap[g10]? = some (.cells #[.int .u64 0, .int .u64 ((N + 1 : Nat) : Int), .slice os_ ns cs_] 30 (0, 0))) := (hb2.block _ (block_lt_of_row R10'.out)).trans R10'.out
          replace BK4' : Hid (BookIs Z3 gB gB top vl vw es) := BK4'.out.below hb2
          replace DR4' : Hid (DgRow wr.heap.size Z3 (.slice or_ nr cr) O) := Rw.below (el := 23) DR4'.out hb2
          replace DS4' : Hid (DgRow V2.heap.size Z3 (.slice os_ ns cs_) G) := Rw.below (el := 23) DS4'.out hb2
          replace DT : Hid (DgRow V4.heap.size Z3 (.slice ot nt ct) O) := Rw.below (el := 23) DT.out hb2
          have CZ3 : Hid (Chg (fun _ => False) V4 Z3) := CZ2.out.then hb2
          clear hb2 CZ2
          have hHeld := CZ3.out
          refine wpAnyH_ready (rs := [10]) (by kernel_rfl) (by simp) ?_
          obtain ⟨Z4, hst, r6, C6, s6⟩ := store_rg (x := .int .u64 0) (y := .int .u64 (N : Int)) (z := .slice ot nt ct) Rg12.out rfl rfl rfl
          refine step_store_as (o := { dst := none, op := Op.store 30 (Operand.tmp 12) (Operand.tmp 45), type := 0, pos := "law.go:123", after := #[{ on := 9, ground := Ground.data }, { on := 7, ground := Ground.data }, { on := 5, ground := Ground.chain }, { on := 0, ground := Ground.phase }, { on := 1, ground := Ground.phase }, { on := 2, ground := Ground.phase }, { on := 3, ground := Ground.phase }, { on := 4, ground := Ground.phase }, { on := 5, ground := Ground.phase }, { on := 6, ground := Ground.phase }, { on := 7, ground := Ground.phase }, { on := 8, ground := Ground.textOnly Departure.lateStores }, { on := 9, ground := Ground.phase }], guard := none }) rfl rfl 30 (.tmp 12) (.tmp 45) rfl _ _ rfl rfl Z4 hst AllReadyH.nil ⟨CZ3.out.trans C6 (fun k hk e => by have := Gg12.out; omega), fun hHeld => ?_⟩
          have CZ4 : Hid (Chg (fun _ => False) V4 Z4) := CZ3.out.trans C6 (fun k hk e => by have := Gg12.out; omega)
          have R12 := hide r6
          replace DT := hide (Rw.chg (el := 23) DT.out C6 (fun j hj e => (Rw.apart (el := 23) DT.out Rg12.out (by decide)) (by rw [← e]; exact hj)))
          replace DR4' := hide (Rw.chg (el := 23) DR4'.out C6 (fun j hj e => (Rw.apart (el := 23) DR4'.out Rg12.out (by decide)) (by rw [← e]; exact hj)))
          replace DS4' := hide (Rw.chg (el := 23) DS4'.out C6 (fun j hj e => (Rw.apart (el := 23) DS4'.out Rg12.out (by decide)) (by rw [← e]; exact hj)))
          replace R84' := hide (C6.row R84'.out (by have := Gg12.out; have := G8.out; have := G10.out; omega))
          replace R10' := hide (C6.row R10'.out (by have := Gg12.out; have := G10.out; omega))
          have BKF := hide (Dg.book_far BK4'.out C6 (by have := Gg12.out; have := TV.out; omega))
          have GL := hide (block_lt_of_row r6)
          clear hst r6 C6 s6 CZ3 Rg12 BK4'
          simp only [Act.put]
          refine wpAnyH_take (i := 11) (oi := { dst := some 13, op := Op.assign (Operand.tmp 46), type := 24, pos := "law.go:123", after := #[{ on := 8, ground := Ground.data }, { on := 10, ground := Ground.chain }, { on := 0, ground := Ground.phase }, { on := 1, ground := Ground.phase }, { on := 2, ground := Ground.phase }, { on := 3, ground := Ground.phase }, { on := 4, ground := Ground.phase }, { on := 5, ground := Ground.phase }, { on := 6, ground := Ground.phase }, { on := 7, ground := Ground.phase }, { on := 8, ground := Ground.phase }, { on := 9, ground := Ground.phase }, { on := 10, ground := Ground.phase }], guard := none }) (v := ?_) rfl (by kernel_rfl) (by kernel_rfl) (by kernel_rfl) (fun _ _ _ h => h) (Or.inl ⟨by rfl, ?_⟩) (by assumption) ?_
          rotate_left
          · intro w hSw
            clear hSw
            go_simp
            all_goals with_reducible rfl
          simp only [Act.put, List.setIfInBounds_toArray, List.set_cons_zero, List.set_cons_succ]
          refine wpAnyH_done (by kernel_rfl) ?_ _
          refine NoPanic.normal ?_
          clear hHeld
          have BWF := hide (BW4.out.trans (CZ4.out.below gB (by have := BKF.out.hi; have := TV.out; omega) (fun _ _ e => e)))
          have SV := hide CZ4.out.size
          generalize Z4 = X at BWF R12 R84' R10' DT DR4' DS4' BKF GL SV ⊢
          clear CZ4
          obtain ⟨gr, cr', er, RP, hgr, hcr⟩ := DgRow.room DR4'.out OO.out.1 OO.out.2.1 (by have := OO.out.2.2; omega)
          obtain ⟨gs, cs', es_, RQ, hgs, hcs⟩ := DgRow.room DS4'.out GG.out.1 GG.out.2.1 (by have := GG.out.2.2; omega)
          obtain ⟨gt, ct', et, RT, hgt, hct⟩ := DgRow.room DT.out OO.out.1 OO.out.2.1 (by have := OO.out.2.2; omega)
          simp only [Value.slice.injEq] at er es_ et
          obtain ⟨rfl, -, rfl⟩ := er
          obtain ⟨rfl, -, rfl⟩ := es_
          obtain ⟨rfl, -, rfl⟩ := et
          have brd := DRB.out gr rfl
          have bsd := DSB.out gs rfl
          have ltr : gr < X.heap.size := by obtain ⟨_, q, _⟩ := RP; exact block_lt_of_row q
          have lts : gs < X.heap.size := by obtain ⟨_, q, _⟩ := RQ; exact block_lt_of_row q
          have ltt : gt < X.heap.size := by obtain ⟨_, q, _⟩ := RT; exact block_lt_of_row q
          have o8 := G8.out
          have o10 := G10.out
          have o12 := Gg12.out
          have otv := TV.out
          have bhi := BKF.out.hi
          have otp := T0.out
          have l8 := block_lt_of_row R84'.out
          have l10 := block_lt_of_row R10'.out
          have l12 := GL.out
          have sv := SV.out
          have ne12t : gt ≠ g12 := fun e => by subst e; have h := Rw.apart (el := 23) DT.out R12.out (by decide); exact h rfl
          have ne10s : gs ≠ g10 := fun e => by subst e; have h := Rw.apart (el := 23) DS4'.out R10'.out (by decide); exact h rfl
          have FACTS := hide (show gB < top ∧ top ≤ gr ∧ top ≤ gs ∧ top ≤ gt ∧ top ≤ g10 ∧ top ≤ g12 ∧ gr ≠ gs ∧ gr ≠ gt ∧ gs ≠ gt ∧ gr ≠ g10 ∧ gr ≠ g12 ∧ gs ≠ g12 ∧ gs ≠ g10 ∧ gt ≠ g12 ∧ gr < X.heap.size ∧ gs < X.heap.size ∧ gt < X.heap.size ∧ g10 < X.heap.size ∧ g12 < X.heap.size from ⟨by omega, by omega, by omega, by omega, by omega, by omega, by omega, by omega, by omega, by omega, by omega, by omega, ne10s, ne12t, ltr, lts, ltt, l10, l12⟩)
          have HRP := hide RP
          have HRQ := hide RQ
          have HRT := hide RT
          have CAPS := hide (And.intro hcr (And.intro hcs hct))
          obtain ⟨e0, e1, e2⟩ := cells3 R84'.out
          clear RP RQ RT hgr hgs hgt brd bsd ltr lts ltt o8 o10 o12 otv bhi otp l8 l10 l12 sv ne12t ne10s hcr hcs hct DT DR4' DS4' DRB DSB G8 G10 Gg12 TV SV GL T0
          go_wp2_with fail
          have C1 := keep_any (fun j => j = gs ∨ j = gt ∨ j = g10 ∨ j = g12) gB gB top gr cr vl vw O es X BKF.out HRP.out (BKF.out.new FACTS.out.2.1) (by have := FACTS.out; omega) CAPS.out.1 (by have := OO.out.2.2; omega) (by omega) (BKF.out.nos _ (fun j hj => by have := FACTS.out; omega)) (fun j hj e => by have := FACTS.out; omega) (fun e => by have := FACTS.out; omega)
          rw [← HNR.out] at C1
          refine C1.mono ?_
          clear C1
          rintro e Y ⟨rfl, ⟨vl', vw', es', hb4, hes4, hno4⟩, hkf⟩
          have BKY := hide hb4
          have NOY := hide hno4
          have BY := hide (BWF.out.trans hkf.1)
          have RQY : Hid (Dg.Room Y gs cs_ G) := by
            obtain ⟨cur, q1, q2⟩ := HRQ.out
            exact ⟨cur, (hkf.2 gs (Or.inl FACTS.out.2.2.1) (block_lt_of_row q1)).trans q1, q2⟩
          have RTY : Hid (Dg.Room Y gt ct O) := by
            obtain ⟨cur, q1, q2⟩ := HRT.out
            exact ⟨cur, (hkf.2 gt (Or.inl FACTS.out.2.2.2.1) (block_lt_of_row q1)).trans q1, q2⟩
          have R10Y := hide ((hkf.2 g10 (Or.inl FACTS.out.2.2.2.2.1) (block_lt_of_row R10'.out)).trans R10'.out)
          have R12Y := hide ((hkf.2 g12 (Or.inl FACTS.out.2.2.2.2.2.1) (block_lt_of_row R12.out)).trans R12.out)
          have SY := hide (show X.heap.size ≤ Y.heap.size from hkf.1.size)
          have hes5 : es'.length ≤ 3 * k + 1 := by omega
          clear hb4 hno4 hkf hes4 BKF HRP HRQ HRT R10' R12 R84' e0 e1 e2 BWF
          obtain ⟨e0, e1, e2⟩ := cells3 R10Y.out
          go_wp2_with fail
          have C2 := keep_any (fun j => j = gt ∨ j = g12) gB gB Y.heap.size gs cs_ vl' vw' G es' Y BKY.out RQY.out (Dg.BookNo.new (g := gs) (NOY.out.mono (fun j hj => Or.inl hj)) (by have := FACTS.out; omega)) (by have := FACTS.out; omega) CAPS.out.2.1 (by have := GG.out.2.2; omega) (by omega) (NOY.out.mono (fun j hj => by rcases hj with hj | hj; exact Or.inr (Or.inl hj); exact Or.inr (Or.inr (Or.inr hj)))) (fun j hj e => by have := FACTS.out; have := SY.out; omega) (fun e => by have := FACTS.out; omega)
          rw [← HNS.out] at C2
          refine C2.mono ?_
          clear C2
          rintro e U ⟨rfl, ⟨vl2, vw2, es2, hb5, hes6, hno5⟩, hkf⟩
          have BKU := hide hb5
          have NOU := hide hno5
          have BU := hide (BY.out.trans hkf.1)
          have RTU : Hid (Dg.Room U gt ct O) := by
            obtain ⟨cur, q1, q2⟩ := RTY.out
            exact ⟨cur, (hkf.2 gt (Or.inr ⟨Or.inl rfl, by have := FACTS.out; omega⟩) (block_lt_of_row q1)).trans q1, q2⟩
          have R12U := hide ((hkf.2 g12 (Or.inr ⟨Or.inr rfl, by have := FACTS.out; omega⟩) (block_lt_of_row R12Y.out)).trans R12Y.out)
          have hes7 : es2.length ≤ 3 * k + 2 := by omega
          clear hb5 hno5 hkf hes6 BKY NOY RQY RTY R10Y R12Y e0 e1 e2 BY
          obtain ⟨e0, e1, e2⟩ := cells3 R12U.out
          go_wp2_with fail
          have C3 := keep_any (fun _ => False) gB gB U.heap.size gt ct vl2 vw2 O es2 U BKU.out RTU.out (Dg.BookNo.new (g := gt) (NOU.out.mono (fun j hj => Or.inl hj)) (by have := FACTS.out; omega)) (by have := FACTS.out; omega) CAPS.out.2.2 (by have := OO.out.2.2; omega) (by omega) ⟨fun _ _ e => e, fun _ _ e => e, fun _ _ => ⟨fun e => e, fun _ _ e => e⟩⟩ (fun _ _ e => e) (fun e => e)
          rw [← HNT.out] at C3
          refine C3.mono ?_
          clear C3
          rintro e T ⟨rfl, ⟨vl3, vw3, es3, hb6, hes8, _⟩, hkf⟩
          have BKT := hide hb6
          have BT := hide (BU.out.trans hkf.1)
          have hes9 : es3.length ≤ 3 * (k + 1) := by omega
          clear hb6 hkf hes8 BKU NOU RTU R12U e0 e1 e2 BU
          go_wp2_with fail
          go_roundw
          case rel => exact ⟨k + 1, by omega, by go_num, BT.out, _, _, _, _, BKT.out, hes9⟩
          case measure => simp [intOf]; omega
        refine step_alloc_as (o := { dst := some 12, op := Op.alloc 30, type := 0, pos := "law.go:123", after := #[], guard := none }) rfl rfl 30 rfl _ _ (alloc30 Z1) AllReadyH.nil ⟨CZ1.out.alloc _, fun hHeld => ?_⟩
        clear hHeld
        simp only [Act.put, List.setIfInBounds_toArray, List.set_cons_zero, List.set_cons_succ]
        obtain ⟨g12, hg12⟩ : ∃ gg, gg = Z1.heap.size := ⟨_, rfl⟩
        rw [← hg12]
        generalize hZ : Z1.alloc _ = Z2
        have hb2 : Below Z1.heap.size Z1 Z2 := by rw [← hZ]; exact (Below.refl _ _).alloc (Nat.le_refl _) _
        have Rg12 : Hid (Z2.heap[g12]? = some (.cells #[.int .u64 0, .int .u64 0, .slice none 0 0] 30 (0, 0))) := by rw [← hZ, hg12]; exact heap_alloc_new _ _
        have Gg12 := hide (show V4.heap.size ≤ g12 by rw [hg12]; exact CZ1.out.size)
        clear hZ hg12
        replace R84' : Hid (Z2.heap[g8]? = some (.cells #[.int .u64 0, .int .u64 (N : Int), .slice or_ nr cr] 30 (0, 0))) := (hb2.block _ (block_lt_of_row R84'.out)).trans R84'.out
        replace R10' : Hid (Z2.heap[g10]? = some (.cells #[.int .u64 0, .int .u64 ((N + 1 : Nat) : Int), .slice os_ ns cs_] 30 (0, 0))) := (hb2.block _ (block_lt_of_row R10'.out)).trans R10'.out
        replace BK4' : Hid (BookIs Z2 gB gB top vl vw es) := BK4'.out.below hb2
        replace DR4' : Hid (DgRow wr.heap.size Z2 (.slice or_ nr cr) O) := Rw.below (el := 23) DR4'.out hb2
        replace DS4' : Hid (DgRow V2.heap.size Z2 (.slice os_ ns cs_) G) := Rw.below (el := 23) DS4'.out hb2
        have CZ2 : Hid (Chg (fun _ => False) V4 Z2) := CZ1.out.then hb2
        clear hb2 CZ1
        have hHeld := CZ2.out
        refine wpAnyH_ready (rs := [5]) (by kernel_rfl) (by simp) ?_
        refine AllReadyH.cons (o := { dst := some 44, op := Op.call { callee := Callee.value (Operand.func 13), args := #[Operand.tmp 39, Operand.tmp 40, Operand.tmp 43], argTypes := #[3, 30, 30] }, type := 32, pos := "law.go:123", after := #[{ on := 0, ground := Ground.data }, { on := 1, ground := Ground.data }, { on := 4, ground := Ground.data }, { on := 4, ground := Ground.chain }], guard := none }) rfl (fun K hK => ?_) AllReadyH.nil
        go_simp
        refine (merge_lit a 0 N N N 0 (N : Int) (N : Int) (N : Int) rfl rfl rfl rfl (.slice or_ nr cr) (.slice none 0 0) O [] _ HMG.out Z2 (by omega) (by omega) (by omega) (by omega) (DgRow.dgAt DR4'.out (by have := OO.out.2.2; omega) OO.out.2.1) (DgAt.nil _) (HK.out.below (BWW4.out.trans (CZ2.out.below w.heap.size BWW4.out.size (fun k hk e => by omega))) h0)).mono ?_
        rintro e Z3 ha
        obtain ⟨ot, ct, rfl, hd, hb2⟩ := ha.at
        obtain ⟨nt, hnt⟩ : ∃ n, n = O.length := ⟨_, rfl⟩
        rw [← hnt] at hd ⊢
        have HNT := hide hnt
        have DT : Hid (DgRow V4.heap.size _ (.slice ot nt ct) O) := hd.mono CZ2.out.size
        clear hd hnt
        replace R84' : Hid (Z3.heap[g8]? = some (.cells #[.int .u64 0, .int .u64 (N : Int), .slice or_ nr cr] 30 (0, 0))) := (hb2.block _ (block_lt_of_row R84'.out)).trans R84'.out
        replace R10' : Hid (Z3.heap[g10]? = some (.cells #[.int .u64 0, .int .u64 ((N + 1 : Nat) : Int), .slice os_ ns cs_] 30 (0, 0))) := (hb2.block _ (block_lt_of_row R10'.out)).trans R10'.out
        replace Rg12 : Hid (Z3.heap[g12]? = some (.cells #[.int .u64 0, .int .u64 0, .slice none 0 0] 30 (0, 0))) := (hb2.block _ (block_lt_of_row Rg12.out)).trans Rg12.out
        replace BK4' : Hid (BookIs Z3 gB gB top vl vw es) := BK4'.out.below hb2
        replace DR4' : Hid (DgRow wr.heap.size Z3 (.slice or_ nr cr) O) := Rw.below (el := 23) DR4'.out hb2
        replace DS4' : Hid (DgRow V2.heap.size Z3 (.slice os_ ns cs_) G) := Rw.below (el := 23) DS4'.out hb2
        have CZ3 : Hid (Chg (fun _ => False) V4 Z3) := CZ2.out.then hb2
        clear hb2 CZ2
        clear hHeld
        refine hK.out _ _ CZ3.out (fun hHeld => ?_)
        clear hK K
        try simp only [Act.put, List.setIfInBounds_toArray, List.set_cons_zero, List.set_cons_succ]
        refine wpAnyH_take (i := 6) (oi := { dst := some 38, op := Op.move (Operand.tmp 44), type := 32, pos := "law.go:123", after := #[{ on := 5, ground := Ground.data }], guard := none }) (v := ?_) rfl (by kernel_rfl) (by kernel_rfl) (by kernel_rfl) (fun _ _ _ h => h) (Or.inl ⟨by rfl, ?_⟩) (by assumption) ?_
        rotate_left
        · intro w hSw
          clear hSw
          go_simp
          all_goals with_reducible rfl
        simp only [Act.put, List.setIfInBounds_toArray, List.set_cons_zero, List.set_cons_succ]
        refine wpAnyH_take (i := 7) (oi := { dst := some 45, op := Op.extract (Operand.tmp 38) 0, type := 30, pos := "law.go:123", after := #[{ on := 6, ground := Ground.data }], guard := none }) (v := ?_) rfl (by kernel_rfl) (by kernel_rfl) (by kernel_rfl) (fun _ _ _ h => h) (Or.inl ⟨by rfl, ?_⟩) (by assumption) ?_
        rotate_left
        · intro w hSw
          clear hSw
          go_simp
          all_goals with_reducible rfl
        simp only [Act.put, List.setIfInBounds_toArray, List.set_cons_zero, List.set_cons_succ]
        refine wpAnyH_take (i := 8) (oi := { dst := some 46, op := Op.extract (Operand.tmp 38) 1, type := 24, pos := "law.go:123", after := #[{ on := 6, ground := Ground.data }, { on := 10, ground := Ground.gcOnly Departure.lateStores }], guard := none }) (v := ?_) rfl (by kernel_rfl) (by kernel_rfl) (by kernel_rfl) (fun _ _ _ h => h) (Or.inl ⟨by rfl, ?_⟩) (by assumption) ?_
        rotate_left
        · intro w hSw
          clear hSw
          go_simp
          all_goals with_reducible rfl
        simp only [Act.put, List.setIfInBounds_toArray, List.set_cons_zero, List.set_cons_succ]
        refine wpAnyH_ready (rs := [10]) (by kernel_rfl) (by simp) ?_
        obtain ⟨Z4, hst, r6, C6, s6⟩ := store_rg (x := .int .u64 0) (y := .int .u64 (N : Int)) (z := .slice ot nt ct) Rg12.out rfl rfl rfl
        refine step_store_as (o := { dst := none, op := Op.store 30 (Operand.tmp 12) (Operand.tmp 45), type := 0, pos := "law.go:123", after := #[{ on := 9, ground := Ground.data }, { on := 7, ground := Ground.data }, { on := 5, ground := Ground.chain }, { on := 0, ground := Ground.phase }, { on := 1, ground := Ground.phase }, { on := 2, ground := Ground.phase }, { on := 3, ground := Ground.phase }, { on := 4, ground := Ground.phase }, { on := 5, ground := Ground.phase }, { on := 6, ground := Ground.phase }, { on := 7, ground := Ground.phase }, { on := 8, ground := Ground.textOnly Departure.lateStores }, { on := 9, ground := Ground.phase }], guard := none }) rfl rfl 30 (.tmp 12) (.tmp 45) rfl _ _ rfl rfl Z4 hst AllReadyH.nil ⟨CZ3.out.trans C6 (fun k hk e => by have := Gg12.out; omega), fun hHeld => ?_⟩
        have CZ4 : Hid (Chg (fun _ => False) V4 Z4) := CZ3.out.trans C6 (fun k hk e => by have := Gg12.out; omega)
        have R12 := hide r6
        replace DT := hide (Rw.chg (el := 23) DT.out C6 (fun j hj e => (Rw.apart (el := 23) DT.out Rg12.out (by decide)) (by rw [← e]; exact hj)))
        replace DR4' := hide (Rw.chg (el := 23) DR4'.out C6 (fun j hj e => (Rw.apart (el := 23) DR4'.out Rg12.out (by decide)) (by rw [← e]; exact hj)))
        replace DS4' := hide (Rw.chg (el := 23) DS4'.out C6 (fun j hj e => (Rw.apart (el := 23) DS4'.out Rg12.out (by decide)) (by rw [← e]; exact hj)))
        replace R84' := hide (C6.row R84'.out (by have := Gg12.out; have := G8.out; have := G10.out; omega))
        replace R10' := hide (C6.row R10'.out (by have := Gg12.out; have := G10.out; omega))
        have BKF := hide (Dg.book_far BK4'.out C6 (by have := Gg12.out; have := TV.out; omega))
        have GL := hide (block_lt_of_row r6)
        clear hst r6 C6 s6 CZ3 Rg12 BK4'
        simp only [Act.put]
        refine wpAnyH_take (i := 11) (oi := { dst := some 13, op := Op.assign (Operand.tmp 46), type := 24, pos := "law.go:123", after := #[{ on := 8, ground := Ground.data }, { on := 10, ground := Ground.chain }, { on := 0, ground := Ground.phase }, { on := 1, ground := Ground.phase }, { on := 2, ground := Ground.phase }, { on := 3, ground := Ground.phase }, { on := 4, ground := Ground.phase }, { on := 5, ground := Ground.phase }, { on := 6, ground := Ground.phase }, { on := 7, ground := Ground.phase }, { on := 8, ground := Ground.phase }, { on := 9, ground := Ground.phase }, { on := 10, ground := Ground.phase }], guard := none }) (v := ?_) rfl (by kernel_rfl) (by kernel_rfl) (by kernel_rfl) (fun _ _ _ h => h) (Or.inl ⟨by rfl, ?_⟩) (by assumption) ?_
        rotate_left
        · intro w hSw
          clear hSw
          go_simp
          all_goals with_reducible rfl
        simp only [Act.put, List.setIfInBounds_toArray, List.set_cons_zero, List.set_cons_succ]
        refine wpAnyH_done (by kernel_rfl) ?_ _
        refine NoPanic.normal ?_
        clear hHeld
        have BWF := hide (BW4.out.trans (CZ4.out.below gB (by have := BKF.out.hi; have := TV.out; omega) (fun _ _ e => e)))
        have SV := hide CZ4.out.size
        generalize Z4 = X at BWF R12 R84' R10' DT DR4' DS4' BKF GL SV ⊢
        clear CZ4
        obtain ⟨gr, cr', er, RP, hgr, hcr⟩ := DgRow.room DR4'.out OO.out.1 OO.out.2.1 (by have := OO.out.2.2; omega)
        obtain ⟨gs, cs', es_, RQ, hgs, hcs⟩ := DgRow.room DS4'.out GG.out.1 GG.out.2.1 (by have := GG.out.2.2; omega)
        obtain ⟨gt, ct', et, RT, hgt, hct⟩ := DgRow.room DT.out OO.out.1 OO.out.2.1 (by have := OO.out.2.2; omega)
        simp only [Value.slice.injEq] at er es_ et
        obtain ⟨rfl, -, rfl⟩ := er
        obtain ⟨rfl, -, rfl⟩ := es_
        obtain ⟨rfl, -, rfl⟩ := et
        have brd := DRB.out gr rfl
        have bsd := DSB.out gs rfl
        have ltr : gr < X.heap.size := by obtain ⟨_, q, _⟩ := RP; exact block_lt_of_row q
        have lts : gs < X.heap.size := by obtain ⟨_, q, _⟩ := RQ; exact block_lt_of_row q
        have ltt : gt < X.heap.size := by obtain ⟨_, q, _⟩ := RT; exact block_lt_of_row q
        have o8 := G8.out
        have o10 := G10.out
        have o12 := Gg12.out
        have otv := TV.out
        have bhi := BKF.out.hi
        have otp := T0.out
        have l8 := block_lt_of_row R84'.out
        have l10 := block_lt_of_row R10'.out
        have l12 := GL.out
        have sv := SV.out
        have ne12t : gt ≠ g12 := fun e => by subst e; have h := Rw.apart (el := 23) DT.out R12.out (by decide); exact h rfl
        have ne10s : gs ≠ g10 := fun e => by subst e; have h := Rw.apart (el := 23) DS4'.out R10'.out (by decide); exact h rfl
        have FACTS := hide (show gB < top ∧ top ≤ gr ∧ top ≤ gs ∧ top ≤ gt ∧ top ≤ g10 ∧ top ≤ g12 ∧ gr ≠ gs ∧ gr ≠ gt ∧ gs ≠ gt ∧ gr ≠ g10 ∧ gr ≠ g12 ∧ gs ≠ g12 ∧ gs ≠ g10 ∧ gt ≠ g12 ∧ gr < X.heap.size ∧ gs < X.heap.size ∧ gt < X.heap.size ∧ g10 < X.heap.size ∧ g12 < X.heap.size from ⟨by omega, by omega, by omega, by omega, by omega, by omega, by omega, by omega, by omega, by omega, by omega, by omega, ne10s, ne12t, ltr, lts, ltt, l10, l12⟩)
        have HRP := hide RP
        have HRQ := hide RQ
        have HRT := hide RT
        have CAPS := hide (And.intro hcr (And.intro hcs hct))
        obtain ⟨e0, e1, e2⟩ := cells3 R84'.out
        clear RP RQ RT hgr hgs hgt brd bsd ltr lts ltt o8 o10 o12 otv bhi otp l8 l10 l12 sv ne12t ne10s hcr hcs hct DT DR4' DS4' DRB DSB G8 G10 Gg12 TV SV GL T0
        go_wp2_with fail
        have C1 := keep_any (fun j => j = gs ∨ j = gt ∨ j = g10 ∨ j = g12) gB gB top gr cr vl vw O es X BKF.out HRP.out (BKF.out.new FACTS.out.2.1) (by have := FACTS.out; omega) CAPS.out.1 (by have := OO.out.2.2; omega) (by omega) (BKF.out.nos _ (fun j hj => by have := FACTS.out; omega)) (fun j hj e => by have := FACTS.out; omega) (fun e => by have := FACTS.out; omega)
        rw [← HNR.out] at C1
        refine C1.mono ?_
        clear C1
        rintro e Y ⟨rfl, ⟨vl', vw', es', hb4, hes4, hno4⟩, hkf⟩
        have BKY := hide hb4
        have NOY := hide hno4
        have BY := hide (BWF.out.trans hkf.1)
        have RQY : Hid (Dg.Room Y gs cs_ G) := by
          obtain ⟨cur, q1, q2⟩ := HRQ.out
          exact ⟨cur, (hkf.2 gs (Or.inl FACTS.out.2.2.1) (block_lt_of_row q1)).trans q1, q2⟩
        have RTY : Hid (Dg.Room Y gt ct O) := by
          obtain ⟨cur, q1, q2⟩ := HRT.out
          exact ⟨cur, (hkf.2 gt (Or.inl FACTS.out.2.2.2.1) (block_lt_of_row q1)).trans q1, q2⟩
        have R10Y := hide ((hkf.2 g10 (Or.inl FACTS.out.2.2.2.2.1) (block_lt_of_row R10'.out)).trans R10'.out)
        have R12Y := hide ((hkf.2 g12 (Or.inl FACTS.out.2.2.2.2.2.1) (block_lt_of_row R12.out)).trans R12.out)
        have SY := hide (show X.heap.size ≤ Y.heap.size from hkf.1.size)
        have hes5 : es'.length ≤ 3 * k + 1 := by omega
        clear hb4 hno4 hkf hes4 BKF HRP HRQ HRT R10' R12 R84' e0 e1 e2 BWF
        obtain ⟨e0, e1, e2⟩ := cells3 R10Y.out
        go_wp2_with fail
        have C2 := keep_any (fun j => j = gt ∨ j = g12) gB gB Y.heap.size gs cs_ vl' vw' G es' Y BKY.out RQY.out (Dg.BookNo.new (g := gs) (NOY.out.mono (fun j hj => Or.inl hj)) (by have := FACTS.out; omega)) (by have := FACTS.out; omega) CAPS.out.2.1 (by have := GG.out.2.2; omega) (by omega) (NOY.out.mono (fun j hj => by rcases hj with hj | hj; exact Or.inr (Or.inl hj); exact Or.inr (Or.inr (Or.inr hj)))) (fun j hj e => by have := FACTS.out; have := SY.out; omega) (fun e => by have := FACTS.out; omega)
        rw [← HNS.out] at C2
        refine C2.mono ?_
        clear C2
        rintro e U ⟨rfl, ⟨vl2, vw2, es2, hb5, hes6, hno5⟩, hkf⟩
        have BKU := hide hb5
        have NOU := hide hno5
        have BU := hide (BY.out.trans hkf.1)
        have RTU : Hid (Dg.Room U gt ct O) := by
          obtain ⟨cur, q1, q2⟩ := RTY.out
          exact ⟨cur, (hkf.2 gt (Or.inr ⟨Or.inl rfl, by have := FACTS.out; omega⟩) (block_lt_of_row q1)).trans q1, q2⟩
        have R12U := hide ((hkf.2 g12 (Or.inr ⟨Or.inr rfl, by have := FACTS.out; omega⟩) (block_lt_of_row R12Y.out)).trans R12Y.out)
        have hes7 : es2.length ≤ 3 * k + 2 := by omega
        clear hb5 hno5 hkf hes6 BKY NOY RQY RTY R10Y R12Y e0 e1 e2 BY
        obtain ⟨e0, e1, e2⟩ := cells3 R12U.out
        go_wp2_with fail
        have C3 := keep_any (fun _ => False) gB gB U.heap.size gt ct vl2 vw2 O es2 U BKU.out RTU.out (Dg.BookNo.new (g := gt) (NOU.out.mono (fun j hj => Or.inl hj)) (by have := FACTS.out; omega)) (by have := FACTS.out; omega) CAPS.out.2.2 (by have := OO.out.2.2; omega) (by omega) ⟨fun _ _ e => e, fun _ _ e => e, fun _ _ => ⟨fun e => e, fun _ _ e => e⟩⟩ (fun _ _ e => e) (fun e => e)
        rw [← HNT.out] at C3
        refine C3.mono ?_
        clear C3
        rintro e T ⟨rfl, ⟨vl3, vw3, es3, hb6, hes8, _⟩, hkf⟩
        have BKT := hide hb6
        have BT := hide (BU.out.trans hkf.1)
        have hes9 : es3.length ≤ 3 * (k + 1) := by omega
        clear hb6 hkf hes8 BKU NOU RTU R12U e0 e1 e2 BU
        go_wp2_with fail
        go_roundw
        case rel => exact ⟨k + 1, by omega, by go_num, BT.out, _, _, _, _, BKT.out, hes9⟩
        case measure => simp [intOf]; omega
      refine step_alloc_as (o := { dst := some 12, op := Op.alloc 30, type := 0, pos := "law.go:123", after := #[], guard := none }) rfl rfl 30 rfl _ _ (alloc30 Z0) AllReadyH.nil ⟨CZ0.out.alloc _, fun hHeld => ?_⟩
      clear hHeld
      simp only [Act.put, List.setIfInBounds_toArray, List.set_cons_zero, List.set_cons_succ]
      obtain ⟨g12, hg12⟩ : ∃ gg, gg = Z0.heap.size := ⟨_, rfl⟩
      rw [← hg12]
      generalize hZ : Z0.alloc _ = Z1
      have hb2 : Below Z0.heap.size Z0 Z1 := by rw [← hZ]; exact (Below.refl _ _).alloc (Nat.le_refl _) _
      have Rg12 : Hid (Z1.heap[g12]? = some (.cells #[.int .u64 0, .int .u64 0, .slice none 0 0] 30 (0, 0))) := by rw [← hZ, hg12]; exact heap_alloc_new _ _
      have Gg12 := hide (show V4.heap.size ≤ g12 by rw [hg12]; exact CZ0.out.size)
      clear hZ hg12
      replace R84' : Hid (Z1.heap[g8]? = some (.cells #[.int .u64 0, .int .u64 (N : Int), .slice or_ nr cr] 30 (0, 0))) := (hb2.block _ (block_lt_of_row R84'.out)).trans R84'.out
      replace R10' : Hid (Z1.heap[g10]? = some (.cells #[.int .u64 0, .int .u64 ((N + 1 : Nat) : Int), .slice os_ ns cs_] 30 (0, 0))) := (hb2.block _ (block_lt_of_row R10'.out)).trans R10'.out
      replace BK4' : Hid (BookIs Z1 gB gB top vl vw es) := BK4'.out.below hb2
      replace DR4' : Hid (DgRow wr.heap.size Z1 (.slice or_ nr cr) O) := Rw.below (el := 23) DR4'.out hb2
      replace DS4' : Hid (DgRow V2.heap.size Z1 (.slice os_ ns cs_) G) := Rw.below (el := 23) DS4'.out hb2
      have CZ1 : Hid (Chg (fun _ => False) V4 Z1) := CZ0.out.then hb2
      clear hb2 CZ0
      have hHeld := CZ1.out
      refine wpAnyH_ready (rs := [4]) (by kernel_rfl) (by simp) ?_
      refine AllReadyH.cons (o := { dst := some 43, op := Op.call { callee := Callee.value (Operand.func 10), args := #[Operand.tmp 42], argTypes := #[27] }, type := 30, pos := "law.go:123", after := #[{ on := 3, ground := Ground.data }], guard := none }) rfl (fun K hK => ?_) AllReadyH.nil
      go_simp
      refine (empty_any N Z1).mono ?_
      rintro e Z2 ⟨rfl, hb2⟩
      replace R84' : Hid (Z2.heap[g8]? = some (.cells #[.int .u64 0, .int .u64 (N : Int), .slice or_ nr cr] 30 (0, 0))) := (hb2.block _ (block_lt_of_row R84'.out)).trans R84'.out
      replace R10' : Hid (Z2.heap[g10]? = some (.cells #[.int .u64 0, .int .u64 ((N + 1 : Nat) : Int), .slice os_ ns cs_] 30 (0, 0))) := (hb2.block _ (block_lt_of_row R10'.out)).trans R10'.out
      replace Rg12 : Hid (Z2.heap[g12]? = some (.cells #[.int .u64 0, .int .u64 0, .slice none 0 0] 30 (0, 0))) := (hb2.block _ (block_lt_of_row Rg12.out)).trans Rg12.out
      replace BK4' : Hid (BookIs Z2 gB gB top vl vw es) := BK4'.out.below hb2
      replace DR4' : Hid (DgRow wr.heap.size Z2 (.slice or_ nr cr) O) := Rw.below (el := 23) DR4'.out hb2
      replace DS4' : Hid (DgRow V2.heap.size Z2 (.slice os_ ns cs_) G) := Rw.below (el := 23) DS4'.out hb2
      have CZ2 : Hid (Chg (fun _ => False) V4 Z2) := CZ1.out.then hb2
      clear hb2 CZ1
      clear hHeld
      refine hK.out _ _ CZ2.out (fun hHeld => ?_)
      clear hK K
      try simp only [Act.put, List.setIfInBounds_toArray, List.set_cons_zero, List.set_cons_succ]
      refine wpAnyH_ready (rs := [5]) (by kernel_rfl) (by simp) ?_
      refine AllReadyH.cons (o := { dst := some 44, op := Op.call { callee := Callee.value (Operand.func 13), args := #[Operand.tmp 39, Operand.tmp 40, Operand.tmp 43], argTypes := #[3, 30, 30] }, type := 32, pos := "law.go:123", after := #[{ on := 0, ground := Ground.data }, { on := 1, ground := Ground.data }, { on := 4, ground := Ground.data }, { on := 4, ground := Ground.chain }], guard := none }) rfl (fun K hK => ?_) AllReadyH.nil
      go_simp
      refine (merge_lit a 0 N N N 0 (N : Int) (N : Int) (N : Int) rfl rfl rfl rfl (.slice or_ nr cr) (.slice none 0 0) O [] _ HMG.out Z2 (by omega) (by omega) (by omega) (by omega) (DgRow.dgAt DR4'.out (by have := OO.out.2.2; omega) OO.out.2.1) (DgAt.nil _) (HK.out.below (BWW4.out.trans (CZ2.out.below w.heap.size BWW4.out.size (fun k hk e => by omega))) h0)).mono ?_
      rintro e Z3 ha
      obtain ⟨ot, ct, rfl, hd, hb2⟩ := ha.at
      obtain ⟨nt, hnt⟩ : ∃ n, n = O.length := ⟨_, rfl⟩
      rw [← hnt] at hd ⊢
      have HNT := hide hnt
      have DT : Hid (DgRow V4.heap.size _ (.slice ot nt ct) O) := hd.mono CZ2.out.size
      clear hd hnt
      replace R84' : Hid (Z3.heap[g8]? = some (.cells #[.int .u64 0, .int .u64 (N : Int), .slice or_ nr cr] 30 (0, 0))) := (hb2.block _ (block_lt_of_row R84'.out)).trans R84'.out
      replace R10' : Hid (Z3.heap[g10]? = some (.cells #[.int .u64 0, .int .u64 ((N + 1 : Nat) : Int), .slice os_ ns cs_] 30 (0, 0))) := (hb2.block _ (block_lt_of_row R10'.out)).trans R10'.out
      replace Rg12 : Hid (Z3.heap[g12]? = some (.cells #[.int .u64 0, .int .u64 0, .slice none 0 0] 30 (0, 0))) := (hb2.block _ (block_lt_of_row Rg12.out)).trans Rg12.out
      replace BK4' : Hid (BookIs Z3 gB gB top vl vw es) := BK4'.out.below hb2
      replace DR4' : Hid (DgRow wr.heap.size Z3 (.slice or_ nr cr) O) := Rw.below (el := 23) DR4'.out hb2
      replace DS4' : Hid (DgRow V2.heap.size Z3 (.slice os_ ns cs_) G) := Rw.below (el := 23) DS4'.out hb2
      have CZ3 : Hid (Chg (fun _ => False) V4 Z3) := CZ2.out.then hb2
      clear hb2 CZ2
      clear hHeld
      refine hK.out _ _ CZ3.out (fun hHeld => ?_)
      clear hK K
      try simp only [Act.put, List.setIfInBounds_toArray, List.set_cons_zero, List.set_cons_succ]
      refine wpAnyH_take (i := 6) (oi := { dst := some 38, op := Op.move (Operand.tmp 44), type := 32, pos := "law.go:123", after := #[{ on := 5, ground := Ground.data }], guard := none }) (v := ?_) rfl (by kernel_rfl) (by kernel_rfl) (by kernel_rfl) (fun _ _ _ h => h) (Or.inl ⟨by rfl, ?_⟩) (by assumption) ?_
      rotate_left
      · intro w hSw
        clear hSw
        go_simp
        all_goals with_reducible rfl
      simp only [Act.put, List.setIfInBounds_toArray, List.set_cons_zero, List.set_cons_succ]
      refine wpAnyH_take (i := 7) (oi := { dst := some 45, op := Op.extract (Operand.tmp 38) 0, type := 30, pos := "law.go:123", after := #[{ on := 6, ground := Ground.data }], guard := none }) (v := ?_) rfl (by kernel_rfl) (by kernel_rfl) (by kernel_rfl) (fun _ _ _ h => h) (Or.inl ⟨by rfl, ?_⟩) (by assumption) ?_
      rotate_left
      · intro w hSw
        clear hSw
        go_simp
        all_goals with_reducible rfl
      simp only [Act.put, List.setIfInBounds_toArray, List.set_cons_zero, List.set_cons_succ]
      refine wpAnyH_take (i := 8) (oi := { dst := some 46, op := Op.extract (Operand.tmp 38) 1, type := 24, pos := "law.go:123", after := #[{ on := 6, ground := Ground.data }, { on := 10, ground := Ground.gcOnly Departure.lateStores }], guard := none }) (v := ?_) rfl (by kernel_rfl) (by kernel_rfl) (by kernel_rfl) (fun _ _ _ h => h) (Or.inl ⟨by rfl, ?_⟩) (by assumption) ?_
      rotate_left
      · intro w hSw
        clear hSw
        go_simp
        all_goals with_reducible rfl
      simp only [Act.put, List.setIfInBounds_toArray, List.set_cons_zero, List.set_cons_succ]
      refine wpAnyH_ready (rs := [10]) (by kernel_rfl) (by simp) ?_
      obtain ⟨Z4, hst, r6, C6, s6⟩ := store_rg (x := .int .u64 0) (y := .int .u64 (N : Int)) (z := .slice ot nt ct) Rg12.out rfl rfl rfl
      refine step_store_as (o := { dst := none, op := Op.store 30 (Operand.tmp 12) (Operand.tmp 45), type := 0, pos := "law.go:123", after := #[{ on := 9, ground := Ground.data }, { on := 7, ground := Ground.data }, { on := 5, ground := Ground.chain }, { on := 0, ground := Ground.phase }, { on := 1, ground := Ground.phase }, { on := 2, ground := Ground.phase }, { on := 3, ground := Ground.phase }, { on := 4, ground := Ground.phase }, { on := 5, ground := Ground.phase }, { on := 6, ground := Ground.phase }, { on := 7, ground := Ground.phase }, { on := 8, ground := Ground.textOnly Departure.lateStores }, { on := 9, ground := Ground.phase }], guard := none }) rfl rfl 30 (.tmp 12) (.tmp 45) rfl _ _ rfl rfl Z4 hst AllReadyH.nil ⟨CZ3.out.trans C6 (fun k hk e => by have := Gg12.out; omega), fun hHeld => ?_⟩
      have CZ4 : Hid (Chg (fun _ => False) V4 Z4) := CZ3.out.trans C6 (fun k hk e => by have := Gg12.out; omega)
      have R12 := hide r6
      replace DT := hide (Rw.chg (el := 23) DT.out C6 (fun j hj e => (Rw.apart (el := 23) DT.out Rg12.out (by decide)) (by rw [← e]; exact hj)))
      replace DR4' := hide (Rw.chg (el := 23) DR4'.out C6 (fun j hj e => (Rw.apart (el := 23) DR4'.out Rg12.out (by decide)) (by rw [← e]; exact hj)))
      replace DS4' := hide (Rw.chg (el := 23) DS4'.out C6 (fun j hj e => (Rw.apart (el := 23) DS4'.out Rg12.out (by decide)) (by rw [← e]; exact hj)))
      replace R84' := hide (C6.row R84'.out (by have := Gg12.out; have := G8.out; have := G10.out; omega))
      replace R10' := hide (C6.row R10'.out (by have := Gg12.out; have := G10.out; omega))
      have BKF := hide (Dg.book_far BK4'.out C6 (by have := Gg12.out; have := TV.out; omega))
      have GL := hide (block_lt_of_row r6)
      clear hst r6 C6 s6 CZ3 Rg12 BK4'
      simp only [Act.put]
      refine wpAnyH_take (i := 11) (oi := { dst := some 13, op := Op.assign (Operand.tmp 46), type := 24, pos := "law.go:123", after := #[{ on := 8, ground := Ground.data }, { on := 10, ground := Ground.chain }, { on := 0, ground := Ground.phase }, { on := 1, ground := Ground.phase }, { on := 2, ground := Ground.phase }, { on := 3, ground := Ground.phase }, { on := 4, ground := Ground.phase }, { on := 5, ground := Ground.phase }, { on := 6, ground := Ground.phase }, { on := 7, ground := Ground.phase }, { on := 8, ground := Ground.phase }, { on := 9, ground := Ground.phase }, { on := 10, ground := Ground.phase }], guard := none }) (v := ?_) rfl (by kernel_rfl) (by kernel_rfl) (by kernel_rfl) (fun _ _ _ h => h) (Or.inl ⟨by rfl, ?_⟩) (by assumption) ?_
      rotate_left
      · intro w hSw
        clear hSw
        go_simp
        all_goals with_reducible rfl
      simp only [Act.put, List.setIfInBounds_toArray, List.set_cons_zero, List.set_cons_succ]
      refine wpAnyH_done (by kernel_rfl) ?_ _
      refine NoPanic.normal ?_
      clear hHeld
      have BWF := hide (BW4.out.trans (CZ4.out.below gB (by have := BKF.out.hi; have := TV.out; omega) (fun _ _ e => e)))
      have SV := hide CZ4.out.size
      generalize Z4 = X at BWF R12 R84' R10' DT DR4' DS4' BKF GL SV ⊢
      clear CZ4
      obtain ⟨gr, cr', er, RP, hgr, hcr⟩ := DgRow.room DR4'.out OO.out.1 OO.out.2.1 (by have := OO.out.2.2; omega)
      obtain ⟨gs, cs', es_, RQ, hgs, hcs⟩ := DgRow.room DS4'.out GG.out.1 GG.out.2.1 (by have := GG.out.2.2; omega)
      obtain ⟨gt, ct', et, RT, hgt, hct⟩ := DgRow.room DT.out OO.out.1 OO.out.2.1 (by have := OO.out.2.2; omega)
      simp only [Value.slice.injEq] at er es_ et
      obtain ⟨rfl, -, rfl⟩ := er
      obtain ⟨rfl, -, rfl⟩ := es_
      obtain ⟨rfl, -, rfl⟩ := et
      have brd := DRB.out gr rfl
      have bsd := DSB.out gs rfl
      have ltr : gr < X.heap.size := by obtain ⟨_, q, _⟩ := RP; exact block_lt_of_row q
      have lts : gs < X.heap.size := by obtain ⟨_, q, _⟩ := RQ; exact block_lt_of_row q
      have ltt : gt < X.heap.size := by obtain ⟨_, q, _⟩ := RT; exact block_lt_of_row q
      have o8 := G8.out
      have o10 := G10.out
      have o12 := Gg12.out
      have otv := TV.out
      have bhi := BKF.out.hi
      have otp := T0.out
      have l8 := block_lt_of_row R84'.out
      have l10 := block_lt_of_row R10'.out
      have l12 := GL.out
      have sv := SV.out
      have ne12t : gt ≠ g12 := fun e => by subst e; have h := Rw.apart (el := 23) DT.out R12.out (by decide); exact h rfl
      have ne10s : gs ≠ g10 := fun e => by subst e; have h := Rw.apart (el := 23) DS4'.out R10'.out (by decide); exact h rfl
      have FACTS := hide (show gB < top ∧ top ≤ gr ∧ top ≤ gs ∧ top ≤ gt ∧ top ≤ g10 ∧ top ≤ g12 ∧ gr ≠ gs ∧ gr ≠ gt ∧ gs ≠ gt ∧ gr ≠ g10 ∧ gr ≠ g12 ∧ gs ≠ g12 ∧ gs ≠ g10 ∧ gt ≠ g12 ∧ gr < X.heap.size ∧ gs < X.heap.size ∧ gt < X.heap.size ∧ g10 < X.heap.size ∧ g12 < X.heap.size from ⟨by omega, by omega, by omega, by omega, by omega, by omega, by omega, by omega, by omega, by omega, by omega, by omega, ne10s, ne12t, ltr, lts, ltt, l10, l12⟩)
      have HRP := hide RP
      have HRQ := hide RQ
      have HRT := hide RT
      have CAPS := hide (And.intro hcr (And.intro hcs hct))
      obtain ⟨e0, e1, e2⟩ := cells3 R84'.out
      clear RP RQ RT hgr hgs hgt brd bsd ltr lts ltt o8 o10 o12 otv bhi otp l8 l10 l12 sv ne12t ne10s hcr hcs hct DT DR4' DS4' DRB DSB G8 G10 Gg12 TV SV GL T0
      go_wp2_with fail
      have C1 := keep_any (fun j => j = gs ∨ j = gt ∨ j = g10 ∨ j = g12) gB gB top gr cr vl vw O es X BKF.out HRP.out (BKF.out.new FACTS.out.2.1) (by have := FACTS.out; omega) CAPS.out.1 (by have := OO.out.2.2; omega) (by omega) (BKF.out.nos _ (fun j hj => by have := FACTS.out; omega)) (fun j hj e => by have := FACTS.out; omega) (fun e => by have := FACTS.out; omega)
      rw [← HNR.out] at C1
      refine C1.mono ?_
      clear C1
      rintro e Y ⟨rfl, ⟨vl', vw', es', hb4, hes4, hno4⟩, hkf⟩
      have BKY := hide hb4
      have NOY := hide hno4
      have BY := hide (BWF.out.trans hkf.1)
      have RQY : Hid (Dg.Room Y gs cs_ G) := by
        obtain ⟨cur, q1, q2⟩ := HRQ.out
        exact ⟨cur, (hkf.2 gs (Or.inl FACTS.out.2.2.1) (block_lt_of_row q1)).trans q1, q2⟩
      have RTY : Hid (Dg.Room Y gt ct O) := by
        obtain ⟨cur, q1, q2⟩ := HRT.out
        exact ⟨cur, (hkf.2 gt (Or.inl FACTS.out.2.2.2.1) (block_lt_of_row q1)).trans q1, q2⟩
      have R10Y := hide ((hkf.2 g10 (Or.inl FACTS.out.2.2.2.2.1) (block_lt_of_row R10'.out)).trans R10'.out)
      have R12Y := hide ((hkf.2 g12 (Or.inl FACTS.out.2.2.2.2.2.1) (block_lt_of_row R12.out)).trans R12.out)
      have SY := hide (show X.heap.size ≤ Y.heap.size from hkf.1.size)
      have hes5 : es'.length ≤ 3 * k + 1 := by omega
      clear hb4 hno4 hkf hes4 BKF HRP HRQ HRT R10' R12 R84' e0 e1 e2 BWF
      obtain ⟨e0, e1, e2⟩ := cells3 R10Y.out
      go_wp2_with fail
      have C2 := keep_any (fun j => j = gt ∨ j = g12) gB gB Y.heap.size gs cs_ vl' vw' G es' Y BKY.out RQY.out (Dg.BookNo.new (g := gs) (NOY.out.mono (fun j hj => Or.inl hj)) (by have := FACTS.out; omega)) (by have := FACTS.out; omega) CAPS.out.2.1 (by have := GG.out.2.2; omega) (by omega) (NOY.out.mono (fun j hj => by rcases hj with hj | hj; exact Or.inr (Or.inl hj); exact Or.inr (Or.inr (Or.inr hj)))) (fun j hj e => by have := FACTS.out; have := SY.out; omega) (fun e => by have := FACTS.out; omega)
      rw [← HNS.out] at C2
      refine C2.mono ?_
      clear C2
      rintro e U ⟨rfl, ⟨vl2, vw2, es2, hb5, hes6, hno5⟩, hkf⟩
      have BKU := hide hb5
      have NOU := hide hno5
      have BU := hide (BY.out.trans hkf.1)
      have RTU : Hid (Dg.Room U gt ct O) := by
        obtain ⟨cur, q1, q2⟩ := RTY.out
        exact ⟨cur, (hkf.2 gt (Or.inr ⟨Or.inl rfl, by have := FACTS.out; omega⟩) (block_lt_of_row q1)).trans q1, q2⟩
      have R12U := hide ((hkf.2 g12 (Or.inr ⟨Or.inr rfl, by have := FACTS.out; omega⟩) (block_lt_of_row R12Y.out)).trans R12Y.out)
      have hes7 : es2.length ≤ 3 * k + 2 := by omega
      clear hb5 hno5 hkf hes6 BKY NOY RQY RTY R10Y R12Y e0 e1 e2 BY
      obtain ⟨e0, e1, e2⟩ := cells3 R12U.out
      go_wp2_with fail
      have C3 := keep_any (fun _ => False) gB gB U.heap.size gt ct vl2 vw2 O es2 U BKU.out RTU.out (Dg.BookNo.new (g := gt) (NOU.out.mono (fun j hj => Or.inl hj)) (by have := FACTS.out; omega)) (by have := FACTS.out; omega) CAPS.out.2.2 (by have := OO.out.2.2; omega) (by omega) ⟨fun _ _ e => e, fun _ _ e => e, fun _ _ => ⟨fun e => e, fun _ _ e => e⟩⟩ (fun _ _ e => e) (fun e => e)
      rw [← HNT.out] at C3
      refine C3.mono ?_
      clear C3
      rintro e T ⟨rfl, ⟨vl3, vw3, es3, hb6, hes8, _⟩, hkf⟩
      have BKT := hide hb6
      have BT := hide (BU.out.trans hkf.1)
      have hes9 : es3.length ≤ 3 * (k + 1) := by omega
      clear hb6 hkf hes8 BKU NOU RTU R12U e0 e1 e2 BU
      go_wp2_with fail
      go_roundw
      case rel => exact ⟨k + 1, by omega, by go_num, BT.out, _, _, _, _, BKT.out, hes9⟩
      case measure => simp [intOf]; omega
    · obtain rfl : k = 2 := by omega
      go_wp2_with fail
      refine (apart_any gB gB top vl vw es wr BK.out).mono ?_
      rintro e w2 ⟨rfl, hkf⟩
      have B2 := hide (BW.out.trans hkf.1)
      clear hkf
      go_wp2_with fail
      refine (known10_any w2 (HK.out.below (B1.out.trans (B2.out.mono (by rw [HGB.out]; exact B1.out.size))) h0)).mono ?_
      rintro e w9 ⟨rfl, b9⟩
      have hsz : gB ≤ w2.heap.size := Nat.le_trans (by rw [HGB.out]; exact Nat.le_refl _) B2.out.size
      have B9 := hide ((B1.out.trans (B2.out.mono (by rw [HGB.out]; exact B1.out.size))).trans (b9.mono (Nat.le_trans B1.out.size (by rw [← HGB.out]; exact hsz))))
      clear b9
      go_wp2_with fail
      go_ret
      exact ⟨rfl, B9.out⟩
end Go.Proofs.YtkljajfgdelfgaaDoor
