/- DiskKept: what is read is new memory each time. -/
import Derived.Test.YtjnbjgkcliaipaaApart
import Derived.Test.YtjnbjgkcliaipaaKnown
namespace Go.Proofs.Ytjnbjgkcliaipaa
open Go.RowKit
theorem BookIs.below {w W : World} {gB base top : Nat} {vl vw : Value} {es : List Entry} (h : BookIs w gB base top vl vw es) (hb : Below w.heap.size w W) : BookIs W gB base top vl vw es := by
  have ht := h.top_le
  have hf : Fr gB vl vw w W := ⟨hb.os, hb.tape, hb.output, hb.size, fun k hk _ _ _ => hb.block k hk⟩
  exact ⟨(hb.block gB (Nat.lt_of_lt_of_le h.hi ht)).trans h.row, h.lo, h.hi, Nat.le_trans ht hb.size, h.lists.kept fun k hk => hb.block k (h.lists.lt hk), h.was.kept fun k hk => hb.block k (h.was.lt hk), h.vlSep, h.vwSep,
    fun e he => (h.ents e he).kept hf ht (Nat.le_refl _) (fun k hk => Or.inl hk) (fun k hk => Or.inl hk), h.nodup, h.few, h.room⟩
/-- A book over a change of blocks that are none of its own. -/
theorem BookIs.over {p : Nat → Prop} {w W : World} {gB base top : Nat} {vl vw : Value} {es : List Entry} (h : BookIs w gB base top vl vw es) (hc : Chg p w W) (hn : BookNo p vl vw es) (hg : ¬ p gB) : BookIs W gB base top vl vw es := by
  have ht := h.top_le
  have hi := h.hi
  have hl : ∀ k, vl.ownBlock = some k → W.heap[k]? = w.heap[k]? := fun k hk => hc.block k (by have := (h.vlSep k hk).2.1; omega) (hn.vl k hk)
  have hw : ∀ k, vw.ownBlock = some k → W.heap[k]? = w.heap[k]? := fun k hk => hc.block k (by have := (h.vwSep k hk).2.1; omega) (hn.vw k hk)
  refine ⟨hc.row h.row hg, h.lo, h.hi, Nat.le_trans ht hc.size, h.lists.kept hl, h.was.kept hw, h.vlSep, h.vwSep, fun e he => ?_, h.nodup, h.few, h.room⟩
  obtain ⟨h1, h2, h3, h4, h5, h6, h7, h8, h9⟩ := h.ents e he
  refine ⟨?_, h2, h3, h4, h5, h6, h7.kept fun k hk => hc.block k (by have := (h8 k hk).1; omega) ((hn.ents e he).2 k hk), h8, h9⟩
  obtain ⟨cur, q1, q2⟩ := h1
  exact ⟨cur, hc.row q1 (hn.ents e he).1, q2⟩
theorem room_row {w : World} {g : Nat} {bs : List UInt8} (h : w.heap[g]? = some (.cells (S.v8 bs) 5 (0, 0))) : Room w g bs.length bs :=
  ⟨_, h, S.v8_size bs, Nat.le_refl _, by rw [S.v8_eq, List.take_of_length_le (by rw [S.v8l_length]; exact Nat.le_refl _)]⟩
theorem goes_none {d : S.Dk} (h : d.left = none) : d.goes = true := by unfold S.Dk.goes; rw [h]; rfl
/-- The disk beside the book, behind k lists that were kept. -/
def Side (w0 w : World) (g gB k top : Nat) : Prop := ∃ o D, o.g = g ∧ DkIs w o D ∧ D.safe.length = 1 ∧ D.left = none ∧ D.pend.length ≤ 1000000 ∧ (∀ j, o.has j → w0.heap.size ≤ j) ∧ (∀ j, o.has j → j < gB ∨ (k = 2 ∧ top ≤ j))
def Both (w0 w : World) (g gB k : Nat) : Prop := Below w0.heap.size w0 w ∧ w0.heap.size ≤ gB ∧ ∃ vl vw es top, BookIs w gB gB top vl vw es ∧ es.length ≤ k ∧ heldOf es ≤ 1000 * k ∧ BookNo (fun j => j < gB) vl vw es ∧ (k ≤ 2 → Side w0 w g gB k top)
/-- The same, and a list in block gs that is to be kept. -/
def BothR (w0 w : World) (g gB k gs : Nat) : Prop := Below w0.heap.size w0 w ∧ w0.heap.size ≤ gB ∧ ∃ vl vw es top bs, BookIs w gB gB top vl vw es ∧ es.length ≤ k ∧ heldOf es ≤ 1000 * k ∧ BookNo (fun j => j < gB) vl vw es ∧ Side w0 w g gB k top ∧ Room w gs 128 bs ∧ bs.length = 128 ∧ top ≤ gs
theorem both_read (w0 w : World) (g gB k : Nat) (h : Both w0 w g gB k) (hk : k ≤ 2) :
   Calls Try.prog 12 #[.pointer (some ⟨g, 0, none⟩), .int .i64 0] w fun e w' => ∃ gs, e = .returned (.tuple #[.slice (some ⟨gs, 0, none⟩) 128 128, .int .i64 0]) ∧ BothR w0 w' g gB k gs := by
  obtain ⟨hb, hlo, vl, vw, es, top, h1, h2, h3, h4, h5⟩ := h
  obtain ⟨o, D, rfl, h6, h7, h8, h9, h10, h11⟩ := h5 hk
  refine (read_yes o D 0 w h6 (by omega)).mono fun e w' ⟨h12, h13, h14⟩ => ?_
  have hl : (D.seen.getD 0 []).length = 128 := h6.ok.seen 0 (by omega)
  have hr := room_row h13
  rw [hl] at hr
  exact ⟨w.heap.size, h12, hb.trans (h14.mono hb.size), hlo, vl, vw, es, top, _, h1.below h14, h2, h3, h4, ⟨o, D, rfl, h6.below h14, h7, h8, h9, h10, h11⟩, hr, hl, h1.top_le⟩
theorem DkIs.kept {w W : World} {o : Ow} {d : S.Dk} {gB top : Nat} (h : DkIs w o d) (hk : KeptFrom gB top w W) (ho : ∀ j, o.has j → j < gB ∨ top ≤ j) : DkIs W o d := by
  have hc : Chg (fun j => gB ≤ j ∧ j < top) w W := ⟨hk.1.os, hk.1.tape, hk.1.output, hk.1.size, fun j hj hn => by
    by_cases e : j < gB
    · exact hk.1.block j e
    · exact hk.2 j (by omega) hj⟩
  exact h.chg hc (fun j hj e => by rcases ho j hj with h' | h' <;> omega)
theorem both_keep (w0 w : World) (g gB k gs : Nat) (h : BothR w0 w g gB k gs) (hk : k ≤ 2) :
   Calls Try.prog 31 #[.pointer (some ⟨gB, 0, none⟩), .slice (some ⟨gs, 0, none⟩) 128 128] w fun e w' => e = .returned (.tuple #[]) ∧ Both w0 w' g gB (k + 1) := by
  obtain ⟨hb, hlo, vl, vw, es, top, bs, h1, h2, h3, h4, ⟨o, D, rfl, h6, h7, h8, h9, h10, h11⟩, hr, hl, htg⟩ := h
  have hhi := h1.hi
  have htop := h1.top_le
  have C := keep_any (fun j => j < gB) gB gB top gs 128 vl vw bs es w h1 hr htg (by omega) (by omega) (by omega) (by omega) h4 (fun j hj e => by omega) (fun e => by omega)
  rw [hl] at C
  refine C.mono fun e w' ⟨h12, ⟨vl', vw', es', h13, h14, h15, h16⟩, h17⟩ => ⟨h12, hb.trans (h17.1.mono hlo), hlo, vl', vw', es', w'.heap.size, h13, by omega, by omega, h16, fun hk1 => ?_⟩
  refine ⟨o, D, rfl, h6.kept h17 (fun j hj => ?_), h7, h8, h9, h10, fun j hj => ?_⟩
  · rcases h11 j hj with e | e
    · exact Or.inl e
    · exact Or.inr e.2
  · rcases h11 j hj with e | e
    · exact Or.inl e
    · omega
theorem both_flush (w0 w : World) (g gB : Nat) (h : Both w0 w g gB 2) :
   Calls Try.prog 15 #[.pointer (some ⟨g, 0, none⟩)] w fun e w' => e = .returned (.int .i64 0) ∧ Both w0 w' g gB 2 := by
  obtain ⟨hb, hlo, vl, vw, es, top, h1, h2, h3, h4, h5⟩ := h
  obtain ⟨o, D, rfl, h6, h7, h8, h9, h10, h11⟩ := h5 (by omega)
  have hhi := h1.hi
  have htop := h1.top_le
  refine (flush_yes o D w h6 (goes_none h8) h9).mono fun e w' ⟨h12, o', h13, h14⟩ => ⟨h12, hb.trans (h14.below hb.size h10).1, hlo, vl, vw, es, top, h1.over h14.chg ⟨fun j hj e => ?_, fun j hj e => ?_, fun x hx => ⟨fun e => ?_, fun j hj e => ?_⟩⟩ (fun e => ?_), h2, h3, h4, fun _ => ⟨o', _, h14.g, h13, ?_, ?_, Nat.zero_le _, (h14.below hb.size h10).2, fun j hj => ?_⟩⟩
  · have := h4.vl j hj
    have := (h1.vlSep j hj).2.1
    rcases h11 j e with e | e <;> omega
  · have := h4.vw j hj
    have := (h1.vwSep j hj).2.1
    rcases h11 j e with e | e <;> omega
  · have := (h4.ents x hx).1
    obtain ⟨_, _, q3, _⟩ := h1.ents x hx
    rcases h11 _ e with e | e <;> omega
  · have := (h4.ents x hx).2 j hj
    obtain ⟨_, _, _, _, _, _, _, q8, _⟩ := h1.ents x hx
    have := (q8 j hj).1
    rcases h11 _ e with e | e <;> omega
  · rcases h11 _ e with e | e <;> omega
  · show D.went.seen.length = 1; rw [S.Dk.seen_length]; exact h7
  · show D.left.map (· - 1) = none; rw [h8]; rfl
  · rcases h14.own j hj with e | e
    · exact h11 j e
    · exact Or.inr ⟨rfl, by omega⟩
set_option maxHeartbeats 1600000 in
set_option maxRecDepth 100000 in
theorem kept_walk (a : UInt8) (w : World) : Calls Try.prog 6 #[.int .u8 (a.toNat : Int)] w fun e w' => e = .returned (.bool true) ∧ Below w.heap.size w w' := by
  go_enter Try.func6, Try.ntmps6
  go_wp2_with fail
  refine (begun_any 1 w (by omega) (by omega)).mono ?_
  rintro e w1 ⟨o1, rfl, h1, ho1, hb1⟩
  have H1 : Hid (Has X0 w w1 o1.g (S.Dk.new 1)) := ⟨o1, rfl, h1, fun k hk => ⟨ho1 k hk, rfl⟩, hb1, fun _ _ e => (by cases e)⟩
  clear h1 ho1 hb1
  unfold Ow.ptr
  generalize o1.g = g at *
  go_wp2_with fail
  refine (at_sector a 128 w w1 g _ H1.out (by omega)).mono ?_
  rintro e w2 ⟨gs2, rfl, h2, t2⟩
  have H2 := hide h2
  have T2 := hide t2
  clear h2 t2 H1
  go_wp2_with fail
  refine (at_write 0 _ (S.sec a 128) w w2 g _ H2.out (by decide) rfl (S.sec_length _ _) (by decide) T2.out).mono ?_
  rintro e w3 ⟨rfl, h3⟩
  have H3 := hide h3
  clear h3 H2 T2
  go_wp2_with fail
  generalize hW4 : w3.alloc _ = w4
  have r0 : w4.heap[w3.heap.size]? = some (.cells #[.slice none 0 0, .slice none 0 0, .int .i64 0, .bool false] 59 (0, 0)) := by rw [← hW4]; exact heap_alloc_new _ _
  have hb4 : Below w3.heap.size w3 w4 := by rw [← hW4]; exact (Below.refl _ _).alloc (Nat.le_refl _) _
  have B4 : Hid (Both w w4 g w3.heap.size 0) := by
    obtain ⟨o, ho, h5, h6, h7, _⟩ := H3.out
    refine ⟨h7.trans (hb4.mono h7.size), h7.size, .slice none 0 0, .slice none 0 0, [], w3.heap.size + 1, ⟨r0, Nat.le_refl _, Nat.lt_succ_self _, ?_, Or.inl ⟨rfl, rfl⟩, Or.inl ⟨rfl, rfl⟩, fun k hk => by simp [Value.ownBlock] at hk, fun k hk => by simp [Value.ownBlock] at hk, fun e he => by simp at he, by simp, by simp, by simp [heldOf]⟩, Nat.le_refl _, by simp [heldOf], ⟨fun k hk => by simp [Value.ownBlock] at hk, fun k hk => by simp [Value.ownBlock] at hk, fun e he => by simp at he⟩, fun _ => ⟨o, _, ho, h5.below hb4, rfl, rfl, Nat.le_of_ble_eq_true rfl, fun j hj => (h6 j hj).1, fun j hj => Or.inl (h5.lt j hj)⟩⟩
    have := block_lt_of_row r0
    omega
  clear hW4 r0 hb4 H3
  generalize w3.heap.size = gB at *
  go_loopw [6] (fun i wr => ∃ k : Nat, k ≤ 3 ∧ i = .int .i64 (k : Int) ∧ Both w wr g gB k) (fun i _ => 3 - (intOf i).toNat)
  case atStart => exact ⟨0, by omega, rfl, B4.out⟩
  case round =>
    obtain ⟨k, hk, rfl, hb⟩ := hrel
    have HB := hide hb
    clear B4 hb
    by_cases hlt : k < 3
    · have q1 : (k : Int) < 3 := by omega
      have q2 : IntKind.i64.wrap ((k : Int) + 1) = (k : Int) + 1 := by rw [IntKind.wrap_i64]; omega
      go_wp2_with fail
      refine (both_read w wr g gB k HB.out (by omega)).mono ?_
      rintro e w5 ⟨gs, rfl, h5⟩
      have H5 := hide h5
      clear h5 HB
      go_wp2_with fail
      refine (both_keep w w5 g gB k gs H5.out (by omega)).mono ?_
      rintro e w6 ⟨rfl, h6⟩
      have H6 := hide h6
      clear h6 H5
      by_cases h1 : k = 1
      · subst h1
        go_wp2_with fail
        refine (both_flush w w6 g gB H6.out).mono ?_
        rintro e w7 ⟨rfl, h7⟩
        have H7 := hide h7
        clear h7 H6
        go_wp2_with fail
        go_roundw
        case rel => exact ⟨2, by omega, by go_num, H7.out⟩
        case measure => simp [intOf]
      · have h1' : ((k : Int) == 1) = false := by rw [beq_eq_false_iff_ne]; omega
        go_wp2_with fail
        go_roundw
        case rel => exact ⟨k + 1, by omega, by go_num, H6.out⟩
        case measure => simp [intOf]; omega
    · obtain rfl : k = 3 := by omega
      obtain ⟨h5, h6, vl, vw, es, top, h7, _⟩ := HB.out
      have B5 := hide h5
      have L5 := hide h6
      have BK := hide h7
      clear h5 h6 h7 HB
      go_wp2_with fail
      refine (apart_any gB gB top vl vw es wr BK.out).mono ?_
      rintro e w8 ⟨rfl, hb8⟩
      have B8 := hide (B5.out.trans (hb8.mono L5.out))
      clear hb8
      go_wp2_with fail
      refine (known_any w8).mono ?_
      rintro e w9 ⟨rfl, hb9⟩
      have B9 := hide (B8.out.trans (hb9.mono B8.out.size))
      clear hb9
      go_wp2_with fail
      go_ret
      exact ⟨rfl, B9.out⟩
end Go.Proofs.Ytjnbjgkcliaipaa
