/- Apart: each list of a book is as it was, and no two share a place: true; beside the book and its lists nothing changes. -/
import Derived.Test.YtldkkgdkjddohaaWsy
namespace Go.Proofs.Ytldkkgdkjddohaa
open Go.RowKit
/-- Block g is a row of c bytes that are the marks of list k. -/
def Marked (w : World) (g c k : Nat) : Prop := ∃ cur, w.heap[g]? = some (.cells cur 3 (0, 0)) ∧ cur.size = c ∧ ∀ i, i < c → cur[i]? = some (.int .i64 (S.mark k i))
/-- The first k lists are marked; the others, and all that is no list, are as they were. -/
structure MarkedTo (w W : World) (es : List Entry) (k : Nat) : Prop where
  os : W.os = w.os
  tape : W.tape = w.tape
  output : W.output = w.output
  size : W.heap.size = w.heap.size
  rest : ∀ b, (∀ e ∈ es, e.g ≠ some b) → W.heap[b]? = w.heap[b]?
  done : ∀ j (h : j < es.length), j < k → ∀ b, es[j].g = some b → Marked W b es[j].cap j
  todo : ∀ j (h : j < es.length), k ≤ j → ∀ b, es[j].g = some b → W.heap[b]? = w.heap[b]?
theorem MarkedTo.drew {w W : World} {es : List Entry} {k : Nat} (h : MarkedTo w W es k) : MarkedTo w W.drew es k := ⟨h.os, h.tape, h.output, h.size, h.rest, h.done, h.todo⟩
theorem MarkedTo.zero {w W : World} {es : List Entry} (h : Still w W) : MarkedTo w W es 0 := ⟨h.2.1, h.2.2.1, h.2.2.2, by rw [h.1], fun _ _ => by rw [h.1], fun _ _ hj => by omega, fun _ _ _ _ _ => by rw [h.1]⟩
/-- Within list k, the first j places are marked. -/
structure MarkedIn (o W : World) (g : Option Nat) (c k j : Nat) : Prop where
  os : W.os = o.os
  tape : W.tape = o.tape
  output : W.output = o.output
  size : W.heap.size = o.heap.size
  rest : ∀ b, g ≠ some b → W.heap[b]? = o.heap[b]?
  row : ∀ b, g = some b → ∃ cur, W.heap[b]? = some (.cells cur 3 (0, 0)) ∧ cur.size = c ∧ ∀ i, i < j → cur[i]? = some (.int .i64 (S.mark k i))
theorem MarkedIn.step {o W : World} {g c k j : Nat} (h : MarkedIn o W (some g) c k j) (hj : j < c) : MarkedIn o (W.setCell ⟨g, j, none⟩ (.int .i64 (S.mark k j))) (some g) c k (j + 1) := by
  have hb := (Below.refl 0 W).setCell (p := ⟨g, j, none⟩) (Nat.zero_le _) (.int .i64 (S.mark k j))
  obtain ⟨cur, q1, q2, q3⟩ := h.row g rfl
  refine ⟨hb.os.trans h.os, hb.tape.trans h.tape, hb.output.trans h.output, (size_setCell W _ _).trans h.size, fun b hbn => (heap_setCell_other W ⟨g, j, none⟩ b _ (fun c => hbn (by rw [c]))).trans (h.rest b hbn), fun b hbg => ?_⟩
  obtain rfl : g = b := by simpa using hbg
  refine ⟨_, heap_setCell_same _ _ _ _ _ _ q1, by rw [Array.size_setIfInBounds]; exact q2, fun i hi => ?_⟩
  rw [Array.getElem?_setIfInBounds]
  by_cases hij : j = i
  · subst hij
    rw [if_pos rfl, if_pos (by omega)]
  · rw [if_neg hij]
    exact q3 i (by omega)
theorem MarkedIn.drew {o W : World} {g : Option Nat} {c k j : Nat} (h : MarkedIn o W g c k j) : MarkedIn o W.drew g c k j := ⟨h.os, h.tape, h.output, h.size, h.rest, h.row⟩
theorem MarkedIn.drewN {o W : World} {g : Option Nat} {c k j : Nat} (h : MarkedIn o W g c k j) (n : Nat) : MarkedIn o (W.drewN n) g c k j := ⟨h.os, h.tape, h.output, h.size, h.rest, h.row⟩
theorem nodup_get {es : List Entry} (h : (es.filterMap Entry.g).Nodup) {i j : Nat} (hi : i < es.length) (hj : j < es.length) (hij : i ≠ j) {b : Nat} (hb : es[i].g = some b) : es[j].g ≠ some b := by
  intro e
  have h1 := List.pairwise_iff_getElem.1 (List.pairwise_filterMap.1 h)
  rcases Nat.lt_or_gt_of_ne hij with hl | hl
  · exact h1 i j hi hj hl b hb b e rfl
  · exact h1 j i hj hi hl b e b hb rfl
theorem MarkedTo.next {w o W : World} {es : List Entry} {k : Nat} (h : MarkedTo w o es k) (hk : k < es.length) (hn : (es.filterMap Entry.g).Nodup) (hi : MarkedIn o W es[k].g es[k].cap k es[k].cap) : MarkedTo w W es (k + 1) := by
  refine ⟨hi.os.trans h.os, hi.tape.trans h.tape, hi.output.trans h.output, hi.size.trans h.size, fun b hb => (hi.rest b (hb _ (List.getElem_mem hk))).trans (h.rest b hb), fun j hj hjk b hb => ?_, fun j hj hjk b hb => ?_⟩
  · by_cases e : j = k
    · subst e
      exact hi.row b hb
    · obtain ⟨cur, q1, q2⟩ := h.done j hj (by omega) b hb
      exact ⟨cur, (hi.rest _ (nodup_get hn hj hk e hb)).trans q1, q2⟩
  · exact (hi.rest _ (nodup_get hn hj hk (by omega) hb)).trans (h.todo j hj (by omega) b hb)
theorem MarkedTo.begin {w o : World} {es : List Entry} {k : Nat} (h : MarkedTo w o es k) (hk : k < es.length) (hr : Ed w es[k].g es[k].cap es[k].bs) : MarkedIn o o es[k].g es[k].cap k 0 := by
  refine ⟨rfl, rfl, rfl, rfl, fun _ _ => rfl, fun b hb => ?_⟩
  obtain ⟨cur, q1, q2, _⟩ := hr.1 b hb
  exact ⟨cur, (h.todo k hk (Nat.le_refl _) b hb).trans q1, q2, fun i hi => by omega⟩
/-- What the walk of Apart reads of the book, where the first lists are marked. -/
theorem BookIs.reads {w W : World} {gB base top : Nat} {vl vw : Value} {es : List Entry} {k : Nat} (h : BookIs w gB base top vl vw es) (hm : MarkedTo w W es k) :
    W.heap[gB]? = some (.cells #[vl, vw, .int .i64 (hw es), .bool false] 31 (0, 0)) ∧ Lists W vl (es.map Entry.val) :=
  ⟨(hm.rest gB (fun e he c => ((h.ents e he).at_ gB c).2.2.1 rfl)).trans h.row, h.lists.kept fun j hj => hm.rest j (fun e he c => ((h.ents e he).at_ j c).2.2.2.1 hj)⟩
theorem MarkedTo.below {w W : World} {gB base top : Nat} {vl vw : Value} {es : List Entry} {k : Nat} (h : BookIs w gB base top vl vw es) (hm : MarkedTo w W es k) : Below base w W :=
  ⟨hm.os, hm.tape, hm.output, by rw [hm.size]; exact Nat.le_refl _, fun j hj => hm.rest j (fun e he c => by have := ((h.ents e he).at_ j c).1; omega)⟩
set_option maxHeartbeats 4000000 in
set_option maxRecDepth 100000 in
theorem apart_any (gB base top : Nat) (vl vw : Value) (es : List Entry) (w : World) (hbk : BookIs w gB base top vl vw es) :
   Calls Try.prog 19 #[.pointer (some ⟨gB, 0, none⟩), .func (.func 20) #[] #[]] w fun e w' => e = .returned (.bool true) ∧ KeptFrom base top w w' := by
  obtain ⟨aol, cl, hvl⟩ := hbk.lists.shape
  rw [List.length_map] at hvl
  subst hvl
  obtain ⟨n, hn⟩ : ∃ n, n = es.length := ⟨_, rfl⟩
  have hnb : n ≤ 100 := by rw [hn]; exact hbk.few
  have HN := hide hn
  have HBK := hide hbk
  clear hbk
  rw [← hn] at HBK
  clear hn
  go_enter Try.func19, Try.ntmps19
  go_wp2_with fail
  refine (stays_any gB base top _ vw es w HBK.out).mono ?_
  rintro e0 w1 ⟨rfl, hst⟩
  have M0 : Hid (MarkedTo w w1 es 0) := MarkedTo.zero hst
  clear hst
  go_wp2_with fail
  go_loopw [5] (fun i wr => ∃ k : Nat, k ≤ n ∧ i = .int .i64 (k : Int) ∧ MarkedTo w wr es k) (fun i _ => n - (intOf i).toNat)
  case atStart => exact ⟨0, by omega, rfl, M0.out⟩
  case round =>
    obtain ⟨k, hk, rfl, hm⟩ := hrel
    have hrd := HBK.out.reads hm
    have c0 := (cells4 hrd.1).1
    have MM := hide hm
    by_cases hlt : k < n
    · have hke : k < es.length := by have := HN.out; omega
      obtain ⟨gl, ol, cl', hx, hcl, hcell⟩ := hrd.2.at k (by rw [List.length_map]; exact hke)
      rw [getD_map _ hke] at hcell
      simp only [Value.slice.injEq, List.length_map] at hx hcl
      obtain ⟨rfl, hnn, rfl⟩ := hx
      clear hnn
      have hen := HBK.out.ents es[k] (List.getElem_mem hke)
      have HIN := hide (hm.begin hke hen.ed)
      have HNX : Hid (∀ W, MarkedIn wr W es[k].g es[k].cap k es[k].cap → MarkedTo w W es (k + 1)) := fun W hW => hm.next hke HBK.out.nodup hW
      obtain ⟨e, he⟩ : ∃ e, e = es[k] := ⟨_, rfl⟩
      rw [← he] at hcell hen HIN HNX
      have hcape := hen.capl
      have hbl := hen.ed.le
      obtain ⟨ao, hao⟩ : ∃ ao, ao = aoOf e.g := ⟨_, rfl⟩
      have HAO := hide hao
      have HED := hide hen.ed
      have d1 : wr.cell? ⟨gl, ol + k, none⟩ = some (.slice ao e.bs.length e.cap) := by rw [hao]; exact hcell
      have q1 : (0 : Int) ≤ (k : Int) := by omega
      have q2 : (k : Int) < (n : Int) := by omega
      have q3 : (0 : Int) ≤ (e.cap : Int) := by omega
      have q4 : IntKind.i64.wrap ((k : Int) + 1) = (k : Int) + 1 := by rw [IntKind.wrap_i64]; omega
      clear hm hrd hcell hen he hke hcl hao
      go_wp2
      go_quiet (fail)
      go_wp2
      obtain ⟨wo, rfl⟩ : ∃ wo : World, wo = wr := ⟨_, rfl⟩
      go_loopw [7] (fun i wr => ∃ j : Nat, j ≤ e.cap ∧ i = .int .i64 (j : Int) ∧ MarkedIn wo wr e.g e.cap k j) (fun i _ => e.cap - (intOf i).toNat)
      case atStart => exact ⟨0, by omega, rfl, HIN.out.drewN _⟩
      case round =>
        obtain ⟨j, hj, rfl, hin⟩ := hrel
        by_cases hjl : j < e.cap
        · obtain ⟨b, hb⟩ : ∃ b, e.g = some b := by
            cases hg : e.g with
            | none => have := HED.out.2 hg; omega
            | some b => exact ⟨b, rfl⟩
          obtain rfl : ao = some ⟨b, 0, none⟩ := by rw [HAO.out, hb]; rfl
          rw [hb] at hin
          obtain ⟨cur, r1, r2, r3⟩ := hin.row b rfl
          obtain ⟨x, hx⟩ : ∃ x, cur[j]? = some x := ⟨cur[j]'(by omega), Array.getElem?_eq_getElem (by omega)⟩
          have ce : wr.cell? ⟨b, j, none⟩ = some x := by rw [cell_of_row wr b j cur 3 (0, 0) r1]; exact hx
          have cf := frozen_of_row _ _ j _ _ r1
          have p1 : (0 : Int) ≤ (j : Int) := by omega
          have p2 : (j : Int) < (e.cap : Int) := by omega
          have p3 : IntKind.i64.wrap ((j : Int) + 1) = (j : Int) + 1 := by rw [IntKind.wrap_i64]; omega
          have ST := hide (hin.step hjl)
          rw [← hb] at ST
          clear r1 r2 r3 hx hin c0 d1
          go_wp2_with fail
          refine (bytes_any k j (by omega) (by omega) _).mono ?_
          rintro e' w5 ⟨rfl, rfl⟩
          go_wp2
          go_roundw
          case rel => exact ⟨j + 1, by omega, by go_num, ST.out⟩
          case measure => simp [intOf]; omega
        · obtain rfl : e.cap = j := by omega
          have NX := hide (HNX.out wr hin)
          clear hin
          go_wp2
          go_roundw
          case rel => exact ⟨k + 1, by omega, by go_num, NX.out⟩
          case measure => simp [intOf]; omega
    · obtain rfl : n = k := by omega
      clear hrd hm
      go_wp2
      obtain ⟨W3, rfl⟩ : ∃ W3 : World, W3 = wr := ⟨_, rfl⟩
      go_loopw [8] (fun i wr => ∃ k : Nat, k ≤ n ∧ i = .int .i64 (k : Int) ∧ Still W3 wr) (fun i _ => n - (intOf i).toNat)
      case atStart => exact ⟨0, by omega, rfl, Still.refl _⟩
      case round =>
        obtain ⟨k, hk, rfl, hst3⟩ := hrel
        have hrd := HBK.out.reads MM.out
        have c0 := hst3.cell (cells4 hrd.1).1
        by_cases hlt : k < n
        · have hke : k < es.length := by have := HN.out; omega
          obtain ⟨gl, ol, cl', hx, hcl, hcell⟩ := hrd.2.at k (by rw [List.length_map]; exact hke)
          rw [getD_map _ hke] at hcell
          simp only [Value.slice.injEq, List.length_map] at hx hcl
          obtain ⟨rfl, hnn, rfl⟩ := hx
          clear hnn
          have hen := HBK.out.ents es[k] (List.getElem_mem hke)
          have hmk := MM.out.done k hke (by omega)
          obtain ⟨e, he⟩ : ∃ e, e = es[k] := ⟨_, rfl⟩
          rw [← he] at hcell hen hmk
          have hcape := hen.capl
          have hbl := hen.ed.le
          obtain ⟨ao, hao⟩ : ∃ ao, ao = aoOf e.g := ⟨_, rfl⟩
          have HAO := hide hao
          have HED := hide hen.ed
          have d1 : wr.cell? ⟨gl, ol + k, none⟩ = some (.slice ao e.bs.length e.cap) := by rw [hao]; exact hst3.cell hcell
          have HMK := hide hmk
          have q1 : (0 : Int) ≤ (k : Int) := by omega
          have q2 : (k : Int) < (n : Int) := by omega
          have q3 : (0 : Int) ≤ (e.cap : Int) := by omega
          have q4 : IntKind.i64.wrap ((k : Int) + 1) = (k : Int) + 1 := by rw [IntKind.wrap_i64]; omega
          have ST3 := hide hst3
          clear hrd hcell hen he hke hcl hmk hst3 hao
          go_wp2
          go_quiet (fail)
          go_wp2
          obtain ⟨wp, rfl⟩ : ∃ wp : World, wp = wr := ⟨_, rfl⟩
          go_loopw [10] (fun i wr => ∃ j : Nat, j ≤ e.cap ∧ i = .int .i64 (j : Int) ∧ Still W3 wr) (fun i _ => e.cap - (intOf i).toNat)
          case atStart => exact ⟨0, by omega, rfl, ST3.out.drew⟩
          case round =>
            obtain ⟨j, hj, rfl, hst4⟩ := hrel
            by_cases hjl : j < e.cap
            · obtain ⟨b, hb⟩ : ∃ b, e.g = some b := by
                cases hg : e.g with
                | none => have := HED.out.2 hg; omega
                | some b => exact ⟨b, rfl⟩
              obtain rfl : ao = some ⟨b, 0, none⟩ := by rw [HAO.out, hb]; rfl
              obtain ⟨cur, r1, r2, r3⟩ := HMK.out b hb
              have d3 : wr.cell? ⟨b, j, none⟩ = some (.int .i64 (S.mark k j)) := hst4.cell (by rw [cell_of_row W3 b j cur 3 (0, 0) r1]; exact r3 j hjl)
              have p1 : (0 : Int) ≤ (j : Int) := by omega
              have p2 : (j : Int) < (e.cap : Int) := by omega
              have p3 : IntKind.i64.wrap ((j : Int) + 1) = (j : Int) + 1 := by rw [IntKind.wrap_i64]; omega
              clear r1 r2 r3 c0 d1
              go_wp2
              refine wp_region_noPanic ?_
              refine wp_region_held_drew (S := (fun w' => Still wr w')) follows ((Still.refl _).drew) (fun hHeld => ?_)
              refine wpAnyH_take (i := 0) (oi := { dst := some 83, op := Op.move (Operand.tmp 9), type := 22, pos := "book.go:59", after := #[], guard := none }) (v := ?_) rfl (by kernel_rfl) (by kernel_rfl) (by kernel_rfl) (fun _ _ _ h => h) (Or.inl ⟨by rfl, ?_⟩) (by assumption) ?_
              rotate_left
              · intro w hSw
                clear hSw
                go_simp
                all_goals with_reducible rfl
              simp only [Act.put, List.setIfInBounds_toArray, List.set_cons_zero, List.set_cons_succ]
              refine wpAnyH_take (i := 1) (oi := { dst := some 84, op := Op.move (Operand.tmp 10), type := 3, pos := "book.go:59", after := #[], guard := none }) (v := ?_) rfl (by kernel_rfl) (by kernel_rfl) (by kernel_rfl) (fun _ _ _ h => h) (Or.inl ⟨by rfl, ?_⟩) (by assumption) ?_
              rotate_left
              · intro w hSw
                clear hSw
                go_simp
                all_goals with_reducible rfl
              simp only [Act.put, List.setIfInBounds_toArray, List.set_cons_zero, List.set_cons_succ]
              refine wpAnyH_take (i := 2) (oi := { dst := some 85, op := Op.indexAddr 22 (Operand.tmp 83) (Operand.tmp 84), type := 0, pos := "book.go:59", after := #[{ on := 0, ground := Ground.data }, { on := 1, ground := Ground.data }], guard := none }) (v := ?_) rfl (by kernel_rfl) (by kernel_rfl) (by kernel_rfl) (fun _ _ _ h => h) (Or.inl ⟨by rfl, ?_⟩) (by assumption) ?_
              rotate_left
              · intro w hSw
                clear hSw
                go_simp
                all_goals with_reducible rfl
              simp only [Act.put, List.setIfInBounds_toArray, List.set_cons_zero, List.set_cons_succ]
              refine wpAnyH_take (i := 3) (oi := { dst := some 86, op := Op.load 3 (Operand.tmp 85), type := 3, pos := "book.go:59", after := #[{ on := 2, ground := Ground.data }], guard := none }) (v := ?_) rfl (by kernel_rfl) (by kernel_rfl) (by kernel_rfl) (fun _ _ _ h => h) (Or.inl ⟨by rfl, ?_⟩) (by assumption) ?_
              rotate_left
              · intro w hSw
                have h3 := Still.cell hSw d3
                clear hSw
                go_simp
                all_goals with_reducible rfl
              simp only [Act.put, List.setIfInBounds_toArray, List.set_cons_zero, List.set_cons_succ]
              refine wpAnyH_take (i := 4) (oi := { dst := some 87, op := Op.move (Operand.tmp 1), type := 34, pos := "book.go:59", after := #[], guard := none }) (v := ?_) rfl (by kernel_rfl) (by kernel_rfl) (by kernel_rfl) (fun _ _ _ h => h) (Or.inl ⟨by rfl, ?_⟩) (by assumption) ?_
              rotate_left
              · intro w hSw
                clear hSw
                go_simp
                all_goals with_reducible rfl
              simp only [Act.put, List.setIfInBounds_toArray, List.set_cons_zero, List.set_cons_succ]
              refine wpAnyH_take (i := 5) (oi := { dst := some 88, op := Op.move (Operand.tmp 8), type := 3, pos := "book.go:59", after := #[], guard := none }) (v := ?_) rfl (by kernel_rfl) (by kernel_rfl) (by kernel_rfl) (fun _ _ _ h => h) (Or.inl ⟨by rfl, ?_⟩) (by assumption) ?_
              rotate_left
              · intro w hSw
                clear hSw
                go_simp
                all_goals with_reducible rfl
              simp only [Act.put, List.setIfInBounds_toArray, List.set_cons_zero, List.set_cons_succ]
              refine wpAnyH_take (i := 6) (oi := { dst := some 89, op := Op.move (Operand.tmp 10), type := 3, pos := "book.go:59", after := #[], guard := none }) (v := ?_) rfl (by kernel_rfl) (by kernel_rfl) (by kernel_rfl) (fun _ _ _ h => h) (Or.inl ⟨by rfl, ?_⟩) (by assumption) ?_
              rotate_left
              · intro w hSw
                clear hSw
                go_simp
                all_goals with_reducible rfl
              simp only [Act.put, List.setIfInBounds_toArray, List.set_cons_zero, List.set_cons_succ]
              refine wpAnyH_ready (rs := [7]) (by kernel_rfl) (by simp) ?_
              refine AllReadyH.cons (o := { dst := some 90, op := Op.call { callee := Callee.value (Operand.tmp 87), args := #[Operand.tmp 88, Operand.tmp 89], argTypes := #[3, 3] }, type := 3, pos := "book.go:59", after := #[{ on := 4, ground := Ground.data }, { on := 5, ground := Ground.data }, { on := 6, ground := Ground.data }], guard := none }) rfl (fun K hK => ?_) AllReadyH.nil
              go_simp
              refine (bytes_any k j (by omega) (by omega) _).mono ?_
              rintro e' w5 ⟨rfl, rfl⟩
              go_wp2_with fail
              refine hK.out _ _ hHeld (fun hHeld => ?_)
              clear hK K
              try simp only [Act.put, List.setIfInBounds_toArray, List.set_cons_zero, List.set_cons_succ]
              refine wpAnyH_take (i := 8) (oi := { dst := some 91, op := Op.binOp BinOp.neq 3 (Operand.tmp 86) (Operand.tmp 90) 3, type := 4, pos := "book.go:59", after := #[{ on := 3, ground := Ground.data }, { on := 7, ground := Ground.data }], guard := none }) (v := ?_) rfl (by kernel_rfl) (by kernel_rfl) (by kernel_rfl) (fun _ _ _ h => h) (Or.inl ⟨by rfl, ?_⟩) (by assumption) ?_
              rotate_left
              · intro w hSw
                clear hSw
                go_simp
                all_goals with_reducible rfl
              simp only [Act.put, List.setIfInBounds_toArray, List.set_cons_zero, List.set_cons_succ]
              refine wpAnyH_done (by kernel_rfl) ?_ _
              refine NoPanic.normal ?_
              go_wp2
              go_roundw
              case rel => exact ⟨j + 1, by omega, by go_num, Still.trans hst4 hHeld⟩
              case measure => simp [intOf]; omega
            · obtain rfl : e.cap = j := by omega
              go_wp2
              go_roundw
              case rel => exact ⟨k + 1, by omega, by go_num, hst4⟩
              case measure => simp [intOf]; omega
        · obtain rfl : n = k := by omega
          have hrow : wr.heap[gB]? = _ := (congrArg (fun h => h[gB]?) hst3.1).trans hrd.1
          have f0 := frozen_of_row _ _ 0 _ _ hrow
          have f1 := frozen_of_row _ _ 1 _ _ hrow
          have f2 := frozen_of_row _ _ 2 _ _ hrow
          have c1 := (cells4 hrow).2.1
          have c2 := (cells4 hrow).2.2.1
          have BB : Hid (Below base w wr) := (MM.out.below HBK.out).trans (hst3.below base)
          have BT : Hid (∀ j, top ≤ j → j < w.heap.size → wr.heap[j]? = w.heap[j]?) := fun j hj _ => (congrArg (fun h => h[j]?) hst3.1).trans (MM.out.rest j (fun e he c => by have := ((HBK.out.ents e he).at_ j c).2.1; omega))
          have HTG : Hid (gB < top) := HBK.out.hi
          have HLO : Hid (base ≤ gB) := HBK.out.lo
          clear hrd hst3 hrow
          go_wp2
          go_ret
          refine ⟨rfl, ((BB.out.setCell HLO.out _).setCell HLO.out _).setCell HLO.out _, fun j hj hj2 => ?_⟩
          have hne : j ≠ gB := by have := HTG.out; omega
          rw [heap_setCell_other _ _ _ _ hne, heap_setCell_other _ _ _ _ hne, heap_setCell_other _ _ _ _ hne]
          exact BT.out j hj hj2
end Go.Proofs.Ytldkkgdkjddohaa
