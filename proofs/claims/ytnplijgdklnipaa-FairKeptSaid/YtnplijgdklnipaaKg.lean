/- Apart: each list of a book of digests is as it was, and no two share a place. -/
import Derived.Test.YtnplijgdklnipaaKf
namespace Go.Proofs.Ytnplijgdklnipaa
open Go.RowKit
/-- The operation that stands first is this one. -/
theorem at_op {w : World} {ops : Array Oper} {rest : List Oper} {a : Act} {Q : Exit → Act → World → Prop} (o : Oper) (h : wpList Try.prog ops Q (o :: rest) a w) : wpList Try.prog ops Q (o :: rest) a w := h
theorem Chg.setCells {p : Nat → Prop} {w : World} (g : Nat) (hg : g < w.heap.size → p g) : ∀ (vs : List Value) (o : Nat) {W : World}, Chg p w W → Chg p w (W.setCells g o vs)
  | [], _, _, h => h
  | v :: r, o, _, h => Chg.setCells g hg r (o + 1) (h.setCell g o v hg)
theorem row_setCells {w : World} {g : Nat} {t : TypeId} : ∀ (vs : List Value) (o : Nat) {w : World} {cur : Array Value}, w.heap[g]? = some (.cells cur t (0, 0)) → ∃ cur', (w.setCells g o vs).heap[g]? = some (.cells cur' t (0, 0)) ∧ cur'.size = cur.size
  | [], _, _, cur, h => ⟨cur, h, rfl⟩
  | v :: r, o, _, cur, h => by
    obtain ⟨c, h1, h2⟩ := row_setCells (w := w) r (o + 1) (heap_setCell_same _ _ o _ _ v h)
    exact ⟨c, h1, by rw [h2]; simp⟩
namespace Dg
/-- The mark of place j of list k. -/
def mkL (k j : Nat) : S.Ln := ⟨-100 - (k : Int), IntKind.i64.wrap (-(j : Int)), 0⟩
theorem mark_any (k j : Nat) (hk : k ≤ 200) (w : World) :
   Calls Try.prog 22 #[.int .i64 (k : Int), .int .i64 (j : Int)] w fun e w' => e = .returned (.agg (encL (mkL k j)).toArray) ∧ Below w.heap.size w w' := by
  have q1 : IntKind.i64.wrap (-100 - (k : Int)) = -100 - (k : Int) := by rw [IntKind.wrap_i64]; omega
  obtain ⟨m, hm⟩ : ∃ m, m = IntKind.i64.wrap (-(j : Int)) := ⟨_, rfl⟩
  have q2 : IntKind.i64.wrap (-(j : Int)) = m := hm.symm
  have HC : Hid (mkL k j = ⟨-100 - (k : Int), m, 0⟩) := by show mkL k j = _; rw [mkL, hm]
  clear hm
  obtain ⟨gb, hgb⟩ : ∃ gb, gb = w.heap.size := ⟨_, rfl⟩
  have HGB := hide hgb
  have c0 := (Cel.new w 28 (.int .i64 0) (.int .i64 0) (.int .i64 0)).c
  have f0 := (Cel.new w 28 (.int .i64 0) (.int .i64 0) (.int .i64 0)).fz
  have K5 := hide ((((Cel.new w 28 (.int .i64 0) (.int .i64 0) (.int .i64 0)).set0 (.int .i64 (-100 - (k : Int)))).set1 (.int .i64 m)).set2 (.int .i64 0))
  clear hgb
  go_enter Try.func22, Try.ntmps22
  go_wp2
  first
    | exact bodyPost_ret (results_c Try.results22 _ _ w.heap.size _ rfl (var28 (one_top w _))) rfl ⟨by rw [HC.out]; rfl, one_below _ _⟩
    | exact bodyPost_ret (results_c Try.results22 _ _ w.heap.size _ rfl (var28 K5.out.row)) rfl ⟨by rw [HC.out]; rfl, (((one_below _ _).setCell (p := ⟨w.heap.size, 0, none⟩) (Nat.le_refl _) _).setCell (p := ⟨w.heap.size, 1, none⟩) (Nat.le_refl _) _).setCell (p := ⟨w.heap.size, 2, none⟩) (Nat.le_refl _) _⟩
/-- The first k lists are marked; the others, and all that is no list, are as they were. -/
structure MarkedTo (w W : World) (es : List Entry) (k : Nat) : Prop where
  chg : Chg (fun b => ∃ e ∈ es, b = e.g) w W
  done : ∀ j (h : j < es.length), j < k → ∀ i, i < es[j].cap → W.rangeAt es[j].g (i * 3) (encL (mkL j i))
  todo : ∀ j (h : j < es.length), k ≤ j → W.heap[es[j].g]? = w.heap[es[j].g]?
theorem MarkedTo.zero {w W : World} {es : List Entry} (h : Still w W) : MarkedTo w W es 0 := ⟨Chg.ofStill h, fun _ _ hj => by omega, fun _ _ _ => by rw [h.1]⟩
/-- Within list k, the first j places are marked. -/
structure MarkedIn (o W : World) (g c k j : Nat) : Prop where
  chg : Chg (fun b => b = g) o W
  lt : g < o.heap.size
  there : ∀ i, i < c → W.there g (i * 3) 3
  row : ∀ i, i < j → W.rangeAt g (i * 3) (encL (mkL k i))
theorem MarkedIn.below {o W W' : World} {g c k j : Nat} (h : MarkedIn o W g c k j) (hb : Below W.heap.size W W') : MarkedIn o W' g c k j := by
  have hg : W'.heap[g]? = W.heap[g]? := hb.block g (Nat.lt_of_lt_of_le h.lt h.chg.size)
  refine ⟨h.chg.trans (Chg.ofBelow' (p := fun _ => False) hb) (fun _ _ e => False.elim e), h.lt, fun i hi q hq => ⟨?_, ?_⟩, fun i hi q u hu => ?_⟩
  · rw [World.cell?_of_block (w := W) hg]; exact (h.there i hi q hq).1
  · rw [← (h.there i hi q hq).2]; exact World.frozen?_of_block (w := W) hg
  · rw [World.cell?_of_block (w := W) hg]; exact h.row i hi q u hu
theorem MarkedIn.step {o W : World} {g c k j : Nat} (h : MarkedIn o W g c k j) (hj : j < c) : MarkedIn o (W.setCells g (j * 3) (encL (mkL k j))) g c k (j + 1) := by
  have hl : (encL (mkL k j)).length = 3 := encL_length _
  refine ⟨Chg.setCells (p := fun b => b = g) g (fun _ => rfl) _ _ h.chg, h.lt, fun i hi => World.there_setCells (h.there i hi) _ _ _, fun i hi => ?_⟩
  by_cases hij : i = j
  · subst hij
    exact World.rangeAt_setCells_same _ _ _ _ (by rw [hl]; exact h.there i hj)
  · exact World.rangeAt_setCells_apart (h.row i (by omega)) _ _ _ (Or.inr (Or.inl (by rw [encL_length]; omega)))
theorem MarkedIn.drewN {o W : World} {g c k j : Nat} (h : MarkedIn o W g c k j) (n : Nat) : MarkedIn o (W.drewN n) g c k j := h.below ⟨rfl, rfl, rfl, Nat.le_refl _, fun _ _ => rfl⟩
theorem nodup_get {es : List Entry} (h : (es.map Entry.g).Nodup) {i j : Nat} (hi : i < es.length) (hj : j < es.length) (hij : i ≠ j) : es[i].g ≠ es[j].g := by
  intro e
  have h1 : (es.map Entry.g)[i]'(by simpa using hi) = (es.map Entry.g)[j]'(by simpa using hj) := by simpa using e
  exact hij ((List.getElem_inj h).1 h1)
theorem MarkedTo.next {w o W : World} {es : List Entry} {k : Nat} (h : MarkedTo w o es k) (hk : k < es.length) (hn : (es.map Entry.g).Nodup) (hlt : ∀ e ∈ es, e.g < w.heap.size) (hi : MarkedIn o W es[k].g es[k].cap k es[k].cap) : MarkedTo w W es (k + 1) := by
  refine ⟨h.chg.trans hi.chg (fun j _ e => ⟨_, List.getElem_mem hk, e⟩), fun j hj hjk => ?_, fun j hj hjk => ?_⟩
  · by_cases e : j = k
    · subst e
      exact hi.row
    · intro i hic q u hu
      rw [World.cell?_of_block (w := o) (hi.chg.block _ (Nat.lt_of_lt_of_le (hlt _ (List.getElem_mem hj)) h.chg.size) (nodup_get hn hj hk e))]
      exact h.done j hj (by omega) i hic q u hu
  · exact (hi.chg.block _ (Nat.lt_of_lt_of_le (hlt _ (List.getElem_mem hj)) h.chg.size) (nodup_get hn hj hk (by omega))).trans (h.todo j hj (by omega))
theorem MarkedTo.begin {w o : World} {es : List Entry} {k : Nat} (h : MarkedTo w o es k) (hk : k < es.length) (hr : Room w es[k].g es[k].cap es[k].bs) : MarkedIn o o es[k].g es[k].cap k 0 := by
  obtain ⟨cur, q1, q2, _⟩ := hr
  have q3 := (h.todo k hk (Nat.le_refl _)).trans q1
  refine ⟨Chg.refl _ _, block_lt_of_row q3, fun i hi q hq => ⟨?_, ?_⟩, fun i hi => by omega⟩
  · rw [cell_of_row o _ (i * 3 + q) _ _ _ q3, Array.getElem?_eq_getElem (by rw [q2]; omega)]
    rfl
  · exact frozen_of_row _ _ _ _ _ q3
/-- What the walk of Apart reads of the book, where the first lists are marked. -/
theorem BookIs.reads {w W : World} {gB base top : Nat} {vl vw : Value} {es : List Entry} {k : Nat} (h : BookIs w gB base top vl vw es) (hm : MarkedTo w W es k) :
    W.heap[gB]? = some (.cells #[vl, vw, .int .i64 (hw es), .bool false] 49 (0, 0)) ∧ Lists W vl (es.map Entry.val) :=
  ⟨(hm.chg.block gB (Nat.lt_of_lt_of_le h.hi h.top_le) (fun ⟨e, he, e2⟩ => (h.ents e he).2.2.2.1 e2.symm)).trans h.row, h.lists.kept fun j hj => hm.chg.block j (h.lists.lt hj) (fun ⟨e, he, e2⟩ => (h.ents e he).2.2.2.2.1 (e2 ▸ hj))⟩
theorem MarkedTo.below {w W : World} {gB base top : Nat} {vl vw : Value} {es : List Entry} {k : Nat} (h : BookIs w gB base top vl vw es) (hm : MarkedTo w W es k) : Below base w W :=
  hm.chg.below base (by have := h.lo; have := h.hi; have := h.top_le; omega) (fun j hj ⟨e, he, e2⟩ => by have := (h.ents e he).2.1; omega)
set_option maxHeartbeats 4000000 in
set_option maxRecDepth 100000 in
theorem apart_any (gB base top : Nat) (vl vw : Value) (es : List Entry) (w : World) (hbk : BookIs w gB base top vl vw es) :
   Calls Try.prog 21 #[.pointer (some ⟨gB, 0, none⟩), .func (.func 22) #[] #[]] w fun e w' => e = .returned (.bool true) ∧ KeptFrom base top w w' := by
  obtain ⟨aol, cl, hvl⟩ := hbk.lists.shape
  rw [List.length_map] at hvl
  subst hvl
  obtain ⟨n, hn⟩ : ∃ n, n = es.length := ⟨_, rfl⟩
  have hnb : n ≤ 100 := by rw [hn]; exact hbk.few
  have HN := hide hn
  have HBK := hide hbk
  clear hbk
  rw [← hn] at HBK
  clear hn
  go_enter Try.func21, Try.ntmps21
  go_wp2_with fail
  refine (stays_any gB base top _ vw es w HBK.out).mono ?_
  rintro e0 w1 ⟨rfl, hst⟩
  have M0 : Hid (MarkedTo w w1 es 0) := MarkedTo.zero hst
  clear hst
  go_wp2_with fail
  go_loopw [5] (fun i wr => ∃ k : Nat, k ≤ n ∧ i = .int .i64 (k : Int) ∧ MarkedTo w wr es k) (fun i _ => n - (intOf i).toNat)
  case atStart => exact ⟨0, by omega, rfl, M0.out⟩
  case round =>
    obtain ⟨k, hk, rfl, hm⟩ := hrel
    have hrd := HBK.out.reads hm
    have c0 := (cells4 hrd.1).1
    have MM := hide hm
    by_cases hlt : k < n
    · have hke : k < es.length := by have := HN.out; omega
      obtain ⟨gl, ol, cl', hx, hcl, hcell⟩ := hrd.2.at k (by rw [List.length_map]; exact hke)
      rw [getD_map _ hke] at hcell
      simp only [Value.slice.injEq, List.length_map] at hx hcl
      obtain ⟨rfl, hnn, rfl⟩ := hx
      clear hnn
      have hen := HBK.out.ents es[k] (List.getElem_mem hke)
      have HIN := hide (hm.begin hke hen.1)
      have HNX : Hid (∀ W, MarkedIn wr W es[k].g es[k].cap k es[k].cap → MarkedTo w W es (k + 1)) := fun W hW => hm.next hke HBK.out.nodup (fun e he => Nat.lt_of_lt_of_le (HBK.out.ents e he).2.2.1 HBK.out.top_le) hW
      obtain ⟨e, he⟩ : ∃ e, e = es[k] := ⟨_, rfl⟩
      rw [← he] at hcell hen HIN HNX
      have hcape := hen.2.2.2.2.2.2.2.2.1
      have hbl := hen.1.le
      have d1 : wr.cell? ⟨gl, ol + k, none⟩ = some (.slice (some ⟨e.g, 0, none⟩) e.bs.length e.cap) := hcell
      have q1 : (0 : Int) ≤ (k : Int) := by omega
      have q2 : (k : Int) < (n : Int) := by omega
      have q3 : (0 : Int) ≤ (e.cap : Int) := by omega
      have q4 : IntKind.i64.wrap ((k : Int) + 1) = (k : Int) + 1 := by rw [IntKind.wrap_i64]; omega
      clear hm hrd hcell hen he hke hcl
      go_wp2
      go_quiet (fail)
      go_wp2
      obtain ⟨wo, rfl⟩ : ∃ wo : World, wo = wr := ⟨_, rfl⟩
      go_loopw [7] (fun i wr => ∃ j : Nat, j ≤ e.cap ∧ i = .int .i64 (j : Int) ∧ MarkedIn wo wr e.g e.cap k j) (fun i _ => e.cap - (intOf i).toNat)
      case atStart => exact ⟨0, by omega, rfl, HIN.out.drewN _⟩
      case round =>
        obtain ⟨j, hj, rfl, hin⟩ := hrel
        by_cases hjl : j < e.cap
        · have p1 : (0 : Int) ≤ (j : Int) := by omega
          have p2 : (j : Int) < (e.cap : Int) := by omega
          have p3 : IntKind.i64.wrap ((j : Int) + 1) = (j : Int) + 1 := by rw [IntKind.wrap_i64]; omega
          have HI2 := hide hin
          clear hin c0 d1
          go_wp2_with fail
          refine (mark_any k j (by omega) _).mono ?_
          rintro e' w5 ⟨rfl, b5⟩
          have HI5 := hide (HI2.out.below b5)
          have hst := run_storeAt_mid (P := Try.prog) w5 e.g (j * 3) 28 ((encL (mkL k j)).toArray) (by rw [List.size_toArray, encL_length]; exact HI5.out.there j hjl) (size_l _) (by simp [encL, Value.oneCell'])
          rw [show (encL (mkL k j)).toArray.toList = encL (mkL k j) from rfl] at hst
          have ST := hide (HI5.out.step hjl)
          obtain ⟨W6, hW6⟩ : ∃ W, W = w5.setCells e.g (j * 3) (encL (mkL k j)) := ⟨_, rfl⟩
          rw [← hW6] at hst ST
          obtain ⟨MK, hMK⟩ : ∃ M, M = (encL (mkL k j)).toArray := ⟨_, rfl⟩
          rw [← hMK] at hst ⊢
          clear b5 HI2 HI5 hW6 hMK
          go_wp2_with (with_reducible refine at_op { dst := none, op := Op.store 28 (Operand.tmp 51) (Operand.tmp 50), type := 0, pos := "book.go:53", after := #[{ on := 6, ground := Ground.data }, { on := 5, ground := Ground.data }, { on := 5, ground := Ground.chain }, { on := 0, ground := Ground.phase }, { on := 1, ground := Ground.phase }, { on := 2, ground := Ground.phase }, { on := 3, ground := Ground.phase }, { on := 4, ground := Ground.phase }, { on := 5, ground := Ground.phase }], guard := none } ?_; refine wpList_store_as rfl 28 (.tmp 51) (.tmp 50) rfl (.pointer (some ⟨e.g, j * 3, none⟩)) (.agg MK) rfl rfl W6 hst ?_)
          go_roundw
          case rel => exact ⟨j + 1, by omega, by go_num, ST.out⟩
          case measure => simp [intOf]; omega
        · obtain rfl : e.cap = j := by omega
          have NX := hide (HNX.out wr hin)
          clear hin
          go_wp2
          go_roundw
          case rel => exact ⟨k + 1, by omega, by go_num, NX.out⟩
          case measure => simp [intOf]; omega
    · obtain rfl : n = k := by omega
      clear hrd hm
      go_wp2
      obtain ⟨W3, rfl⟩ : ∃ W3 : World, W3 = wr := ⟨_, rfl⟩
      go_loopw [8] (fun i wr => ∃ k : Nat, k ≤ n ∧ i = .int .i64 (k : Int) ∧ Below W3.heap.size W3 wr) (fun i _ => n - (intOf i).toNat)
      case atStart => exact ⟨0, by omega, rfl, Below.refl _ _⟩
      case round =>
        obtain ⟨k, hk, rfl, hst3⟩ := hrel
        have hrd := HBK.out.reads MM.out
        have c0 : wr.cell? ⟨gB, 0, none⟩ = _ := (hst3.cell (p := ⟨gB, 0, none⟩) (block_lt_of_row hrd.1)).trans (cells4 hrd.1).1
        by_cases hlt : k < n
        · have hke : k < es.length := by have := HN.out; omega
          obtain ⟨gl, ol, cl', hx, hcl, hcell⟩ := hrd.2.at k (by rw [List.length_map]; exact hke)
          rw [getD_map _ hke] at hcell
          simp only [Value.slice.injEq, List.length_map] at hx hcl
          obtain ⟨rfl, hnn, rfl⟩ := hx
          clear hnn
          have hen := HBK.out.ents es[k] (List.getElem_mem hke)
          have hmk := MM.out.done k hke (by omega)
          obtain ⟨e, he⟩ : ∃ e, e = es[k] := ⟨_, rfl⟩
          rw [← he] at hcell hen hmk
          have hcape := hen.2.2.2.2.2.2.2.2.1
          have hbl := hen.1.le
          have d1 : wr.cell? ⟨gl, ol + k, none⟩ = some (.slice (some ⟨e.g, 0, none⟩) e.bs.length e.cap) := (hst3.cell (p := ⟨gl, ol + k, none⟩) (World.block_lt_of_cell? _ _ hcell)).trans hcell
          have HMK := hide hmk
          have q1 : (0 : Int) ≤ (k : Int) := by omega
          have q2 : (k : Int) < (n : Int) := by omega
          have q3 : (0 : Int) ≤ (e.cap : Int) := by omega
          have q4 : IntKind.i64.wrap ((k : Int) + 1) = (k : Int) + 1 := by rw [IntKind.wrap_i64]; omega
          have ST3 := hide hst3
          clear hrd hcell hen he hke hcl hmk hst3
          go_wp2
          go_quiet (fail)
          go_wp2
          obtain ⟨wp, rfl⟩ : ∃ wp : World, wp = wr := ⟨_, rfl⟩
          go_loopw [10] (fun i wr => ∃ j : Nat, j ≤ e.cap ∧ i = .int .i64 (j : Int) ∧ Below W3.heap.size W3 wr) (fun i _ => e.cap - (intOf i).toNat)
          case atStart => exact ⟨0, by omega, rfl, ⟨ST3.out.os, ST3.out.tape, ST3.out.output, ST3.out.size, ST3.out.block⟩⟩
          case round =>
            obtain ⟨j, hj, rfl, hst4⟩ := hrel
            by_cases hjl : j < e.cap
            · have p1 : (0 : Int) ≤ (j : Int) := by omega
              have p2 : (j : Int) < (e.cap : Int) := by omega
              have p3 : IntKind.i64.wrap ((j : Int) + 1) = (j : Int) + 1 := by rw [IntKind.wrap_i64]; omega
              have hrr := HMK.out j hjl
              obtain ⟨cs, hcs⟩ : ∃ cs, cs = encL (mkL k j) := ⟨_, rfl⟩
              obtain ⟨MV, hMV⟩ : ∃ M, M = (encL (mkL k j)).toArray := ⟨_, rfl⟩
              have heq : ∀ w, (Op.equalIn 10000 28 (.agg cs.toArray) (.agg MV)).run Try.prog w = .ok true w := fun w => by rw [hcs, hMV]; exact equal_l (mkL k j) (mkL k j) true (by simp) w
              have HCS := hide (show (Try.prog.info? 28).map (·.size) = some cs.length by rw [hcs]; simpa using size_l (mkL k j))
              rw [← hcs] at hrr
              have HR := hide hrr
              have HMV := hide hMV
              have HS4 := hide hst4
              clear hrr hcs hMV c0 d1 hst4
              go_wp2_with fail
              refine wp_region_noPanic ?_
              refine wp_region_held_drew (S := (fun W => Below W3.heap.size W3 W)) follows (HS4.out.drew) (fun hHeld => ?_)
              have BZ := hide hHeld
              generalize wr.drew = Z at BZ hHeld ⊢
              refine wpAnyH_take (i := 0) (oi := { dst := some 83, op := Op.move (Operand.tmp 9), type := 24, pos := "book.go:59", after := #[], guard := none }) (v := ?_) rfl (by kernel_rfl) (by kernel_rfl) (by kernel_rfl) (fun _ _ _ h => h) (Or.inl ⟨by rfl, ?_⟩) (by assumption) ?_
              rotate_left
              · intro w hSw
                clear hSw
                go_simp
                all_goals with_reducible rfl
              simp only [Act.put, List.setIfInBounds_toArray, List.set_cons_zero, List.set_cons_succ]
              refine wpAnyH_take (i := 1) (oi := { dst := some 84, op := Op.move (Operand.tmp 10), type := 3, pos := "book.go:59", after := #[], guard := none }) (v := ?_) rfl (by kernel_rfl) (by kernel_rfl) (by kernel_rfl) (fun _ _ _ h => h) (Or.inl ⟨by rfl, ?_⟩) (by assumption) ?_
              rotate_left
              · intro w hSw
                clear hSw
                go_simp
                all_goals with_reducible rfl
              simp only [Act.put, List.setIfInBounds_toArray, List.set_cons_zero, List.set_cons_succ]
              refine wpAnyH_take (i := 2) (oi := { dst := some 85, op := Op.indexAddr 24 (Operand.tmp 83) (Operand.tmp 84), type := 0, pos := "book.go:59", after := #[{ on := 0, ground := Ground.data }, { on := 1, ground := Ground.data }], guard := none }) (v := ?_) rfl (by kernel_rfl) (by kernel_rfl) (by kernel_rfl) (fun _ _ _ h => h) (Or.inl ⟨by rfl, ?_⟩) (by assumption) ?_
              rotate_left
              · intro w hSw
                clear hSw
                go_simp
                all_goals with_reducible rfl
              simp only [Act.put, List.setIfInBounds_toArray, List.set_cons_zero, List.set_cons_succ]
              refine wpAnyH_take (i := 3) (oi := { dst := some 86, op := Op.load 28 (Operand.tmp 85), type := 28, pos := "book.go:59", after := #[{ on := 2, ground := Ground.data }], guard := none }) (v := .agg cs.toArray) rfl (by kernel_rfl) (by kernel_rfl) (by kernel_rfl) (fun _ _ _ h => h) (yieldsIf_load_mid (by rfl) _ _ rfl e.g (j * 3) rfl cs _ (fun _ hSw => (fun q u hu => (hSw.cell (p := ⟨e.g, j * 3 + q, none⟩) (World.block_lt_of_cell? _ _ (HR.out q u hu))).trans (HR.out q u hu))) Try.underlying28 rfl HCS.out) (by assumption) ?_
              simp only [Act.put, List.setIfInBounds_toArray, List.set_cons_zero, List.set_cons_succ]
              refine wpAnyH_take (i := 4) (oi := { dst := some 87, op := Op.move (Operand.tmp 1), type := 52, pos := "book.go:59", after := #[], guard := none }) (v := ?_) rfl (by kernel_rfl) (by kernel_rfl) (by kernel_rfl) (fun _ _ _ h => h) (Or.inl ⟨by rfl, ?_⟩) (by assumption) ?_
              rotate_left
              · intro w hSw
                clear hSw
                go_simp
                all_goals with_reducible rfl
              simp only [Act.put, List.setIfInBounds_toArray, List.set_cons_zero, List.set_cons_succ]
              refine wpAnyH_take (i := 5) (oi := { dst := some 88, op := Op.move (Operand.tmp 8), type := 3, pos := "book.go:59", after := #[], guard := none }) (v := ?_) rfl (by kernel_rfl) (by kernel_rfl) (by kernel_rfl) (fun _ _ _ h => h) (Or.inl ⟨by rfl, ?_⟩) (by assumption) ?_
              rotate_left
              · intro w hSw
                clear hSw
                go_simp
                all_goals with_reducible rfl
              simp only [Act.put, List.setIfInBounds_toArray, List.set_cons_zero, List.set_cons_succ]
              refine wpAnyH_take (i := 6) (oi := { dst := some 89, op := Op.move (Operand.tmp 10), type := 3, pos := "book.go:59", after := #[], guard := none }) (v := ?_) rfl (by kernel_rfl) (by kernel_rfl) (by kernel_rfl) (fun _ _ _ h => h) (Or.inl ⟨by rfl, ?_⟩) (by assumption) ?_
              rotate_left
              · intro w hSw
                clear hSw
                go_simp
                all_goals with_reducible rfl
              simp only [Act.put, List.setIfInBounds_toArray, List.set_cons_zero, List.set_cons_succ]
              refine wpAnyH_ready (rs := [7]) (by kernel_rfl) (by simp) ?_
              refine AllReadyH.cons (o := { dst := some 90, op := Op.call { callee := Callee.value (Operand.tmp 87), args := #[Operand.tmp 88, Operand.tmp 89], argTypes := #[3, 3] }, type := 28, pos := "book.go:59", after := #[{ on := 4, ground := Ground.data }, { on := 5, ground := Ground.data }, { on := 6, ground := Ground.data }], guard := none }) rfl (fun K hK => ?_) AllReadyH.nil
              go_simp
              refine (mark_any k j (by omega) _).mono ?_
              rintro e' w5 ⟨rfl, b5⟩
              rw [← HMV.out]
              have BZ5 : Hid (Below W3.heap.size W3 w5) := BZ.out.trans (b5.mono BZ.out.size)
              clear b5 BZ hHeld
              refine hK.out _ _ BZ5.out (fun hHeld => ?_)
              clear hK K
              try simp only [Act.put, List.setIfInBounds_toArray, List.set_cons_zero, List.set_cons_succ]
              refine wpAnyH_take (i := 8) (oi := { dst := some 91, op := Op.binOp BinOp.neq 28 (Operand.tmp 86) (Operand.tmp 90) 28, type := 4, pos := "book.go:59", after := #[{ on := 3, ground := Ground.data }, { on := 7, ground := Ground.data }], guard := none }) (v := ?_) rfl (by kernel_rfl) (by kernel_rfl) (by kernel_rfl) (fun _ _ _ h => h) (Or.inl ⟨by rfl, ?_⟩) (by assumption) ?_
              rotate_left
              · intro w hSw
                clear hSw
                go_simp
                all_goals with_reducible rfl
              simp only [Act.put, List.setIfInBounds_toArray, List.set_cons_zero, List.set_cons_succ]
              refine wpAnyH_done (by kernel_rfl) ?_ _
              refine NoPanic.normal ?_
              clear hHeld heq
              go_wp2_with fail
              go_roundw
              case rel => exact ⟨j + 1, by omega, by go_num, BZ5.out⟩
              case measure => simp [intOf]; omega
            · obtain rfl : e.cap = j := by omega
              go_wp2
              go_roundw
              case rel => exact ⟨k + 1, by omega, by go_num, hst4⟩
              case measure => simp [intOf]; omega
        · obtain rfl : n = k := by omega
          have hrow : wr.heap[gB]? = _ := (hst3.block gB (block_lt_of_row hrd.1)).trans hrd.1
          have f0 := frozen_of_row _ _ 0 _ _ hrow
          have f1 := frozen_of_row _ _ 1 _ _ hrow
          have f2 := frozen_of_row _ _ 2 _ _ hrow
          have c1 := (cells4 hrow).2.1
          have c2 := (cells4 hrow).2.2.1
          have BB : Hid (Below base w wr) := (MM.out.below HBK.out).trans (hst3.mono (by have := (MM.out.below HBK.out).size; have := HBK.out.lo; have := HBK.out.hi; have := HBK.out.top_le; omega))
          have BT : Hid (∀ j, top ≤ j → j < w.heap.size → wr.heap[j]? = w.heap[j]?) := fun j hj hjw => (hst3.block j (Nat.lt_of_lt_of_le hjw MM.out.chg.size)).trans (MM.out.chg.block j hjw (fun ⟨e, he, e2⟩ => by have := (HBK.out.ents e he).2.2.1; omega))
          have HTG : Hid (gB < top) := HBK.out.hi
          have HLO : Hid (base ≤ gB) := HBK.out.lo
          clear hrd hst3 hrow
          go_wp2
          go_ret
          refine ⟨rfl, ((BB.out.setCell HLO.out _).setCell HLO.out _).setCell HLO.out _, fun j hj hj2 => ?_⟩
          have hne : j ≠ gB := by have := HTG.out; omega
          rw [heap_setCell_other _ _ _ _ hne, heap_setCell_other _ _ _ _ hne, heap_setCell_other _ _ _ _ hne]
          exact BT.out j hj hj2
end Dg
end Go.Proofs.Ytnplijgdklnipaa
