/- Holds; Genuine; some key. -/
import Derived.Test.YtlcilclhaahopaaDoorTe
namespace Go.Proofs.YtlcilclhaahopaaDoor
open Go.RowKit

namespace S
def root (c : UInt8) : List UInt8 := [c, 1, 2] ++ zeros 29
theorem root_length (c : UInt8) : (root c).length = 32 := rfl
theorem take_one {α : Type} {cs : List α} {i : Nat} {c : α} (h : cs[i]? = some c) : cs.take (i + 1) = cs.take i ++ [c] := by
  rw [List.take_add_one, h]; rfl
theorem drop_one {α : Type} {cs : List α} {i : Nat} {c : α} (h : cs[i]? = some c) : cs.drop i = c :: cs.drop (i + 1) := by
  obtain ⟨hl, e⟩ := List.getElem?_eq_some_iff.1 h
  rw [List.drop_eq_getElem_cons hl, e]
theorem holds_take {cs : List Cv} {i : Nat} {c : Cv} {op tree : Int} {clock : Nat} (h : cs[i]? = some c) (h1 : holds (cs.take i) op tree clock = true) (h2 : permits c op tree clock = true) : holds (cs.take (i + 1)) op tree clock = true := by
  rw [holds] at h1 ⊢
  rw [take_one h, List.all_append, h1, Bool.true_and]
  simp [h2]
theorem holds_no {cs : List Cv} {i : Nat} {c : Cv} {op tree : Int} {clock : Nat} (h : cs[i]? = some c) (h2 : permits c op tree clock = false) : holds cs op tree clock = false := by
  rw [holds, List.all_eq_false]
  exact ⟨c, List.mem_of_getElem? h, by simp [h2]⟩
theorem narrow_e (t : Tk) (c : Cv) : (narrow t c).2 = 0 ∨ (narrow t c).2 = 1 ∨ (narrow t c).2 = 4 := by
  unfold narrow
  split
  · exact Or.inr (Or.inl rfl)
  · split
    · exact Or.inr (Or.inr rfl)
    · exact Or.inl rfl
theorem narrow_yes (t : Tk) (c : Cv) (h : odd c = false) (hl : t.cs.length < 4) : narrow t c = (⟨t.id, t.cs ++ [c], mac t.tag (cb c)⟩, 0) := by
  unfold narrow
  rw [if_neg (by rw [h]; decide), if_neg (by omega)]
theorem narrow_was {t : Tk} {c : Cv} (h : (narrow t c).2 = 0) : odd c = false ∧ t.cs.length < 4 := by
  unfold narrow at h
  by_cases ho : odd c = true
  · rw [if_pos ho] at h; simp at h
  · rw [if_neg ho] at h
    by_cases h4 : 4 ≤ t.cs.length
    · rw [if_pos h4] at h; simp at h
    · exact ⟨by simpa using ho, by omega⟩
theorem makes_app (t : Tk) (cs ds : List Cv) : makes t (cs ++ ds) = match makes t cs with
    | some m => makes m ds
    | none => none := by
  induction cs generalizing t with
  | nil => rfl
  | cons c cs ih =>
    rw [List.cons_append, makes, makes]
    by_cases h : (narrow t c).2 = 0
    · rw [if_pos h, if_pos h]; exact ih _
    · rw [if_neg h, if_neg h]
/-- A token that its key made. -/
def Made (r : List UInt8) (t : Tk) : Prop := makes (mint r t.id) t.cs = some t
theorem made_mint (r : List UInt8) (id : Nat) (D : List UInt8) (h : D = (mint r id).tag) : Made r ⟨id, [], D⟩ := by
  rw [Made, makes]
  show some (mint r id) = _
  rw [h]
  simp only [mint]
theorem made_narrow {r : List UInt8} {t : Tk} {c : Cv} (h : Made r t) (hc : (narrow t c).2 = 0) : Made r (narrow t c).1 := by
  obtain ⟨h1, h2⟩ := narrow_was hc
  have e := narrow_yes t c h1 h2
  have e1 : (narrow t c).1.id = t.id := by rw [e]
  have e2 : (narrow t c).1.cs = t.cs ++ [c] := by rw [e]
  rw [Made, e1, e2, makes_app, h]
  show makes t [c] = _
  rw [makes, if_pos hc, makes]
theorem genuine_of {r : List UInt8} {x t : Tk} (h : makes (mint r x.id) x.cs = some t) : genuine r x = (t.tag == x.tag) := by
  rw [genuine, h, Bool.eq_iff_iff]
  simp
theorem genuine_none {r : List UInt8} {x : Tk} (h : makes (mint r x.id) x.cs = none) : genuine r x = false := by
  rw [genuine, h]
theorem Made.genuine {r : List UInt8} {t : Tk} (h : Made r t) : genuine r t = true := by
  rw [genuine_of h]; simp
end S
theorem store_c {w : World} {g : Nat} {c0 : Array Value} {c : S.Cv} (h : w.heap[g]? = some (.cells c0 42 (0, 0))) (hc : c0.size = 2) :
    ∃ w', (Instr.storeAt 42 (.pointer (some ⟨g, 0, none⟩)) (.agg (encC c).toArray)).run Tryd.prog w = .ok () w' ∧ w'.heap[g]? = some (.cells (encC c).toArray 42 (0, 0)) ∧ Chg (fun k => k = g) w w' ∧ w'.heap.size = w.heap.size := by
  have hr := run_storeVar_row (P := Tryd.prog) w g 42 42 c0 (encC c).toArray h (size_c c) (by rw [hc]; rfl) (all_oneCell_toArray (encC_one c))
  refine ⟨w.setRow g (encC c).toArray, ?_, setRow_heap _ _ _ _ _ _ h, ?_, ?_⟩
  · simp only [Instr.storeAt, Instr.sureAddr, Sem.run_bind, Sem.run_pure, Result.andThen_ok, hr]
  · exact ⟨rfl, rfl, rfl, by simp, fun k _ hk => setRow_other _ _ _ _ hk⟩
  · simp
theorem lay_c (w : World) (c : S.Cv) : ∃ A Y, (Instr.alloc 42 true (.tuple #[])).run Tryd.prog w = .ok (.pointer (some ⟨w.heap.size, 0, none⟩)) A ∧ (Instr.storeAt 42 (.pointer (some ⟨w.heap.size, 0, none⟩)) (.agg (encC c).toArray)).run Tryd.prog A = .ok () Y ∧ Y.heap[w.heap.size]? = some (.cells (encC c).toArray 42 (0, 0)) ∧ Below w.heap.size w Y := by
  obtain ⟨Y, q1, q2, q3, q4⟩ := store_c (w := w.alloc (.cells (encC S.c0).toArray 42)) (g := w.heap.size) (c := c) (heap_alloc_new _ _) rfl
  exact ⟨_, Y, alloc42 w, q1, q2, ((Below.refl _ _).alloc (Nat.le_refl _) _).trans (q3.below _ (by simp) (fun k hk e => by omega))⟩
theorem load_cm {w : World} {g o : Nat} {c : S.Cv} (h : w.rangeAt g o (encC c)) : (Instr.loadAt 42 (.pointer (some ⟨g, o, none⟩))).run Tryd.prog w = .ok (.agg (encC c).toArray) w :=
  run_loadAt_mid w g o 42 (encC c) _ h Tryd.underlying42 rfl (by rw [size_c c, List.size_toArray])
set_option maxHeartbeats 4000000 in
set_option maxRecDepth 10000 in
theorem holds_any (x : S.Tk) (cv : Value) (op tree : Int) (clock : Nat) (w : World) (hx : x.Ok) (hv : CvAt w cv x.cs) :
   Calls Tryd.prog 17 #[.agg (encT x.id cv x.tag).toArray, .int .i64 op, .int .i64 tree, .int .u64 (clock : Int)] w fun e w' => e = .returned (.bool (S.holds x.cs op tree clock)) ∧ Below w.heap.size w w' := by
  obtain ⟨ao, n, cap, rfl, hn, hncap⟩ := hv.form
  have HN := hide hn
  have HV := hide hv
  have HX := hide hx
  have hnb : n ≤ 140737488355328 := by rw [hn]; exact hx.len
  clear hv hx hn
  go_enter Tryd.func17, Tryd.ntmps17
  go_upto_region 1 with fail
  generalize hW0 : w.alloc _ = W0
  have B0 : Below w.heap.size w W0 := by rw [← hW0]; exact (Below.refl _ _).alloc (Nat.le_refl _) _
  have s0 : W0.heap.size = w.heap.size + 1 := by rw [← hW0]; simp
  have r0 : W0.heap[w.heap.size]? = some (.cells (encT x.id (.slice ao n cap) x.tag).toArray 27 (0, 0)) := by rw [← hW0]; exact heap_alloc_new _ _
  have BB : Hid (Below w.heap.size w W0) := B0
  have Q0 : Hid (W0.heap[w.heap.size]? = some (.cells (encT x.id (.slice ao n cap) x.tag).toArray 27 (0, 0))) := r0
  clear hW0 B0 s0 r0
  obtain ⟨c0, c1⟩ := t_cells Q0.out
  go_wp2_with fail
  go_loopg [14] n (fun gk s14 wr => ∃ i : Nat, i + gk = n ∧ s14 = .int .i64 (i : Int) ∧ Hid (S.holds (x.cs.take i) op tree clock = true) ∧ Hid (Below w.heap.size w wr))
  case atStart => exact ⟨0, by omega, rfl, by show S.holds _ _ _ _ = true; simp [S.holds], BB⟩
  case round =>
    clear Q0 BB c0 c1
    obtain ⟨i, hi, rfl, HH, BW⟩ := hrel
    cases gk with
    | zero =>
      obtain rfl : i = n := by omega
      have q : ¬ (i : Int) < (i : Int) := by omega
      have HF := hide (show S.holds x.cs op tree clock = true by
        have := HH.out
        rw [List.take_of_length_le (by rw [← HN.out]; exact Nat.le_refl _)] at this
        exact this)
      clear hi
      go_wp2_with fail
      go_ret
      exact ⟨by first | (rw [HF.out]; done) | (rw [HF.out]; rfl), BW.out⟩
    | succ gO =>
      have q : (i : Int) < (n : Int) := by omega
      have q0 : (0 : Int) ≤ (i : Int) := by omega
      have q1 : IntKind.i64.wrap ((i : Int) + 1) = (i : Int) + 1 := by rw [IntKind.wrap_i64]; omega
      have hlt : i < x.cs.length := by rw [← HN.out]; omega
      obtain ⟨c, hc⟩ : ∃ c, x.cs[i]? = some c := ⟨_, List.getElem?_eq_getElem hlt⟩
      have HC := hide hc
      obtain ⟨g, off, cap2, e, hle, hg, hra⟩ := (HV.out.below BW.out).cells i c hc
      simp only [Value.slice.injEq] at e
      obtain ⟨e1, -, -⟩ := e
      subst e1
      have HCO := hide (HX.out.cs c (List.mem_of_getElem? hc))
      have ld1 := load_cm hra
      obtain ⟨A1, v1, ha1, hs1, hr1, hb1⟩ := lay_c wr c
      obtain ⟨gc, hgc⟩ : ∃ g, g = wr.heap.size := ⟨_, rfl⟩
      rw [← hgc] at ha1 hs1 hr1
      have R1 := hide hr1
      have B1 := hide (BW.out.trans (hb1.mono BW.out.size))
      clear hra hg hle hc hr1 hb1 hgc
      go_upto_region 4 with (first | (with_reducible refine at_op { dst := some 17, op := Op.load 42 (Operand.tmp 16), type := 42, pos := "token.go:67", after := #[{ on := 0, ground := Ground.data }], guard := none } ?_; refine wpList_load_as rfl 42 (.tmp 16) rfl (.pointer (some ⟨g, off + i * 2, none⟩)) rfl (.agg (encC c).toArray) ld1 ?_) | (with_reducible refine at_op { dst := some 10, op := Op.alloc 42, type := 0, pos := "token.go:67", after := #[], guard := none } ?_; refine wpList_alloc_known rfl 42 rfl _ _ ha1 ?_) | (with_reducible refine at_op { dst := none, op := Op.store 42 (Operand.tmp 10) (Operand.tmp 17), type := 0, pos := "token.go:67", after := #[{ on := 2, ground := Ground.data }, { on := 1, ground := Ground.data }, { on := 0, ground := Ground.phase }, { on := 1, ground := Ground.phase }, { on := 2, ground := Ground.phase }], guard := none } ?_; refine wpList_store_as rfl 42 (.tmp 10) (.tmp 17) rfl (.pointer (some ⟨gc, 0, none⟩)) (.agg (encC c).toArray) rfl rfl v1 hs1 ?_))
      clear ha1 hs1 A1 ld1
      have ld2 := load_c R1.out
      have q1' := q1; go_wp2_with (first | (with_reducible refine at_op { dst := some 18, op := Op.load 42 (Operand.tmp 10), type := 42, pos := "token.go:68", after := #[], guard := none } ?_; refine wpList_load_as rfl 42 (.tmp 10) rfl (.pointer (some ⟨gc, 0, none⟩)) rfl (.agg (encC c).toArray) ld2 ?_))
      refine (permits_any c op tree clock v1 HCO.out).mono ?_
      rintro e v2 ⟨rfl, hb2⟩
      have B2 := hide (B1.out.trans (hb2.mono B1.out.size))
      obtain ⟨b, hb⟩ : ∃ b, b = S.permits c op tree clock := ⟨_, rfl⟩
      rw [← hb]
      have HB := hide hb
      clear hb hb2 ld2
      cases b with
      | true =>
        go_wp2_with fail
        go_roundg gO
        case measure => omega
        case rel => exact ⟨i + 1, by omega, by first | rfl | simp, by show S.holds _ _ _ _ = true; exact S.holds_take HC.out HH.out HB.out.symm, B2⟩
      | false =>
        have HF := hide (S.holds_no (op := op) (tree := tree) (clock := clock) HC.out HB.out.symm)
        go_wp2_with fail
        go_ret
        exact ⟨by first | (rw [HF.out]; done) | (rw [HF.out]; rfl), B2.out⟩
set_option maxRecDepth 100000 in
theorem build_root (w : World) (c : UInt8) : (Instr.build 25 #[(0, .int .u8 (c.toNat : Int)), (1, .int .u8 1), (2, .int .u8 2)]).run Tryd.prog w = .ok (.agg (S.v8 (S.root c))) w := run_build w 25 _ _ (by kernel_rfl)
set_option maxHeartbeats 4000000 in
set_option maxRecDepth 10000 in
theorem root_any (c : UInt8) (w : World) : Calls Tryd.prog 10 #[.int .u8 (c.toNat : Int)] w fun e w' => e = .returned (.agg (S.v8 (S.root c))) ∧ Below w.heap.size w w' := by
  obtain ⟨A1, v1, ha1, hs1, hr1, hb1, -⟩ := lay_dig w (S.root c) (S.root_length c)
  have bd := build_root A1 c
  obtain ⟨D, hD⟩ : ∃ D, D = S.root c := ⟨_, rfl⟩
  have LD := hide (show D.length = 32 by rw [hD]; exact S.root_length c)
  rw [← hD] at bd hs1 hr1 ⊢
  have R1 := hide hr1
  have B1 := hide hb1
  clear hr1 hb1 hD
  go_enter Tryd.func10, Tryd.ntmps10
  go_wp2_with (first | (with_reducible refine at_op { dst := some 2, op := Op.alloc 25, type := 0, pos := "law.go:26", after := #[], guard := none } ?_; refine wpList_alloc_known rfl 25 rfl _ _ ha1 ?_) | (with_reducible refine at_op { dst := some 4, op := Op.build 25 #[(0, Operand.tmp 3), (1, Operand.const (Value.int IntKind.u8 1)), (2, Operand.const (Value.int IntKind.u8 2))], type := 25, pos := "law.go:26", after := #[{ on := 0, ground := Ground.data }], guard := none } ?_; refine wpList_build_as rfl 25 [(0, .tmp 3), (1, .const (.int .u8 1)), (2, .const (.int .u8 2))] rfl [(0, .int .u8 (c.toNat : Int)), (1, .int .u8 1), (2, .int .u8 2)] rfl (.agg (S.v8 D)) bd ?_) | (with_reducible refine at_op { dst := none, op := Op.store 25 (Operand.tmp 2) (Operand.tmp 4), type := 0, pos := "law.go:26", after := #[{ on := 1, ground := Ground.data }, { on := 0, ground := Ground.phase }, { on := 1, ground := Ground.phase }], guard := none } ?_; refine wpList_store_as rfl 25 (.tmp 2) (.tmp 4) rfl (.pointer (some ⟨w.heap.size, 0, none⟩)) (.agg (S.v8 D)) rfl rfl v1 hs1 ?_))
  exact bodyPost_ret (v := .agg (S.v8 D)) (results_cell_row (g := w.heap.size) (t := 25) (fr := (0, 0)) Tryd.results10 _ _ _ _ rfl R1.out Tryd.underlying25 rfl (size_dig D LD.out)) rfl ⟨rfl, B1.out⟩
theorem root_is (n : Int) (c : UInt8) (w : World) (h : n = (c.toNat : Int)) : Calls Tryd.prog 10 #[.int .u8 n] w fun e w' => e = .returned (.agg (S.v8 (S.root c))) ∧ Below w.heap.size w w' := by
  subst h
  exact root_any c w
set_option maxHeartbeats 8000000 in
set_option maxRecDepth 10000 in
theorem genuine_any (r : List UInt8) (x : S.Tk) (cv : Value) (w : World) (hr : r.length = 32) (hx : x.Ok) (hv : CvAt w cv x.cs) (hK : KAt w) :
   Calls Tryd.prog 16 #[.agg (S.v8 r), .agg (encT x.id cv x.tag).toArray] w fun e w' => e = .returned (.bool (S.genuine r x)) ∧ Below w.heap.size w w' := by
  obtain ⟨ao, n, cap, rfl, hn, hncap⟩ := hv.form
  obtain ⟨b, hb⟩ : ∃ b, b = S.genuine r x := ⟨_, rfl⟩
  rw [← hb]
  have HBB := hide hb
  have HN := hide hn
  have HV := hide hv
  have HX := hide hx
  have HK := hide hK
  have h0 := hK.pos
  have HR := hide hr
  have hnb : n ≤ 140737488355328 := by rw [hn]; exact hx.len
  clear hv hx hn hK hr hb
  go_enter Tryd.func16, Tryd.ntmps16
  go_upto_region 1 with fail
  generalize hW0 : w.alloc _ = W0
  generalize hW1 : W0.alloc _ = W1
  have B0 : Below w.heap.size w W0 := by rw [← hW0]; exact (Below.refl _ _).alloc (Nat.le_refl _) _
  have s0 : W0.heap.size = w.heap.size + 1 := by rw [← hW0]; simp
  have r0 : W0.heap[w.heap.size]? = some (.cells (S.v8 r) 25 (0, 0)) := by rw [← hW0]; exact heap_alloc_new _ _
  have B1 : Below W0.heap.size W0 W1 := by rw [← hW1]; exact (Below.refl _ _).alloc (Nat.le_refl _) _
  have s1 : W1.heap.size = w.heap.size + 2 := by rw [← hW1]; simp [s0]
  have r1 : W1.heap[w.heap.size + 1]? = some (.cells (encT x.id (.slice ao n cap) x.tag).toArray 27 (0, 0)) := by rw [← hW1, ← s0]; exact heap_alloc_new _ _
  have BB : Hid (Below w.heap.size w W1) := (B0.trans (B1.mono (by omega)))
  have Q0 : Hid (W1.heap[w.heap.size]? = some (.cells (S.v8 r) 25 (0, 0))) := ((B1.block _ (by omega)).trans r0)
  have Q1 : Hid (W1.heap[w.heap.size + 1]? = some (.cells (encT x.id (.slice ao n cap) x.tag).toArray 27 (0, 0))) := r1
  clear hW0 B0 s0 r0 hW1 B1 s1 r1
  have ld := load_digv Q0.out HR.out
  obtain ⟨c0, c1⟩ := t_cells Q1.out
  go_wp2_with (with_reducible refine at_op { dst := some 10, op := Op.load 25 (Operand.tmp 2), type := 25, pos := "token.go:49", after := #[], guard := none } ?_; refine wpList_load_as rfl 25 (.tmp 2) rfl (.pointer (some ⟨w.heap.size, 0, none⟩)) rfl (.agg (S.v8 r)) ld ?_)
  refine (mint_any r x.id W1 HR.out HX.out.id2 (HK.out.below BB.out h0)).mono ?_
  rintro e w2 ⟨rfl, hb2⟩
  obtain ⟨D, hD⟩ : ∃ D, D = (S.mint r x.id).tag := ⟨_, rfl⟩
  rw [← hD]
  have LD := hide (show D.length = 32 by rw [hD]; exact S.mint_tag _ _)
  have EM := hide (show S.mint r x.id = ⟨x.id, [], D⟩ by rw [hD]; simp only [S.mint])
  obtain ⟨A3, w3, ha3, hs3, hr3, hb3, -⟩ := lay_t w2 x.id none 0 0 D LD.out
  obtain ⟨g5, hg5⟩ : ∃ g, g = w2.heap.size := ⟨_, rfl⟩
  rw [← hg5] at ha3 hs3 hr3
  have hb23 := hb2.trans (hb3.mono hb2.size)
  have B3 := hide (BB.out.trans (hb23.mono BB.out.size))
  have R5 := hide hr3
  have Q3 := hide ((hb23.block _ (block_lt_of_row Q1.out)).trans Q1.out)
  have G5 := hide (show w.heap.size + 1 < g5 by have := block_lt_of_row Q1.out; have := hb2.size; omega)
  clear hD hb2 hb3 hb23 hr3 hg5 ld c0 c1 Q0 Q1 BB
  go_upto_region 2 with (first | (with_reducible refine at_op { dst := some 5, op := Op.alloc 27, type := 0, pos := "token.go:49", after := #[], guard := none } ?_; refine wpList_alloc_known rfl 27 rfl _ _ ha3 ?_) | (with_reducible refine at_op { dst := none, op := Op.store 27 (Operand.tmp 5) (Operand.tmp 13), type := 0, pos := "token.go:49", after := #[{ on := 4, ground := Ground.data }, { on := 3, ground := Ground.data }, { on := 3, ground := Ground.chain }, { on := 0, ground := Ground.phase }, { on := 1, ground := Ground.phase }, { on := 2, ground := Ground.phase }, { on := 3, ground := Ground.phase }, { on := 4, ground := Ground.phase }], guard := none } ?_; refine wpList_store_as rfl 27 (.tmp 5) (.tmp 13) rfl (.pointer (some ⟨g5, 0, none⟩)) (.agg (encT x.id (.slice none 0 0) D).toArray) rfl rfl w3 hs3 ?_))
  clear ha3 hs3 A3
  obtain ⟨c0, c1⟩ := t_cells Q3.out
  go_wp2_with fail
  go_loopg [17] n (fun gk s17 wr => ∃ (i : Nat) (t : S.Tk) (tp : Option Addr) (tn tc : Nat), i + gk = n ∧ s17 = .int .i64 (i : Int) ∧ Hid (S.makes (S.mint r x.id) x.cs = S.makes t (x.cs.drop i)) ∧ Hid t.Ok ∧ Hid (wr.heap[g5]? = some (.cells (encT t.id (.slice tp tn tc) t.tag).toArray 27 (0, 0))) ∧ Hid (CRow 0 wr (.slice tp tn tc) t.cs) ∧ Hid (wr.heap[w.heap.size + 1]? = some (.cells (encT x.id (.slice ao n cap) x.tag).toArray 27 (0, 0))) ∧ Hid (Below w.heap.size w wr))
  case atStart => exact ⟨0, ⟨x.id, [], D⟩, none, 0, 0, by omega, rfl, by show S.makes _ _ = _; rw [EM.out]; rfl, ⟨HX.out.id2, LD.out, by simp, by simp⟩, R5, Rw.nil _ _ _ _ _, Q3, B3⟩
  case round =>
    clear R5 Q3 B3 EM LD c0 c1
    obtain ⟨i, t, tp, tn, tc, hi, rfl, HM, HT, R5, CR, Q3, BW⟩ := hrel
    cases gk with
    | zero =>
      obtain rfl : i = n := by omega
      have q : ¬ (i : Int) < (i : Int) := by omega
      clear hi
      have hge : S.genuine r x = (t.tag == x.tag) := S.genuine_of (by
        have := HM.out
        rw [List.drop_of_length_le (by rw [← HN.out]; exact Nat.le_refl _)] at this
        rw [this]; rfl)
      obtain ⟨q2, hq⟩ : ∃ q, q = (t.tag == x.tag) := ⟨_, rfl⟩
      have EQ := fun W => equal_dig t.tag x.tag HT.out.tl HX.out.tl q2 hq.symm W
      have EB := hide (show b = q2 by rw [HBB.out, hge, hq])
      clear hge hq HM
      have ld1 := load_tt R5.out HT.out.tl
      have ld2 := load_tt Q3.out HX.out.tl
      go_wp2_with (first | (with_reducible refine at_op { dst := some 32, op := Op.load 25 (Operand.tmp 31), type := 25, pos := "token.go:57", after := #[{ on := 0, ground := Ground.data }], guard := none } ?_; refine wpList_load_as rfl 25 (.tmp 31) rfl (.pointer (some ⟨g5, 2, none⟩)) rfl (.agg (S.v8 t.tag)) ld1 ?_) | (with_reducible refine at_op { dst := some 34, op := Op.load 25 (Operand.tmp 33), type := 25, pos := "token.go:57", after := #[{ on := 2, ground := Ground.data }], guard := none } ?_; refine wpList_load_as rfl 25 (.tmp 33) rfl (.pointer (some ⟨w.heap.size + 1, 2, none⟩)) rfl (.agg (S.v8 x.tag)) ld2 ?_))
      go_ret
      exact ⟨by rw [EB.out]; rfl, BW.out⟩
    | succ gO =>
      have q : (i : Int) < (n : Int) := by omega
      have q0 : (0 : Int) ≤ (i : Int) := by omega
      have q1 : IntKind.i64.wrap ((i : Int) + 1) = (i : Int) + 1 := by rw [IntKind.wrap_i64]; omega
      have hlt : i < x.cs.length := by rw [← HN.out]; omega
      obtain ⟨c, hc⟩ : ∃ c, x.cs[i]? = some c := ⟨_, List.getElem?_eq_getElem hlt⟩
      have HC := hide hc
      obtain ⟨g, off, cap2, e, hle, hg, hra⟩ := (HV.out.below BW.out).cells i c hc
      simp only [Value.slice.injEq] at e
      obtain ⟨e1, -, -⟩ := e
      subst e1
      have HCO := hide (HX.out.cs c (List.mem_of_getElem? hc))
      have ld1 := load_cm hra
      obtain ⟨A1, v1, ha1, hs1, hr1, hb1⟩ := lay_c wr c
      obtain ⟨gc, hgc⟩ : ∃ g, g = wr.heap.size := ⟨_, rfl⟩
      rw [← hgc] at ha1 hs1 hr1
      have R1 := hide hr1
      have B1 := hide (BW.out.trans (hb1.mono BW.out.size))
      have R5b := hide ((hb1.block _ (block_lt_of_row R5.out)).trans R5.out)
      have Q3b := hide ((hb1.block _ (block_lt_of_row Q3.out)).trans Q3.out)
      have CRb := hide (CR.out.below hb1)
      clear hra hg hle hc hr1 hb1 hgc BW R5 Q3 CR
      go_upto_region 5 with (first | (with_reducible refine at_op { dst := some 20, op := Op.load 42 (Operand.tmp 19), type := 42, pos := "token.go:50", after := #[{ on := 0, ground := Ground.data }], guard := none } ?_; refine wpList_load_as rfl 42 (.tmp 19) rfl (.pointer (some ⟨g, off + i * 2, none⟩)) rfl (.agg (encC c).toArray) ld1 ?_) | (with_reducible refine at_op { dst := some 7, op := Op.alloc 42, type := 0, pos := "token.go:50", after := #[], guard := none } ?_; refine wpList_alloc_known rfl 42 rfl _ _ ha1 ?_) | (with_reducible refine at_op { dst := none, op := Op.store 42 (Operand.tmp 7) (Operand.tmp 20), type := 0, pos := "token.go:50", after := #[{ on := 2, ground := Ground.data }, { on := 1, ground := Ground.data }, { on := 0, ground := Ground.phase }, { on := 1, ground := Ground.phase }, { on := 2, ground := Ground.phase }], guard := none } ?_; refine wpList_store_as rfl 42 (.tmp 7) (.tmp 20) rfl (.pointer (some ⟨gc, 0, none⟩)) (.agg (encC c).toArray) rfl rfl v1 hs1 ?_))
      clear ha1 hs1 A1 ld1
      have ld2 := load_c R1.out
      have ld3 := load_t R5b.out HT.out.tl
      go_wp2_with (first | (with_reducible refine at_op { dst := some 22, op := Op.load 27 (Operand.tmp 5), type := 27, pos := "token.go:51", after := #[], guard := none } ?_; refine wpList_load_as rfl 27 (.tmp 5) rfl (.pointer (some ⟨g5, 0, none⟩)) rfl (.agg (encT t.id (.slice tp tn tc) t.tag).toArray) ld3 ?_) | (with_reducible refine at_op { dst := some 23, op := Op.load 42 (Operand.tmp 7), type := 42, pos := "token.go:51", after := #[], guard := none } ?_; refine wpList_load_as rfl 42 (.tmp 7) rfl (.pointer (some ⟨gc, 0, none⟩)) rfl (.agg (encC c).toArray) ld2 ?_))
      refine (narrow_any t (.slice tp tn tc) c v1 HT.out HCO.out (CRow.at CRb.out) (HK.out.below B1.out h0)).mono ?_
      rintro e v2 ⟨⟨nv, rfl, hcr⟩, hb2⟩
      have hok := S.narrow_ok t c HT.out HCO.out
      have hmk : S.makes t (x.cs.drop i) = if (S.narrow t c).2 = 0 then S.makes (S.narrow t c).1 (x.cs.drop (i + 1)) else none := by rw [S.drop_one HC.out, S.makes]
      have h3 := S.narrow_e t c
      obtain ⟨u, hu⟩ : ∃ u, u = (S.narrow t c).1 := ⟨_, rfl⟩
      obtain ⟨er, her⟩ : ∃ er, er = (S.narrow t c).2 := ⟨_, rfl⟩
      rw [← hu] at hcr hok hmk ⊢
      rw [← her] at h3 hmk ⊢
      obtain ⟨uo, uc, rfl⟩ := hcr.form
      obtain ⟨un, hun⟩ : ∃ un, un = u.cs.length := ⟨_, rfl⟩
      rw [← hun] at hcr ⊢
      have HU := hide hok
      obtain ⟨A3, v3, ha3, hs3, hr3, hb3, -⟩ := lay_t v2 u.id uo un uc u.tag hok.tl
      obtain ⟨g8, hg8⟩ : ∃ g, g = v2.heap.size := ⟨_, rfl⟩
      rw [← hg8] at ha3 hs3 hr3
      have hb23 := hb2.trans (hb3.mono hb2.size)
      have B3 := hide (B1.out.trans (hb23.mono B1.out.size))
      have R8 := hide hr3
      have R5c := hide ((hb23.block _ (block_lt_of_row R5b.out)).trans R5b.out)
      have Q3c := hide ((hb23.block _ (block_lt_of_row Q3b.out)).trans Q3b.out)
      have CRc : Hid (CRow 0 v3 (.slice uo un uc) u.cs) := (hcr.below hb3).mono (Nat.zero_le _)
      have HMK := hide hmk
      clear hcr hok hmk hun hu her hb2 hb3 hb23 hr3 hg8 ld2 ld3 R5b Q3b CRb B1 R1
      rcases h3 with rfl | rfl | rfl
      · obtain ⟨v4, hs4, hr4, hc4, -⟩ := store_t (id := u.id) (ao := uo) (n := un) (m := uc) (tag := u.tag) R5c.out (by rw [List.size_toArray, encT_length _ _ _ HT.out.tl]) HU.out.tl
        have ld4 := load_t R8.out HU.out.tl
        have R5d := hide hr4
        have Q3d := hide (hc4.row Q3c.out (by have := G5.out; omega))
        have CRd := hide (CRc.out.chg hc4 (fun j e e2 => CRc.out.apart R5c.out (by decide) (e2 ▸ e)))
        have B4 := hide (B3.out.trans (hc4.below w.heap.size B3.out.size (fun k hk e => by have := G5.out; omega)))
        have HM2 := hide (show S.makes (S.mint r x.id) x.cs = S.makes u (x.cs.drop (i + 1)) by rw [HM.out, HMK.out, if_pos rfl])
        clear hr4 hc4 R8 R5c Q3c CRc B3 HM HMK
        go_wp2_with (first | (with_reducible refine at_op { dst := some 8, op := Op.alloc 27, type := 0, pos := "token.go:51", after := #[], guard := none } ?_; refine wpList_alloc_known rfl 27 rfl _ _ ha3 ?_) | (with_reducible refine at_op { dst := none, op := Op.store 27 (Operand.tmp 8) (Operand.tmp 25), type := 0, pos := "token.go:51", after := #[{ on := 6, ground := Ground.data }, { on := 4, ground := Ground.data }, { on := 2, ground := Ground.chain }, { on := 0, ground := Ground.phase }, { on := 1, ground := Ground.phase }, { on := 2, ground := Ground.phase }, { on := 3, ground := Ground.phase }, { on := 4, ground := Ground.phase }, { on := 5, ground := Ground.textOnly Departure.lateStores }, { on := 6, ground := Ground.phase }], guard := none } ?_; refine wpList_store_as rfl 27 (.tmp 8) (.tmp 25) rfl (.pointer (some ⟨g8, 0, none⟩)) (.agg (encT u.id (.slice uo un uc) u.tag).toArray) rfl rfl v3 hs3 ?_) | (with_reducible refine at_op { dst := some 29, op := Op.load 27 (Operand.tmp 8), type := 27, pos := "token.go:55", after := #[], guard := none } ?_; refine wpList_load_as rfl 27 (.tmp 8) rfl (.pointer (some ⟨g8, 0, none⟩)) rfl (.agg (encT u.id (.slice uo un uc) u.tag).toArray) ld4 ?_) | (with_reducible refine at_op { dst := none, op := Op.store 27 (Operand.tmp 5) (Operand.tmp 29), type := 0, pos := "token.go:55", after := #[{ on := 0, ground := Ground.data }, { on := 0, ground := Ground.phase }], guard := none } ?_; refine wpList_store_as rfl 27 (.tmp 5) (.tmp 29) rfl (.pointer (some ⟨g5, 0, none⟩)) (.agg (encT u.id (.slice uo un uc) u.tag).toArray) rfl rfl v4 hs4 ?_))
        go_roundg gO
        case measure => omega
        case rel => exact ⟨i + 1, u, uo, un, uc, by omega, by first | rfl | simp, HM2, HU, R5d, CRd, Q3d, B4⟩
      · have EB := hide (show b = false by
          rw [HBB.out]
          exact S.genuine_none (by rw [HM.out, HMK.out]; rfl))
        clear HM HMK
        go_wp2_with (first | (with_reducible refine at_op { dst := some 8, op := Op.alloc 27, type := 0, pos := "token.go:51", after := #[], guard := none } ?_; refine wpList_alloc_known rfl 27 rfl _ _ ha3 ?_) | (with_reducible refine at_op { dst := none, op := Op.store 27 (Operand.tmp 8) (Operand.tmp 25), type := 0, pos := "token.go:51", after := #[{ on := 6, ground := Ground.data }, { on := 4, ground := Ground.data }, { on := 2, ground := Ground.chain }, { on := 0, ground := Ground.phase }, { on := 1, ground := Ground.phase }, { on := 2, ground := Ground.phase }, { on := 3, ground := Ground.phase }, { on := 4, ground := Ground.phase }, { on := 5, ground := Ground.textOnly Departure.lateStores }, { on := 6, ground := Ground.phase }], guard := none } ?_; refine wpList_store_as rfl 27 (.tmp 8) (.tmp 25) rfl (.pointer (some ⟨g8, 0, none⟩)) (.agg (encT u.id (.slice uo un uc) u.tag).toArray) rfl rfl v3 hs3 ?_))
        go_ret
        exact ⟨by rw [EB.out]; rfl, B3.out⟩
      · have EB := hide (show b = false by
          rw [HBB.out]
          exact S.genuine_none (by rw [HM.out, HMK.out]; rfl))
        clear HM HMK
        go_wp2_with (first | (with_reducible refine at_op { dst := some 8, op := Op.alloc 27, type := 0, pos := "token.go:51", after := #[], guard := none } ?_; refine wpList_alloc_known rfl 27 rfl _ _ ha3 ?_) | (with_reducible refine at_op { dst := none, op := Op.store 27 (Operand.tmp 8) (Operand.tmp 25), type := 0, pos := "token.go:51", after := #[{ on := 6, ground := Ground.data }, { on := 4, ground := Ground.data }, { on := 2, ground := Ground.chain }, { on := 0, ground := Ground.phase }, { on := 1, ground := Ground.phase }, { on := 2, ground := Ground.phase }, { on := 3, ground := Ground.phase }, { on := 4, ground := Ground.phase }, { on := 5, ground := Ground.textOnly Departure.lateStores }, { on := 6, ground := Ground.phase }], guard := none } ?_; refine wpList_store_as rfl 27 (.tmp 8) (.tmp 25) rfl (.pointer (some ⟨g8, 0, none⟩)) (.agg (encT u.id (.slice uo un uc) u.tag).toArray) rfl rfl v3 hs3 ?_))
        go_ret
        exact ⟨by rw [EB.out]; rfl, B3.out⟩
end Go.Proofs.YtlcilclhaahopaaDoor
