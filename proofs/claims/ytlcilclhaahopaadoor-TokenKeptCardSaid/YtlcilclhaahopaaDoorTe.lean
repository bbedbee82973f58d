/- Narrow. -/
import Derived.Test.YtlcilclhaahopaaDoorTd
namespace Go.Proofs.YtlcilclhaahopaaDoor
open Go.RowKit

theorem results_rt {fn : Func} {p q : Tmp} {ty : TypeId} (h : fn.results = #[.cell p ty, .tmp q]) (tmps : Array Value) (w : World) (g : Nat) (cs : Array Value)
    (hp : tmps.getD p undef = .pointer (some ⟨g, 0, none⟩)) (hl : (loadVar ty ⟨g, 0, none⟩).run Tryd.prog w = .ok (.agg cs) w) :
    (results fn tmps).run Tryd.prog w = .ok (.tuple #[.agg cs, tmps.getD q undef]) w := by
  have hp' : tmps[p]?.getD undef = .pointer (some ⟨g, 0, none⟩) := by simpa using hp
  simp [results, h, hp', asAddr, hl]
theorem var27 {w : World} {g id : Nat} {cv : Value} {tag : List UInt8} (h : w.heap[g]? = some (.cells (encT id cv tag).toArray 27 (0, 0))) (ht : tag.length = 32) : (loadVar 27 ⟨g, 0, none⟩).run Tryd.prog w = .ok (.agg (encT id cv tag).toArray) w := run_loadVar_row w g 27 27 _ (0, 0) _ h Tryd.underlying27 rfl (size_t _ _ _ ht)
theorem load_c {w : World} {g : Nat} {c : S.Cv} (h : w.heap[g]? = some (.cells (encC c).toArray 42 (0, 0))) : (Instr.loadAt 42 (.pointer (some ⟨g, 0, none⟩))).run Tryd.prog w = .ok (.agg (encC c).toArray) w := by
  have := run_loadVar_row (P := Tryd.prog) w g 42 42 (encC c).toArray (0, 0) _ h Tryd.underlying42 rfl (size_c c)
  simp only [Instr.loadAt, Instr.sureAddr, Sem.run_bind, Sem.run_pure, Result.andThen_ok, this]
theorem bs23one (W : World) (c : S.Cv) : (Instr.buildSlice 23 1 #[(0, .agg (encC c).toArray)]).run Tryd.prog W = .ok (.slice (some ⟨W.heap.size, 0, none⟩) 1 1) (W.alloc (.cells (encC c).toArray 42)) := by
  obtain ⟨i, hi, hz, hs, _⟩ := info_parts info42
  refine run_buildSlice W 23 42 1 _ _ i _ Tryd.underlying23 hi hz (by rw [hs]; omega) (by rw [hs]; omega) ?_
  have h := Great.fill_whole (s := 2) (by omega) [.agg (encC c).toArray] ((Array.range (1 * i.size)).map ((Value.agg (encC S.c0).toArray).cells[· % (Value.agg (encC S.c0).toArray).cells.size]!)) (fun v hv => by
    simp only [List.mem_singleton] at hv
    subst hv
    rfl) (by simp [hs])
  rw [hs] at h ⊢
  refine h.trans ?_
  simp [Value.cells]
theorem info23s : (Tryd.prog.info? 23).map (fun i => (i.zero, i.size, i.bytes)) = some (some (.slice none 0 0), 1, 24) := by kernel_rfl
theorem bs67two (W : World) (u v : Value) (hu : u.cells = #[u]) (hv : v.cells = #[v]) : (Instr.buildSlice 67 2 #[(0, u), (1, v)]).run Tryd.prog W = .ok (.slice (some ⟨W.heap.size, 0, none⟩) 2 2) (W.alloc (.cells #[u, v] 23)) := by
  obtain ⟨i, hi, hz, hs, _⟩ := info_parts info23s
  refine run_buildSlice W 67 23 2 _ _ i _ Tryd.underlying67 hi hz (by rw [hs]; omega) (by rw [hs]; omega) ?_
  have h := Great.fill_whole (s := 1) (by omega) [u, v] ((Array.range (2 * i.size)).map ((Value.slice none 0 0).cells[· % (Value.slice none 0 0).cells.size]!)) (fun x hx => by
    simp only [List.mem_cons, List.not_mem_nil, or_false] at hx
    rcases hx with rfl | rfl
    · rw [hu]; rfl
    · rw [hv]; rfl) (by simp [hs])
  rw [hs] at h ⊢
  refine h.trans ?_
  simp [hu, hv]
theorem concat_is (g : Nat) (ao bo : Option Addr) (n m ca cb : Nat) (xs ys : List S.Cv) (w : World) (hn : n = xs.length) (hm : m = ys.length) (hg : w.heap[g]? = some (.cells #[.slice ao n ca, .slice bo m cb] 23 (0, 0)))
   (hx : CvAt w (.slice ao n ca) xs) (hy : CvAt w (.slice bo m cb) ys) (h1 : n ≤ 64) (h2 : m ≤ 64) :
   Calls Tryd.prog 49 #[.slice (some ⟨g, 0, none⟩) 2 2] w fun r w' => (∃ v, r = .returned v ∧ CRow w.heap.size w' v (xs ++ ys)) ∧ Below w.heap.size w w' := by
  subst hn hm
  exact concat_two g ao bo ca cb xs ys w hg hx hy h1 h2
/-- What Narrow answers. -/
def Nar (w w' : World) (e : Ending) (a : S.Tk × Int) : Prop := (∃ cv, e = .returned (.tuple #[.agg (encT a.1.id cv a.1.tag).toArray, .int .i64 a.2]) ∧ CRow w.heap.size w' cv a.1.cs) ∧ Below w.heap.size w w'
set_option maxHeartbeats 8000000 in
set_option maxRecDepth 10000 in
theorem narrow_any (t : S.Tk) (cv : Value) (c : S.Cv) (w : World) (ht : t.Ok) (hc : c.Ok) (hv : CvAt w cv t.cs) (hK : KAt w) :
   Calls Tryd.prog 14 #[.agg (encT t.id cv t.tag).toArray, .agg (encC c).toArray] w fun e w' => Nar w w' e (S.narrow t c) := by
  obtain ⟨ao, n, cap, rfl, hn, hncap⟩ := hv.form
  obtain ⟨A, hA⟩ : ∃ A, A = S.narrow t c := ⟨_, rfl⟩
  rw [← hA]
  have HA := hide hA
  have HN := hide hn
  have HV := hide hv
  have HK := hide hK
  have h0 := hK.pos
  have HTL := hide ht.tl
  have HC2 := hide hc.n2
  have hnb : n ≤ 140737488355328 := by rw [hn]; exact ht.len
  clear hA hv hK ht hc hn hncap
  go_enter Tryd.func14, Tryd.ntmps14
  go_upto_region 1 with (refine wpList_alloc_known rfl 27 rfl _ _ (alloc27 _) ?_)
  generalize hW0 : w.alloc _ = W0
  generalize hW1 : W0.alloc _ = W1
  generalize hW2 : W1.alloc _ = W2
  have B0 : Below w.heap.size w W0 := by rw [← hW0]; exact (Below.refl _ _).alloc (Nat.le_refl _) _
  have s0 : W0.heap.size = w.heap.size + 1 := by rw [← hW0]; simp
  have r0 : W0.heap[w.heap.size]? = some (.cells (encT t.id (.slice ao n cap) t.tag).toArray 27 (0, 0)) := by rw [← hW0]; exact heap_alloc_new _ _
  have B1 : Below W0.heap.size W0 W1 := by rw [← hW1]; exact (Below.refl _ _).alloc (Nat.le_refl _) _
  have s1 : W1.heap.size = w.heap.size + 2 := by rw [← hW1]; simp [s0]
  have r1 : W1.heap[w.heap.size + 1]? = some (.cells (encC c).toArray 42 (0, 0)) := by rw [← hW1, ← s0]; exact heap_alloc_new _ _
  have B2 : Below W1.heap.size W1 W2 := by rw [← hW2]; exact (Below.refl _ _).alloc (Nat.le_refl _) _
  have s2 : W2.heap.size = w.heap.size + 3 := by rw [← hW2]; simp [s1]
  have r2 : W2.heap[w.heap.size + 2]? = some (.cells tk0 27 (0, 0)) := by rw [← hW2, ← s1]; exact heap_alloc_new _ _
  have BB : Hid (Below w.heap.size w W2) := ((B0.trans (B1.mono (by omega))).trans (B2.mono (by omega)))
  have Q0 : Hid (W2.heap[w.heap.size]? = some (.cells (encT t.id (.slice ao n cap) t.tag).toArray 27 (0, 0))) := ((B2.block _ (by omega)).trans ((B1.block _ (by omega)).trans r0))
  have Q1 : Hid (W2.heap[w.heap.size + 1]? = some (.cells (encC c).toArray 42 (0, 0))) := ((B2.block _ (by omega)).trans r1)
  have Q2 : Hid (W2.heap[w.heap.size + 2]? = some (.cells tk0 27 (0, 0))) := r2
  rw [show w.heap.size + 1 + 1 = w.heap.size + 2 from rfl]
  clear hW0 B0 s0 r0 hW1 B1 s1 r1 hW2 B2 s2 r2
  have ld := load_c Q1.out
  go_upto_if 8 with (first | refine wpList_load_as rfl 42 (.tmp 3) rfl (.pointer (some ⟨w.heap.size + 1, 0, none⟩)) rfl _ ld ?_ | (refine (strange_any c W2).mono ?_; rintro e w1 ⟨rfl, hb1⟩))
  have BB1 := hide (BB.out.trans (hb1.mono BB.out.size))
  have Q0b : Hid (w1.heap[w.heap.size]? = some (.cells (encT t.id (.slice ao n cap) t.tag).toArray 27 (0, 0))) := (hb1.block _ (block_lt_of_row Q0.out)).trans Q0.out
  have Q1b : Hid (w1.heap[w.heap.size + 1]? = some (.cells (encC c).toArray 42 (0, 0))) := (hb1.block _ (block_lt_of_row Q1.out)).trans Q1.out
  have Q2b : Hid (w1.heap[w.heap.size + 2]? = some (.cells tk0 27 (0, 0))) := (hb1.block _ (block_lt_of_row Q2.out)).trans Q2.out
  clear ld hb1 BB Q0 Q1 Q2
  by_cases ho : S.odd c = true
  · have hA2 := hide (show A = (S.t0, 1) by rw [HA.out, S.narrow, if_pos ho])
    rw [ho]
    obtain ⟨YF, hsf, rf, cf, sf⟩ := store_t (id := 0) (ao := none) (n := 0) (m := 0) (tag := S.zeros 32) Q2b.out tk0_size (S.zeros_length 32)
    have RF := hide rf
    have BF := hide (BB1.out.trans (cf.below w.heap.size BB1.out.size (fun j hj e => by omega)))
    have HS := hide hsf
    clear rf cf sf Q0b Q1b Q2b ho hsf
    have T1 : ∀ (ops : Array Oper) (rest : List Oper) (a : Act) (Q : Exit → Act → World → Prop), a.eval (.tmp 4) = .pointer (some ⟨w.heap.size + 2, 0, none⟩) → a.eval (.tmp 9) = .agg tk0 → wpList Tryd.prog ops Q rest (a.put none undef) YF → wpList Tryd.prog ops Q ({ dst := none, op := Op.store 27 (Operand.tmp 4) (Operand.tmp 9), type := 0, pos := "token.go:33", after := #[{ on := 0, ground := Ground.data }, { on := 0, ground := Ground.phase }], guard := none } :: rest) a w1 := fun ops rest a Q h1 h2 h => wpList_store_as rfl 27 (.tmp 4) (.tmp 9) rfl _ _ h1 h2 YF HS.out h
    have HT1 := hide T1
    clear T1
    go_wp2_with (first | (with_reducible refine at_op { dst := some 9, op := Op.build 27 #[], type := 27, pos := "token.go:33", after := #[], guard := none } ?_; refine wpList_build_as rfl 27 [] rfl [] rfl (.agg tk0) (build27z _) ?_) | (with_reducible refine at_op { dst := none, op := Op.store 27 (Operand.tmp 4) (Operand.tmp 9), type := 0, pos := "token.go:33", after := #[{ on := 0, ground := Ground.data }, { on := 0, ground := Ground.phase }], guard := none } ?_; refine HT1.out _ _ _ _ rfl rfl ?_))
    exact bodyPost_ret (v := .tuple #[.agg tk0, .int .i64 1]) (results_rt Tryd.results14 _ _ (w.heap.size + 2) _ rfl (var27 RF.out (S.zeros_length 32))) rfl ⟨⟨.slice none 0 0, by rw [hA2.out]; rfl, by rw [hA2.out]; exact Rw.nil _ _ _ _ _⟩, BF.out⟩
  have ho' : S.odd c = false := by simpa using ho
  rw [ho']
  obtain ⟨c0, c1⟩ := t_cells Q0b.out
  by_cases h4 : 4 ≤ n
  · have hA2 := hide (show A = (S.t0, 4) by rw [HA.out, S.narrow, if_neg ho, if_pos (by rw [← HN.out]; exact h4)])
    have q1 : (n : Int) ≥ 4 := by omega
    have q1' : (4 : Int) ≤ (n : Int) := by omega
    obtain ⟨YF, hsf, rf, cf, sf⟩ := store_t (id := 0) (ao := none) (n := 0) (m := 0) (tag := S.zeros 32) Q2b.out tk0_size (S.zeros_length 32)
    have RF := hide rf
    have BF := hide (BB1.out.trans (cf.below w.heap.size BB1.out.size (fun j hj e => by omega)))
    have HS := hide hsf
    clear rf cf sf Q0b Q1b Q2b ho ho' hsf h4
    have T1 : ∀ (ops : Array Oper) (rest : List Oper) (a : Act) (Q : Exit → Act → World → Prop), a.eval (.tmp 4) = .pointer (some ⟨w.heap.size + 2, 0, none⟩) → a.eval (.tmp 14) = .agg tk0 → wpList Tryd.prog ops Q rest (a.put none undef) YF → wpList Tryd.prog ops Q ({ dst := none, op := Op.store 27 (Operand.tmp 4) (Operand.tmp 14), type := 0, pos := "token.go:36", after := #[{ on := 0, ground := Ground.data }, { on := 0, ground := Ground.phase }], guard := none } :: rest) a w1 := fun ops rest a Q h1 h2 h => wpList_store_as rfl 27 (.tmp 4) (.tmp 14) rfl _ _ h1 h2 YF HS.out h
    have HT1 := hide T1
    clear T1
    go_wp2_with (first | (with_reducible refine at_op { dst := some 14, op := Op.build 27 #[], type := 27, pos := "token.go:36", after := #[], guard := none } ?_; refine wpList_build_as rfl 27 [] rfl [] rfl (.agg tk0) (build27z _) ?_) | (with_reducible refine at_op { dst := none, op := Op.store 27 (Operand.tmp 4) (Operand.tmp 14), type := 0, pos := "token.go:36", after := #[{ on := 0, ground := Ground.data }, { on := 0, ground := Ground.phase }], guard := none } ?_; refine HT1.out _ _ _ _ rfl rfl ?_))
    exact bodyPost_ret (v := .tuple #[.agg tk0, .int .i64 4]) (results_rt Tryd.results14 _ _ (w.heap.size + 2) _ rfl (var27 RF.out (S.zeros_length 32))) rfl ⟨⟨.slice none 0 0, by rw [hA2.out]; rfl, by rw [hA2.out]; exact Rw.nil _ _ _ _ _⟩, BF.out⟩
  have hA2 := hide (show A = (⟨t.id, t.cs ++ [c], S.mac t.tag (S.cb c)⟩, 0) by rw [HA.out, S.narrow, if_neg ho, if_neg (by rw [← HN.out]; exact h4)])
  have q1 : ¬ (n : Int) ≥ 4 := by omega
  have q1' : ¬ (4 : Int) ≤ (n : Int) := by omega
  clear ho ho'
  go_wp2_with fail
  refine (newWriter_any w1).mono ?_
  rintro e w2 ⟨rfl, h1, h2⟩
  obtain ⟨gw, hgw⟩ : ∃ gw, gw = w1.heap.size := ⟨_, rfl⟩
  rw [← hgw] at h1 ⊢
  have X1 := hide h1
  have X2 := hide h2
  have ld := load_c ((h2.block _ (block_lt_of_row Q1b.out)).trans Q1b.out)
  have HG := hide hgw
  clear h1 h2 hgw c0 c1 q1 q1'
  go_upto_region 7 with (first | refine wpList_load_as rfl 42 (.tmp 3) rfl (.pointer (some ⟨w.heap.size + 1, 0, none⟩)) rfl _ ld ?_ | (refine (wcaveat_any c gw _ [] w2 w1.heap.size HC2.out X1.out (by simp) X2.out.size (Nat.le_of_eq HG.out.symm) (nil_base _)).mono ?_; rintro e w3 ⟨rfl, v2, h3, h4b, _⟩; rw [List.nil_append] at h3))
  have WR := hide h3
  have H2 := hide (X2.out.trans h4b)
  have BB2 := hide (BB1.out.trans (H2.out.mono BB1.out.size))
  have Q0c : Hid (w3.heap[w.heap.size]? = some (.cells (encT t.id (.slice ao n cap) t.tag).toArray 27 (0, 0))) := (H2.out.block _ (block_lt_of_row Q0b.out)).trans Q0b.out
  have Q1c : Hid (w3.heap[w.heap.size + 1]? = some (.cells (encC c).toArray 42 (0, 0))) := (H2.out.block _ (block_lt_of_row Q1b.out)).trans Q1b.out
  have Q2c : Hid (w3.heap[w.heap.size + 2]? = some (.cells tk0 27 (0, 0))) := (H2.out.block _ (block_lt_of_row Q2b.out)).trans Q2b.out
  have CV := hide (HV.out.below BB2.out)
  have hTl := S.cb_length c
  generalize hT : S.cb c = T at WR hTl
  have HT := hide hT
  have L2 := hide (block_lt_of_row Q2c.out)
  clear h3 h4b ld BB1 Q0b Q1b Q2b H2 X1 X2 HG hT
  refine wp_region_noPanic ?_
  refine wp_region_held_drew (S := (fun W => Chg (fun k => k = w.heap.size + 2) w3 W)) follows ((Chg.refl _ _).drew) (fun hHeld => ?_)
  clear hHeld
  have hHeld : Chg (fun k => k = w.heap.size + 2) w3 w3.drew := (Chg.refl _ _).drew
  have CZ0 := hide hHeld
  have Q0c' : Hid (w3.drew.heap[w.heap.size]? = some (.cells (encT t.id (.slice ao n cap) t.tag).toArray 27 (0, 0))) := Q0c.out
  have Q1c' : Hid (w3.drew.heap[(w.heap.size + 1)]? = some (.cells (encC c).toArray 42 (0, 0))) := Q1c.out
  have Q2c' : Hid (w3.drew.heap[(w.heap.size + 2)]? = some (.cells tk0 27 (0, 0))) := Q2c.out
  have WR' : Hid (WrIs w3.drew gw v2 T) := WR.out.chg (p := fun _ => False) (Chg.ofBelow' ((Below.refl _ _).drew)) (fun e => e) (fun _ _ e => e)
  have CV' : Hid (CvAt w3.drew (.slice ao n cap) t.cs) := CV.out.below ((Below.refl _ _).drew)
  generalize w3.drew = Z0 at CZ0 hHeld Q0c' Q1c' Q2c' WR' CV' ⊢
  refine wpAnyH_take (i := 0) (oi := { dst := some 19, op := Op.fieldAddr 27 (Operand.tmp 2) 0, type := 0, pos := "token.go:40", after := #[], guard := none }) (v := ?_) rfl (by kernel_rfl) (by kernel_rfl) (by kernel_rfl) (fun _ _ _ h => h) (Or.inl ⟨by rfl, ?_⟩) (by assumption) ?_
  rotate_left
  · intro w hSw
    clear hSw
    go_simp
    all_goals with_reducible rfl
  simp only [Act.put, List.setIfInBounds_toArray, List.set_cons_zero, List.set_cons_succ]
  refine wpAnyH_take (i := 1) (oi := { dst := some 20, op := Op.load 22 (Operand.tmp 19), type := 22, pos := "token.go:40", after := #[{ on := 0, ground := Ground.data }], guard := none }) (v := ?_) rfl (by kernel_rfl) (by kernel_rfl) (by kernel_rfl) (fun _ _ _ h => h) (Or.inl ⟨by rfl, ?_⟩) (by assumption) ?_
  rotate_left
  · intro w hSw
    have c0 := (t_cells (hSw.row Q0c.out (by omega))).1
    clear hSw
    go_simp
    all_goals with_reducible rfl
  simp only [Act.put, List.setIfInBounds_toArray, List.set_cons_zero, List.set_cons_succ]
  refine wpAnyH_take (i := 2) (oi := { dst := some 21, op := Op.fieldAddr 27 (Operand.tmp 2) 1, type := 0, pos := "token.go:40", after := #[], guard := none }) (v := ?_) rfl (by kernel_rfl) (by kernel_rfl) (by kernel_rfl) (fun _ _ _ h => h) (Or.inl ⟨by rfl, ?_⟩) (by assumption) ?_
  rotate_left
  · intro w hSw
    clear hSw
    go_simp
    all_goals with_reducible rfl
  simp only [Act.put, List.setIfInBounds_toArray, List.set_cons_zero, List.set_cons_succ]
  refine wpAnyH_take (i := 3) (oi := { dst := some 22, op := Op.load 23 (Operand.tmp 21), type := 23, pos := "token.go:40", after := #[{ on := 2, ground := Ground.data }], guard := none }) (v := ?_) rfl (by kernel_rfl) (by kernel_rfl) (by kernel_rfl) (fun _ _ _ h => h) (Or.inl ⟨by rfl, ?_⟩) (by assumption) ?_
  rotate_left
  · intro w hSw
    have c1 := (t_cells (hSw.row Q0c.out (by omega))).2
    clear hSw
    go_simp
    all_goals with_reducible rfl
  simp only [Act.put, List.setIfInBounds_toArray, List.set_cons_zero, List.set_cons_succ]
  refine wpAnyH_take (i := 4) (oi := { dst := some 23, op := Op.load 42 (Operand.tmp 3), type := 42, pos := "token.go:40", after := #[], guard := none }) (v := .agg (encC c).toArray) rfl (by kernel_rfl) (by kernel_rfl) (by kernel_rfl) (fun _ _ _ h => h) (yieldsIf_load_mid (by rfl) _ _ rfl (w.heap.size + 1) 0 rfl (encC c) _ (fun _ hSw => rangeAt_row (hSw.row Q1c.out (by omega))) Tryd.underlying42 rfl (by rw [size_c, List.size_toArray])) (by assumption) ?_
  simp only [Act.put, List.setIfInBounds_toArray, List.set_cons_zero, List.set_cons_succ]
  refine wpAnyH_take (i := 8) (oi := { dst := some 27, op := Op.fieldAddr 27 (Operand.tmp 2) 2, type := 0, pos := "token.go:40", after := #[], guard := none }) (v := ?_) rfl (by kernel_rfl) (by kernel_rfl) (by kernel_rfl) (fun _ _ _ h => h) (Or.inl ⟨by rfl, ?_⟩) (by assumption) ?_
  rotate_left
  · intro w hSw
    clear hSw
    go_simp
    all_goals with_reducible rfl
  simp only [Act.put, List.setIfInBounds_toArray, List.set_cons_zero, List.set_cons_succ]
  refine wpAnyH_take (i := 9) (oi := { dst := some 28, op := Op.slice 25 (Operand.tmp 27) none none none, type := 30, pos := "token.go:40", after := #[{ on := 8, ground := Ground.data }], guard := none }) (v := ?_) rfl (by kernel_rfl) (by kernel_rfl) (by kernel_rfl) (fun _ _ _ h => h) (Or.inl ⟨by rfl, ?_⟩) (by assumption) ?_
  rotate_left
  · intro w hSw
    clear hSw
    go_simp
    all_goals with_reducible rfl
  simp only [Act.put, List.setIfInBounds_toArray, List.set_cons_zero, List.set_cons_succ]
  refine wpAnyH_take (i := 10) (oi := { dst := some 29, op := Op.move (Operand.tmp 6), type := 75, pos := "token.go:40", after := #[], guard := none }) (v := ?_) rfl (by kernel_rfl) (by kernel_rfl) (by kernel_rfl) (fun _ _ _ h => h) (Or.inl ⟨by rfl, ?_⟩) (by assumption) ?_
  rotate_left
  · intro w hSw
    clear hSw
    go_simp
    all_goals with_reducible rfl
  simp only [Act.put, List.setIfInBounds_toArray, List.set_cons_zero, List.set_cons_succ]
  refine wpAnyH_ready (rs := [5]) (by kernel_rfl) (by simp) ?_
  refine step_buildSlice_as (o := { dst := some 24, op := Op.buildSlice 23 1 #[(0, Operand.tmp 23)], type := 23, pos := "token.go:40", after := #[{ on := 4, ground := Ground.data }], guard := none }) rfl rfl 23 1 [(0, .tmp 23)] rfl [(0, .agg (encC c).toArray)] rfl _ _ (bs23one Z0 c) AllReadyH.nil ⟨CZ0.out.alloc _, fun hHeld => ?_⟩
  clear hHeld
  simp only [Act.put, List.setIfInBounds_toArray, List.set_cons_zero, List.set_cons_succ]
  obtain ⟨gc, hgc⟩ : ∃ gg, gg = Z0.heap.size := ⟨_, rfl⟩
  rw [← hgc]
  generalize hZ : Z0.alloc _ = Z1
  have hb2 : Below Z0.heap.size Z0 Z1 := by rw [← hZ]; exact (Below.refl _ _).alloc (Nat.le_refl _) _
  have Rgc : Hid (Z1.heap[gc]? = some (.cells (encC c).toArray 42 (0, 0))) := by rw [← hZ, hgc]; exact heap_alloc_new _ _
  have Ggc := hide (show w3.heap.size ≤ gc by rw [hgc]; exact CZ0.out.size)
  clear hZ hgc
  replace Q0c' : Hid (Z1.heap[w.heap.size]? = some (.cells (encT t.id (.slice ao n cap) t.tag).toArray 27 (0, 0))) := (hb2.block _ (block_lt_of_row Q0c'.out)).trans Q0c'.out
  replace Q1c' : Hid (Z1.heap[(w.heap.size + 1)]? = some (.cells (encC c).toArray 42 (0, 0))) := (hb2.block _ (block_lt_of_row Q1c'.out)).trans Q1c'.out
  replace Q2c' : Hid (Z1.heap[(w.heap.size + 2)]? = some (.cells tk0 27 (0, 0))) := (hb2.block _ (block_lt_of_row Q2c'.out)).trans Q2c'.out
  replace WR' : Hid (WrIs Z1 gw v2 T) := WR'.out.chg (p := fun _ => False) (Chg.ofBelow' hb2) (fun e => e) (fun _ _ e => e)
  replace CV' : Hid (CvAt Z1 (.slice ao n cap) t.cs) := CV'.out.below hb2
  have CZ1 : Hid (Chg (fun k => k = w.heap.size + 2) w3 Z1) := CZ0.out.then hb2
  clear hb2 CZ0
  have hHeld := CZ1.out
  refine wpAnyH_ready (rs := [6]) (by kernel_rfl) (by simp) ?_
  refine step_buildSlice_as (o := { dst := some 25, op := Op.buildSlice 67 2 #[(0, Operand.tmp 22), (1, Operand.tmp 24)], type := 67, pos := "token.go:40", after := #[{ on := 3, ground := Ground.data }, { on := 5, ground := Ground.data }], guard := none }) rfl rfl 67 2 [(0, .tmp 22), (1, .tmp 24)] rfl [(0, .slice ao n cap), (1, .slice (some ⟨gc, 0, none⟩) 1 1)] rfl _ _ (bs67two Z1 _ _ rfl rfl) AllReadyH.nil ⟨CZ1.out.alloc _, fun hHeld => ?_⟩
  clear hHeld
  simp only [Act.put, List.setIfInBounds_toArray, List.set_cons_zero, List.set_cons_succ]
  obtain ⟨gl, hgl⟩ : ∃ gg, gg = Z1.heap.size := ⟨_, rfl⟩
  rw [← hgl]
  generalize hZ : Z1.alloc _ = Z2
  have hb2 : Below Z1.heap.size Z1 Z2 := by rw [← hZ]; exact (Below.refl _ _).alloc (Nat.le_refl _) _
  have Rgl : Hid (Z2.heap[gl]? = some (.cells #[.slice ao n cap, .slice (some ⟨gc, 0, none⟩) 1 1] 23 (0, 0))) := by rw [← hZ, hgl]; exact heap_alloc_new _ _
  have Ggl := hide (show w3.heap.size ≤ gl by rw [hgl]; exact CZ1.out.size)
  clear hZ hgl
  replace Q0c' : Hid (Z2.heap[w.heap.size]? = some (.cells (encT t.id (.slice ao n cap) t.tag).toArray 27 (0, 0))) := (hb2.block _ (block_lt_of_row Q0c'.out)).trans Q0c'.out
  replace Q1c' : Hid (Z2.heap[(w.heap.size + 1)]? = some (.cells (encC c).toArray 42 (0, 0))) := (hb2.block _ (block_lt_of_row Q1c'.out)).trans Q1c'.out
  replace Q2c' : Hid (Z2.heap[(w.heap.size + 2)]? = some (.cells tk0 27 (0, 0))) := (hb2.block _ (block_lt_of_row Q2c'.out)).trans Q2c'.out
  replace Rgc : Hid (Z2.heap[gc]? = some (.cells (encC c).toArray 42 (0, 0))) := (hb2.block _ (block_lt_of_row Rgc.out)).trans Rgc.out
  replace WR' : Hid (WrIs Z2 gw v2 T) := WR'.out.chg (p := fun _ => False) (Chg.ofBelow' hb2) (fun e => e) (fun _ _ e => e)
  replace CV' : Hid (CvAt Z2 (.slice ao n cap) t.cs) := CV'.out.below hb2
  have CZ2 : Hid (Chg (fun k => k = w.heap.size + 2) w3 Z2) := CZ1.out.then hb2
  clear hb2 CZ1
  have hHeld := CZ2.out
  refine wpAnyH_ready (rs := [7]) (by kernel_rfl) (by simp) ?_
  refine AllReadyH.cons (o := { dst := some 26, op := Op.call { callee := Callee.value (Operand.func 49), args := #[Operand.tmp 25], argTypes := #[67] }, type := 23, pos := "token.go:42", after := #[{ on := 6, ground := Ground.data }], guard := none }) rfl (fun K hK => ?_) AllReadyH.nil
  go_simp
  refine (concat_is gl ao _ n 1 cap 1 t.cs [c] Z2 HN.out rfl Rgl.out CV'.out (CRow.at (B := 0) (Rw.one Rgc.out (encC_length c) (Nat.zero_le _))) (by omega) (by omega)).mono ?_
  rintro e Z3 ⟨⟨vv, rfl, hcr⟩, hb2⟩
  obtain ⟨vo, vc, rfl⟩ := hcr.form
  have CR : Hid (CRow w.heap.size Z3 (.slice vo (t.cs ++ [c]).length vc) (t.cs ++ [c])) := hcr.mono (BB2.out.trans (CZ2.out.below w.heap.size BB2.out.size (fun k hk e => by omega))).size
  obtain ⟨vn, hvn⟩ : ∃ vn, vn = (t.cs ++ [c]).length := ⟨_, rfl⟩
  rw [← hvn] at CR ⊢
  clear hcr hvn
  replace Q0c' : Hid (Z3.heap[w.heap.size]? = some (.cells (encT t.id (.slice ao n cap) t.tag).toArray 27 (0, 0))) := (hb2.block _ (block_lt_of_row Q0c'.out)).trans Q0c'.out
  replace Q1c' : Hid (Z3.heap[(w.heap.size + 1)]? = some (.cells (encC c).toArray 42 (0, 0))) := (hb2.block _ (block_lt_of_row Q1c'.out)).trans Q1c'.out
  replace Q2c' : Hid (Z3.heap[(w.heap.size + 2)]? = some (.cells tk0 27 (0, 0))) := (hb2.block _ (block_lt_of_row Q2c'.out)).trans Q2c'.out
  replace Rgc : Hid (Z3.heap[gc]? = some (.cells (encC c).toArray 42 (0, 0))) := (hb2.block _ (block_lt_of_row Rgc.out)).trans Rgc.out
  replace Rgl : Hid (Z3.heap[gl]? = some (.cells #[.slice ao n cap, .slice (some ⟨gc, 0, none⟩) 1 1] 23 (0, 0))) := (hb2.block _ (block_lt_of_row Rgl.out)).trans Rgl.out
  replace WR' : Hid (WrIs Z3 gw v2 T) := WR'.out.chg (p := fun _ => False) (Chg.ofBelow' hb2) (fun e => e) (fun _ _ e => e)
  replace CV' : Hid (CvAt Z3 (.slice ao n cap) t.cs) := CV'.out.below hb2
  have CZ3 : Hid (Chg (fun k => k = w.heap.size + 2) w3 Z3) := CZ2.out.then hb2
  clear hb2 CZ2
  clear hHeld
  refine hK.out _ _ CZ3.out (fun hHeld => ?_)
  clear hK K
  try simp only [Act.put, List.setIfInBounds_toArray, List.set_cons_zero, List.set_cons_succ]
  refine wpAnyH_ready (rs := [11]) (by kernel_rfl) (by simp) ?_
  refine AllReadyH.cons (o := { dst := some 30, op := Op.call { callee := Callee.value (Operand.func 38), args := #[Operand.tmp 29], argTypes := #[75] }, type := 30, pos := "token.go:43", after := #[{ on := 10, ground := Ground.data }, { on := 7, ground := Ground.chain }], guard := none }) rfl (fun K hK => ?_) AllReadyH.nil
  go_simp
  refine (done_any gw v2 T Z3 WR'.out (by omega)).mono ?_
  rintro e Z4 ⟨rfl, hr5, hb2⟩
  have ST : Hid (SliceAt Z4 (.slice (some ⟨Z3.heap.size, 0, none⟩) 5 5) T) := row_text hr5 hTl (by omega)
  rw [hTl]
  clear hr5
  obtain ⟨gd, hgd⟩ : ∃ gd, gd = Z3.heap.size := ⟨_, rfl⟩
  rw [← hgd] at ST ⊢
  clear hgd
  replace Q0c' : Hid (Z4.heap[w.heap.size]? = some (.cells (encT t.id (.slice ao n cap) t.tag).toArray 27 (0, 0))) := (hb2.block _ (block_lt_of_row Q0c'.out)).trans Q0c'.out
  replace Q1c' : Hid (Z4.heap[(w.heap.size + 1)]? = some (.cells (encC c).toArray 42 (0, 0))) := (hb2.block _ (block_lt_of_row Q1c'.out)).trans Q1c'.out
  replace Q2c' : Hid (Z4.heap[(w.heap.size + 2)]? = some (.cells tk0 27 (0, 0))) := (hb2.block _ (block_lt_of_row Q2c'.out)).trans Q2c'.out
  replace Rgc : Hid (Z4.heap[gc]? = some (.cells (encC c).toArray 42 (0, 0))) := (hb2.block _ (block_lt_of_row Rgc.out)).trans Rgc.out
  replace Rgl : Hid (Z4.heap[gl]? = some (.cells #[.slice ao n cap, .slice (some ⟨gc, 0, none⟩) 1 1] 23 (0, 0))) := (hb2.block _ (block_lt_of_row Rgl.out)).trans Rgl.out
  replace WR' : Hid (WrIs Z4 gw v2 T) := WR'.out.chg (p := fun _ => False) (Chg.ofBelow' hb2) (fun e => e) (fun _ _ e => e)
  replace CV' : Hid (CvAt Z4 (.slice ao n cap) t.cs) := CV'.out.below hb2
  replace CR : Hid (CRow w.heap.size Z4 (.slice vo vn vc) (t.cs ++ [c])) := CR.out.below hb2
  have CZ4 : Hid (Chg (fun k => k = w.heap.size + 2) w3 Z4) := CZ3.out.then hb2
  clear hb2 CZ3
  clear hHeld
  refine hK.out _ _ CZ4.out (fun hHeld => ?_)
  clear hK K
  try simp only [Act.put, List.setIfInBounds_toArray, List.set_cons_zero, List.set_cons_succ]
  refine wpAnyH_ready (rs := [12]) (by kernel_rfl) (by simp) ?_
  refine AllReadyH.cons (o := { dst := some 31, op := Op.call { callee := Callee.value (Operand.func 36), args := #[Operand.tmp 28, Operand.tmp 30], argTypes := #[30, 30] }, type := 25, pos := "token.go:43", after := #[{ on := 9, ground := Ground.data }, { on := 11, ground := Ground.data }, { on := 11, ground := Ground.chain }], guard := none }) rfl (fun K hK => ?_) AllReadyH.nil
  go_simp
  refine (Mac_any _ t.tag _ T Z4 (mid_part (t_tag Q0c'.out) HTL.out (block_lt_of_row Q0c'.out) (by omega)) ST.out (HK.out.below (BB2.out.trans (CZ4.out.below w.heap.size BB2.out.size (fun k hk e => by omega))) h0)).mono ?_
  rintro e Z5 ⟨rfl, hb2⟩
  obtain ⟨D, hD⟩ : ∃ DD, DD = S.mac t.tag T := ⟨_, rfl⟩
  rw [← hD]
  have LD := hide (show D.length = 32 by rw [hD]; exact S.mac_length _ _)
  have ED := hide hD
  clear hD
  replace Q0c' : Hid (Z5.heap[w.heap.size]? = some (.cells (encT t.id (.slice ao n cap) t.tag).toArray 27 (0, 0))) := (hb2.block _ (block_lt_of_row Q0c'.out)).trans Q0c'.out
  replace Q1c' : Hid (Z5.heap[(w.heap.size + 1)]? = some (.cells (encC c).toArray 42 (0, 0))) := (hb2.block _ (block_lt_of_row Q1c'.out)).trans Q1c'.out
  replace Q2c' : Hid (Z5.heap[(w.heap.size + 2)]? = some (.cells tk0 27 (0, 0))) := (hb2.block _ (block_lt_of_row Q2c'.out)).trans Q2c'.out
  replace Rgc : Hid (Z5.heap[gc]? = some (.cells (encC c).toArray 42 (0, 0))) := (hb2.block _ (block_lt_of_row Rgc.out)).trans Rgc.out
  replace Rgl : Hid (Z5.heap[gl]? = some (.cells #[.slice ao n cap, .slice (some ⟨gc, 0, none⟩) 1 1] 23 (0, 0))) := (hb2.block _ (block_lt_of_row Rgl.out)).trans Rgl.out
  replace WR' : Hid (WrIs Z5 gw v2 T) := WR'.out.chg (p := fun _ => False) (Chg.ofBelow' hb2) (fun e => e) (fun _ _ e => e)
  replace CV' : Hid (CvAt Z5 (.slice ao n cap) t.cs) := CV'.out.below hb2
  replace CR : Hid (CRow w.heap.size Z5 (.slice vo vn vc) (t.cs ++ [c])) := CR.out.below hb2
  replace ST : Hid (SliceAt Z5 (.slice (some ⟨gd, 0, none⟩) 5 5) T) := ST.out.below hb2 (Nat.le_refl _)
  have CZ5 : Hid (Chg (fun k => k = w.heap.size + 2) w3 Z5) := CZ4.out.then hb2
  clear hb2 CZ4
  clear hHeld
  refine hK.out _ _ CZ5.out (fun hHeld => ?_)
  clear hK K
  try simp only [Act.put, List.setIfInBounds_toArray, List.set_cons_zero, List.set_cons_succ]
  refine wpAnyH_ready (rs := [13]) (by kernel_rfl) (by simp) ?_
  refine step_build_as (o := { dst := some 32, op := Op.build 27 #[(0, Operand.tmp 20), (1, Operand.tmp 26), (2, Operand.tmp 31)], type := 27, pos := "token.go:40", after := #[{ on := 1, ground := Ground.data }, { on := 7, ground := Ground.data }, { on := 12, ground := Ground.data }], guard := none }) rfl rfl 27 [(0, .tmp 20), (1, .tmp 26), (2, .tmp 31)] rfl [(0, .int .u32 (t.id : Int)), (1, .slice vo vn vc), (2, .agg (S.v8 D))] rfl (.agg (encT t.id (.slice vo vn vc) D).toArray) (build27 t.id vo vn vc D LD.out Z5) AllReadyH.nil ⟨CZ5.out, fun hHeld => ?_⟩
  simp only [Act.put, List.setIfInBounds_toArray, List.set_cons_zero, List.set_cons_succ]
  refine wpAnyH_ready (rs := [14]) (by kernel_rfl) (by simp) ?_
  obtain ⟨Z6, hst, r6, C6, s6⟩ := store_t (id := t.id) (ao := vo) (n := vn) (m := vc) (tag := D) Q2c'.out tk0_size LD.out
  refine step_store_as (o := { dst := none, op := Op.store 27 (Operand.tmp 4) (Operand.tmp 32), type := 0, pos := "token.go:40", after := #[{ on := 13, ground := Ground.data }, { on := 12, ground := Ground.chain }, { on := 0, ground := Ground.phase }, { on := 1, ground := Ground.phase }, { on := 2, ground := Ground.phase }, { on := 3, ground := Ground.phase }, { on := 4, ground := Ground.phase }, { on := 5, ground := Ground.phase }, { on := 6, ground := Ground.phase }, { on := 7, ground := Ground.phase }, { on := 8, ground := Ground.phase }, { on := 9, ground := Ground.phase }, { on := 10, ground := Ground.phase }, { on := 11, ground := Ground.phase }, { on := 12, ground := Ground.phase }, { on := 13, ground := Ground.phase }], guard := none }) rfl rfl 27 (.tmp 4) (.tmp 32) rfl _ _ rfl rfl Z6 hst AllReadyH.nil ⟨CZ5.out.trans C6 (fun k hk e => by first | exact e | exact Or.inl e | exact Or.inr e | omega), fun hHeld => ?_⟩
  replace CR : Hid (CRow w.heap.size Z6 (.slice vo vn vc) (t.cs ++ [c])) := CR.out.chg C6 (fun j e e2 => CR.out.apart Q2c'.out (by decide) (e2 ▸ e))
  replace Q2c' : Hid (Z6.heap[(w.heap.size + 2)]? = some (.cells (encT t.id (.slice vo vn vc) D).toArray 27 (0, 0))) := r6
  have CZ6 : Hid (Chg (fun k => k = w.heap.size + 2) w3 Z6) := CZ5.out.trans C6 (fun k hk e => by first | exact e | exact Or.inl e | exact Or.inr e | omega)
  clear hst r6 C6 s6 CZ5
  simp only [Act.put]
  refine wpAnyH_take (i := 15) (oi := { dst := some 5, op := Op.assign (Operand.const (Value.int IntKind.i64 0)), type := 31, pos := "token.go:40", after := #[{ on := 14, ground := Ground.chain }, { on := 0, ground := Ground.phase }, { on := 1, ground := Ground.phase }, { on := 2, ground := Ground.phase }, { on := 3, ground := Ground.phase }, { on := 4, ground := Ground.phase }, { on := 5, ground := Ground.phase }, { on := 6, ground := Ground.phase }, { on := 7, ground := Ground.phase }, { on := 8, ground := Ground.phase }, { on := 9, ground := Ground.phase }, { on := 10, ground := Ground.phase }, { on := 11, ground := Ground.phase }, { on := 12, ground := Ground.phase }, { on := 13, ground := Ground.phase }, { on := 14, ground := Ground.phase }], guard := none }) (v := ?_) rfl (by kernel_rfl) (by kernel_rfl) (by kernel_rfl) (fun _ _ _ h => h) (Or.inl ⟨by rfl, ?_⟩) (by assumption) ?_
  rotate_left
  · intro w hSw
    clear hSw
    go_simp
    all_goals with_reducible rfl
  simp only [Act.put, List.setIfInBounds_toArray, List.set_cons_zero, List.set_cons_succ]
  refine wpAnyH_done (by kernel_rfl) ?_ _
  refine NoPanic.normal ?_
  have BF := hide (BB2.out.trans (CZ6.out.below w.heap.size BB2.out.size (fun k hk e => by omega)))
  clear hHeld
  generalize Z6 = Y at BF Q2c' CR ⊢
  go_wp2_with fail
  exact bodyPost_ret (v := .tuple #[.agg (encT t.id (.slice vo vn vc) D).toArray, .int .i64 0]) (results_rt Tryd.results14 _ _ (w.heap.size + 2) _ rfl (var27 Q2c'.out LD.out)) rfl ⟨⟨.slice vo vn vc, by rw [hA2.out, ED.out, ← HT.out], by rw [hA2.out]; exact CR.out⟩, BF.out⟩
end Go.Proofs.YtlcilclhaahopaaDoor
