/- ranged: are the pairs of a tree these. -/
import Derived.Test.YteealihknndclaaGreatDoorBu
import Derived.Test.YteealihknndclaaGreatDoorBr
import Derived.Lib.ConvBytes
namespace Go.Proofs.YteealihknndclaaGreatDoor
open Go.RowKit
open Go.Shelf
attribute [local go_sem] Oper.semAt_some
theorem Chg.putObj {p : Nat → Prop} {w W : World} {l : Nat} {o' : Obj} (h : Chg p w W) (hl : w.heap.size ≤ l) : Chg p w (W.putObj l o') := by
 refine ⟨h.os, h.tape, h.output, by rw [World.putObj_size]; exact h.size, fun k hk hn => ?_⟩
 rw [World.putObj_heap_other (by omega)]
 exact h.block k hk hn
theorem cells_putObj {W : World} {l g : Nat} {o o' : Obj} {cs : Array Value} {t : TypeId} {fr : Nat × Nat} (hg : W.heap[g]? = some (.cells cs t fr)) (hl : W.heap[l]? = some o) (hn : o.isCells = false) : (W.putObj l o').heap[g]? = some (.cells cs t fr) := by
 by_cases e : g = l
 ·subst e; rw [hg] at hl; injection hl with hl; rw [← hl] at hn; simp [Obj.isCells] at hn
 ·rw [World.putObj_heap_other e]; exact hg
theorem below_putObj {n : Nat} {w W : World} {l : Nat} {o' : Obj} (h : Below n w W) (hl : n ≤ l) : Below n w (W.putObj l o') :=
 ⟨h.os, h.tape, h.output, by rw [World.putObj_size]; exact h.size, fun k hk => by rw [World.putObj_heap_other (by omega)]; exact h.block k hk⟩
theorem eql_fn43 (f : Fn) (x y : Array Value) (W : World) : (binOp .eql 43 (.func f x y) .nilFunc).run Tryz.prog W = .ok (.bool false) W := by
 have h : ∀ d : Nat, (Op.equalIn (d + 1) 43 (.func f x y) .nilFunc).run Tryz.prog W = .ok false W := fun d => by
  simp [Op.equalIn, run_underlying Tryz.underlying43]
 simp only [binOp]
 simp [Op.equal, Op.maxDepth, h 9999]
def noDef (o : Oper) : Bool := match o.op with | .defer _ => false | _ => true
theorem noDef_ne {l : List Oper} (h : l.all noDef = true) (i : Nat) (o : Oper) (ho : l.toArray[i]? = some o) (c : Call) : o.op ≠ .defer c := fun e => by
 have := List.all_eq_true.1 h o (List.mem_of_getElem? (by simpa using ho))
 rw [noDef, e] at this
 cases this
theorem less_nil (a : List UInt8) : Op.bytesLess a [] = false := by cases a <;> simp [Op.bytesLess]
set_option maxRecDepth 10000 in
theorem store4 {w : World} {g : Nat} {v : Value} (h : w.heap[g]? = some (.cells #[v] 4 (0, 0))) (x : Bool) :
  (Instr.storeAt 4 (.pointer (some ⟨g, 0, none⟩)) (.bool x)).run Tryz.prog w = .ok () (w.setCell ⟨g, 0, none⟩ (.bool x)) := by
 have e := cells1r h
 have f := frozen_of_row w g 0 _ _ h
 go_simp
set_option maxRecDepth 10000 in
theorem load4 {w : World} {g : Nat} {x : Bool} (h : w.heap[g]? = some (.cells #[.bool x] 4 (0, 0))) : (loadVar 4 ⟨g, 0, none⟩).run Tryz.prog w = .ok (.bool x) w := by
 have e := cells1r h
 go_simp
theorem results_c4 {fn : Func} {p : Tmp} {ty : TypeId} (h : fn.results = #[.cell p ty]) (tmps : Array Value) (w : World) (g : Nat) (v : Value)
  (hp : tmps.getD p undef = .pointer (some ⟨g, 0, none⟩)) (hl : (loadVar ty ⟨g, 0, none⟩).run Tryz.prog w = .ok v w) :
  (results fn tmps).run Tryz.prog w = .ok v w := by
 have hp' : tmps[p]?.getD undef = .pointer (some ⟨g, 0, none⟩) := by simpa using hp
 simp [results, h, hp', asAddr, hl]
theorem name_tmps {P : Program} {c : Code} {Q : Exit → Act → World → Prop} {a : Act} {w : World} (h : ∀ T, T = a.tmps → c.wp P Q { tmps := T, defers := a.defers } w) : c.wp P Q a w := h a.tmps rfl
theorem PairAt.grows (B : Nat) (es : List S.Ent) (pre : List EnV) (x : EnV) {V W : World} (h : PairAt B es pre x V) (hb : Below V.heap.size V W) : PairAt B es pre x W := by
 obtain ⟨e, h1, h2⟩ := h
 exact ⟨e, h1, h2.below hb⟩
set_option maxHeartbeats 16000000 in
set_option maxRecDepth 100000 in
theorem ranged_yes (B gs gt : Nat) (pg : Nat → List UInt8) (es : List S.Ent) (v : Value) (w : World) (hr : Rds B w gs pg) (hl : S.Leaf pg es) (ht : TrAt w gt gs) (hv : PrsAt w v es) :
  Calls Tryz.prog 22 #[.pointer (some ⟨gt, 0, none⟩), .slice none 0 0, .slice none 0 0, v] w fun e w' => e = .returned (.bool true) ∧ Below w.heap.size w w' := by
 obtain ⟨vo, vc, hvv, _⟩ := id hv
 have HR := hide hr
 have HL := hide hl
 have HT := hide ht
 have HV := hide hv
 obtain ⟨N, hN⟩ : ∃ N, N = es.length := ⟨_, rfl⟩
 rw [← hN] at hvv
 subst hvv
 have HN := hide hN
 have HNL := hide (show N ≤ 254 by rw [hN]; exact hl.ok.len)
 rename_i hvv2
 clear hr hl ht hv hN hvv2
 refine (callsIn_wide (n := 3)).1 ?_
 refine callsIn_of_wp_marks Tryz.func22 rfl trivial ?_ rfl
 refine wpIn_wide.2 ?_
 simp only [Tryz.ntmps22, List.size_toArray, List.length_cons, List.length_nil, Nat.reduceAdd, Nat.reduceSub, Array.replicate_succ, Array.replicate_zero, List.push_toArray, List.append_toArray, List.nil_append, List.cons_append]
 go_upto_region 1 with fail
 generalize hW0 : w.alloc _ = W0
 generalize hW1 : W0.alloc _ = W1
 generalize hW2 : W1.alloc _ = W2
 generalize hW3 : W2.alloc _ = W3
 have s0 : W0.heap.size = w.heap.size + 1 := by rw [← hW0]; simp
 have s1 : W1.heap.size = w.heap.size + 1 + 1 := by rw [← hW1]; simp [s0]
 have s2 : W2.heap.size = w.heap.size + 1 + 1 + 1 := by rw [← hW2]; simp [s1]
 have s3 : W3.heap.size = w.heap.size + 1 + 1 + 1 + 1 := by rw [← hW3]; simp [s2]
 have B0 : Below w.heap.size w W0 := by rw [← hW0]; exact (Below.refl _ _).alloc (Nat.le_refl _) _
 have B1 : Below W0.heap.size W0 W1 := by rw [← hW1]; exact (Below.refl _ _).alloc (Nat.le_refl _) _
 have B2 : Below W1.heap.size W1 W2 := by rw [← hW2]; exact (Below.refl _ _).alloc (Nat.le_refl _) _
 have B3 : Below W2.heap.size W2 W3 := by rw [← hW3]; exact (Below.refl _ _).alloc (Nat.le_refl _) _
 have r0 : W0.heap[w.heap.size]? = some (.cells #[.slice none 0 0] 32 (0, 0)) := by rw [← hW0]; exact heap_alloc_new _ _
 have r1 : W1.heap[w.heap.size + 1]? = some (.cells #[.slice none 0 0] 32 (0, 0)) := by rw [← hW1, ← s0]; exact heap_alloc_new _ _
 have r2 : W2.heap[w.heap.size + 1 + 1]? = some (.cells #[.slice vo N vc] 49 (0, 0)) := by rw [← hW2, ← s1]; exact heap_alloc_new _ _
 have r3 : W3.heap[w.heap.size + 1 + 1 + 1]? = some (.cells #[.bool false] 4 (0, 0)) := by rw [← hW3, ← s2]; exact heap_alloc_new _ _
 obtain ⟨f0, hf0⟩ : ∃ g, g = w.heap.size := ⟨_, rfl⟩
 obtain ⟨f1, hf1⟩ : ∃ g, g = w.heap.size + 1 := ⟨_, rfl⟩
 obtain ⟨f2, hf2⟩ : ∃ g, g = w.heap.size + 1 + 1 := ⟨_, rfl⟩
 obtain ⟨f3, hf3⟩ : ∃ g, g = w.heap.size + 1 + 1 + 1 := ⟨_, rfl⟩
 have BB := hide (show Below w.heap.size w W3 from ((B0.trans (B1.mono (by omega))).trans (B2.mono (by omega))).trans (B3.mono (by omega)))
 have F0 := hide (show W3.heap[f0]? = some (.cells #[.slice none 0 0] 32 (0, 0)) by rw [hf0]; exact (B3.block _ (by omega)).trans ((B2.block _ (by omega)).trans ((B1.block _ (by omega)).trans r0)))
 have F1 := hide (show W3.heap[f1]? = some (.cells #[.slice none 0 0] 32 (0, 0)) by rw [hf1]; exact (B3.block _ (by omega)).trans ((B2.block _ (by omega)).trans r1))
 have F2 := hide (show W3.heap[f2]? = some (.cells #[.slice vo N vc] 49 (0, 0)) by rw [hf2]; exact (B3.block _ (by omega)).trans r2)
 have F3 := hide (show W3.heap[f3]? = some (.cells #[.bool false] 4 (0, 0)) by rw [hf3]; exact r3)
 have FG := hide (show w.heap.size ≤ f3 ∧ f0 ≠ f3 ∧ f1 ≠ f3 ∧ f2 ≠ f3 by omega)
 rw [← hf3, ← hf2, ← hf1, ← hf0]
 clear hW0 hW1 hW2 hW3 s0 s1 s2 s3 B0 B1 B2 B3 r0 r1 r2 r3 hf0 hf1 hf2 hf3
 have c0 := cells1r F0.out
 have c1 := cells1r F1.out
 go_wp2_with fail
 refine (range_nil gt W3).mono ?_
 rintro e w2 ⟨g3, g4, g5, rfl, hs, l3, l4, l5⟩
 have RS := hide hs
 have LS := hide (And.intro l3 (And.intro l4 l5))
 clear hs l3 l4 l5 c0 c1
 have hnil := eql_fn43
 go_wp2_with fail
 generalize hW4 : w2.alloc _ = W4
 obtain ⟨gk, hgk⟩ : ∃ g, g = w2.heap.size := ⟨_, rfl⟩
 rw [← hgk]
 have B4 : Below w2.heap.size w2 W4 := by rw [← hW4]; exact (Below.refl _ _).alloc (Nat.le_refl _) _
 have K0 := hide (show W4.heap[gk]? = some (.cells #[.int .i64 ((0 : Nat) : Int)] 3 (0, 0)) by rw [hgk, ← hW4]; exact heap_alloc_new _ _)
 have B34 := hide (show Below W3.heap.size W3 W4 from RS.out.1.trans (B4.mono RS.out.1.size))
 have E0 := hide ((B34.out.block _ (block_lt_of_row F0.out)).trans F0.out)
 have E1 := hide ((B34.out.block _ (block_lt_of_row F1.out)).trans F1.out)
 have E2 := hide ((B34.out.block _ (block_lt_of_row F2.out)).trans F2.out)
 have E3 := hide ((B34.out.block _ (block_lt_of_row F3.out)).trans F3.out)
 have GK := hide (show f0 ≠ gk ∧ f1 ≠ gk ∧ f2 ≠ gk ∧ f3 ≠ gk ∧ g5 ≠ gk by
  have := block_lt_of_row F0.out; have := block_lt_of_row F1.out; have := block_lt_of_row F2.out; have := block_lt_of_row F3.out; have := block_lt_of_row RS.out.2.2.2; have := RS.out.1.size; omega)
 have BW := hide (show Below w.heap.size w W4 from BB.out.trans (B34.out.mono BB.out.size))
 have HR4 := hide (HR.out.below BW.out)
 have HT4 := hide (show TrAt W4 gt gs from (BW.out.block _ (block_lt_of_row HT.out)).trans HT.out)
 have HV4 := hide (HV.out.below BW.out)
 have HSEQ := hide (range_seq 1 B gs gt g4 g5 g3 pg es (fun k => k = gk) W4 HR4.out HL.out HT4.out ((B4.block _ (block_lt_of_row RS.out.2.2.1)).trans RS.out.2.2.1) ((B4.block _ (block_lt_of_row RS.out.2.2.2)).trans RS.out.2.2.2) ((B4.block _ (block_lt_of_row RS.out.2.1)).trans RS.out.2.1)
  (fun k hk => by rw [hk]; exact block_lt_of_row K0.out) GK.out.2.2.2.2)
 have GKW := hide (show w.heap.size ≤ gk by have := RS.out.1.size; have := BB.out.size; omega)
 clear hW4 hgk B4 F0 F1 F2 F3 RS LS BB B34 HR HT hnil
 refine name_tmps (fun T hT => ?_)
 have HTT := hide hT
 clear hT
 refine (wpIn_wide (n := 2)).1 (wpIn_rangeBox (n := 2) (w0 := W4) (gf := 51) (lb := #[.pointer (some ⟨g4, 0, none⟩), .pointer (some ⟨g5, 0, none⟩), .pointer (some ⟨g3, 0, none⟩)]) (by rw [HTT.out]; rfl) (enters_of Tryz.func51 (by kernel_rfl) rfl) HSEQ.out (Below.refl _ _) (fun _ => rfl) (fun k hk => by rw [hk]; exact block_lt_of_row K0.out)
  (fun pre W => W.heap[gk]? = some (.cells #[.int .i64 ((pre.length : Nat) : Int)] 3 (0, 0)) ∧ Chg (fun k => k = gk) W4 W) (fun _ _ _ => False)
  (fun s A B h hb => ⟨(hb.block _ (block_lt_of_row h.1)).trans h.1, h.2.trans (q := fun _ => False) (Chg.ofBelow' hb) (fun _ _ e => e.elim)⟩) (fun c s A B h hb => h) (fun s A l o o' h hl ho hc => ⟨cells_putObj h.1 ho hc, h.2.putObj hl⟩) (fun c s A l o o' h hl ho hc => h) (fun pre => PairAt.bare _ _ es pre) (fun pre s A B h hb => PairAt.grows _ es pre s h hb) ⟨K0.out, Chg.refl _ _⟩
  (fun x a' W => ∃ gx, W.heap[gx]? = some (.cells #[.slice x.ka x.kn x.kc, .slice x.va x.vn x.vc] 46 (0, 0)) ∧ a' = { tmps := (T.setIfInBounds 19 (.agg #[.slice x.ka x.kn x.kc, .slice x.va x.vn x.vc])).setIfInBounds 11 (.pointer (some ⟨gx, 0, none⟩)), defers := [] })
  (fun x s A l o o' h hl ho hc => by obtain ⟨gx, h1, h2⟩ := h; exact ⟨gx, cells_putObj h1 ho hc, h2⟩) ?assign ?body ?done ?stop)
 case assign =>
  rintro l pre x W K ⟨hI1, hI2⟩ hp hK
  obtain ⟨ka, kn, kc, va, vn, vc', px, nd⟩ := x
  have hT2 : ∀ (T : Array Value), ((#[19] : Array Tmp).zip (encPr ⟨ka, kn, kc, va, vn, vc', px, nd⟩)).foldl (fun t (p, v) => t.setIfInBounds p v) T = T.setIfInBounds 19 (.agg #[.slice ka kn kc, .slice va vn vc']) := fun T => by simp [encPr]
  rw [hT2]
  have hK2 := hK _ (W.alloc (.cells #[.slice ka kn kc, .slice va vn vc'] 46 (0, 0))) ((Below.refl _ W).alloc (Nat.le_refl _) _) ⟨W.heap.size, heap_alloc_new _ _, rfl⟩
  clear hK hT2 hp hI1 hI2
  have HK2 := hide hK2
  clear hK2
  have hT := HTT.out
  subst hT
  simp only [List.setIfInBounds_toArray, List.set_cons_zero, List.set_cons_succ] at HK2 ⊢
  gi_wp2
  exact HK2.out
 case body =>
  rintro l pre x a' W ⟨hI1, hI2⟩ ⟨en, hen, hnew⟩ ⟨gx, hgx, rfl⟩
  obtain ⟨ka, kn, kc, va, vn, vc', px, nd⟩ := x
  obtain ⟨k, hk⟩ : ∃ k, k = pre.length := ⟨_, rfl⟩
  rw [← hk] at hI1 hen
  have hlt : k < N := by rw [HN.out]; exact (List.getElem?_eq_some_iff.1 hen).1
  have eok := HL.out.ok.ent en (List.mem_of_getElem? hen)
  have his := hnew.is (by have := eok.key; omega) (by have := eok.val; omega)
  have BWW : Below w.heap.size w W := BW.out.trans (hI2.below w.heap.size BW.out.size (fun k hk e => by have := GKW.out; omega))
  obtain ⟨vo', vc3, hv1, hv2⟩ := HV.out.below BWW
  simp only [Value.slice.injEq] at hv1
  obtain ⟨rfl, -, rfl⟩ := hv1
  obtain ⟨b, off, ka2, kn2, kc2, va2, vn2, vc2, rfl, hb, e1, e2, s1, s2⟩ := hv2 k en hen
  obtain ⟨KS, hKS⟩ : ∃ s, s = (⟨en.key.toArray⟩ : ByteArray) := ⟨_, rfl⟩
  obtain ⟨VS, hVS⟩ : ∃ s, s = (⟨en.val.toArray⟩ : ByteArray) := ⟨_, rfl⟩
  obtain ⟨ES, hES⟩ : ∃ s, s = (⟨([] : List UInt8).toArray⟩ : ByteArray) := ⟨_, rfl⟩
  have k1 : ∀ m, (convert 32 9 (.slice ka kn kc)).run Tryz.prog (W.drewN m) = .ok (.string KS) (W.drewN m) := fun m => by rw [hKS]; exact conv_slice (show SliceAt (W.drewN m) _ _ from his.key)
  have k2 : ∀ m, (convert 32 9 (.slice va vn vc')).run Tryz.prog (W.drewN m) = .ok (.string VS) (W.drewN m) := fun m => by rw [hVS]; exact conv_slice (show SliceAt (W.drewN m) _ _ from his.val)
  have k3 : ∀ m, (convert 32 9 (.slice ka2 kn2 kc2)).run Tryz.prog (W.drewN m) = .ok (.string KS) (W.drewN m) := fun m => by rw [hKS]; exact conv_slice (show SliceAt (W.drewN m) _ _ from s1)
  have k4 : ∀ m, (convert 32 9 (.slice va2 vn2 vc2)).run Tryz.prog (W.drewN m) = .ok (.string VS) (W.drewN m) := fun m => by rw [hVS]; exact conv_slice (show SliceAt (W.drewN m) _ _ from s2)
  have k5 : ∀ m, (convert 32 9 (.slice none 0 0)).run Tryz.prog (W.drewN m) = .ok (.string ES) (W.drewN m) := fun m => by rw [hES]; exact conv_slice (Or.inl ⟨rfl, rfl⟩)
  have k12 : ∀ m p, (convert 32 9 (.slice ka kn kc)).run Tryz.prog ((W.drewN m).drewN p) = .ok (.string KS) ((W.drewN m).drewN p) := fun m p => by rw [hKS]; exact conv_slice (show SliceAt ((W.drewN m).drewN p) _ _ from his.key)
  have k22 : ∀ m p, (convert 32 9 (.slice va vn vc')).run Tryz.prog ((W.drewN m).drewN p) = .ok (.string VS) ((W.drewN m).drewN p) := fun m p => by rw [hVS]; exact conv_slice (show SliceAt ((W.drewN m).drewN p) _ _ from his.val)
  have k32 : ∀ m p, (convert 32 9 (.slice ka2 kn2 kc2)).run Tryz.prog ((W.drewN m).drewN p) = .ok (.string KS) ((W.drewN m).drewN p) := fun m p => by rw [hKS]; exact conv_slice (show SliceAt ((W.drewN m).drewN p) _ _ from s1)
  have k42 : ∀ m p, (convert 32 9 (.slice va2 vn2 vc2)).run Tryz.prog ((W.drewN m).drewN p) = .ok (.string VS) ((W.drewN m).drewN p) := fun m p => by rw [hVS]; exact conv_slice (show SliceAt ((W.drewN m).drewN p) _ _ from s2)
  have k52 : ∀ m p, (convert 32 9 (.slice none 0 0)).run Tryz.prog ((W.drewN m).drewN p) = .ok (.string ES) ((W.drewN m).drewN p) := fun m p => by rw [hES]; exact conv_slice (Or.inl ⟨rfl, rfl⟩)
  have less : Op.bytesLess KS.toList ES.toList = false := by
   rw [show ES.toList = [] by rw [hES]; first | kernel_rfl | simp [ByteArray.toList, ByteArray.toList.loop]]
   exact less_nil _
  have c10 := cells1r hI1
  have fz10 := frozen_of_row W gk 0 _ _ hI1
  have c7 := cells1r (hI2.row E2.out GK.out.2.2.1)
  have c5 := cells1r (hI2.row E0.out GK.out.1)
  have c6 := cells1r (hI2.row E1.out GK.out.2.1)
  obtain ⟨cp0, cp1⟩ := cells2 hgx
  have q0 : (0 : Int) ≤ (k : Int) := by omega
  have q1 : (k : Int) < (N : Int) := by omega
  have q2 : ¬ (N : Int) ≤ (k : Int) := by omega
  have q3 : ¬ (k : Int) ≥ (N : Int) := by omega
  have q4 : decide ((k : Int) ≥ (N : Int)) = false := decide_eq_false q3
  have q5 : decide ((N : Int) ≤ (k : Int)) = false := decide_eq_false q2
  have q6 : ¬ N ≤ k := by omega
  have qw : IntKind.i64.wrap ((k : Int) + 1) = (k : Int) + 1 := by rw [IntKind.wrap_i64]; have := HNL.out; omega
  have HK := hide hk
  have HI1 := hide hI1
  clear hKS hVS hES hlt eok his BWW hv2 hen hnew hb s1 s2 hk hgx
  have hT := HTT.out
  subst hT
  simp only [List.setIfInBounds_toArray, List.set_cons_zero, List.set_cons_succ]
  gi_wp2
  gi_loopw [20] (fun _ wr => wr = W) (fun _ _ => 0)
  case atStart => rfl
  case round =>
   subst hrel
   gi_wp2
   refine wpIn_quiet_round (fun h => by obtain ⟨_, _, h⟩ := h; exact h) (noDef_ne (by kernel_rfl)) (by kernel_rfl) (by kernel_rfl) ?_
   repeat (go_big_quiet_step (fail))
   refine wpQuiet_nil ?_
   intro _ hw'
   obtain ⟨nq, rfl⟩ := hw'
   gi_wp2
   refine wpIn_quiet_round (fun h => by obtain ⟨_, _, h⟩ := h; exact h) (noDef_ne (by kernel_rfl)) (by kernel_rfl) (by kernel_rfl) ?_
   repeat (go_big_quiet_step (fail))
   refine wpQuiet_nil ?_
   intro _ hw'
   obtain ⟨np, rfl⟩ := hw'
   gi_wp2
   have CF : Chg (fun k => k = gk) wr ((wr.drewN (nq + np)).setCell ⟨gk, 0, none⟩ (.int .i64 ((k : Int) + 1))) := ((Chg.refl (fun k => k = gk) wr).drewN (nq + np)).setCell gk 0 _ (fun _ => rfl)
   refine ⟨CF, ?_, hI2.trans CF (fun k hk e => e)⟩
   rw [List.length_append, ← HK.out]
   exact one_setCell (show (wr.drewN (nq + np)).heap[gk]? = _ from HI1.out)
 case done =>
  rintro D xs W hD hxs ⟨hI1, hI2⟩ hKD
  have hxs' : xs.length = N := hxs.trans HN.out.symm
  rw [hxs'] at hI1
  have c10 := cells1r hI1
  have c7 := cells1r (hI2.row E2.out GK.out.2.2.1)
  have R10 := hide hI1
  have R7 := hide (hI2.row E2.out GK.out.2.2.1)
  have F3 := hide (hI2.row E3.out GK.out.2.2.2.1)
  have KD := hide hKD
  have BWW := hide (BW.out.trans (hI2.below w.heap.size BW.out.size (fun k hk e => by have := GKW.out; omega)))
  have HD := hide (show w.heap.size ≤ D from Nat.le_trans BW.out.size hD)
  clear hI1 hI2 hKD hxs hxs' hD
  have hT := HTT.out
  subst hT
  go_wp2_with fail
  go_loopw [80] (fun _ wr => wr = W) (fun _ _ => 0)
  case atStart => rfl
  case round =>
  subst hrel
  go_wp2_with fail
  go_quiet (fail)
  go_wp2_with fail
  have K10 : Hid ((wr.drewN nq).heap[gk]? = some (.cells #[.int .i64 ((N : Nat) : Int)] 3 (0, 0))) := R10.out
  have K7 : Hid ((wr.drewN nq).heap[f2]? = some (.cells #[.slice vo N vc] 49 (0, 0))) := R7.out
  have G3' : Hid ((wr.drewN nq).heap[f3]? = some (.cells #[.bool false] 4 (0, 0))) := F3.out
  have KY : Hid ((wr.drewN nq).heap[D]? = some (.deferred (some []))) := KD.out
  have BY : Hid (Below w.heap.size w (wr.drewN nq)) := ⟨BWW.out.os, BWW.out.tape, BWW.out.output, BWW.out.size, BWW.out.block⟩
  clear c10 c7
  generalize wr.drewN nq = Y at K10 K7 G3' KY BY ⊢
  refine wp_region_noPanic ?_
  refine wp_region_held_drew (S := (fun Z => Chg (fun k => k = f3) Y Z)) follows ((Chg.refl _ _).drew) (fun hHeld => ?_)
  clear hHeld
  have hHeld : Chg (fun k => k = f3) Y Y.drew := (Chg.refl _ _).drew
  have G3 : Hid (Y.drew.heap[f3]? = some (.cells #[.bool false] 4 (0, 0))) := G3'.out
  have KZ : Hid (Y.drew.heap[D]? = some (.deferred (some []))) := KY.out
  generalize Y.drew = Z0 at hHeld G3 KZ ⊢
  refine tk 0 ?_ rfl (Or.inl ⟨by rfl, ?_⟩) ?_
  rotate_left
  ·intro w hSw
   have e10 := cells1r (hSw.row K10.out (fun e => GK.out.2.2.2.1 e.symm))
   have e7 := cells1r (hSw.row K7.out FG.out.2.2.2)
   clear hSw
   go_simp
   all_goals with_reducible rfl
  simp only [Act.put, uB, uC, uD]
  refine tk 1 ?_ rfl (Or.inl ⟨by rfl, ?_⟩) ?_
  rotate_left
  ·intro w hSw
   have e10 := cells1r (hSw.row K10.out (fun e => GK.out.2.2.2.1 e.symm))
   have e7 := cells1r (hSw.row K7.out FG.out.2.2.2)
   clear hSw
   go_simp
   all_goals with_reducible rfl
  simp only [Act.put, uB, uC, uD]
  refine tq 2 ?_
  simp only [Act.put, uB, uC, uD]
  refine tq 3 ?_
  simp only [Act.put, uB, uC, uD]
  refine tq 4 ?_
  simp only [Act.put, uB, uC, uD]
  refine tk 5 undef rfl (Or.inr ⟨by rfl, rfl⟩) ?_
  simp only [Act.put, uB, uC, uD]
  refine tk 6 undef rfl (Or.inr ⟨by rfl, rfl⟩) ?_
  simp only [Act.put, uB, uC, uD]
  refine tk 7 undef rfl (Or.inr ⟨by rfl, rfl⟩) ?_
  simp only [Act.put, uB, uC, uD]
  refine tk 8 undef rfl (Or.inr ⟨by rfl, rfl⟩) ?_
  simp only [Act.put, uB, uC, uD]
  refine tk 9 undef rfl (Or.inr ⟨by rfl, rfl⟩) ?_
  simp only [Act.put, uB, uC, uD]
  refine tk 10 undef rfl (Or.inr ⟨by rfl, rfl⟩) ?_
  simp only [Act.put, uB, uC, uD]
  refine tk 11 undef rfl (Or.inr ⟨by rfl, rfl⟩) ?_
  simp only [Act.put, uB, uC, uD]
  refine tk 12 undef rfl (Or.inr ⟨by rfl, rfl⟩) ?_
  simp only [Act.put, uB, uC, uD]
  refine tk 13 undef rfl (Or.inr ⟨by rfl, rfl⟩) ?_
  simp only [Act.put, uB, uC, uD]
  refine tk 14 undef rfl (Or.inr ⟨by rfl, rfl⟩) ?_
  simp only [Act.put, uB, uC, uD]
  refine tk 15 undef rfl (Or.inr ⟨by rfl, rfl⟩) ?_
  simp only [Act.put, uB, uC, uD]
  refine tk 16 undef rfl (Or.inr ⟨by rfl, rfl⟩) ?_
  simp only [Act.put, uB, uC, uD]
  refine tk 17 undef rfl (Or.inr ⟨by rfl, rfl⟩) ?_
  simp only [Act.put, uB, uC, uD]
  refine tk 18 undef rfl (Or.inr ⟨by rfl, rfl⟩) ?_
  simp only [Act.put, uB, uC, uD]
  refine tq 19 ?_
  simp only [Act.put, uB, uC, uD]
  refine rdy [20] ?_
  refine step_store (o := ⟨_, _, _, _, _, _⟩) rfl rfl 4 (.tmp 8) (.tmp 116) rfl _ (store4 G3.out true) AllReadyH.nil ⟨hHeld.setCell f3 0 _ (fun _ => rfl), fun hHeld' => ?_⟩
  simp only [Act.put]
  refine wpAnyH_done (by kernel_rfl) ?_ _
  refine NoPanic.normal ?_
  have ND : D ≠ f3 := fun e => by have h1 := KZ.out; rw [e, G3.out] at h1; cases h1
  have r3 : (Z0.setCell ⟨f3, 0, none⟩ (.bool true)).heap[f3]? = some (.cells #[.bool true] 4 (0, 0)) := one_setCell G3.out
  have rD : (Z0.setCell ⟨f3, 0, none⟩ (.bool true)).heap[D]? = some (.deferred (some [])) := (heap_setCell_other _ _ _ _ ND).trans KZ.out
  have bZ : Below w.heap.size w (Z0.setCell ⟨f3, 0, none⟩ (.bool true)) := BY.out.trans (hHeld'.below w.heap.size BY.out.size (fun k hk e => by have := FG.out.1; omega))
  generalize Z0.setCell ⟨f3, 0, none⟩ (.bool true) = Z1 at r3 rD bZ ⊢
  have R3 := hide r3
  have RD := hide rD
  have BZ := hide bZ
  clear r3 rD bZ hHeld hHeld' G3 KZ
  go_wp2_with fail
  refine ⟨by simp, .inl ⟨_, _, rfl, run_takeDeferred RD.out, ?_⟩⟩
  exact ⟨.bool true, results_c4 Tryz.results22 _ _ f3 _ rfl (load4 (cells_putObj R3.out RD.out rfl)), rfl, below_putObj BZ.out HD.out⟩
 case stop =>
  rintro D c pre W _ _ h _
  exact h.elim
end Go.Proofs.YteealihknndclaaGreatDoor
namespace Go.Proofs.YteealihknndclaaGreatDoor
open Go.RowKit
def S.nsk : List UInt8 := [110, 111, 32, 115, 117, 99, 104, 32, 107, 101, 121]
theorem lit_new (w : World) (l : List UInt8) (C : Array Value) (n : Nat) (hC : C = S.v8 l) (hn : n = l.length) (hl : l.length ≤ 1000) (r : Nat × Nat) : Below w.heap.size w (w.alloc (.cells C 5 r)) ∧ SliceAt (w.alloc (.cells C 5 r)) (.slice (some ⟨w.heap.size, 0, none⟩) n n) l := by
 subst hC hn
 refine ⟨(Below.refl _ _).alloc (Nat.le_refl _) _, Or.inr (Or.inr ⟨w.heap.size, 0, _, rfl, Nat.le_refl _, by omega, by simp, fun j hj => ?_⟩)⟩
 rw [Nat.zero_add, cell_of_row _ w.heap.size j (S.v8 l) 5 r (heap_alloc_new _ _)]
 simp [S.v8, hj]
theorem convK32 (w : World) (C : Array Value) (n c : Nat) : (convert 32 32 (.slice (some ⟨w.heap.size, 0, none⟩) n c)).run Tryz.prog (w.alloc (.cells C 5)) = .ok (.slice (some ⟨w.heap.size, 0, none⟩) n c) (w.alloc (.cells C 5 (C.size, C.size + 1))) := Lib.run_convert_bytes_const w 32 5 C n c Tryz.underlying32 Tryz.underlying5
set_option maxHeartbeats 16000000 in
set_option maxRecDepth 100000 in
theorem is_yes (B gs gt : Nat) (pg : Nat → List UInt8) (es : List S.Ent) (v : Value) (w : World) (hr : Rds B w gs pg) (hl : S.Leaf pg es) (ht : TrAt w gt gs) (hv : PrsAt w v es) :
  Calls Tryz.prog 47 #[.pointer (some ⟨gt, 0, none⟩), v] w fun e w' => e = .returned (.bool true) ∧ Below w.heap.size w w' := by
 obtain ⟨vo, vc, hvv, _⟩ := id hv
 have HR := hide hr
 have HL := hide hl
 have HT := hide ht
 have HV := hide hv
 obtain ⟨N, hN⟩ : ∃ N, N = es.length := ⟨_, rfl⟩
 rw [← hN] at hvv
 subst hvv
 have HN := hide hN
 have HNL := hide (show N ≤ 254 by rw [hN]; exact hl.ok.len)
 rename_i hvv2
 clear hr hl ht hv hN hvv2
 go_enter Tryz.func47, Tryz.ntmps47
 go_wp2_with fail
 refine (len_0 B gt gs pg es w HR.out HT.out HL.out).mono ?_
 rintro e w1 ⟨rfl, hb⟩
 rw [← HN.out]
 have B1 := hide hb
 clear hb
 go_wp2_with fail
 refine (check_0 B gt gs pg es w1 (HR.out.below B1.out) ((B1.out.block _ (block_lt_of_row HT.out)).trans HT.out) HL.out).mono ?_
 rintro e w2 ⟨rfl, hb⟩
 have B2 := hide (B1.out.trans (hb.mono B1.out.size))
 clear hb B1
 go_wp2_with fail
 refine (ranged_yes B gs gt pg es _ w2 (HR.out.below B2.out) HL.out ((B2.out.block _ (block_lt_of_row HT.out)).trans HT.out) (HV.out.below B2.out)).mono ?_
 rintro e w3 ⟨rfl, hb⟩
 have B3 := hide (B2.out.trans (hb.mono B2.out.size))
 clear hb B2
 go_wp2_with fail
 go_loopw [5, 6] (fun t i wr => ∃ k : Nat, k ≤ N ∧ i = .int .i64 (k : Int) ∧ t = .bool ((es.take k).any (fun e => e.key == S.nsk)) ∧ Below w.heap.size w wr) (fun _ i _ => N - (intOf i).toNat)
 case atStart => exact ⟨0, Nat.zero_le _, rfl, by simp, B3.out⟩
 case round =>
  obtain ⟨k, hk, rfl, rfl, hbw⟩ := hrel
  by_cases hlt : k < N
  ·obtain ⟨en, hen⟩ : ∃ en, es[k]? = some en := ⟨_, List.getElem?_eq_getElem (by rw [← HN.out]; exact hlt)⟩
   obtain ⟨vo', vc3, hv1, hv2⟩ := HV.out.below hbw
   simp only [Value.slice.injEq] at hv1
   obtain ⟨rfl, -, rfl⟩ := hv1
   obtain ⟨b, off, ka, kn, kc, va, vn, vc2, rfl, hbl, e1, e2, s1, s2⟩ := hv2 k en hen
   have GT := hide (get_0 B gt gs pg es (.slice ka kn kc) en.key wr (HR.out.below hbw) ((hbw.block _ (block_lt_of_row HT.out)).trans HT.out) HL.out s1)
   obtain ⟨T, hT⟩ : ∃ T, T = (es.take k).any (fun e => e.key == S.nsk) := ⟨_, rfl⟩
   rw [← hT]
   have HTK := hide (show ((es.take (k + 1)).any (fun e => e.key == S.nsk)) = (T || (en.key == S.nsk)) by
    rw [List.take_add_one, hen, List.any_append, ← hT]; simp)
   have q0 : (0 : Int) ≤ (k : Int) := by omega
   have q1 : (k : Int) < (N : Int) := by omega
   have qw : IntKind.i64.wrap ((k : Int) + 1) = (k : Int) + 1 := by rw [IntKind.wrap_i64]; have := HNL.out; omega
   have HEN := hide hen
   have S1 := hide s1
   have S2 := hide s2
   have HBL := hide hbl
   have HBW := hide hbw
   have HLT := hide hlt
   clear hv2 hT hen s1 s2 hbl hbw hlt hk
   go_wp2_with fail
   refine GT.out.mono ?_
   rintro e w5 ⟨gv, ok, rfl, hgot, hb5⟩
   obtain ⟨rfl, hgv⟩ := hgot.yes en (List.mem_of_getElem? HEN.out) rfl
   have eok := HL.out.ok.ent en (List.mem_of_getElem? HEN.out)
   have SG : SliceAt w5 gv en.val := by
    rcases hgv with ⟨rfl, h⟩ | ⟨q, rfl, _, hq⟩
    ·rw [h]; exact Or.inl ⟨rfl, rfl⟩
    ·exact slice_row hq rfl (by have := eok.val; omega)
   obtain ⟨go, gn, gc, rfl, z1, z2⟩ := SG.form
   clear z1 z2
   have S15 := S1.out.below hb5 (Nat.le_refl _)
   have S25 := S2.out.below hb5 (Nat.le_refl _)
   have d1 : w5.cell? ⟨b, off + k * 2, none⟩ = some (.slice ka kn kc) := (hb5.cell (p := ⟨b, off + k * 2, none⟩) HBL.out).trans e1
   have d2 : w5.cell? ⟨b, off + k * 2 + 1, none⟩ = some (.slice va vn vc2) := (hb5.cell (p := ⟨b, off + k * 2 + 1, none⟩) HBL.out).trans e2
   obtain ⟨KS, hKS⟩ : ∃ s, s = (⟨en.key.toArray⟩ : ByteArray) := ⟨_, rfl⟩
   obtain ⟨VS, hVS⟩ : ∃ s, s = (⟨en.val.toArray⟩ : ByteArray) := ⟨_, rfl⟩
   have k1 : ∀ m, (convert 32 9 (.slice go gn gc)).run Tryz.prog (w5.drewN m) = .ok (.string VS) (w5.drewN m) := fun m => by rw [hVS]; exact conv_slice (show SliceAt (w5.drewN m) _ _ from SG)
   have k2 : ∀ m, (convert 32 9 (.slice va vn vc2)).run Tryz.prog (w5.drewN m) = .ok (.string VS) (w5.drewN m) := fun m => by rw [hVS]; exact conv_slice (show SliceAt (w5.drewN m) _ _ from S25)
   have k3 : ∀ m, (convert 32 9 (.slice ka kn kc)).run Tryz.prog (w5.drewN m) = .ok (.string KS) (w5.drewN m) := fun m => by rw [hKS]; exact conv_slice (show SliceAt (w5.drewN m) _ _ from S15)
   have HKS := hide hKS
   have B5 := hide (HBW.out.trans (hb5.mono HBW.out.size))
   clear hgot hgv eok SG S15 S25 hKS hVS hb5 e1 e2 GT
   go_wp2_with fail
   go_quiet (fail)
   cases T with
   | true =>
    go_wp2_with fail
    go_roundw
    case rel => exact ⟨k + 1, HLT.out, rfl, by rw [HTK.out]; rfl, ⟨B5.out.os, B5.out.tape, B5.out.output, B5.out.size, B5.out.block⟩⟩
    case measure => have := HLT.out; simp only [intOf]; omega
   | false =>
    go_wp2_with fail
    refine ⟨⟨k + 1, HLT.out, rfl, ?_, ⟨B5.out.os, B5.out.tape, B5.out.output, B5.out.size, B5.out.block⟩⟩, by have := HLT.out; simp only [intOf]; omega⟩
    rw [HTK.out, HKS.out, Bool.false_or]
    have e : (⟨en.key.toArray⟩ : ByteArray).toList = en.key := by simp [ByteArray.toList_eq]
    rw [e]
    rfl
  ·obtain rfl : k = N := by omega
   rw [List.take_of_length_le (by rw [← HN.out]; exact Nat.le_refl _)]
   obtain ⟨T, hT⟩ : ∃ T, T = es.any (fun e => e.key == S.nsk) := ⟨_, rfl⟩
   rw [← hT]
   have HTT := hide hT
   have HBW := hide hbw
   clear hT hbw
   have cK := convK32 wr
   go_wp2_with fail
   obtain ⟨bL, sL⟩ := lit_new wr S.nsk #[.int .u8 110, .int .u8 111, .int .u8 32, .int .u8 115, .int .u8 117, .int .u8 99, .int .u8 104, .int .u8 32, .int .u8 107, .int .u8 101, .int .u8 121] 11 rfl rfl (by decide) (11, 12)
   have BL := HBW.out.trans (bL.mono HBW.out.size)
   refine (get_0 B gt gs pg es _ S.nsk _ (HR.out.below BL) ((BL.block _ (block_lt_of_row HT.out)).trans HT.out) HL.out sL).mono ?_
   rintro e w5 ⟨gv, ok, rfl, hgot, hb5⟩
   have hok : ok = T := by
    rw [HTT.out]
    by_cases hm : S.nsk ∈ es.map (·.key)
    ·obtain ⟨x, hx, he⟩ := List.mem_map.1 hm
     rw [(hgot.yes x hx he).1, eq_comm, List.any_eq_true]
     exact ⟨x, hx, by simp [he]⟩
    ·rw [(hgot.no hm).1, eq_comm, List.any_eq_false]
     intro x hx he
     exact hm (List.mem_map.2 ⟨x, hx, by simpa using he⟩)
   subst hok
   have B5 := hide (BL.trans (hb5.mono BL.size))
   clear hgot hb5 bL sL BL cK
   go_wp2_with fail
   go_ret
   exact ⟨rfl, B5.out⟩
set_option maxHeartbeats 8000000 in
set_option maxRecDepth 10000 in
theorem begun_any (w : World) (hK : KAt w) (h1 : 1 < w.heap.size) :
  Calls Tryz.prog 9 #[] w fun e w' => ∃ o gt gs, e = .returned (.tuple #[o.ptr, .pointer (some ⟨gt, 0, none⟩), .bool true]) ∧ BtO w w' o gt gs 2 [] ∧ w.heap.size ≤ gt ∧ w.heap.size ≤ gs := by
 have HK := hide hK
 have HP : Hid (1 < w.heap.size) := h1
 clear hK h1
 go_enter Tryz.func9, Tryz.ntmps9
 go_wp2_with fail
 refine (new_any 8192 w (by omega) (by omega)).mono ?_
 rintro e w1 ⟨o, rfl, hd, ho, b1⟩
 have D1 : Hid (Dsk w1 o (S.Dk.new 8192)) := ⟨hd, HK.out.below b1 HK.out.pos, fun e => by have := ho 1 e; have := HP.out; omega⟩
 have O1 := hide ho
 have B1 := hide b1
 have hptr : o.ptr = .pointer (some ⟨o.g, 0, none⟩) := rfl
 rw [hptr]
 clear hd ho b1
 go_wp2_with fail
 rw [← hptr]
 refine (format_new w w1 o 8192 (by omega) D1.out O1.out B1.out HP.out).mono ?_
 rintro e w2 ⟨rfl, o2, d2, pg, hg2, hb2⟩
 have P2 := hide hb2
 have hp2' : o2.ptr = o.ptr := by unfold Ow.ptr; rw [hg2]
 have HG2 := hide hg2
 have HP2 := hide hp2'
 clear hb2 hp2' hg2 hptr
 rw [← HP2.out]
 go_wp2_with fail
 refine (open_0 w w2 o2 d2 0 2 pg [] P2.out).mono ?_
 rintro e w3 ⟨gt, gs, rfl, ht, hs, hgt, hgs, hb⟩
 have hpt : o2.ptr = .pointer (some ⟨o2.g, 0, none⟩) := rfl
 have RES : Hid (BtO w w3 o2 gt gs 2 []) := ⟨d2, 0, 2, pg, P2.out.then hb, ht, hs, fun e => by have := P2.out.pgs.dk.dk.lt gt e; omega, fun e => by have := P2.out.pgs.dk.dk.lt gs e; omega, Nat.le_refl _⟩
 have BT := hide (show w.heap.size ≤ gt ∧ w.heap.size ≤ gs from ⟨Nat.le_trans P2.out.pgs.below.size hgt, Nat.le_trans P2.out.pgs.below.size hgs⟩)
 clear ht hs hgt hgs hb
 go_wp2_with fail
 exact bodyPost_ret (v := .tuple #[o2.ptr, .pointer (some ⟨gt, 0, none⟩), .bool true]) (by simp [results, Tryz.results9]; rfl) rfl ⟨o2, gt, gs, rfl, RES.out, BT.out⟩
theorem str_bytes (W : World) (l : List UInt8) (hl : l.length ≤ 1000000) : ∃ c W', (convert 9 32 (.string ⟨l.toArray⟩)).run Tryz.prog W = .ok (.slice (some ⟨W.heap.size, 0, none⟩) l.length c) W' ∧ SliceAt W' (.slice (some ⟨W.heap.size, 0, none⟩) l.length c) l ∧ Below W.heap.size W W' := by
 have hsz : (⟨l.toArray⟩ : ByteArray).size = l.length := by simp [ByteArray.size]
 refine ⟨grownCap W (⟨l.toArray⟩ : ByteArray).size 0 5, Lib.bytesWorld W 5 ⟨l.toArray⟩, ?_, ?_, ?_⟩
 ·have := Lib.run_convert_string_bytes (P := Tryz.prog) W 9 32 5 ⟨l.toArray⟩ Tryz.underlying9 Tryz.underlying32 Tryz.underlying5
  rw [this, hsz]
 ·refine Or.inr (Or.inr ⟨W.heap.size, 0, _, rfl, ?_, by omega, by rw [Lib.bytesWorld_size]; omega, fun j hj => ?_⟩)
  ·rw [hsz]; exact grownCap_ge _ _ _ _
  ·rw [Nat.zero_add, Lib.bytesWorld_cell W 5 ⟨l.toArray⟩ j (by rw [hsz]; exact hj)]
   first | done | rfl | simp [hj]
 ·exact ⟨rfl, rfl, rfl, by rw [Lib.bytesWorld_size]; omega, fun k hk => Lib.bytesWorld_at_old W 5 _ k hk⟩
theorem slice_past {p : Nat → Prop} {w W : World} {v : Value} {bs : List UInt8} (h : SliceAt w v bs) (hc : Chg p w W) (hp : ∀ a n c, v = .slice (some a) n c → ¬ p a.block) : SliceAt W v bs := by
 rcases h with h | h | ⟨b, off, cap, rfl, h1, h2, h3, h4⟩
 ·exact Or.inl h
 ·exact Or.inr (Or.inl h)
 ·exact Or.inr (Or.inr ⟨b, off, cap, rfl, h1, h2, Nat.lt_of_lt_of_le h3 hc.size, fun j hj => (World.cell?_of_block (hc.block b h3 (hp _ _ _ rfl))).trans (h4 j hj)⟩)
theorem size34' : (Tryz.prog.info? 34).map (·.size) = some 3 := by kernel_rfl
theorem store34 {w : World} {g : Nat} {c0 : Array Value} (a : w.heap[g]? = some (.cells c0 34 (0, 0))) (h0 : c0.size = 3) (x : ChV) :
  ∃ w', (Instr.storeAt 34 (.pointer (some ⟨g, 0, none⟩)) (.agg (encCh x).toArray)).run Tryz.prog w = .ok () w' ∧ w'.heap[g]? = some (.cells (encCh x).toArray 34 (0, 0)) ∧ Chg (fun k => k = g) w w' := by
 have h1 : (encCh x).toArray.all (·.oneCell') = true := all_oneCell_toArray (fun v hv => flatCh_one [x] v (by simpa using hv))
 have hr := run_storeVar_row (P := Tryz.prog) w g 34 34 _ (encCh x).toArray a (by rw [size34', List.size_toArray, encCh_len]) (by exact h0) h1
 refine ⟨w.setRow g (encCh x).toArray, ?_, setRow_heap w g _ _ _ _ a, Chg.setRow (p := fun k => k = g) g _ rfl⟩
 simp only [Instr.storeAt, Instr.sureAddr, Sem.run_bind, Sem.run_pure, Result.andThen_ok, hr]
theorem var34 {w : World} {g : Nat} {x : ChV} (h : w.heap[g]? = some (.cells (encCh x).toArray 34 (0, 0))) : (loadVar 34 ⟨g, 0, none⟩).run Tryz.prog w = .ok (.agg (encCh x).toArray) w :=
 run_loadVar_row w g 34 34 _ (0, 0) _ h Tryz.underlying34 rfl (by rw [size34', List.size_toArray, encCh_len])
set_option maxHeartbeats 8000000 in
set_option maxRecDepth 10000 in
theorem chg13_any (a b : List UInt8) (ha : a.length ≤ 1000000) (hb : b.length ≤ 1000000) (A B : ByteArray) (hA : A = ⟨a.toArray⟩) (hB : B = ⟨b.toArray⟩) (w : World) :
  Calls Tryz.prog 13 #[.string A, .string B] w fun e w' => ∃ x : ChV, e = .returned (.agg (encCh x).toArray) ∧ ChIs w' x ⟨a, b, false⟩ ∧ x.kn = a.length ∧ x.vn = b.length ∧ Below w.heap.size w w' := by
 go_enter Tryz.func13, Tryz.ntmps13
 go_upto_region 1 with fail
 generalize hW0 : w.alloc _ = W0
 have B0 : Below w.heap.size w W0 := by rw [← hW0]; exact (Below.refl _ _).alloc (Nat.le_refl _) _
 have R0 : W0.heap[w.heap.size]? = some (.cells #[.slice none 0 0, .slice none 0 0, .bool false] 34 (0, 0)) := by rw [← hW0]; exact heap_alloc_new _ _
 obtain ⟨c1, W1, cv1, s1, b1⟩ := str_bytes W0 a ha
 obtain ⟨c2, W2, cv2, s2, b2⟩ := str_bytes W1 b hb
 rw [← hA] at cv1
 rw [← hB] at cv2
 have R2 : W2.heap[w.heap.size]? = some (.cells #[.slice none 0 0, .slice none 0 0, .bool false] 34 (0, 0)) := (b2.block _ (Nat.lt_of_lt_of_le (block_lt_of_row R0) b1.size)).trans ((b1.block _ (block_lt_of_row R0)).trans R0)
 obtain ⟨W3, hst, r3, k3⟩ := store34 R2 rfl ⟨some ⟨W0.heap.size, 0, none⟩, a.length, c1, some ⟨W1.heap.size, 0, none⟩, b.length, c2, false⟩
 have hst2 : (Instr.storeAt 34 (.pointer (some ⟨w.heap.size, 0, none⟩)) (.agg #[.slice (some ⟨W0.heap.size, 0, none⟩) a.length c1, .slice (some ⟨W1.heap.size, 0, none⟩) b.length c2, .bool false])).run Tryz.prog W2 = .ok () W3 := hst
 have n1 : w.heap.size < W0.heap.size := block_lt_of_row R0
 have RES : Hid (ChIs W3 ⟨some ⟨W0.heap.size, 0, none⟩, a.length, c1, some ⟨W1.heap.size, 0, none⟩, b.length, c2, false⟩ ⟨a, b, false⟩) :=
  ⟨slice_past (s1.below b2 (Nat.le_refl _)) k3 (fun a n c e hk => by simp only [Value.slice.injEq, Option.some.injEq] at e; rw [← e.1] at hk; have hk' : W0.heap.size = w.heap.size := hk; omega), slice_past s2 k3 (fun a n c e hk => by simp only [Value.slice.injEq, Option.some.injEq] at e; rw [← e.1] at hk; have hk' : W1.heap.size = w.heap.size := hk; have := b1.size; omega), rfl⟩
 have B3 := hide (show Below w.heap.size w W3 from ((B0.trans (b1.mono B0.size)).trans (b2.mono (Nat.le_trans B0.size b1.size))).trans (k3.base (Nat.le_trans B0.size (Nat.le_trans b1.size b2.size)) (Nat.le_refl _)))
 have R3 := hide r3
 clear hW0 B0 R0 s1 b1 s2 b2 R2 hst r3 k3 n1 hA hB
 go_wp2_with (with_reducible refine at_op ⟨none, .store 34 (.tmp 4) (.tmp 9), 0, "law.go:106", #[{ on := 4, ground := Ground.data }, { on := 0, ground := Ground.phase }, { on := 1, ground := Ground.phase }, { on := 2, ground := Ground.phase }, { on := 3, ground := Ground.phase }, { on := 4, ground := Ground.phase }], none⟩ ?_; refine wpList_store_as rfl 34 (.tmp 4) (.tmp 9) rfl (.pointer (some ⟨w.heap.size, 0, none⟩)) (.agg #[.slice (some ⟨W0.heap.size, 0, none⟩) a.length c1, .slice (some ⟨W1.heap.size, 0, none⟩) b.length c2, .bool false]) rfl rfl W3 hst2 ?_)
 exact bodyPost_ret (v := .agg (encCh ⟨some ⟨W0.heap.size, 0, none⟩, a.length, c1, some ⟨W1.heap.size, 0, none⟩, b.length, c2, false⟩).toArray) (results_c4 Tryz.results13 _ _ w.heap.size _ rfl (var34 R3.out)) rfl ⟨_, rfl, RES.out, rfl, rfl, B3.out⟩
theorem chc (x : ChV) : (Value.agg (encCh x).toArray).cells = (encCh x).toArray := rfl
theorem bs36one (W : World) (x : ChV) : (Instr.buildSlice 36 1 #[(0, .agg (encCh x).toArray)]).run Tryz.prog W = .ok (.slice (some ⟨W.heap.size, 0, none⟩) 1 1) (W.alloc (.cells (encCh x).toArray 34)) := by
 obtain ⟨i, hi, hz, hs, _⟩ := info_parts info34
 refine run_buildSlice W 36 34 1 _ _ i _ Tryz.underlying36 hi hz (by rw [hs]; omega) (by rw [hs]; omega) ?_
 have h := Great.fill_whole (s := 3) (by omega) [Value.agg (encCh x).toArray] ((Array.range (1 * i.size)).map ((Value.agg #[.slice none 0 0, .slice none 0 0, .bool false]).cells[· % (Value.agg #[.slice none 0 0, .slice none 0 0, .bool false]).cells.size]!)) (fun y hy => by
  simp only [List.mem_cons, List.not_mem_nil, or_false] at hy
  subst hy; rfl) (by simp [hs])
 rw [hs] at h ⊢
 refine h.trans ?_
 simp [chc]
theorem known_es : S.mrg [] (S.lasts [⟨[98], [49], false⟩, ⟨[97], [50], false⟩]) = [⟨[97], [50], 0⟩, ⟨[98], [49], 0⟩] := by kernel_rfl
theorem prs_two (w : World) (a b c d : UInt8) (A B C D : Int) (hA : A = a.toNat) (hB : B = b.toNat) (hC : C = c.toNat) (hD : D = d.toNat) :
  Below w.heap.size w (((((w.alloc (.cells #[.int .u8 A] 5 (1, 2))).alloc (.cells #[.int .u8 B] 5 (1, 2))).alloc (.cells #[.int .u8 C] 5 (1, 2))).alloc (.cells #[.int .u8 D] 5 (1, 2))).alloc (.cells #[.slice (some ⟨w.heap.size, 0, none⟩) 1 1, .slice (some ⟨w.heap.size + 1, 0, none⟩) 1 1, .slice (some ⟨w.heap.size + 1 + 1, 0, none⟩) 1 1, .slice (some ⟨w.heap.size + 1 + 1 + 1, 0, none⟩) 1 1] 46)) ∧
  PrsAt (((((w.alloc (.cells #[.int .u8 A] 5 (1, 2))).alloc (.cells #[.int .u8 B] 5 (1, 2))).alloc (.cells #[.int .u8 C] 5 (1, 2))).alloc (.cells #[.int .u8 D] 5 (1, 2))).alloc (.cells #[.slice (some ⟨w.heap.size, 0, none⟩) 1 1, .slice (some ⟨w.heap.size + 1, 0, none⟩) 1 1, .slice (some ⟨w.heap.size + 1 + 1, 0, none⟩) 1 1, .slice (some ⟨w.heap.size + 1 + 1 + 1, 0, none⟩) 1 1] 46)) (.slice (some ⟨w.heap.size + 1 + 1 + 1 + 1, 0, none⟩) 2 2) [⟨[a], [b], 0⟩, ⟨[c], [d], 0⟩] := by
 subst hA hB hC hD
 obtain ⟨b1, s1⟩ := lit_new w [a] #[.int .u8 a.toNat] 1 rfl rfl (by simp) (1, 2)
 generalize hW1 : w.alloc (.cells #[.int .u8 (a.toNat : Int)] 5 (1, 2)) = W1 at b1 s1 ⊢
 have z1 : W1.heap.size = w.heap.size + 1 := by rw [← hW1]; simp
 obtain ⟨b2, s2⟩ := lit_new W1 [b] #[.int .u8 b.toNat] 1 rfl rfl (by simp) (1, 2)
 generalize hW2 : W1.alloc (.cells #[.int .u8 (b.toNat : Int)] 5 (1, 2)) = W2 at b2 s2 ⊢
 have z2 : W2.heap.size = w.heap.size + 1 + 1 := by rw [← hW2]; simp [z1]
 obtain ⟨b3, s3⟩ := lit_new W2 [c] #[.int .u8 c.toNat] 1 rfl rfl (by simp) (1, 2)
 generalize hW3 : W2.alloc (.cells #[.int .u8 (c.toNat : Int)] 5 (1, 2)) = W3 at b3 s3 ⊢
 have z3 : W3.heap.size = w.heap.size + 1 + 1 + 1 := by rw [← hW3]; simp [z2]
 obtain ⟨b4, s4⟩ := lit_new W3 [d] #[.int .u8 d.toNat] 1 rfl rfl (by simp) (1, 2)
 generalize hW4 : W3.alloc (.cells #[.int .u8 (d.toNat : Int)] 5 (1, 2)) = W4 at b4 s4 ⊢
 have z4 : W4.heap.size = w.heap.size + 1 + 1 + 1 + 1 := by rw [← hW4]; simp [z3]
 rw [z1] at s2
 rw [z2] at s3
 rw [z3] at s4
 have b5 : Below W4.heap.size W4 (W4.alloc (.cells #[.slice (some ⟨w.heap.size, 0, none⟩) 1 1, .slice (some ⟨w.heap.size + 1, 0, none⟩) 1 1, .slice (some ⟨w.heap.size + 1 + 1, 0, none⟩) 1 1, .slice (some ⟨w.heap.size + 1 + 1 + 1, 0, none⟩) 1 1] 46)) := (Below.refl _ _).alloc (Nat.le_refl _) _
 have r5 : (W4.alloc (.cells #[.slice (some ⟨w.heap.size, 0, none⟩) 1 1, .slice (some ⟨w.heap.size + 1, 0, none⟩) 1 1, .slice (some ⟨w.heap.size + 1 + 1, 0, none⟩) 1 1, .slice (some ⟨w.heap.size + 1 + 1 + 1, 0, none⟩) 1 1] 46)).heap[w.heap.size + 1 + 1 + 1 + 1]? = some (.cells #[.slice (some ⟨w.heap.size, 0, none⟩) 1 1, .slice (some ⟨w.heap.size + 1, 0, none⟩) 1 1, .slice (some ⟨w.heap.size + 1 + 1, 0, none⟩) 1 1, .slice (some ⟨w.heap.size + 1 + 1 + 1, 0, none⟩) 1 1] 46 (0, 0)) := by rw [← z4]; exact heap_alloc_new _ _
 generalize hW5 : W4.alloc _ = W5 at b5 r5 ⊢
 have c25 := ((b3.trans (b4.mono b3.size)).trans (b5.mono (Nat.le_trans b3.size b4.size)))
 have c15 := (b2.trans (c25.mono b2.size))
 refine ⟨b1.trans (c15.mono b1.size), some ⟨w.heap.size + 1 + 1 + 1 + 1, 0, none⟩, 2, rfl, fun i e he => ?_⟩
 have lt := block_lt_of_row r5
 match i, he with
 | 0, he =>
  cases he
  exact ⟨_, 0, _, _, _, _, _, _, rfl, lt, cell_of_row W5 _ 0 _ _ _ r5, cell_of_row W5 _ 1 _ _ _ r5, s1.below c15 (Nat.le_refl _), s2.below c25 (Nat.le_refl _)⟩
 | 1, he =>
  cases he
  exact ⟨_, 0, _, _, _, _, _, _, rfl, lt, cell_of_row W5 _ 2 _ _ _ r5, cell_of_row W5 _ 3 _ _ _ r5, s3.below (b4.trans (b5.mono b4.size)) (Nat.le_refl _), s4.below b5 (Nat.le_refl _)⟩
theorem known_ok : S.NodeOk 0 (S.mrg [] (S.lasts [⟨[98], [49], false⟩, ⟨[97], [50], false⟩])) := by
 rw [known_es]
 refine ⟨fun x hx => ?_, ?_, by omega, by decide, fun _ x hx => ?_, fun h => absurd rfl h⟩
 ·simp only [List.mem_cons, List.not_mem_nil, or_false] at hx
  rcases hx with rfl | rfl <;> exact ⟨by decide, by decide, by decide, by decide⟩
 ·unfold S.up; decide
 ·simp only [List.mem_cons, List.not_mem_nil, or_false] at hx
  rcases hx with rfl | rfl <;> simp
set_option maxHeartbeats 16000000 in
set_option maxRecDepth 100000 in
theorem known_any (w : World) (hK : KAt w) (h1 : 1 < w.heap.size) :
  Calls Tryz.prog 15 #[] w fun e w' => e = .returned (.bool true) ∧ Below w.heap.size w w' := by
 have HK := hide hK
 have HP : Hid (1 < w.heap.size) := h1
 clear hK h1
 go_enter Tryz.func15, Tryz.ntmps15
 go_wp2_with fail
 refine (begun_any w HK.out HP.out).mono ?_
 rintro e w1 ⟨o, gt, gs, rfl, hbt, lgt, lgs⟩
 have HB1 := hide hbt
 clear hbt lgt lgs
 go_wp2_with fail
 refine (chg13_any [98] [49] (by decide) (by decide) _ _ rfl rfl w1).mono ?_
 rintro e w2 ⟨⟨ka1, kn1, kc1, va1, vn1, vc1, dr1⟩, rfl, hx1, k1, v1, b1⟩
 rw [show (Value.agg (encCh ⟨ka1, kn1, kc1, va1, vn1, vc1, dr1⟩).toArray) = .agg #[.slice ka1 kn1 kc1, .slice va1 vn1 vc1, .bool dr1] from rfl]
 have HX1 := hide hx1
 have KV1 := hide (And.intro k1 v1)
 have BB1 := hide b1
 clear hx1 k1 v1 b1
 go_wp2_with fail
 refine (chg13_any [97] [50] (by decide) (by decide) _ _ rfl rfl w2).mono ?_
 rintro e w3 ⟨⟨ka2, kn2, kc2, va2, vn2, vc2, dr2⟩, rfl, hx2, k2, v2, b2⟩
 rw [show (Value.agg (encCh ⟨ka2, kn2, kc2, va2, vn2, vc2, dr2⟩).toArray) = .agg #[.slice ka2 kn2 kc2, .slice va2 vn2 vc2, .bool dr2] from rfl]
 have HX2 := hide hx2
 have KV2 := hide (And.intro k2 v2)
 have BB2 := hide b2
 clear hx2 k2 v2 b2
 go_wp2_with fail
 have r4 : (w3.alloc (.cells #[.slice ka1 kn1 kc1, .slice va1 vn1 vc1, .bool dr1, .slice ka2 kn2 kc2, .slice va2 vn2 vc2, .bool dr2] 34)).heap[w3.heap.size]? = some (.cells (([⟨ka1, kn1, kc1, va1, vn1, vc1, dr1⟩, ⟨ka2, kn2, kc2, va2, vn2, vc2, dr2⟩] : List ChV).flatMap encCh).toArray 34 (0, 0)) := heap_alloc_new _ _
 have b4 : Below w3.heap.size w3 (w3.alloc (.cells #[.slice ka1 kn1 kc1, .slice va1 vn1 vc1, .bool dr1, .slice ka2 kn2 kc2, .slice va2 vn2 vc2, .bool dr2] 34)) := (Below.refl _ _).alloc (Nat.le_refl _) _
 generalize hW4 : w3.alloc _ = W4 at r4 b4 ⊢
 have k1 := KV1.out
 have k2 := KV2.out
 have hd := do_ok w o gt gs 2 w3.heap.size 0 2 [⟨ka1, kn1, kc1, va1, vn1, vc1, dr1⟩, ⟨ka2, kn2, kc2, va2, vn2, vc2, dr2⟩] [⟨[98], [49], false⟩, ⟨[97], [50], false⟩] [] W4
  (((HB1.out.then BB1.out).then BB2.out).then b4) (fun j u h => by rw [Nat.zero_add, cell_of_row W4 _ j _ _ _ r4]; simpa using h) (by simp) (by simp) (by simp)
  (by simp [ChV.good, k1.1, k1.2, k2.1, k2.2]) ⟨rfl, fun i x c hx hc => by
   match i, hx, hc with
   | 0, hx, hc => cases hx; cases hc; exact (HX1.out.below BB2.out).below b4
   | 1, hx, hc => cases hx; cases hc; exact HX2.out.below b4⟩ (by simp) known_ok (by omega)
 rw [known_es] at hd
 refine hd.mono ?_
 clear hd r4 b4 hW4 k1 k2
 rintro e w5 ⟨rfl, o', ho', hbt', hch, hown⟩
 obtain ⟨pg, hrd, htr, hlf⟩ := hbt'.rds
 have RD := hide hrd
 have TR := hide htr
 have LF := hide hlf
 have B5 := hide hbt'.below
 clear ho' hbt' hch hown hrd htr hlf HB1 HX1 HX2 KV1 KV2 BB1 BB2
 have cK : ∀ (W : World) (C : Array Value) (n c g : Nat), g = W.heap.size → (convert 32 32 (.slice (some ⟨g, 0, none⟩) n c)).run Tryz.prog (W.alloc (.cells C 5)) = .ok (.slice (some ⟨g, 0, none⟩) n c) (W.alloc (.cells C 5 (C.size, C.size + 1))) := fun W C n c g hg => by rw [hg]; exact convK32 W C n c
 go_wp2_with fail
 obtain ⟨bL, pL⟩ := prs_two w5 97 50 98 49 97 50 98 49 rfl rfl rfl rfl
 refine (is_yes w5.heap.size gs gt pg _ _ _ (RD.out.below bL) LF.out ((bL.block _ (block_lt_of_row TR.out)).trans TR.out) pL).mono ?_
 rintro e w6 ⟨rfl, hb6⟩
 have B6 := hide ((B5.out.trans (bL.mono B5.out.size)).trans (hb6.mono (B5.out.trans (bL.mono B5.out.size)).size))
 clear bL pL hb6 cK
 go_wp2_with fail
 go_ret
 exact ⟨rfl, B6.out⟩
theorem do_one_no (gt : Nat) (W : World) (ka va : Option Addr) (kn kc vn vc : Nat) (dr : Bool) (hx : (decide (1 ≤ kn) && decide (kn ≤ 40) && decide (vn ≤ 400)) = false) :
  Calls Tryz.prog 12 #[.pointer (some ⟨gt, 0, none⟩), .slice (some ⟨W.heap.size, 0, none⟩) 1 1] (W.alloc (.cells #[.slice ka kn kc, .slice va vn vc, .bool dr] 34)) fun e w' => e = .returned (.int .i64 1) ∧ Below W.heap.size W w' := by
 have r : (W.alloc (.cells #[.slice ka kn kc, .slice va vn vc, .bool dr] 34)).heap[W.heap.size]? = some (.cells (([⟨ka, kn, kc, va, vn, vc, dr⟩] : List ChV).flatMap encCh).toArray 34 (0, 0)) := heap_alloc_new _ _
 have b : Below W.heap.size W (W.alloc (.cells #[.slice ka kn kc, .slice va vn vc, .bool dr] 34)) := (Below.refl _ _).alloc (Nat.le_refl _) _
 have hd := do_no gt (.slice (some ⟨W.heap.size, 0, none⟩) 1 1) [⟨ka, kn, kc, va, vn, vc, dr⟩] _ (Or.inr (Or.inr ⟨W.heap.size, 0, 1, rfl, by simp, by simp, block_lt_of_row r, fun j u h => by rw [Nat.zero_add, cell_of_row _ _ j _ _ _ r]; simpa using h⟩)) (by simp only [List.all_cons, List.all_nil, ChV.good, hx, Bool.false_and])
 exact hd.mono fun e w' ⟨h1, h2⟩ => ⟨h1, b.trans (h2.mono b.size)⟩
theorem zeros_str (n : Nat) (hn : n ≤ 100000) (W : World) : (convert 32 9 (.slice (some ⟨W.heap.size, 0, none⟩) n n)).run Tryz.prog (W.alloc (.cells (S.v8 (S.zeros n)) 5)) = .ok (.string ⟨(S.zeros n).toArray⟩) (W.alloc (.cells (S.v8 (S.zeros n)) 5)) :=
 conv_slice (slice_row (heap_alloc_new _ _) (by simp [S.zeros]) (by simp [S.zeros]; omega))
theorem wpList_makeSlice_as {w : World} {ops : Array Oper} {rest : List Oper} {o : Oper} {a : Act} {Q : Exit → Act → World → Prop} (hgd : o.guard = none) (t : TypeId) (x y : Operand) (ho : o.op = .makeSlice t x y) (vx vy : Value) (hx : a.eval x = vx) (hy : a.eval y = vy) (v : Value) (w' : World)
  (hr : (Instr.makeSlice t vx vy).run Tryz.prog w = .ok v w') (h : wpList Tryz.prog ops Q rest (a.put o.dst v) w') : wpList Tryz.prog ops Q (o :: rest) a w :=
 wpList_plain hgd fun _ hK => by
  unfold Oper.wp execOp
  simp only [ho, Sem.run_bind, hx, hy, hr, Result.andThen_ok]
  exact hK _ _ h
theorem made81 : madeCells (Value.agg #[.slice none 0 0, .slice none 0 0, .bool false]).cells 243 = ((List.replicate 81 (⟨none, 0, 0, none, 0, 0, false⟩ : ChV)).flatMap encCh).toArray := by kernel_rfl
theorem make81 (W : World) : ∃ W', (Instr.makeSlice 36 (.int .i64 81) (.int .i64 81)).run Tryz.prog W = .ok (.slice (some ⟨W.heap.size, 0, none⟩) 81 81) W' ∧ Below W.heap.size W W' ∧ Els encCh W' (.slice (some ⟨W.heap.size, 0, none⟩) 81 81) (List.replicate 81 ⟨none, 0, 0, none, 0, 0, false⟩) := by
 obtain ⟨i, hi, hz, hs, hb⟩ := info_parts info34
 have h := run_make (P := Tryz.prog) W 36 34 i _ Tryz.underlying36 hi hz .i64 .i64 81 81 (by omega) (Int.le_refl _) (by rw [hb]; omega) (by omega)
 rw [hs] at h
 have r : (W.alloc (.cells ((List.replicate 81 (⟨none, 0, 0, none, 0, 0, false⟩ : ChV)).flatMap encCh).toArray 34)).heap[W.heap.size]? = some (.cells ((List.replicate 81 (⟨none, 0, 0, none, 0, 0, false⟩ : ChV)).flatMap encCh).toArray 34 (0, 0)) := heap_alloc_new _ _
 refine ⟨_, h, (Below.refl _ _).alloc (Nat.le_refl _) _, Or.inr (Or.inr ⟨W.heap.size, 0, 81, by rw [List.length_replicate], by rw [List.length_replicate]; omega, by rw [List.length_replicate]; omega, ?_, fun j u h => ?_⟩)⟩
 ·rw [World.size_alloc]; omega
 ·rw [show (81 : Int).toNat * 3 = 243 from rfl, made81, Nat.zero_add, cell_of_row _ _ j _ _ _ r]
  rw [List.getElem?_toArray]; exact h
end Go.Proofs.YteealihknndclaaGreatDoor
