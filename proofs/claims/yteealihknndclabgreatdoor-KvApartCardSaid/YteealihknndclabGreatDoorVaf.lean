/- Package kv: how much of the bound is taken. -/
import Derived.Test.YteealihknndclabGreatDoorVaa
import Derived.Test.YteealihknndclabGreatDoorEd
import Derived.Maps.Own
import Derived.Maps.OwnSet
namespace Go.Proofs.YteealihknndclabGreatDoor
open Go.RowKit Go.Shelf
attribute [local go_sem] Oper.semAt_some
theorem FK (es : List S.Ent) : S.hand es [] [] = es := by
 unfold S.hand
 rw [S.rank_nil, List.drop_zero, show (fun x : S.Ent => S.blw [] x.key) = (fun _ => true) from funext fun x => by simp [S.blw]]
 induction es with
 | nil => rfl
 | cons x l ih => rw [List.takeWhile_cons, if_pos rfl, ih]
def S.used : List S.Ent -> Nat
 | [] => 0
 | e :: es => (e.key.length + e.val.length) + S.used es
theorem S.used_take (es : List S.Ent) (k : Nat) (e : S.Ent) (h : es[k]? = some e) : S.used (es.take (k + 1)) = S.used (es.take k) + (e.key.length + e.val.length) := by
 induction es generalizing k with
 | nil => simp at h
 | cons x es ih =>
  cases k with
  | zero => simp at h; subst h; simp [S.used]
  | succ k => simp at h; simp [S.used, ih k h]; omega
theorem S.used_le (es : List S.Ent) (h : ∀ e ∈ es, e.key.length <= 40 /\ e.val.length <= 400) : S.used es <= 440 * es.length := by
 induction es with
 | nil => simp [S.used]
 | cons x es ih =>
  have h1 := h x (by simp)
  have h2 := ih (fun e he => h e (by simp [he]))
  simp [S.used]
  omega
set_option maxHeartbeats 16000000 in
set_option maxRecDepth 100000 in
theorem mZ (B gk gs gt : Nat) (b : Int) (pg : Nat -> List UInt8) (es : List S.Ent) (w : World) (hr : Rds B w gs pg) (hl : S.nE pg es) (ht : jr w gt gs) (hs : oD w gk gt b) :
  Calls Tryz.prog 14 #[.pointer (some ⟨gk, 0, none⟩)] w fun e w' => e = .returned (.int .i64 (S.used es : Int)) /\ Below w.heap.size w w' := by
 have HR := hide hr
 have HL := hide hl
 have HT := hide ht
 have HS := hide hs
 have HUL : Hid (∀ k, S.used (es.take k) <= 200000) := fun k => by
  have h1 := S.used_le (es.take k) (fun e he => ⟨(hl.ok.ent e (List.mem_of_mem_take he)).key, (hl.ok.ent e (List.mem_of_mem_take he)).val⟩)
  have h2 := hl.ok.len
  have h3 : (es.take k).length <= es.length := List.length_take_le' k es
  omega
 clear hr hl ht hs
 refine (callsIn_wide (n := 3)).1 ?_
 refine callsIn_of_wp_marks Tryz.func14 rfl trivial ?_ rfl
 refine wpIn_wide.2 ?_
 simp only [Tryz.ntmps14, List.size_toArray, List.length_cons, List.length_nil, Nat.reduceAdd, Nat.reduceSub, Array.replicate_succ, Array.replicate_zero, List.push_toArray, List.append_toArray, List.nil_append, List.cons_append]
 go_upto_region 2 with fail
 generalize hW0 : w.alloc _ = W0
 have b0 : Below w.heap.size w W0 := by rw [<- hW0]; exact ba ..
 have r0 : W0.heap[w.heap.size]? = some (.cells #[.int .i64 0] 3 (0, 0)) := by rw [<- hW0]; exact heap_alloc_new _ _
 obtain ⟨gn, hgn⟩ : ∃ g, g = w.heap.size := ⟨_, rfl⟩
 rw [<- hgn] at r0 ⊢
 have HG : Hid (w.heap.size <= gn) := Nat.le_of_eq hgn.symm
 have B0 := hide b0
 have R0 := hide r0
 obtain ⟨c0, c1⟩ := aK (HS.out.below b0)
 clear hW0 b0 r0 hgn
 go_wp2_with fail
 refine (jR gt (.slice none 0 0) (.slice none 0 0) [] [] W0 (Or.inl ⟨rfl, rfl⟩) (Or.inl ⟨rfl, rfl⟩) (Or.inl rfl) (Or.inl rfl)).mono ?_
 rintro e W4 ⟨g3, g4, g5, v4, v5, rfl, hsq, l3, l4, l5, hc4, hc5⟩
 have BW := hide (B0.out.trans (hsq.1.mono B0.out.size))
 have NN := hide ((hsq.1.block _ (aa R0.out)).trans R0.out)
 have G5 : Hid (g5 ≠ gn) := by have := aa R0.out; show g5 ≠ gn; omega
 have Gt := rH 1 v4 v5 [] [] B gs gt g4 g5 g3 pg es (fun k => k = gn) W4 (HR.out.below BW.out) HL.out ((BW.out.block _ (aa HT.out)).trans HT.out) hsq.2.2.1 hsq.2.2.2 hsq.2.1 (fun k hk => by rw [hk]; exact aa NN.out) G5.out hc4.1 hc5.1 (fun b off n c e2 e3 => by have := (hc5.2.1 b off n c e2).1; have := aa R0.out; omega)
 rw [FK] at Gt
 have Dt := hide Gt
 clear hsq l3 l4 l5 c0 c1 HR HT HS R0 B0 hc4 hc5 Gt
 go_wp2_with fail
 refine pE (fun T hT => ?_)
 have HTT := hide hT
 clear hT
 refine (wpIn_wide (n := 2)).1 (mG (n := 2) (w0 := W4) (gf := 38) (lb := #[.pointer (some ⟨g4, 0, none⟩), .pointer (some ⟨g5, 0, none⟩), .pointer (some ⟨g3, 0, none⟩)]) (by rw [HTT.out]; rfl) (enters_of Tryz.func38 (by kernel_rfl) rfl) Dt.out (Below.refl _ _) (fun _ => rfl) (fun k hk => by rw [hk]; exact aa NN.out)
  (fun pre V => V.heap[gn]? = some (.cells #[.int .i64 (S.used (es.take pre.length) : Int)] 3 (0, 0)) /\ Chg (fun k => k = gn) W4 V) (fun _ _ _ => False)
  (fun s A V h hb => ⟨(hb.block _ (aa h.1)).trans h.1, h.2.trans (q := fun _ => False) (Chg.ofBelow' hb) (fun _ _ e => e.elim)⟩) (fun c s A V h hb => h) (fun s A l o o' h hl ho hc => ⟨gQ h.1 ho hc, h.2.putObj hl⟩) (fun c s A l o o' h hl ho hc => h) (fun pre => jJ.bare _ _ es pre) (fun pre s A V h hb => jJ.grows _ es pre s h hb) ⟨NN.out, Chg.refl _ _⟩
  (fun x a' V => ∃ gx, V.heap[gx]? = some (.cells #[.slice x.ka x.kn x.kc, .slice x.va x.vn x.vc] 43 (0, 0)) /\ a' = { tmps := (T.setIfInBounds 10 (.agg #[.slice x.ka x.kn x.kc, .slice x.va x.vn x.vc])).setIfInBounds 4 (.pointer (some ⟨gx, 0, none⟩)), defers := [] })
  (fun x s A l o o' h hl ho hc => by obtain ⟨gx, h1, h2⟩ := h; exact ⟨gx, gQ h1 ho hc, h2⟩) ?assign ?body ?done ?stop)
 case assign =>
  rintro l pre x V K ⟨hI1, hI2⟩ hp hK
  obtain ⟨ka, kn, kc, va, vn, vc', px, nd⟩ := x
  have hT2 : ∀ (T : Array Value), ((#[10] : Array Tmp).zip (uP ⟨ka, kn, kc, va, vn, vc', px, nd⟩)).foldl (fun t (p, v) => t.setIfInBounds p v) T = T.setIfInBounds 10 (.agg #[.slice ka kn kc, .slice va vn vc']) := fun T => by simp [uP]
  rw [hT2]
  have hK2 := hK _ (V.alloc (.cells #[.slice ka kn kc, .slice va vn vc'] 43 (0, 0))) ((Below.refl _ V).alloc (lr _) _) ⟨V.heap.size, heap_alloc_new _ _, rfl⟩
  clear hK hT2 hp hI1 hI2
  have HK2 := hide hK2
  clear hK2
  have hT := HTT.out
  subst hT
  simp only [List.setIfInBounds_toArray, List.set_cons_zero, List.set_cons_succ] at HK2 ⊢
  gi_wp2
  exact HK2.out
 case body =>
  rintro l pre x a' V ⟨hI1, hI2⟩ ⟨en, hen, hnew⟩ ⟨gx, hgx, rfl⟩
  obtain ⟨ka, kn, kc, va, vn, vc', px, nd⟩ := x
  have eok := HL.out.ok.ent en (List.mem_of_getElem? hen)
  have his := hnew.is (by have := eok.key; omega) (by have := eok.val; omega)
  have UT := hide (S.used_take es _ en hen)
  obtain ⟨m, hm⟩ : ∃ m, m = S.used (es.take pre.length) := ⟨_, rfl⟩
  rw [<- hm] at hI1
  have HM := hide hm
  have NK : Hid (kn = en.key.length /\ vn = en.val.length /\ kn <= 40 /\ vn <= 400) := by
   obtain ⟨q, e1, e2, e3, e4, e5⟩ := hnew.key
   simp only at e2
   have h1 := eok.key
   have h2 := eok.val
   rcases hnew.val with ⟨f1, f2, f3, f4⟩ | ⟨q', f1, f2, f3, f4, f5, _⟩
   ·simp only at f2
    refine ⟨e2, by rw [f2, f4]; rfl, by omega, by omega⟩
   ·simp only at f2
    exact ⟨e2, f2, by omega, by omega⟩
  have NX : Hid (gx ≠ gn) := fun e => by rw [e, hI1] at hgx; cases hgx
  have HI1 := hide hI1
  have HI2 := hide hI2
  have HX := hide hgx
  have QS : Hid (IntKind.i64.wrap ((m : Int) + ((kn : Int) + (vn : Int))) = ((m + (kn + vn) : Nat) : Int)) := by
   have h1 := HUL.out pre.length
   have h2 := HM.out
   have h3 := NK.out
   show IntKind.i64.wrap _ = _
   rw [IntKind.wrap_i64]; omega
  clear hI1 hI2 hen hnew hgx eok his hm
  have hT := HTT.out
  subst hT
  simp only [List.setIfInBounds_toArray, List.set_cons_zero, List.set_cons_succ]
  gi_wp2
  refine wpIn_region_any (by kernel_rfl) (xZ (fun h => by obtain ⟨_, _, h⟩ := h; exact h) (xK (by kernel_rfl)) _ _ _ _ (wpAny_of_held (S := fun Z => Z.heap[gx]? = some (.cells #[.slice ka kn kc, .slice va vn vc'] 43 (0, 0))) _ _ _ _ ?_))
  have hHeld : V.drew.heap[gx]? = some (.cells #[.slice ka kn kc, .slice va vn vc'] 43 (0, 0)) := HX.out
  have GN : Hid (V.drew.heap[gn]? = some (.cells #[.int .i64 (m : Int)] 3 (0, 0))) := HI1.out
  have CD : Hid (Chg (fun k => k = gn) W4 V.drew /\ Chg (fun k => k = gn) V V.drew) := ⟨HI2.out.drew, (Chg.refl _ _).drew⟩
  clear HI1 HX HI2
  show wpAnyH _ _ _ _ _ _ _ _ V.drew
  generalize V.drew = Z0 at hHeld CD GN ⊢
  refine tq 1 ?_
  simp only [uA]
  refine tk 2 ?_ rfl (Or.inl ⟨by rfl, ?_⟩) ?_
  rotate_left
  ·intro w hSw
   have c0 := (aK hSw).1
   clear hSw
   go_simp
   all_goals with_reducible rfl
  simp only [uA]
  refine tq 3 ?_
  simp only [uA]
  refine tk 4 ?_ rfl (Or.inl ⟨by rfl, ?_⟩) ?_
  rotate_left
  ·intro w hSw
   have c0 := (aK hSw).2
   clear hSw
   go_simp
   all_goals with_reducible rfl
  simp only [uA]
  have hld : (Instr.loadAt 3 (.pointer (some ⟨gn, 0, none⟩))).run Tryz.prog Z0 = .ok (.int .i64 (m : Int)) Z0 := by
   have c0 := eU GN.out
   go_simp
  have HLD := hide hld
  clear hld
  refine rdy [0, 5] ?_
  refine aB (o := ⟨_, _, _, _, _, _⟩) rfl rfl 3 (.tmp 3) rfl (.int .i64 (m : Int)) HLD.out ?_ ⟨hHeld, fun hHeld => ?_⟩
  rotate_left
  ·simp only [uA]
   refine r1 5 fun K hK => ?_
   go_simp
   refine (ji ka va kn vn kc vc' (by have := NK.out; omega) (by have := NK.out; omega) Z0).mono ?_
   rintro e Z1 ⟨rfl, rfl⟩
   refine hK.out _ _ hHeld (fun hHeld => ?_)
   clear hK K
   try simp only [uA]
   refine tq 6 ?_
   simp only [uA]
   refine rdy [7] ?_
   have hst : (Instr.storeAt 3 (.pointer (some ⟨gn, 0, none⟩)) (.int .i64 (IntKind.i64.wrap ((m : Int) + ((kn : Int) + (vn : Int)))))).run Tryz.prog Z1 = .ok () (Z1.setCell ⟨gn, 0, none⟩ (.int .i64 (IntKind.i64.wrap ((m : Int) + ((kn : Int) + (vn : Int)))))) := by
    have c0 := eU GN.out
    have fz := frozen_of_row _ gn 0 _ _ GN.out
    go_simp
   refine dH (o := ⟨_, _, _, _, _, _⟩) rfl rfl 3 (.tmp 3) (.tmp 17) rfl _ hst AllReadyH.nil ⟨(heap_setCell_other Z1 ⟨gn, 0, none⟩ gx _ NX.out).trans hHeld, fun hHeld => ?_⟩
   simp only [Act.put]
   refine wpAnyH_done (by kernel_rfl) ?_ _
   have UE : S.used (es.take (pre.length + 1)) = m + (kn + vn) := by have h1 := UT.out; have h2 := HM.out; have h3 := NK.out; omega
   gi_wp2
   refine ⟨CD.out.2.setCell gn 0 _ (fun _ => rfl), ?_, CD.out.1.setCell gn 0 _ (fun _ => rfl)⟩
   rw [List.length_append, show ([_] : List EnV).length = 1 from rfl, UE, <- QS.out]
   exact one_setCell GN.out
  refine c1 fun K hK => ?_
  go_simp
  refine (ji ka va kn vn kc vc' (by have := NK.out; omega) (by have := NK.out; omega) Z0).mono ?_
  rintro e Z1 ⟨rfl, rfl⟩
  refine hK.out _ _ hHeld (fun hHeld => ?_)
  clear hK K
  try simp only [uA]
  refine rdy [0] ?_
  refine aB (o := ⟨_, _, _, _, _, _⟩) rfl rfl 3 (.tmp 3) rfl (.int .i64 (m : Int)) HLD.out AllReadyH.nil ⟨hHeld, fun hHeld => ?_⟩
  simp only [uA]
  refine tq 6 ?_
  simp only [uA]
  refine rdy [7] ?_
  have hst : (Instr.storeAt 3 (.pointer (some ⟨gn, 0, none⟩)) (.int .i64 (IntKind.i64.wrap ((m : Int) + ((kn : Int) + (vn : Int)))))).run Tryz.prog Z1 = .ok () (Z1.setCell ⟨gn, 0, none⟩ (.int .i64 (IntKind.i64.wrap ((m : Int) + ((kn : Int) + (vn : Int)))))) := by
   have c0 := eU GN.out
   have fz := frozen_of_row _ gn 0 _ _ GN.out
   go_simp
  refine dH (o := ⟨_, _, _, _, _, _⟩) rfl rfl 3 (.tmp 3) (.tmp 17) rfl _ hst AllReadyH.nil ⟨(heap_setCell_other Z1 ⟨gn, 0, none⟩ gx _ NX.out).trans hHeld, fun hHeld => ?_⟩
  simp only [Act.put]
  refine wpAnyH_done (by kernel_rfl) ?_ _
  have UE : S.used (es.take (pre.length + 1)) = m + (kn + vn) := by have h1 := UT.out; have h2 := HM.out; have h3 := NK.out; omega
  gi_wp2
  refine ⟨CD.out.2.setCell gn 0 _ (fun _ => rfl), ?_, CD.out.1.setCell gn 0 _ (fun _ => rfl)⟩
  rw [List.length_append, show ([_] : List EnV).length = 1 from rfl, UE, <- QS.out]
  exact one_setCell GN.out
 case done =>
  rintro D xs V hD hxs ⟨hI1, hI2⟩ hKD
  rw [hxs, List.take_length] at hI1
  have c0 := eU hI1
  have KD := hide hKD
  have BV := hide (BW.out.trans (hI2.below w.heap.size BW.out.size (fun k hk e => by have := HG.out; omega)))
  have HD := hide (show w.heap.size <= D from ltr BW.out.size hD)
  clear hI1 hI2 hKD hxs hD
  have hT := HTT.out
  subst hT
  go_wp2_with fail
  refine ⟨by simp, .inl ⟨_, _, rfl, run_takeDeferred KD.out, ?_⟩⟩
  exact ⟨.int .i64 (S.used es : Int), (results_tmp (t := 2) (fn := Tryz.f14) rfl _ _ _).trans (by simp), rfl, kK BV.out HD.out⟩
 case stop =>
  rintro D c pre V _ _ h _
  exact h.elim
end Go.Proofs.YteealihknndclabGreatDoor
namespace Go.Proofs.YteealihknndclabGreatDoor
open Go.RowKit
theorem Da (x : KcV) : ∀ v ∈ dN x, v.oneCell' = true := by
 intro v hv
 simp [dN] at hv
 rcases hv with rfl | rfl | rfl | rfl <;> rfl
theorem Ai : (Tryz.prog.info? 30).map (·.size) = some 4 := by kernel_rfl
theorem store67 {w : World} {g : Nat} {c0 : Array Value} (a : w.heap[g]? = some (.cells c0 30 (0, 0))) (h0 : c0.size = 4) (x : KcV) :
  ∃ w', (Instr.storeAt 30 (.pointer (some ⟨g, 0, none⟩)) (.agg (dN x).toArray)).run Tryz.prog w = .ok () w' /\ w'.heap[g]? = some (.cells (dN x).toArray 30 (0, 0)) /\ Chg (fun k => k = g) w w' := by
 have h1 : (dN x).toArray.all (·.oneCell') = true := all_oneCell_toArray (Da x)
 have hr := run_storeVar_row (P := Tryz.prog) w g 30 30 _ (dN x).toArray a (by rw [Ai, List.size_toArray, mr]) (by exact h0) h1
 refine ⟨w.setRow g (dN x).toArray, ?_, setRow_heap w g _ _ _ _ a, Chg.setRow (p := fun k => k = g) g _ rfl⟩
 simp only [Instr.storeAt, Instr.sureAddr, Sem.run_bind, Sem.run_pure, Result.andThen_ok, hr]
theorem var67 {w : World} {g : Nat} {x : KcV} (h : w.heap[g]? = some (.cells (dN x).toArray 30 (0, 0))) : (loadVar 30 ⟨g, 0, none⟩).run Tryz.prog w = .ok (.agg (dN x).toArray) w :=
 run_loadVar_row w g 30 30 _ (0, 0) _ h Tryz.underlying30 rfl (by rw [Ai, List.size_toArray, mr])
set_option maxHeartbeats 8000000 in
set_option maxRecDepth 10000 in
theorem nW (a b : List UInt8) (ha : a.length <= 1000000) (hb : b.length <= 1000000) (s : UInt8) (A B : ByteArray) (hA : A = ⟨a.toArray⟩) (hB : B = ⟨b.toArray⟩) (w : World) :
  Calls Tryz.prog 11 #[.int .u8 (s.toNat : Int), .string A, .string B] w fun e w' => ∃ x : KcV, e = .returned (.agg (dN x).toArray) /\ qH w' x (s, ⟨a, b, false⟩) /\ x.kn = a.length /\ x.vn = b.length /\ Below w.heap.size w w' := by
 go_enter Tryz.func11, Tryz.ntmps11
 go_upto_region 1 with fail
 generalize hW0 : w.alloc _ = W0
 have B0 : Below w.heap.size w W0 := by rw [<- hW0]; exact ba ..
 have R0 : W0.heap[w.heap.size]? = some (.cells #[.int .u8 0, .slice none 0 0, .slice none 0 0, .bool false] 30 (0, 0)) := by rw [<- hW0]; exact heap_alloc_new _ _
 obtain ⟨c1, W1, cv1, s1, b1⟩ := uu W0 a ha
 obtain ⟨c2, W2, cv2, s2, b2⟩ := uu W1 b hb
 rw [<- hA] at cv1
 rw [<- hB] at cv2
 have R2 : W2.heap[w.heap.size]? = some (.cells #[.int .u8 0, .slice none 0 0, .slice none 0 0, .bool false] 30 (0, 0)) := (b2.block _ (Nat.lt_of_lt_of_le (aa R0) b1.size)).trans ((b1.block _ (aa R0)).trans R0)
 obtain ⟨W3, hst, r3, k3⟩ := store67 R2 rfl ⟨s, some ⟨W0.heap.size, 0, none⟩, a.length, c1, some ⟨W1.heap.size, 0, none⟩, b.length, c2, false⟩
 have jl : (Instr.storeAt 30 (.pointer (some ⟨w.heap.size, 0, none⟩)) (.agg #[.int .u8 (s.toNat : Int), .slice (some ⟨W0.heap.size, 0, none⟩) a.length c1, .slice (some ⟨W1.heap.size, 0, none⟩) b.length c2, .bool false])).run Tryz.prog W2 = .ok () W3 := hst
 have n1 : w.heap.size < W0.heap.size := aa R0
 have RES : Hid (qH W3 ⟨s, some ⟨W0.heap.size, 0, none⟩, a.length, c1, some ⟨W1.heap.size, 0, none⟩, b.length, c2, false⟩ (s, ⟨a, b, false⟩)) :=
  ⟨rfl, ry (s1.below b2 (lr _)) k3 (fun a n c e hk => by simp only [Value.slice.injEq, Option.some.injEq] at e; rw [<- e.1] at hk; have hk' : W0.heap.size = w.heap.size := hk; omega), ry s2 k3 (fun a n c e hk => by simp only [Value.slice.injEq, Option.some.injEq] at e; rw [<- e.1] at hk; have hk' : W1.heap.size = w.heap.size := hk; have := b1.size; omega), rfl⟩
 have B3 := hide (show Below w.heap.size w W3 from ((B0.trans (b1.mono B0.size)).trans (b2.mono (ltr B0.size b1.size))).trans (k3.base (ltr B0.size (ltr b1.size b2.size)) (lr _)))
 have R3 := hide r3
 clear hW0 B0 R0 s1 b1 s2 b2 R2 hst r3 k3 n1 hA hB
 go_wp2_with (with_reducible refine au ⟨none, .store 30 (.tmp 6) (.tmp 12), 0, "law.go:111", #[{ on := 5, ground := Ground.data }, { on := 0, ground := Ground.phase }, { on := 1, ground := Ground.phase }, { on := 2, ground := Ground.phase }, { on := 3, ground := Ground.phase }, { on := 4, ground := Ground.phase }, { on := 5, ground := Ground.phase }], none⟩ ?_; refine ai rfl 30 (.tmp 6) (.tmp 12) rfl (.pointer (some ⟨w.heap.size, 0, none⟩)) (.agg #[.int .u8 (s.toNat : Int), .slice (some ⟨W0.heap.size, 0, none⟩) a.length c1, .slice (some ⟨W1.heap.size, 0, none⟩) b.length c2, .bool false]) rfl rfl _ jl ?_)
 exact bodyPost_ret (v := .agg (dN ⟨s, some ⟨W0.heap.size, 0, none⟩, a.length, c1, some ⟨W1.heap.size, 0, none⟩, b.length, c2, false⟩).toArray) (yS Tryz.results11 _ _ w.heap.size _ rfl (var67 R3.out)) rfl ⟨_, rfl, RES.out, rfl, rfl, B3.out⟩
end Go.Proofs.YteealihknndclabGreatDoor
namespace Go.Proofs.YteealihknndclabGreatDoor
open Go.RowKit Go.Maps
theorem xQ : Keyed Tryz.prog 9 := string_keyed Tryz.underlying9
theorem zY (w : World) : (zeroValue 3).run Tryz.prog w = .ok (.int .i64 0) w := by kernel_rfl
theorem key9 (k : List UInt8) (hk : k.length <= 1000000) : keyOf Tryz.prog 9 (.string ⟨k.toArray⟩) = some (.string k) := by
 have h := Go.WideMaps.keyOf_string_mk (k := 9) (P := Tryz.prog) Tryz.underlying9 (s := ⟨k.toArray⟩) (by simp [ByteArray.size, maxLen]; omega)
 simpa using h
def S.szOf (es : List S.Ent) (key : List UInt8) : Nat := match es.find? (fun x => decide (x.key = key)) with
 | some x => x.key.length + x.val.length
 | none => 0
def S.now (c : S.Cg) : Nat := if c.dr then 0 else c.key.length + c.val.length
def S.was (es : List S.Ent) (D : DataW Unit) (c : S.Cg) : Int := if has D (.string c.key) then (match D.atKey (.string c.key) (.lit (.int .i64 0)) with
 | .lit (.int _ z) => z
 | _ => 0) else (S.szOf es c.key : Int)
def S.grStep (es : List S.Ent) (s : DataW Unit × Int) (c : S.Cg) : DataW Unit × Int := (s.1.put (.string c.key) (.lit (.int .i64 (S.now c : Int))), IntKind.i64.wrap (s.2 + IntKind.i64.wrap ((S.now c : Int) - S.was es s.1 c)))
def S.gr (es : List S.Ent) (cs : List S.Cg) : DataW Unit × Int := cs.foldl (S.grStep es) (.map [], 0)
theorem S.gr_next (es : List S.Ent) (cs : List S.Cg) (k : Nat) (c : S.Cg) (h : cs[k]? = some c) : S.gr es (cs.take (k + 1)) = S.grStep es (S.gr es (cs.take k)) c := by
 rw [List.take_add_one, h]
 simp [S.gr]
theorem Ad (es : List S.Ent) (key : List UInt8) (n : Nat) (h1 : ∀ x ∈ es, x.key = key -> n = key.length + x.val.length) (h2 : key ∉ es.map (·.key) -> n = 0) : n = S.szOf es key := by
 unfold S.szOf
 cases h : es.find? (fun x => decide (x.key = key)) with
 | none =>
  refine h2 (fun hm => ?_)
  obtain ⟨x, hx, hk⟩ := List.mem_map.1 hm
  have := List.find?_eq_none.1 h x hx
  simp [hk] at this
 | some x =>
  have hm := List.mem_of_find?_eq_some h
  have hk := List.find?_some h
  simp at hk
  have := h1 x hm hk
  simp only [hk]
  exact this
theorem vR (n : Nat) (h : n <= 1000000) : (Lit.int .i64 (n : Int)).wf = true := by
 simp [Lit.wf, IntKind.min, IntKind.max, IntKind.signed, IntKind.bits]
 omega
theorem rO {w W : World} {gm k : Nat} {D : DataW Unit} (h : w.ownsMap Tryz.prog 9 (plainElem (H := Unit) Tryz.prog 3) gm k D) (hb : Below w.heap.size w W) : W.ownsMap Tryz.prog 9 (plainElem (H := Unit) Tryz.prog 3) gm k D := by
 have hl := h.lt
 obtain ⟨a, c, h1, h2⟩ := h
 exact ⟨a, c, (hb.block gm hl).trans h1, h2⟩
set_option maxHeartbeats 16000000 in
set_option maxRecDepth 100000 in
theorem kD (B gk gs gt b off cap : Nat) (bd : Int) (pg : Nat -> List UInt8) (es : List S.Ent) (d : List ChV) (cs : List S.Cg) (w : World) (hr : Rds B w gs pg) (hl : S.nE pg es) (ht : jr w gt gs) (hs : oD w gk gt bd) (h0 : ∀ j u, (d.flatMap bg)[j]? = some u -> w.cell? ⟨b, off + j, none⟩ = some u) (hb : b < w.heap.size) (hn : d.length <= 100000) (hcap : d.length <= cap) (hc : dL w d cs) (hk : ∀ x ∈ d, x.kn <= 1000 /\ x.vn <= 1000) :
  Calls Tryz.prog 20 #[.pointer (some ⟨gk, 0, none⟩), .slice (some ⟨b, off, none⟩) d.length cap] w fun e w' => e = .returned (.int .i64 (S.gr es cs).2) /\ Below w.heap.size w w' := by
 have HR := hide hr
 have HL := hide hl
 have HT := hide ht
 have HS := hide hs
 have H0 := hide h0
 have HB := hide hb
 have HC := hide hc
 have HKK := hide hk
 obtain ⟨n, hn'⟩ : ∃ n, n = d.length := ⟨_, rfl⟩
 have HN := hide hn'
 rw [<- hn'] at hn hcap ⊢
 have HN2 : Hid (n <= 100000) := hn
 have hcap' : (n : Int) <= (cap : Int) := by omega
 have hmm := @run_makeMap Tryz.prog
 have M0 : Hid ((w.alloc (.map #[] 0)).ownsMap Tryz.prog 9 (plainElem (H := Unit) Tryz.prog 3) w.heap.size 0 (.map [])) := World.ownsMap_made _ _ _ _
 have B0 : Hid (Below w.heap.size w (w.alloc (.map #[] 0))) := ba ..
 obtain ⟨gm, hgm⟩ : ∃ g, g = w.heap.size := ⟨_, rfl⟩
 have HGM : Hid (w.heap.size <= gm) := Nat.le_of_eq hgm.symm
 rw [<- hgm] at M0
 clear hr hl ht hs h0 hb hc hk hn'
 go_enter Tryz.func20, Tryz.ntmps20
 go_wp2_with fail
 rw [<- hgm]
 clear hmm hgm
 generalize w.alloc (.map #[] 0) = w1 at M0 B0 ⊢
 go_loopw [5, 15] (fun z i wr => ∃ k : Nat, k <= n /\ i = .int .i64 (k : Int) /\ z = .int .i64 (S.gr es (cs.take k)).2 /\ Hid (wr.ownsMap Tryz.prog 9 (plainElem (H := Unit) Tryz.prog 3) gm k (S.gr es (cs.take k)).1) /\ Hid (Below w.heap.size w wr)) (fun z i _ => n - (intOf i).toNat)
 case atStart => exact ⟨0, by omega, rfl, rfl, M0, B0⟩
 case round =>
 obtain ⟨k, hkn, rfl, rfl, HM, BW⟩ := hrel
 by_cases hlt : k < n
 ·have hkd : k < d.length := by have := HN.out; omega
  have hkc : k < cs.length := by have := HC.out.1; omega
  have hkI : (k : Int) < (n : Int) := by omega
  have hk0 : (0 : Int) <= (k : Int) := by omega
  obtain ⟨x, hx⟩ : ∃ x, x = d[k] := ⟨_, rfl⟩
  obtain ⟨c, hcx⟩ : ∃ c, c = cs[k] := ⟨_, rfl⟩
  have XK : d[k]? = some x := by rw [hx]; exact List.getElem?_eq_getElem hkd
  have CK : Hid (cs[k]? = some c) := by rw [hcx]; exact List.getElem?_eq_getElem hkc
  have CI : Hid (zW w x c) := HC.out.2 k _ _ XK CK.out
  have KK := HKK.out x (List.mem_of_getElem? XK)
  have CL : ∀ (r : Nat) u, (bg x)[r]? = some u -> w.cell? ⟨b, off + (k * 3 + r), none⟩ = some u := fun r u hu => H0.out _ u (by
   rw [flat_get gD d k r x XK (by have := (List.getElem?_eq_some_iff.1 hu).1; rw [gD] at this; exact this)]; exact hu)
  obtain ⟨t0, t1, t2⟩ := Gd CL
  obtain ⟨ka, kn, kc, va, vn, vc, dr⟩ := x
  obtain ⟨key, val, dr'⟩ := c
  obtain rfl : dr = dr' := CI.out.dr
  have u0 := (BW.out.cell (p := ⟨b, off + k * 3, none⟩) HB.out).trans t0
  have u1 := (BW.out.cell (p := ⟨b, off + k * 3 + 1, none⟩) HB.out).trans t1
  have u2 := (BW.out.cell (p := ⟨b, off + k * 3 + 2, none⟩) HB.out).trans t2
  simp only at u0 u1 u2
  have KV : Hid (kn = key.length /\ vn = val.length /\ kn <= 1000 /\ vn <= 1000) := by
   obtain ⟨_, l1, _, e1, h1, _⟩ := CI.out.key.form
   obtain ⟨_, l2, _, e2, h2, _⟩ := CI.out.val.form
   simp only [Value.slice.injEq] at e1 e2
   exact ⟨e1.2.1.trans h1, e2.2.1.trans h2, KK.1, KK.2⟩
  clear t0 t1 t2 CL XK hx hcx KK
  go_upto_region 6 with fail
  obtain ⟨W, hW⟩ : ∃ W, W = wr.alloc (.cells #[.slice ka kn kc, .slice va vn vc, .bool dr] 77) := ⟨_, rfl⟩
  rw [<- hW]
  have bW : Below wr.heap.size wr W := by rw [hW]; exact ba ..
  have rW : W.heap[wr.heap.size]? = some (.cells #[.slice ka kn kc, .slice va vn vc, .bool dr] 77 (0, 0)) := by rw [hW]; exact heap_alloc_new _ _
  have HMW : Hid (W.ownsMap Tryz.prog 9 (plainElem (H := Unit) Tryz.prog 3) gm k (S.gr es (cs.take k)).1) := by rw [hW]; exact HM.out.alloc _
  obtain ⟨gb, hgb⟩ : ∃ gb, gb = wr.heap.size := ⟨_, rfl⟩
  rw [<- hgb] at rW ⊢
  obtain ⟨x0, x1, x2⟩ := iE rW
  have RWX := hide rW
  have BWX := hide (BW.out.trans (bW.mono BW.out.size))
  clear hW bW rW hgb u0 u1 u2 BW HM
  obtain ⟨KS, hKS⟩ : ∃ s, s = (⟨key.toArray⟩ : ByteArray) := ⟨_, rfl⟩
  have hkey : keyOf Tryz.prog 9 (.string KS) = some (.string key) := by rw [hKS]; exact key9 key (by have := KV.out; omega)
  have k1 : (convert 22 9 (.slice ka kn kc)).run Tryz.prog W = .ok (.string KS) W := by rw [hKS]; exact dx (CI.out.key.below BWX.out (lr _))
  have HKS := hide hKS
  clear hKS
  cases hh : has (S.gr es (cs.take k)).1 (.string key)
  focus
   cases dr
   focus
    skip
    go_wp2_with (at_lookup; refine wpList_lookup_own_ok_int _ rfl _ _ 78 rfl 9 3 .i64 xQ Tryz.underlying78 Tryz.underlying3 (zY _) gm k _ rfl HMW.out _ _ rfl hkey ?_; intro z9 hat hwz; rw [hh])
    have HWZ : Hid (S.was es (S.gr es (cs.take k)).1 ⟨key, val, false⟩ = (S.szOf es key : Int)) := by show S.was _ _ _ = _; simp [S.was, hh]
    refine (nV B gk gt gs bd pg es _ key W (HR.out.below BWX.out) ((BWX.out.block _ (aa HT.out)).trans HT.out) HL.out (HS.out.below BWX.out) (CI.out.key.below BWX.out (lr _)) (by have := KV.out; omega)).mono ?_
    rintro e WX ⟨m, rfl, e1, e2, bX⟩
    obtain rfl := Ad es key m e1 e2
    have HMW := hide (rO HMW.out bX)
    have RWX := hide ((bX.block gb (aa RWX.out)).trans RWX.out)
    obtain ⟨x0, x1, x2⟩ := iE RWX.out
    have BWX := hide (BWX.out.trans (bX.mono BWX.out.size))
    have k1 : (convert 22 9 (.slice ka kn kc)).run Tryz.prog WX = .ok (.string KS) WX := by rw [HKS.out]; exact dx (CI.out.key.below BWX.out (lr _))
    clear e1 e2 bX
    go_wp2_with fail
    refine (ji ka va kn vn kc vc (by have := KV.out; omega) (by have := KV.out; omega) WX).mono ?_
    rintro e WV ⟨rfl, rfl⟩
    have NV : Hid (S.now ⟨key, val, false⟩ = kn + vn) := by have := KV.out; show S.now _ = _; simp [S.now]; omega
    have NW : Hid (kn + vn <= 1000000) := by have := KV.out; show _ <= _; omega
    have HMV := hide HMW.out
    go_wp2_with (at_mapUpdate; refine wpList_mapUpdate_own _ rfl _ _ _ 78 rfl 9 3 xQ Tryz.underlying78 _ gm k _ rfl HMV.out (by have := HN2.out; unfold maxLen; omega) _ _ _ rfl rfl hkey _ [] (plainElem_int Tryz.underlying3 (vR _ NW.out)) ?_; intro w7 qp lu)
    have HM7 := hide qp
    have B7 : Hid (Below w.heap.size w w7) := BWX.out.trans (((Chg.refl (fun j => w.heap.size <= j) _).grown lu (fun j _ e => by simp only [Option.some.injEq] at e; have := HGM.out; omega)).below _ BWX.out.size (fun j hj e => by omega))
   rotate_left
   focus
    skip
    go_wp2_with (at_lookup; refine wpList_lookup_own_ok_int _ rfl _ _ 78 rfl 9 3 .i64 xQ Tryz.underlying78 Tryz.underlying3 (zY _) gm k _ rfl HMW.out _ _ rfl hkey ?_; intro z9 hat hwz; rw [hh])
    have HWZ : Hid (S.was es (S.gr es (cs.take k)).1 ⟨key, val, true⟩ = (S.szOf es key : Int)) := by show S.was _ _ _ = _; simp [S.was, hh]
    refine (nV B gk gt gs bd pg es _ key W (HR.out.below BWX.out) ((BWX.out.block _ (aa HT.out)).trans HT.out) HL.out (HS.out.below BWX.out) (CI.out.key.below BWX.out (lr _)) (by have := KV.out; omega)).mono ?_
    rintro e WX ⟨m, rfl, e1, e2, bX⟩
    obtain rfl := Ad es key m e1 e2
    have HMW := hide (rO HMW.out bX)
    have RWX := hide ((bX.block gb (aa RWX.out)).trans RWX.out)
    obtain ⟨x0, x1, x2⟩ := iE RWX.out
    have BWX := hide (BWX.out.trans (bX.mono BWX.out.size))
    have k1 : (convert 22 9 (.slice ka kn kc)).run Tryz.prog WX = .ok (.string KS) WX := by rw [HKS.out]; exact dx (CI.out.key.below BWX.out (lr _))
    clear e1 e2 bX
    have NV : Hid (S.now ⟨key, val, true⟩ = 0) := rfl
    have HMV := hide HMW.out
    go_wp2_with (at_mapUpdate; refine wpList_mapUpdate_own _ rfl _ _ _ 78 rfl 9 3 xQ Tryz.underlying78 _ gm k _ rfl HMV.out (by have := HN2.out; unfold maxLen; omega) _ _ _ rfl rfl hkey _ [] (plainElem_int Tryz.underlying3 (vR 0 (by omega))) ?_; intro w7 qp lu)
    have HM7 := hide qp
    have B7 : Hid (Below w.heap.size w w7) := BWX.out.trans (((Chg.refl (fun j => w.heap.size <= j) _).grown lu (fun j _ e => by simp only [Option.some.injEq] at e; have := HGM.out; omega)).below _ BWX.out.size (fun j hj e => by omega))
  rotate_left 2
  focus
   cases dr
   focus
    skip
    go_wp2_with (at_lookup; refine wpList_lookup_own_ok_int _ rfl _ _ 78 rfl 9 3 .i64 xQ Tryz.underlying78 Tryz.underlying3 (zY _) gm k _ rfl HMW.out _ _ rfl hkey ?_; intro z9 hat hwz; rw [hh])
    have HWZ : Hid (S.was es (S.gr es (cs.take k)).1 ⟨key, val, false⟩ = z9) := by show S.was _ _ _ = _; simp [S.was, hh, hat]
    refine (ji ka va kn vn kc vc (by have := KV.out; omega) (by have := KV.out; omega) W).mono ?_
    rintro e WV ⟨rfl, rfl⟩
    have NV : Hid (S.now ⟨key, val, false⟩ = kn + vn) := by have := KV.out; show S.now _ = _; simp [S.now]; omega
    have NW : Hid (kn + vn <= 1000000) := by have := KV.out; show _ <= _; omega
    have HMV := hide HMW.out
    go_wp2_with (at_mapUpdate; refine wpList_mapUpdate_own _ rfl _ _ _ 78 rfl 9 3 xQ Tryz.underlying78 _ gm k _ rfl HMV.out (by have := HN2.out; unfold maxLen; omega) _ _ _ rfl rfl hkey _ [] (plainElem_int Tryz.underlying3 (vR _ NW.out)) ?_; intro w7 qp lu)
    have HM7 := hide qp
    have B7 : Hid (Below w.heap.size w w7) := BWX.out.trans (((Chg.refl (fun j => w.heap.size <= j) _).grown lu (fun j _ e => by simp only [Option.some.injEq] at e; have := HGM.out; omega)).below _ BWX.out.size (fun j hj e => by omega))
   rotate_left
   focus
    skip
    have HMV := hide HMW.out
    go_wp2_with (first | (at_lookup; refine wpList_lookup_own_ok_int _ rfl _ _ 78 rfl 9 3 .i64 xQ Tryz.underlying78 Tryz.underlying3 (zY _) gm k _ rfl HMW.out _ _ rfl hkey ?_; intro z9 hat hwz; rw [hh]) | (at_mapUpdate; refine wpList_mapUpdate_own _ rfl _ _ _ 78 rfl 9 3 xQ Tryz.underlying78 _ gm k _ rfl HMV.out (by have := HN2.out; unfold maxLen; omega) _ _ _ rfl rfl hkey _ [] (plainElem_int Tryz.underlying3 (vR 0 (by omega))) ?_; intro w7 qp lu))
    have HWZ : Hid (S.was es (S.gr es (cs.take k)).1 ⟨key, val, true⟩ = z9) := by show S.was _ _ _ = _; simp [S.was, hh, hat]
    have NV : Hid (S.now ⟨key, val, true⟩ = 0) := rfl
    have HM7 := hide qp
    have B7 : Hid (Below w.heap.size w w7) := BWX.out.trans (((Chg.refl (fun j => w.heap.size <= j) _).grown lu (fun j _ e => by simp only [Option.some.injEq] at e; have := HGM.out; omega)).below _ BWX.out.size (fun j hj e => by omega))
  all_goals
   clear qp lu
   have GRN := S.gr_next es cs k _ CK.out
   go_roundw
   case rel =>
    have hnow := NV.out
    have hwas := HWZ.out
    refine ⟨k + 1, by omega, by go_num, ?_, ?_, B7⟩
    ·rw [GRN]; simp [S.grStep, hnow, hwas, IntKind.wrap_i64, RowKit.wrap64]
    ·rw [GRN]; simp only [S.grStep, hnow]; exact HM7
   case measure => simp [intOf]; omega
 ·obtain rfl : k = n := by omega
  have e1 : cs.take k = cs := List.take_of_length_le (by have := HC.out.1; have := HN.out; omega)
  rw [e1] at HM ⊢
  go_wp2_with fail
  go_ret
  exact ⟨rfl, BW.out⟩
end Go.Proofs.YteealihknndclabGreatDoor
namespace Go.Proofs.YteealihknndclabGreatDoor
open Go.RowKit
theorem Els.at0 {w : World} {v : Value} {d : List KcV} (h : Els dN w v d) (hne : d ≠ []) : ∃ b off cap, v = .slice (some ⟨b, off, none⟩) d.length cap := by
 rcases h with ⟨rfl, rfl⟩ | ⟨a, cap, rfl, rfl⟩ | ⟨b, off, cap, rfl, _⟩
 ·exact absurd rfl hne
 ·exact absurd rfl hne
 ·exact ⟨b, off, cap, rfl⟩
theorem vC {w W : World} {d : List KcV} {d' : List ChV} {cs : List (UInt8 × S.Cg)} (hg : d.all KcV.good = true) (hc : jK w d cs) (ha : dL W d' (cs.map S.tr)) : d'.all ChV.good = true /\ ∀ x ∈ d', x.kn <= 1000 /\ x.vn <= 1000 := by
 have key : ∀ x ∈ d', 1 <= x.kn /\ x.kn <= 40 /\ x.vn <= 400 := fun x hx => by
  obtain ⟨i, hi, rfl⟩ := List.mem_iff_getElem.1 hx
  have hl : i < cs.length := by have := ha.1; rw [List.length_map] at this; omega
  have hd : i < d.length := by have := hc.1; omega
  have h1 := ha.2 i _ _ (List.getElem?_eq_getElem hi) (by rw [List.getElem?_map, List.getElem?_eq_getElem hl]; rfl)
  have h2 := hc.2 i _ _ (List.getElem?_eq_getElem hd) (List.getElem?_eq_getElem hl)
  have h3 : d[i].good = true := List.all_eq_true.1 hg _ (List.getElem_mem hd)
  simp [KcV.good] at h3
  obtain ⟨_, _, _, e1, l1, _⟩ := h1.key.form
  obtain ⟨_, _, _, e2, l2, _⟩ := h1.val.form
  obtain ⟨_, _, _, e3, l3, _⟩ := h2.key.form
  obtain ⟨_, _, _, e4, l4, _⟩ := h2.val.form
  simp only [Value.slice.injEq] at e1 e2 e3 e4
  have m1 := e1.2.1.trans l1
  have m2 := e2.2.1.trans l2
  have m3 := e3.2.1.trans l3
  have m4 := e4.2.1.trans l4
  simp [S.tr] at m1 m2
  omega
 refine ⟨List.all_eq_true.2 (fun x hx => ?_), fun x hx => ?_⟩
 ·have := key x hx
  simp [ChV.good]
  omega
 ·have := key x hx
  omega
theorem wm {w : World} {d : List KcV} {cs : List (UInt8 × S.Cg)} (hg : d.all KcV.good = true) (hc : jK w d cs) : ∀ c ∈ cs, c.2.key.length <= 1000000 := fun c hcm => by
 obtain ⟨i, hi, rfl⟩ := List.mem_iff_getElem.1 hcm
 have hd : i < d.length := by have := hc.1; omega
 have h2 := hc.2 i _ _ (List.getElem?_eq_getElem hd) (List.getElem?_eq_getElem hi)
 have h3 : d[i].good = true := List.all_eq_true.1 hg _ (List.getElem_mem hd)
 simp [KcV.good] at h3
 obtain ⟨_, _, _, e3, l3, _⟩ := h2.key.form
 simp only [Value.slice.injEq] at e3
 have m3 := e3.2.1.trans l3
 omega
set_option maxHeartbeats 16000000 in
set_option maxRecDepth 100000 in
theorem kvDo_full (w0 w : World) (o : Ow) (gk gt gs n : Nat) (bd : Int) (es : List S.Ent) (v : Value) (d : List KcV) (cs : List (UInt8 × S.Cg)) (h : KvO w0 w o gk gt gs n bd es) (hd : Els dN w v d) (hne : d ≠ []) (hl : d.length <= 19) (hg : d.all KcV.good = true) (hc : jK w d cs) (hzz : 0 < (S.gr es (cs.map S.tr)).2 /\ (S.gr es (cs.map S.tr)).2 <= 1000000 /\ bd < S.used es + (S.gr es (cs.map S.tr)).2) (hu : S.used es <= 1000000) :
  Calls Tryz.prog 7 #[.pointer (some ⟨gk, 0, none⟩), v] w fun e w' => e = .returned (.int .i64 26) /\ Below w.heap.size w w' := by
 obtain ⟨b, off, cap, rfl⟩ := hd.at0 hne
 have HB := hide h.1
 have HS := hide h.2.1
 have HNK := hide h.2.2
 have HD := hide hd
 have HG := hide hg
 have HC := hide hc
 have HNE := hide hne
 have HL := hide hl
 have HP : Hid ((d.all KcV.good && decide (d.length <= 80)) = true) := by show _ = true; simp [hg]; omega
 clear h hd hg hc hne hl
 go_enter Tryz.func7, Tryz.ntmps7
 go_wp2_with fail
 refine (iN _ d w HD.out).mono ?_
 rintro e w1 ⟨rfl, b1⟩
 rw [HP.out]
 have B1 := hide b1
 have HD1 : Hid (Els dN w1 (.slice (some ⟨b, off, none⟩) d.length cap) d) := HD.out.below b1
 have HC1 : Hid (jK w1 d cs) := ⟨HC.out.1, fun i x c hx hcx => by have q := HC.out.2 i x c hx hcx; exact ⟨q.sp, q.key.below b1 (lr _), q.val.below b1 (lr _), q.dr⟩⟩
 clear b1
 go_wp2_with fail
 refine (gP _ d cs w1 HD1.out HC1.out (by have := HL.out; omega) (wm HG.out HC.out)).mono ?_
 rintro e w2 ⟨g, d', rfl, hg2, hl2, hci, hca, b2⟩
 have C2 := hide hci
 have A2 := hide hca
 have L2 := hide hl2
 have B2 := hide (B1.out.trans (b2.mono B1.out.size))
 clear hg2 hl2 hci hca b2 HD1 HC1
 go_wp2_with fail
 obtain ⟨pg, hr, ht, hlf⟩ := (HB.out.then B2.out).rds
 have GD := hide (vC HG.out HC.out A2.out)
 have e0 := kD _ gk gs gt g 0 d.length bd pg es d' (cs.map S.tr) w2 hr hlf ht (HS.out.below B2.out) (C2.out.els L2.out) C2.out.lt (by have := L2.out; have := HL.out; omega) (by have := L2.out; omega) A2.out GD.out.2
 rw [L2.out] at e0
 refine e0.mono ?_
 clear e0 hr ht hlf
 rintro e w3 ⟨rfl, b3⟩
 have B3 := hide (B2.out.trans (b3.mono B2.out.size))
 have C3 := hide (C2.out.below b3)
 have A3 := hide (A2.out.below b3)
 have HS3 := hide (HS.out.below B3.out)
 clear b3 B2 C2 A2 B1
 obtain ⟨z, hz⟩ : ∃ z, z = (S.gr es (cs.map S.tr)).2 := ⟨_, rfl⟩
 rw [<- hz] at hzz ⊢
 have QZ : Hid ((0 : Int) < z) := hzz.1
 have QS : Hid (IntKind.i64.wrap ((S.used es : Int) + z) = (S.used es : Int) + z) := by show _ = _; rw [IntKind.wrap_i64]; omega
 have QF : Hid (bd < (S.used es : Int) + z) := hzz.2.2
 clear hzz hz hu
 go_upto_region 5 with fail
 refine wp_region_noPanic ?_
 refine wp_region_held_drew (S := (fun Z => oD Z gk gt bd)) follows HS3.out (fun hHeld => ?_)
 have B3d : Hid (Below w.heap.size w w3.drew) := B3.out.drew
 have C3d : Hid (lT w3.drew g d.length d') := C3.out
 have A3d : Hid (dL w3.drew d' (cs.map S.tr)) := A3.out.below ((Below.refl _ _).drew)
 clear B3 C3 A3 HS3
 generalize w3.drew = Z0 at B3d C3d A3d hHeld ⊢
 refine tq 0 ?_
 simp only [uA]
 refine tk 1 ?_ rfl (Or.inl ⟨by rfl, ?_⟩) ?_
 rotate_left
 ·intro w hSw
  have q := QZ.out
  clear hSw
  go_simp
  all_goals with_reducible rfl
 simp only [uA]
 refine tq 2 ?_
 simp only [uA]
 refine tq 3 ?_
 simp only [uA]
 refine tq 5 ?_
 simp only [uA]
 refine tq 7 ?_
 simp only [uA]
 refine tq 8 ?_
 simp only [uA]
 refine tq 9 ?_
 simp only [uA]
 refine tk 10 ?_ rfl (Or.inl ⟨by rfl, ?_⟩) ?_
 rotate_left
 ·intro w hSw
  obtain ⟨c0, c1⟩ := aK hSw
  clear hSw
  go_simp
  all_goals with_reducible rfl
 simp only [uA]
 refine r1 4 fun K hK => ?_
 go_simp
 obtain ⟨pg, hr, ht, hlf⟩ := (HB.out.then B3d.out).rds
 refine (mZ _ gk gs gt bd pg es Z0 hr hlf ht hHeld).mono ?_
 rintro e Z1 ⟨rfl, bz⟩
 have B4 := hide (B3d.out.trans (bz.mono B3d.out.size))
 have C4 := hide (C3d.out.below bz)
 have A4 := hide (A3d.out.below bz)
 have hk4 := hHeld.below bz
 clear hr ht hlf bz B3d C3d A3d hHeld
 refine hK.out _ _ hk4 (fun hHeld => ?_)
 clear hK K hk4
 try simp only [uA]
 refine tk 6 ?_ rfl (Or.inl ⟨by rfl, ?_⟩) ?_
 rotate_left
 ·intro w hSw
  have q := QS.out
  clear hSw
  go_simp
  all_goals with_reducible rfl
 simp only [uA]
 refine tk 11 ?_ rfl (Or.inl ⟨by rfl, ?_⟩) ?_
 rotate_left
 ·intro w hSw
  have q := QF.out
  clear hSw
  go_simp
  all_goals with_reducible rfl
 simp only [uA]
 refine tq 12 ?_
 simp only [uA]
 refine wpAnyH_done (by kernel_rfl) ?_ _
 refine NoPanic.normal ?_
 have K4 := hide hHeld
 clear hHeld
 go_wp2_with fail
 go_ret
 exact ⟨rfl, B4.out⟩
set_option maxHeartbeats 16000000 in
set_option maxRecDepth 100000 in
theorem Cc (w0 w : World) (o : Ow) (gk gt gs n : Nat) (bd : Int) (es : List S.Ent) (v : Value) (d : List KcV) (cs : List (UInt8 × S.Cg)) (h : KvO w0 w o gk gt gs n bd es) (hd : Els dN w v d) (hne : d ≠ []) (hl : d.length <= 19) (hg : d.all KcV.good = true) (hc : jK w d cs) (hzz : (S.gr es (cs.map S.tr)).2 <= 0) (hle : es.length <= 9000) (hmk : S.bC 0 (S.mrg es (S.lasts (cs.map S.tr)))) (hn : n + 2 < 18446744073709551616) :
  Calls Tryz.prog 7 #[.pointer (some ⟨gk, 0, none⟩), v] w fun e w' => e = .returned (.int .i64 0) /\ ∃ o', o'.g = o.g /\ KvO w0 w' o' gk gt gs (n + 2) bd (S.mrg es (S.lasts (cs.map S.tr))) /\ Chg o.has w w' /\ ∀ k, o'.has k -> o.has k \/ w.heap.size <= k := by
 have HM := hide (And.intro hle (And.intro hmk hn))
 clear hle hmk hn
 obtain ⟨b, off, cap, rfl⟩ := hd.at0 hne
 have HB := hide h.1
 have HS := hide h.2.1
 have HNK := hide h.2.2
 have HD := hide hd
 have HG := hide hg
 have HC := hide hc
 have HNE := hide hne
 have HL := hide hl
 have HP : Hid ((d.all KcV.good && decide (d.length <= 80)) = true) := by show _ = true; simp [hg]; omega
 clear h hd hg hc hne hl
 go_enter Tryz.func7, Tryz.ntmps7
 go_wp2_with fail
 refine (iN _ d w HD.out).mono ?_
 rintro e w1 ⟨rfl, b1⟩
 rw [HP.out]
 have B1 := hide b1
 have HD1 : Hid (Els dN w1 (.slice (some ⟨b, off, none⟩) d.length cap) d) := HD.out.below b1
 have HC1 : Hid (jK w1 d cs) := ⟨HC.out.1, fun i x c hx hcx => by have q := HC.out.2 i x c hx hcx; exact ⟨q.sp, q.key.below b1 (lr _), q.val.below b1 (lr _), q.dr⟩⟩
 clear b1
 go_wp2_with fail
 refine (gP _ d cs w1 HD1.out HC1.out (by have := HL.out; omega) (wm HG.out HC.out)).mono ?_
 rintro e w2 ⟨g, d', rfl, hg2, hl2, hci, hca, b2⟩
 have C2 := hide hci
 have A2 := hide hca
 have L2 := hide hl2
 have B2 := hide (B1.out.trans (b2.mono B1.out.size))
 clear hg2 hl2 hci hca b2 HD1 HC1
 go_wp2_with fail
 obtain ⟨pg, hr, ht, hlf⟩ := (HB.out.then B2.out).rds
 have GD := hide (vC HG.out HC.out A2.out)
 have e0 := kD _ gk gs gt g 0 d.length bd pg es d' (cs.map S.tr) w2 hr hlf ht (HS.out.below B2.out) (C2.out.els L2.out) C2.out.lt (by have := L2.out; have := HL.out; omega) (by have := L2.out; omega) A2.out GD.out.2
 rw [L2.out] at e0
 refine e0.mono ?_
 clear e0 hr ht hlf
 rintro e w3 ⟨rfl, b3⟩
 have B3 := hide (B2.out.trans (b3.mono B2.out.size))
 have C3 := hide (C2.out.below b3)
 have A3 := hide (A2.out.below b3)
 have HS3 := hide (HS.out.below B3.out)
 clear b3 B2 C2 A2 B1
 obtain ⟨z, hz⟩ : ∃ z, z = (S.gr es (cs.map S.tr)).2 := ⟨_, rfl⟩
 rw [<- hz] at hzz ⊢
 have QZ : Hid (decide ((0 : Int) < z) = false) := decide_eq_false (by omega)
 clear hzz hz
 go_upto_region 5 with fail
 refine wp_region_noPanic ?_
 refine wp_region_held_drew (S := (fun Z => oD Z gk gt bd)) follows HS3.out (fun hHeld => ?_)
 have B3d : Hid (Below w.heap.size w w3.drew) := B3.out.drew
 have C3d : Hid (lT w3.drew g d.length d') := C3.out
 have A3d : Hid (dL w3.drew d' (cs.map S.tr)) := A3.out.below ((Below.refl _ _).drew)
 clear B3 C3 A3 HS3
 generalize w3.drew = Z0 at B3d C3d A3d hHeld ⊢
 refine tq 0 ?_
 simp only [uA]
 refine tk 1 ?_ rfl (Or.inl ⟨by rfl, ?_⟩) ?_
 rotate_left
 ·intro w hSw
  have q := QZ.out
  clear hSw
  go_simp
  all_goals with_reducible rfl
 simp only [uA]
 refine tq 2 ?_
 simp only [uA]
 refine tk 3 undef rfl (Or.inr ⟨by rfl, rfl⟩) ?_
 simp only [uA]
 refine tk 4 undef rfl (Or.inr ⟨by rfl, rfl⟩) ?_
 simp only [uA]
 refine tk 5 undef rfl (Or.inr ⟨by rfl, rfl⟩) ?_
 simp only [uA]
 refine tk 6 undef rfl (Or.inr ⟨by rfl, rfl⟩) ?_
 simp only [uA]
 refine tk 7 undef rfl (Or.inr ⟨by rfl, rfl⟩) ?_
 simp only [uA]
 refine tk 8 undef rfl (Or.inr ⟨by rfl, rfl⟩) ?_
 simp only [uA]
 refine tk 9 undef rfl (Or.inr ⟨by rfl, rfl⟩) ?_
 simp only [uA]
 refine tk 10 undef rfl (Or.inr ⟨by rfl, rfl⟩) ?_
 simp only [uA]
 refine tk 11 undef rfl (Or.inr ⟨by rfl, rfl⟩) ?_
 simp only [uA]
 refine tq 12 ?_
 simp only [uA]
 refine wpAnyH_done (by kernel_rfl) ?_ _
 refine NoPanic.normal ?_
 have B4 := B3d
 have C4 := C3d
 have A4 := A3d
 have K4 := hide hHeld
 clear hHeld B3d C3d A3d
 obtain ⟨c0, c1⟩ := aK K4.out
 go_wp2_with fail
 have hdo := do_ok w0 o gt gs n g 0 d.length d' (cs.map S.tr) es Z0 (HB.out.then B4.out) (C4.out.els L2.out) (by intro e; have := L2.out; rw [e] at this; exact HNE.out (List.length_eq_zero_iff.1 this.symm)) (by have := L2.out; have := HL.out; omega) (by have := L2.out; omega) GD.out.1 A4.out HM.out.1 HM.out.2.1 HM.out.2.2
 rw [L2.out] at hdo
 refine hdo.mono ?_
 clear hdo c0 c1
 rintro e w5 ⟨rfl, o', ho', hbt, hch, hown⟩
 have R1 := hide (show KvO w0 w5 o' gk gt gs (n + 2) bd (S.mrg es (S.lasts (cs.map S.tr))) from ⟨hbt, hch.row K4.out HNK.out.1, fun e => by
  rcases hown gk e with e | e
  ·exact HNK.out.1 e
  ·have := aa HS.out; have := B4.out.size; omega, HNK.out.2⟩)
 have R2 := hide ((Chg.ofBelow' (p := o.has) B4.out).trans hch (fun _ _ e => e))
 have R3 : Hid (∀ k, o'.has k -> o.has k \/ w.heap.size <= k) := fun k hk => (hown k hk).imp_right (fun e => ltr B4.out.size e)
 have R0 := hide ho'
 clear hbt hch hown ho'
 go_wp2_with fail
 go_ret
 exact ⟨rfl, o', R0.out, R1.out, R2.out, R3.out⟩
set_option maxHeartbeats 16000000 in
set_option maxRecDepth 100000 in
theorem uJ (w0 w : World) (o : Ow) (gk gt gs n : Nat) (bd : Int) (es : List S.Ent) (v : Value) (d : List KcV) (cs : List (UInt8 × S.Cg)) (h : KvO w0 w o gk gt gs n bd es) (hd : Els dN w v d) (hne : d ≠ []) (hl : d.length <= 19) (hg : d.all KcV.good = true) (hc : jK w d cs) (hzz : 0 < (S.gr es (cs.map S.tr)).2 /\ (S.gr es (cs.map S.tr)).2 <= 1000000 /\ S.used es + (S.gr es (cs.map S.tr)).2 <= bd /\ S.used es <= 1000000) (hle : es.length <= 9000) (hmk : S.bC 0 (S.mrg es (S.lasts (cs.map S.tr)))) (hn : n + 2 < 18446744073709551616) :
  Calls Tryz.prog 7 #[.pointer (some ⟨gk, 0, none⟩), v] w fun e w' => e = .returned (.int .i64 0) /\ ∃ o', o'.g = o.g /\ KvO w0 w' o' gk gt gs (n + 2) bd (S.mrg es (S.lasts (cs.map S.tr))) /\ Chg o.has w w' /\ ∀ k, o'.has k -> o.has k \/ w.heap.size <= k := by
 have HM := hide (And.intro hle (And.intro hmk hn))
 clear hle hmk hn
 obtain ⟨b, off, cap, rfl⟩ := hd.at0 hne
 have HB := hide h.1
 have HS := hide h.2.1
 have HNK := hide h.2.2
 have HD := hide hd
 have HG := hide hg
 have HC := hide hc
 have HNE := hide hne
 have HL := hide hl
 have HP : Hid ((d.all KcV.good && decide (d.length <= 80)) = true) := by show _ = true; simp [hg]; omega
 clear h hd hg hc hne hl
 go_enter Tryz.func7, Tryz.ntmps7
 go_wp2_with fail
 refine (iN _ d w HD.out).mono ?_
 rintro e w1 ⟨rfl, b1⟩
 rw [HP.out]
 have B1 := hide b1
 have HD1 : Hid (Els dN w1 (.slice (some ⟨b, off, none⟩) d.length cap) d) := HD.out.below b1
 have HC1 : Hid (jK w1 d cs) := ⟨HC.out.1, fun i x c hx hcx => by have q := HC.out.2 i x c hx hcx; exact ⟨q.sp, q.key.below b1 (lr _), q.val.below b1 (lr _), q.dr⟩⟩
 clear b1
 go_wp2_with fail
 refine (gP _ d cs w1 HD1.out HC1.out (by have := HL.out; omega) (wm HG.out HC.out)).mono ?_
 rintro e w2 ⟨g, d', rfl, hg2, hl2, hci, hca, b2⟩
 have C2 := hide hci
 have A2 := hide hca
 have L2 := hide hl2
 have B2 := hide (B1.out.trans (b2.mono B1.out.size))
 clear hg2 hl2 hci hca b2 HD1 HC1
 go_wp2_with fail
 obtain ⟨pg, hr, ht, hlf⟩ := (HB.out.then B2.out).rds
 have GD := hide (vC HG.out HC.out A2.out)
 have e0 := kD _ gk gs gt g 0 d.length bd pg es d' (cs.map S.tr) w2 hr hlf ht (HS.out.below B2.out) (C2.out.els L2.out) C2.out.lt (by have := L2.out; have := HL.out; omega) (by have := L2.out; omega) A2.out GD.out.2
 rw [L2.out] at e0
 refine e0.mono ?_
 clear e0 hr ht hlf
 rintro e w3 ⟨rfl, b3⟩
 have B3 := hide (B2.out.trans (b3.mono B2.out.size))
 have C3 := hide (C2.out.below b3)
 have A3 := hide (A2.out.below b3)
 have HS3 := hide (HS.out.below B3.out)
 clear b3 B2 C2 A2 B1
 obtain ⟨z, hz⟩ : ∃ z, z = (S.gr es (cs.map S.tr)).2 := ⟨_, rfl⟩
 rw [<- hz] at hzz ⊢
 have QZ : Hid ((0 : Int) < z) := hzz.1
 have QS : Hid (IntKind.i64.wrap ((S.used es : Int) + z) = (S.used es : Int) + z) := by show _ = _; rw [IntKind.wrap_i64]; have := hzz.2.2.2; omega
 have QF : Hid (decide (bd < (S.used es : Int) + z) = false) := decide_eq_false (by omega)
 clear hzz hz
 go_upto_region 5 with fail
 refine wp_region_noPanic ?_
 refine wp_region_held_drew (S := (fun Z => oD Z gk gt bd)) follows HS3.out (fun hHeld => ?_)
 have B3d : Hid (Below w.heap.size w w3.drew) := B3.out.drew
 have C3d : Hid (lT w3.drew g d.length d') := C3.out
 have A3d : Hid (dL w3.drew d' (cs.map S.tr)) := A3.out.below ((Below.refl _ _).drew)
 clear B3 C3 A3 HS3
 generalize w3.drew = Z0 at B3d C3d A3d hHeld ⊢
 refine tq 0 ?_
 simp only [uA]
 refine tk 1 ?_ rfl (Or.inl ⟨by rfl, ?_⟩) ?_
 rotate_left
 ·intro w hSw
  have q := QZ.out
  clear hSw
  go_simp
  all_goals with_reducible rfl
 simp only [uA]
 refine tq 2 ?_
 simp only [uA]
 refine tq 3 ?_
 simp only [uA]
 refine tq 5 ?_
 simp only [uA]
 refine tq 7 ?_
 simp only [uA]
 refine tq 8 ?_
 simp only [uA]
 refine tq 9 ?_
 simp only [uA]
 refine tk 10 ?_ rfl (Or.inl ⟨by rfl, ?_⟩) ?_
 rotate_left
 ·intro w hSw
  obtain ⟨c0, c1⟩ := aK hSw
  clear hSw
  go_simp
  all_goals with_reducible rfl
 simp only [uA]
 refine r1 4 fun K hK => ?_
 go_simp
 obtain ⟨pg, hr, ht, hlf⟩ := (HB.out.then B3d.out).rds
 refine (mZ _ gk gs gt bd pg es Z0 hr hlf ht hHeld).mono ?_
 rintro e Z1 ⟨rfl, bz⟩
 have B4 := hide (B3d.out.trans (bz.mono B3d.out.size))
 have C4 := hide (C3d.out.below bz)
 have A4 := hide (A3d.out.below bz)
 have hk4 := hHeld.below bz
 clear hr ht hlf bz B3d C3d A3d hHeld
 refine hK.out _ _ hk4 (fun hHeld => ?_)
 clear hK K hk4
 try simp only [uA]
 refine tk 6 ?_ rfl (Or.inl ⟨by rfl, ?_⟩) ?_
 rotate_left
 ·intro w hSw
  have q := QS.out
  clear hSw
  go_simp
  all_goals with_reducible rfl
 simp only [uA]
 refine tk 11 ?_ rfl (Or.inl ⟨by rfl, ?_⟩) ?_
 rotate_left
 ·intro w hSw
  have q := QF.out
  clear hSw
  go_simp
  all_goals with_reducible rfl
 simp only [uA]
 refine tq 12 ?_
 simp only [uA]
 refine wpAnyH_done (by kernel_rfl) ?_ _
 refine NoPanic.normal ?_
 have K4 := hide hHeld
 clear hHeld
 obtain ⟨c0, c1⟩ := aK K4.out
 go_wp2_with fail
 have hdo := do_ok w0 o gt gs n g 0 d.length d' (cs.map S.tr) es Z1 (HB.out.then B4.out) (C4.out.els L2.out) (by intro e; have := L2.out; rw [e] at this; exact HNE.out (List.length_eq_zero_iff.1 this.symm)) (by have := L2.out; have := HL.out; omega) (by have := L2.out; omega) GD.out.1 A4.out HM.out.1 HM.out.2.1 HM.out.2.2
 rw [L2.out] at hdo
 refine hdo.mono ?_
 clear hdo c0 c1
 rintro e w5 ⟨rfl, o', ho', hbt, hch, hown⟩
 have R1 := hide (show KvO w0 w5 o' gk gt gs (n + 2) bd (S.mrg es (S.lasts (cs.map S.tr))) from ⟨hbt, hch.row K4.out HNK.out.1, fun e => by
  rcases hown gk e with e | e
  ·exact HNK.out.1 e
  ·have := aa HS.out; have := B4.out.size; omega, HNK.out.2⟩)
 have R2 := hide ((Chg.ofBelow' (p := o.has) B4.out).trans hch (fun _ _ e => e))
 have R3 : Hid (∀ k, o'.has k -> o.has k \/ w.heap.size <= k) := fun k hk => (hown k hk).imp_right (fun e => ltr B4.out.size e)
 have R0 := hide ho'
 clear hbt hch hown ho'
 go_wp2_with fail
 go_ret
 exact ⟨rfl, o', R0.out, R1.out, R2.out, R3.out⟩
open Go.Sort (insertionSort insOuter)
namespace S
theorem l6 (c : Cg) : lasts [c] = [c] := by
 unfold lasts
 have h : srt [c] = [c] := by
  unfold srt insertionSort
  rw [insOuter]
  simp
 rw [h]
 rfl
theorem nI (a b : List Ent) : used (a ++ b) = used a + used b := by
 induction a with
 | nil => simp [used]
 | cons x a ih => simp only [List.cons_append, used, ih]; omega
theorem qL (es : List Ent) (c : Cg) : mrg es [c] = es.take (rank (es.map (·.key)) c.key) ++ ((if c.dr then [] else [⟨c.key, c.val, 0⟩]) ++ es.drop (rank (es.map (·.key)) c.key + if c.key ∈ es.map (·.key) then 1 else 0)) := by
 simp only [mrg]
theorem part (k : List UInt8) : ∀ (es : List Ent), up (es.map (·.key)) -> ∃ A B, es = A ++ B /\ rank (es.map (·.key)) k = A.length /\ (∀ x ∈ A, bU x.key k < 0) /\ ((k ∈ es.map (·.key) /\ ∃ x C, B = x :: C /\ x.key = k /\ ∀ y ∈ C, bU k y.key < 0) \/ (¬ k ∈ es.map (·.key) /\ ∀ y ∈ B, bU k y.key < 0))
 | [], _ => ⟨[], [], rfl, rfl, fun x h => by simp at h, Or.inr ⟨by simp, fun y h => by simp at h⟩⟩
 | e :: es, h => by
  have hp := List.pairwise_cons.1 h
  have Ak : bU k e.key <= 0 -> ∀ y ∈ es, bU k y.key < 0 := fun h0 y hy => by
   have h1 : bU e.key y.key < 0 := hp.1 y.key (List.mem_map_of_mem hy)
   by_cases e0 : bU k e.key = 0
   ·rw [wo e0]; exact h1
   ·exact ng (by omega) h1
  have rk0 : bU k e.key <= 0 -> rank ((e :: es).map (·.key)) k = 0 := fun h0 => by
   unfold rank
   rw [List.countP_eq_zero]
   intro a ha
   rw [List.map_cons, List.mem_cons] at ha
   have : ¬ bU a k < 0 := by
    rcases ha with rfl | ha
    ·have := mh e.key k; omega
    ·obtain ⟨y, hy, rfl⟩ := List.mem_map.1 ha
     have h2 := Ak h0 y hy
     have := mh k y.key
     omega
   simpa using this
  rcases Int.lt_trichotomy (bU e.key k) 0 with h1 | h1 | h1
  ·obtain ⟨A, B, e1, e2, e3, e4⟩ := part k es hp.2
   have hne : ¬ k = e.key := fun c => by rw [<- c, bY] at h1; omega
   refine ⟨e :: A, B, by rw [e1]; rfl, ?_, fun x hx => ?_, ?_⟩
   ·have : rank ((e :: es).map (·.key)) k = rank (es.map (·.key)) k + 1 := by
     unfold rank
     rw [List.map_cons, List.countP_cons_of_pos (by simpa using h1)]
    rw [this, e2]; rfl
   ·rcases List.mem_cons.1 hx with rfl | hx
    ·exact h1
    ·exact e3 x hx
   ·rcases e4 with ⟨e5, e6⟩ | ⟨e5, e6⟩
    ·exact Or.inl ⟨by rw [List.map_cons]; exact List.mem_cons_of_mem _ e5, e6⟩
    ·refine Or.inr ⟨fun c => ?_, e6⟩
     rw [List.map_cons, List.mem_cons] at c
     rcases c with c | c
     ·exact hne c
     ·exact e5 c
  ·have ek := wo h1
   refine ⟨[], e :: es, rfl, rk0 (by rw [<- ek, bY]; omega), fun x hx => by simp at hx, Or.inl ⟨by rw [List.map_cons, ek]; exact List.mem_cons_self, e, es, rfl, ek, Ak (by rw [<- ek, bY]; omega)⟩⟩
  ·have h2 : bU k e.key < 0 := by have := mh k e.key; omega
   refine ⟨[], e :: es, rfl, rk0 (by omega), fun x hx => by simp at hx, Or.inr ⟨fun c => ?_, fun y hy => ?_⟩⟩
   ·rw [List.map_cons, List.mem_cons] at c
    rcases c with c | c
    ·rw [c, bY] at h2; omega
    ·obtain ⟨y, hy, ey⟩ := List.mem_map.1 c
     have := Ak (by omega) y hy
     rw [ey, bY] at this; omega
   ·rcases List.mem_cons.1 hy with rfl | hy
    ·exact h2
    ·exact Ak (by omega) y hy
theorem uH {es : List Ent} (h : up (es.map (·.key))) (c : Cg) : ∃ A X C, es = A ++ (X ++ C) /\ mrg es [c] = A ++ ((if c.dr then [] else [⟨c.key, c.val, 0⟩]) ++ C) /\ (∀ x ∈ A, bU x.key c.key < 0) /\ (∀ y ∈ C, bU c.key y.key < 0) /\ used X = szOf es c.key /\ (∀ x ∈ X, x.key = c.key) /\ X.length <= 1 := by
 obtain ⟨A, B, e1, e2, e3, e4⟩ := part c.key es h
 have hA : ∀ x ∈ A, ¬ x.key = c.key := fun x hx c2 => by have := e3 x hx; rw [c2, bY] at this; omega
 rcases e4 with ⟨e5, x, C, rfl, ex, e7⟩ | ⟨e5, e7⟩
 ·refine ⟨A, [x], C, e1, ?_, e3, e7, ?_, by simpa using ex, by simp⟩
  ·rw [qL, e2, if_pos e5, e1, List.take_left, show A.length + 1 = (A ++ [x]).length by simp, show A ++ x :: C = (A ++ [x]) ++ C by simp, List.drop_left]
  ·unfold szOf
   rw [e1, List.find?_append, List.find?_eq_none.2 (fun y hy => by simpa using hA y hy), Option.none_or, List.find?_cons_of_pos (by simpa using ex)]
   simp [used, ex]
 ·refine ⟨A, [], B, e1, ?_, e3, e7, ?_, fun x hx => by simp at hx, by simp⟩
  ·rw [qL, e2, if_neg e5, e1, List.take_left, Nat.add_zero, List.drop_left]
  ·unfold szOf
   rw [List.find?_eq_none.2 (fun y hy => by
    have : ¬ y.key = c.key := fun e => e5 (by rw [<- e]; exact List.mem_map_of_mem hy)
    simpa using this)]
   rfl
theorem DI {es : List Ent} (h : up (es.map (·.key))) (c : Cg) : used (mrg es [c]) + szOf es c.key = used es + now c := by
 obtain ⟨A, X, C, e1, e2, _, _, e3, _⟩ := uH h c
 rw [e2, <- e3, e1, nI, nI, nI, nI]
 unfold now
 split <;> simp [used] <;> omega
theorem EO {es : List Ent} (h : bC 0 es) (c : Cg) (h1 : c.key ≠ []) (h2 : c.key.length <= 40) (h3 : c.val.length <= 400) (h4 : used (mrg es [c]) + 4 * (es.length + 1) <= 1019) : bC 0 (mrg es [c]) /\ (mrg es [c]).length <= es.length + 1 /\ ∀ x ∈ mrg es [c], x ∈ es /\ x.key ≠ c.key \/ c.dr = false /\ x.key = c.key := by
 obtain ⟨A, X, C, e1, e2, hA, hC, _, hX, _⟩ := uH h.up c
 have hlen : (mrg es [c]).length <= es.length + 1 := by
  rw [e2, e1]
  simp only [List.length_append]
  split <;> simp <;> omega
 have hmem : ∀ x ∈ mrg es [c], x ∈ es /\ x.key ≠ c.key \/ c.dr = false /\ x = ⟨c.key, c.val, 0⟩ := fun x hx => by
  rw [e2, List.mem_append, List.mem_append] at hx
  rcases hx with hx | hx | hx
  ·exact Or.inl ⟨by rw [e1]; simp [hx], fun e => by have := hA x hx; rw [e, bY] at this; omega⟩
  ·by_cases hd : c.dr = true
   ·rw [if_pos hd] at hx; simp at hx
   ·rw [if_neg hd] at hx
    exact Or.inr ⟨by simpa using hd, by simpa using hx⟩
  ·exact Or.inl ⟨by rw [e1]; simp [hx], fun e => by have := hC x hx; rw [e, bY] at this; omega⟩
 have hes : ∀ l : List Ent, fI l = used l + 4 * l.length := fun l => by
  induction l with
  | nil => rfl
  | cons x l ih =>
   have : fI (x :: l) = esz x + fI l := by simp [fI]
   rw [this, ih]
   simp only [used, esz, List.length_cons]
   omega
 refine ⟨⟨fun x hx => ?_, ?_, by omega, ?_, fun _ x hx => ?_, fun e => absurd rfl e⟩, hlen, fun x hx => ?_⟩
 ·rcases hmem x hx with h5 | ⟨_, rfl⟩
  ·exact h.ent x h5.1
  ·exact ⟨h2, h3, by show (0 : Nat) < 65536; omega, by rw [if_pos rfl]⟩
 ·have hu := h.up
  unfold up at hu ⊢
  rw [e1, List.map_append, List.map_append, List.pairwise_append, List.pairwise_append] at hu
  obtain ⟨u1, ⟨_, u3, _⟩, u5⟩ := hu
  rw [e2, List.map_append, List.map_append, List.pairwise_append, List.pairwise_append]
  refine ⟨u1, ⟨?_, u3, ?_⟩, ?_⟩
  ·split <;> simp
  ·intro a ha b hb
   split at ha
   ·simp at ha
   ·simp at ha
    subst ha
    obtain ⟨y, hy, rfl⟩ := List.mem_map.1 hb
    exact hC y hy
  ·intro a ha b hb
   obtain ⟨x, hx, rfl⟩ := List.mem_map.1 ha
   rw [List.mem_append] at hb
   rcases hb with hb | hb
   ·split at hb
    ·simp at hb
    ·simp at hb
     subst hb
     exact hA x hx
   ·exact u5 _ ha b (by rw [List.mem_append]; exact Or.inr hb)
 ·rw [hes]; omega
 ·rcases hmem x hx with h5 | ⟨_, rfl⟩
  ·exact h.leaf rfl x h5.1
  ·exact h1
 ·rcases hmem x hx with h5 | ⟨h5, rfl⟩
  ·exact Or.inl h5
  ·exact Or.inr ⟨h5, rfl⟩
theorem gr_one (es : List Ent) (c : Cg) (h1 : now c <= 1000000) (h2 : szOf es c.key <= 1000000) : (gr es [c]).2 = (now c : Int) - (szOf es c.key : Int) := by
 have hw : S.was es (.map []) c = (szOf es c.key : Int) := by unfold was; rfl
 simp only [gr, List.foldl_cons, List.foldl_nil, grStep]
 rw [hw, IntKind.wrap_i64, IntKind.wrap_i64]
 omega
end S
end Go.Proofs.YteealihknndclabGreatDoor
namespace Go.Proofs.YteealihknndclabGreatDoor
open Go.RowKit
attribute [local go_sem] Oper.semAt_some
theorem KvO.leaf {w0 w : World} {o : Ow} {gk gt gs n : Nat} {b : Int} {es : List S.Ent} (h : KvO w0 w o gk gt gs n b es) : S.bC 0 es := by
 obtain ⟨pg, _, _, h⟩ := h.1.rds
 exact h.ok
theorem KvO.below {w0 w : World} {o : Ow} {gk gt gs n : Nat} {b : Int} {es : List S.Ent} (h : KvO w0 w o gk gt gs n b es) : Below w0.heap.size w0 w := h.1.below
theorem Ar {w : World} {x : KcV} {c : UInt8 × S.Cg} (h : qH w x c) : jK w [x] [c] := ⟨rfl, fun i y d hy hd => by
 match i, hy, hd with
 | 0, hy, hd => cases hy; cases hd; exact h⟩
theorem SliceAt.len_eq {w : World} {a : Option Addr} {n c : Nat} {bs : List UInt8} (h : SliceAt w (.slice a n c) bs) : bs.length = n := by
 rcases h with ⟨h, rfl⟩ | ⟨_, _, h, _, rfl⟩ | ⟨_, _, _, h, _⟩
 ·injection h with _ h _; exact h.symm
 ·injection h with _ h _; exact h.symm
 ·injection h with _ h _; exact h.symm
theorem wQ : ∀ (es : List S.Ent) (x : S.Ent), x ∈ es -> x.key.length + x.val.length <= S.used es
 | [], x, h => by simp at h
 | y :: es, x, h => by
  rcases List.mem_cons.1 h with rfl | h
  ·simp only [S.used]; omega
  ·have := wQ es x h
   simp only [S.used]; omega
theorem szOf_le (es : List S.Ent) (k : List UInt8) : S.szOf es k <= S.used es := by
 unfold S.szOf
 cases h : es.find? (fun x => decide (x.key = k)) with
 | none => exact Nat.zero_le _
 | some x => exact wQ es x (List.mem_of_find?_eq_some h)
end Go.Proofs.YteealihknndclabGreatDoor
