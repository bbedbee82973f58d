/- Package kv: how much of the bound is taken. -/
import Derived.Test.YteealihknndclaaGreatDoorBw
import Derived.Test.YteealihknndclaaGreatDoorRf
import Derived.Maps.Own
import Derived.Maps.OwnSet
namespace Go.Proofs.YteealihknndclaaGreatDoor
open Go.RowKit Go.Shelf
attribute [local go_sem] Oper.semAt_some
def S.used : List S.Ent -> Nat
 | [] => 0
 | e :: es => (e.key.length + e.val.length) + S.used es
theorem S.used_take (es : List S.Ent) (k : Nat) (e : S.Ent) (h : es[k]? = some e) : S.used (es.take (k + 1)) = S.used (es.take k) + (e.key.length + e.val.length) := by
 induction es generalizing k with
 | nil => simp at h
 | cons x es ih =>
  cases k with
  | zero => simp at h; subst h; simp [S.used]
  | succ k => simp at h; simp [S.used, ih k h]; omega
theorem S.used_le (es : List S.Ent) (h : ∀ e ∈ es, e.key.length <= 40 /\ e.val.length <= 400) : S.used es <= 440 * es.length := by
 induction es with
 | nil => simp [S.used]
 | cons x es ih =>
  have h1 := h x (by simp)
  have h2 := ih (fun e he => h e (by simp [he]))
  simp [S.used]
  omega
set_option maxHeartbeats 16000000 in
set_option maxRecDepth 100000 in
theorem jk (B gk gs gt : Nat) (b : Int) (pg : Nat -> List UInt8) (es : List S.Ent) (w : World) (hr : Rds B w gs pg) (hl : S.rO pg es) (ht : lD w gt gs) (hs : oN w gk gt b) :
  Calls Tryz.prog 31 #[.pointer (some ⟨gk, 0, none⟩)] w fun e w' => e = .returned (.int .i64 (S.used es : Int)) /\ Below w.heap.size w w' := by
 have HR := hide hr
 have HL := hide hl
 have HT := hide ht
 have HS := hide hs
 have HUL : Hid (∀ k, S.used (es.take k) <= 200000) := fun k => by
  have h1 := S.used_le (es.take k) (fun e he => ⟨(hl.ok.ent e (List.mem_of_mem_take he)).key, (hl.ok.ent e (List.mem_of_mem_take he)).val⟩)
  have h2 := hl.ok.len
  have h3 : (es.take k).length <= es.length := List.length_take_le' k es
  omega
 clear hr hl ht hs
 refine (callsIn_wide (n := 3)).1 ?_
 refine callsIn_of_wp_marks Tryz.func31 rfl trivial ?_ rfl
 refine wpIn_wide.2 ?_
 simp only [Tryz.ntmps31, List.size_toArray, List.length_cons, List.length_nil, Nat.reduceAdd, Nat.reduceSub, Array.replicate_succ, Array.replicate_zero, List.push_toArray, List.append_toArray, List.nil_append, List.cons_append]
 go_upto_region 2 with fail
 generalize hW0 : w.alloc _ = W0
 have b0 : Below w.heap.size w W0 := by rw [<- hW0]; exact ba ..
 have r0 : W0.heap[w.heap.size]? = some (.cells #[.int .i64 0] 3 (0, 0)) := by rw [<- hW0]; exact heap_alloc_new _ _
 obtain ⟨gn, hgn⟩ : ∃ g, g = w.heap.size := ⟨_, rfl⟩
 rw [<- hgn] at r0 ⊢
 have HG : Hid (w.heap.size <= gn) := Nat.le_of_eq hgn.symm
 have B0 := hide b0
 have R0 := hide r0
 obtain ⟨c0, c1⟩ := cells2 (HS.out.below b0)
 clear hW0 b0 r0 hgn
 go_wp2_with fail
 refine (zO gt W0).mono ?_
 rintro e W4 ⟨g3, g4, g5, rfl, hsq, l3, l4, l5⟩
 have BW := hide (B0.out.trans (hsq.1.mono B0.out.size))
 have NN := hide ((hsq.1.block _ (ae R0.out)).trans R0.out)
 have G5 : Hid (g5 ≠ gn) := by have := ae R0.out; show g5 ≠ gn; omega
 have HSEQ := hide (zN 1 B gs gt g4 g5 g3 pg es (fun k => k = gn) W4 (HR.out.below BW.out) HL.out ((BW.out.block _ (ae HT.out)).trans HT.out) hsq.2.2.1 hsq.2.2.2 hsq.2.1 (fun k hk => by rw [hk]; exact ae NN.out) G5.out)
 clear hsq l3 l4 l5 c0 c1 HR HT HS R0 B0
 go_wp2_with fail
 refine zW (fun T hT => ?_)
 have HTT := hide hT
 clear hT
 refine (wpIn_wide (n := 2)).1 (rQ (n := 2) (w0 := W4) (gf := 51) (lb := #[.pointer (some ⟨g4, 0, none⟩), .pointer (some ⟨g5, 0, none⟩), .pointer (some ⟨g3, 0, none⟩)]) (by rw [HTT.out]; rfl) (enters_of Tryz.func51 (by kernel_rfl) rfl) HSEQ.out (Below.refl _ _) (fun _ => rfl) (fun k hk => by rw [hk]; exact ae NN.out)
  (fun pre V => V.heap[gn]? = some (.cells #[.int .i64 (S.used (es.take pre.length) : Int)] 3 (0, 0)) /\ Chg (fun k => k = gn) W4 V) (fun _ _ _ => False)
  (fun s A V h hb => ⟨(hb.block _ (ae h.1)).trans h.1, h.2.trans (q := fun _ => False) (Chg.ofBelow' hb) (fun _ _ e => e.elim)⟩) (fun c s A V h hb => h) (fun s A l o o' h hl ho hc => ⟨nH h.1 ho hc, h.2.putObj hl⟩) (fun c s A l o o' h hl ho hc => h) (fun pre => lF.bare _ _ es pre) (fun pre s A V h hb => lF.grows _ es pre s h hb) ⟨NN.out, Chg.refl _ _⟩
  (fun x a' V => ∃ gx, V.heap[gx]? = some (.cells #[.slice x.ka x.kn x.kc, .slice x.va x.vn x.vc] 46 (0, 0)) /\ a' = { tmps := (T.setIfInBounds 10 (.agg #[.slice x.ka x.kn x.kc, .slice x.va x.vn x.vc])).setIfInBounds 4 (.pointer (some ⟨gx, 0, none⟩)), defers := [] })
  (fun x s A l o o' h hl ho hc => by obtain ⟨gx, h1, h2⟩ := h; exact ⟨gx, nH h1 ho hc, h2⟩) ?assign ?body ?done ?stop)
 case assign =>
  rintro l pre x V K ⟨hI1, hI2⟩ hp hK
  obtain ⟨ka, kn, kc, va, vn, vc', px, nd⟩ := x
  have hT2 : ∀ (T : Array Value), ((#[10] : Array Tmp).zip (zi ⟨ka, kn, kc, va, vn, vc', px, nd⟩)).foldl (fun t (p, v) => t.setIfInBounds p v) T = T.setIfInBounds 10 (.agg #[.slice ka kn kc, .slice va vn vc']) := fun T => by simp [zi]
  rw [hT2]
  have hK2 := hK _ (V.alloc (.cells #[.slice ka kn kc, .slice va vn vc'] 46 (0, 0))) ((Below.refl _ V).alloc (lr _) _) ⟨V.heap.size, heap_alloc_new _ _, rfl⟩
  clear hK hT2 hp hI1 hI2
  have HK2 := hide hK2
  clear hK2
  have hT := HTT.out
  subst hT
  simp only [List.setIfInBounds_toArray, List.set_cons_zero, List.set_cons_succ] at HK2 ⊢
  gi_wp2
  exact HK2.out
 case body =>
  rintro l pre x a' V ⟨hI1, hI2⟩ ⟨en, hen, hnew⟩ ⟨gx, hgx, rfl⟩
  obtain ⟨ka, kn, kc, va, vn, vc', px, nd⟩ := x
  have eok := HL.out.ok.ent en (List.mem_of_getElem? hen)
  have his := hnew.is (by have := eok.key; omega) (by have := eok.val; omega)
  have UT := hide (S.used_take es _ en hen)
  obtain ⟨m, hm⟩ : ∃ m, m = S.used (es.take pre.length) := ⟨_, rfl⟩
  rw [<- hm] at hI1
  have HM := hide hm
  have NK : Hid (kn = en.key.length /\ vn = en.val.length /\ kn <= 40 /\ vn <= 400) := by
   obtain ⟨q, e1, e2, e3, e4, e5⟩ := hnew.key
   simp only at e2
   have h1 := eok.key
   have h2 := eok.val
   rcases hnew.val with ⟨f1, f2, f3, f4⟩ | ⟨q', f1, f2, f3, f4, f5, _⟩
   ·simp only at f2
    refine ⟨e2, by rw [f2, f4]; rfl, by omega, by omega⟩
   ·simp only at f2
    exact ⟨e2, f2, by omega, by omega⟩
  have NX : Hid (gx ≠ gn) := fun e => by rw [e, hI1] at hgx; cases hgx
  have HI1 := hide hI1
  have HI2 := hide hI2
  have HX := hide hgx
  have QS : Hid (IntKind.i64.wrap ((m : Int) + ((kn : Int) + (vn : Int))) = ((m + (kn + vn) : Nat) : Int)) := by
   have h1 := HUL.out pre.length
   have h2 := HM.out
   have h3 := NK.out
   show IntKind.i64.wrap _ = _
   rw [IntKind.wrap_i64]; omega
  clear hI1 hI2 hen hnew hgx eok his hm
  have hT := HTT.out
  subst hT
  simp only [List.setIfInBounds_toArray, List.set_cons_zero, List.set_cons_succ]
  gi_wp2
  refine wpIn_region_any (by kernel_rfl) (wm (fun h => by obtain ⟨_, _, h⟩ := h; exact h) (Co (by kernel_rfl)) _ _ _ _ (wpAny_of_held (S := fun Z => Z.heap[gx]? = some (.cells #[.slice ka kn kc, .slice va vn vc'] 46 (0, 0))) _ _ _ _ ?_))
  have hHeld : V.drew.heap[gx]? = some (.cells #[.slice ka kn kc, .slice va vn vc'] 46 (0, 0)) := HX.out
  have GN : Hid (V.drew.heap[gn]? = some (.cells #[.int .i64 (m : Int)] 3 (0, 0))) := HI1.out
  have CD : Hid (Chg (fun k => k = gn) W4 V.drew /\ Chg (fun k => k = gn) V V.drew) := ⟨HI2.out.drew, (Chg.refl _ _).drew⟩
  clear HI1 HX HI2
  show wpAnyH _ _ _ _ _ _ _ _ V.drew
  generalize V.drew = Z0 at hHeld CD GN ⊢
  refine tq 1 ?_
  simp only [uA]
  refine tk 2 ?_ rfl (Or.inl ⟨by rfl, ?_⟩) ?_
  rotate_left
  ·intro w hSw
   have c0 := (cells2 hSw).1
   clear hSw
   go_simp
   all_goals with_reducible rfl
  simp only [uA]
  refine tq 3 ?_
  simp only [uA]
  refine tk 4 ?_ rfl (Or.inl ⟨by rfl, ?_⟩) ?_
  rotate_left
  ·intro w hSw
   have c0 := (cells2 hSw).2
   clear hSw
   go_simp
   all_goals with_reducible rfl
  simp only [uA]
  have hld : (Instr.loadAt 3 (.pointer (some ⟨gn, 0, none⟩))).run Tryz.prog Z0 = .ok (.int .i64 (m : Int)) Z0 := by
   have c0 := gF GN.out
   go_simp
  have HLD := hide hld
  clear hld
  refine rdy [0, 5] ?_
  refine aT (o := ⟨_, _, _, _, _, _⟩) rfl rfl 3 (.tmp 3) rfl (.int .i64 (m : Int)) HLD.out ?_ ⟨hHeld, fun hHeld => ?_⟩
  rotate_left
  ·simp only [uA]
   refine r1 5 fun K hK => ?_
   go_simp
   refine (jl ka va kn vn kc vc' (by have := NK.out; omega) (by have := NK.out; omega) Z0).mono ?_
   rintro e Z1 ⟨rfl, rfl⟩
   refine hK.out _ _ hHeld (fun hHeld => ?_)
   clear hK K
   try simp only [uA]
   refine tq 6 ?_
   simp only [uA]
   refine rdy [7] ?_
   have hst : (Instr.storeAt 3 (.pointer (some ⟨gn, 0, none⟩)) (.int .i64 (IntKind.i64.wrap ((m : Int) + ((kn : Int) + (vn : Int)))))).run Tryz.prog Z1 = .ok () (Z1.setCell ⟨gn, 0, none⟩ (.int .i64 (IntKind.i64.wrap ((m : Int) + ((kn : Int) + (vn : Int)))))) := by
    have c0 := gF GN.out
    have fz := frozen_of_row _ gn 0 _ _ GN.out
    go_simp
   refine eQ (o := ⟨_, _, _, _, _, _⟩) rfl rfl 3 (.tmp 3) (.tmp 17) rfl _ hst AllReadyH.nil ⟨(heap_setCell_other Z1 ⟨gn, 0, none⟩ gx _ NX.out).trans hHeld, fun hHeld => ?_⟩
   simp only [Act.put]
   refine wpAnyH_done (by kernel_rfl) ?_ _
   have UE : S.used (es.take (pre.length + 1)) = m + (kn + vn) := by have h1 := UT.out; have h2 := HM.out; have h3 := NK.out; omega
   gi_wp2
   refine ⟨CD.out.2.setCell gn 0 _ (fun _ => rfl), ?_, CD.out.1.setCell gn 0 _ (fun _ => rfl)⟩
   rw [List.length_append, show ([_] : List EnV).length = 1 from rfl, UE, <- QS.out]
   exact one_setCell GN.out
  refine c1 fun K hK => ?_
  go_simp
  refine (jl ka va kn vn kc vc' (by have := NK.out; omega) (by have := NK.out; omega) Z0).mono ?_
  rintro e Z1 ⟨rfl, rfl⟩
  refine hK.out _ _ hHeld (fun hHeld => ?_)
  clear hK K
  try simp only [uA]
  refine rdy [0] ?_
  refine aT (o := ⟨_, _, _, _, _, _⟩) rfl rfl 3 (.tmp 3) rfl (.int .i64 (m : Int)) HLD.out AllReadyH.nil ⟨hHeld, fun hHeld => ?_⟩
  simp only [uA]
  refine tq 6 ?_
  simp only [uA]
  refine rdy [7] ?_
  have hst : (Instr.storeAt 3 (.pointer (some ⟨gn, 0, none⟩)) (.int .i64 (IntKind.i64.wrap ((m : Int) + ((kn : Int) + (vn : Int)))))).run Tryz.prog Z1 = .ok () (Z1.setCell ⟨gn, 0, none⟩ (.int .i64 (IntKind.i64.wrap ((m : Int) + ((kn : Int) + (vn : Int)))))) := by
   have c0 := gF GN.out
   have fz := frozen_of_row _ gn 0 _ _ GN.out
   go_simp
  refine eQ (o := ⟨_, _, _, _, _, _⟩) rfl rfl 3 (.tmp 3) (.tmp 17) rfl _ hst AllReadyH.nil ⟨(heap_setCell_other Z1 ⟨gn, 0, none⟩ gx _ NX.out).trans hHeld, fun hHeld => ?_⟩
  simp only [Act.put]
  refine wpAnyH_done (by kernel_rfl) ?_ _
  have UE : S.used (es.take (pre.length + 1)) = m + (kn + vn) := by have h1 := UT.out; have h2 := HM.out; have h3 := NK.out; omega
  gi_wp2
  refine ⟨CD.out.2.setCell gn 0 _ (fun _ => rfl), ?_, CD.out.1.setCell gn 0 _ (fun _ => rfl)⟩
  rw [List.length_append, show ([_] : List EnV).length = 1 from rfl, UE, <- QS.out]
  exact one_setCell GN.out
 case done =>
  rintro D xs V hD hxs ⟨hI1, hI2⟩ hKD
  rw [hxs, List.take_length] at hI1
  have c0 := gF hI1
  have KD := hide hKD
  have BV := hide (BW.out.trans (hI2.below w.heap.size BW.out.size (fun k hk e => by have := HG.out; omega)))
  have HD := hide (show w.heap.size <= D from ltr BW.out.size hD)
  clear hI1 hI2 hKD hxs hD
  have hT := HTT.out
  subst hT
  go_wp2_with fail
  refine ⟨by simp, .inl ⟨_, _, rfl, run_takeDeferred KD.out, ?_⟩⟩
  exact ⟨.int .i64 (S.used es : Int), (results_tmp (t := 2) (fn := Tryz.f31) rfl _ _ _).trans (by simp), rfl, uZ BV.out HD.out⟩
 case stop =>
  rintro D c pre V _ _ h _
  exact h.elim
end Go.Proofs.YteealihknndclaaGreatDoor
namespace Go.Proofs.YteealihknndclaaGreatDoor
open Go.RowKit
theorem AQ (x : KcV) : ∀ v ∈ dD x, v.oneCell' = true := by
 intro v hv
 simp [dD] at hv
 rcases hv with rfl | rfl | rfl | rfl <;> rfl
theorem yJ : (Tryz.prog.info? 67).map (·.size) = some 4 := by kernel_rfl
theorem store67 {w : World} {g : Nat} {c0 : Array Value} (a : w.heap[g]? = some (.cells c0 67 (0, 0))) (h0 : c0.size = 4) (x : KcV) :
  ∃ w', (Instr.storeAt 67 (.pointer (some ⟨g, 0, none⟩)) (.agg (dD x).toArray)).run Tryz.prog w = .ok () w' /\ w'.heap[g]? = some (.cells (dD x).toArray 67 (0, 0)) /\ Chg (fun k => k = g) w w' := by
 have h1 : (dD x).toArray.all (·.oneCell') = true := all_oneCell_toArray (AQ x)
 have hr := run_storeVar_row (P := Tryz.prog) w g 67 67 _ (dD x).toArray a (by rw [yJ, List.size_toArray, lU]) (by exact h0) h1
 refine ⟨w.setRow g (dD x).toArray, ?_, setRow_heap w g _ _ _ _ a, Chg.setRow (p := fun k => k = g) g _ rfl⟩
 simp only [Instr.storeAt, Instr.sureAddr, Sem.run_bind, Sem.run_pure, Result.andThen_ok, hr]
theorem var67 {w : World} {g : Nat} {x : KcV} (h : w.heap[g]? = some (.cells (dD x).toArray 67 (0, 0))) : (loadVar 67 ⟨g, 0, none⟩).run Tryz.prog w = .ok (.agg (dD x).toArray) w :=
 run_loadVar_row w g 67 67 _ (0, 0) _ h Tryz.underlying67 rfl (by rw [yJ, List.size_toArray, lU])
set_option maxHeartbeats 8000000 in
set_option maxRecDepth 10000 in
theorem fw (a b : List UInt8) (ha : a.length <= 1000000) (hb : b.length <= 1000000) (s : UInt8) (A B : ByteArray) (hA : A = ⟨a.toArray⟩) (hB : B = ⟨b.toArray⟩) (w : World) :
  Calls Tryz.prog 29 #[.int .u8 (s.toNat : Int), .string A, .string B] w fun e w' => ∃ x : KcV, e = .returned (.agg (dD x).toArray) /\ yj w' x (s, ⟨a, b, false⟩) /\ x.kn = a.length /\ x.vn = b.length /\ Below w.heap.size w w' := by
 go_enter Tryz.func29, Tryz.ntmps29
 go_upto_region 1 with fail
 generalize hW0 : w.alloc _ = W0
 have B0 : Below w.heap.size w W0 := by rw [<- hW0]; exact ba ..
 have R0 : W0.heap[w.heap.size]? = some (.cells #[.int .u8 0, .slice none 0 0, .slice none 0 0, .bool false] 67 (0, 0)) := by rw [<- hW0]; exact heap_alloc_new _ _
 obtain ⟨c1, W1, cv1, s1, b1⟩ := sK W0 a ha
 obtain ⟨c2, W2, cv2, s2, b2⟩ := sK W1 b hb
 rw [<- hA] at cv1
 rw [<- hB] at cv2
 have R2 : W2.heap[w.heap.size]? = some (.cells #[.int .u8 0, .slice none 0 0, .slice none 0 0, .bool false] 67 (0, 0)) := (b2.block _ (Nat.lt_of_lt_of_le (ae R0) b1.size)).trans ((b1.block _ (ae R0)).trans R0)
 obtain ⟨W3, hst, r3, k3⟩ := store67 R2 rfl ⟨s, some ⟨W0.heap.size, 0, none⟩, a.length, c1, some ⟨W1.heap.size, 0, none⟩, b.length, c2, false⟩
 have qY : (Instr.storeAt 67 (.pointer (some ⟨w.heap.size, 0, none⟩)) (.agg #[.int .u8 (s.toNat : Int), .slice (some ⟨W0.heap.size, 0, none⟩) a.length c1, .slice (some ⟨W1.heap.size, 0, none⟩) b.length c2, .bool false])).run Tryz.prog W2 = .ok () W3 := hst
 have n1 : w.heap.size < W0.heap.size := ae R0
 have RES : Hid (yj W3 ⟨s, some ⟨W0.heap.size, 0, none⟩, a.length, c1, some ⟨W1.heap.size, 0, none⟩, b.length, c2, false⟩ (s, ⟨a, b, false⟩)) :=
  ⟨rfl, qB (s1.below b2 (lr _)) k3 (fun a n c e hk => by simp only [Value.slice.injEq, Option.some.injEq] at e; rw [<- e.1] at hk; have hk' : W0.heap.size = w.heap.size := hk; omega), qB s2 k3 (fun a n c e hk => by simp only [Value.slice.injEq, Option.some.injEq] at e; rw [<- e.1] at hk; have hk' : W1.heap.size = w.heap.size := hk; have := b1.size; omega), rfl⟩
 have B3 := hide (show Below w.heap.size w W3 from ((B0.trans (b1.mono B0.size)).trans (b2.mono (ltr B0.size b1.size))).trans (k3.base (ltr B0.size (ltr b1.size b2.size)) (lr _)))
 have R3 := hide r3
 clear hW0 B0 R0 s1 b1 s2 b2 R2 hst r3 k3 n1 hA hB
 go_wp2_with (with_reducible refine aD ⟨none, .store 67 (.tmp 6) (.tmp 12), 0, "law.go:111", #[{ on := 5, ground := Ground.data }, { on := 0, ground := Ground.phase }, { on := 1, ground := Ground.phase }, { on := 2, ground := Ground.phase }, { on := 3, ground := Ground.phase }, { on := 4, ground := Ground.phase }, { on := 5, ground := Ground.phase }], none⟩ ?_; refine aB rfl 67 (.tmp 6) (.tmp 12) rfl (.pointer (some ⟨w.heap.size, 0, none⟩)) (.agg #[.int .u8 (s.toNat : Int), .slice (some ⟨W0.heap.size, 0, none⟩) a.length c1, .slice (some ⟨W1.heap.size, 0, none⟩) b.length c2, .bool false]) rfl rfl _ qY ?_)
 exact bodyPost_ret (v := .agg (dD ⟨s, some ⟨W0.heap.size, 0, none⟩, a.length, c1, some ⟨W1.heap.size, 0, none⟩, b.length, c2, false⟩).toArray) (wW Tryz.results29 _ _ w.heap.size _ rfl (var67 R3.out)) rfl ⟨_, rfl, RES.out, rfl, rfl, B3.out⟩
theorem yT (gk : Nat) (v : Value) (d : List KcV) (w : World) (hd : Els dD w v d) (hp : (d.all KcV.good && decide (d.length <= 80)) = false) :
  Calls Tryz.prog 28 #[.pointer (some ⟨gk, 0, none⟩), v] w fun e w' => e = .returned (.int .i64 1) /\ Below w.heap.size w w' := by
 have HD := hide hd
 obtain ⟨ao, cap, rfl, hbig⟩ := hd.form
 have HP := hide hp
 clear hd hp
 go_enter Tryz.func28, Tryz.ntmps28
 go_wp2_with fail
 refine (gD _ d w HD.out).mono ?_
 rintro e w1 ⟨rfl, b1⟩
 rw [HP.out]
 have B1 := hide b1
 clear b1 HP
 go_wp2_with fail
 go_ret
 exact ⟨rfl, B1.out⟩
end Go.Proofs.YteealihknndclaaGreatDoor
namespace Go.Proofs.YteealihknndclaaGreatDoor
open Go.RowKit Go.Maps
theorem vW : Keyed Tryz.prog 9 := string_keyed Tryz.underlying9
theorem yx (w : World) : (zeroValue 3).run Tryz.prog w = .ok (.int .i64 0) w := by kernel_rfl
theorem key9 (k : List UInt8) (hk : k.length <= 1000000) : keyOf Tryz.prog 9 (.string ⟨k.toArray⟩) = some (.string k) := by
 have h := Go.WideMaps.keyOf_string_mk (k := 9) (P := Tryz.prog) Tryz.underlying9 (s := ⟨k.toArray⟩) (by simp [ByteArray.size, maxLen]; omega)
 simpa using h
def S.szOf (es : List S.Ent) (key : List UInt8) : Nat := match es.find? (fun x => decide (x.key = key)) with
 | some x => x.key.length + x.val.length
 | none => 0
def S.now (c : S.Cg) : Nat := if c.dr then 0 else c.key.length + c.val.length
def S.was (es : List S.Ent) (D : DataW Unit) (c : S.Cg) : Int := if has D (.string c.key) then (match D.atKey (.string c.key) (.lit (.int .i64 0)) with
 | .lit (.int _ z) => z
 | _ => 0) else (S.szOf es c.key : Int)
def S.grStep (es : List S.Ent) (s : DataW Unit × Int) (c : S.Cg) : DataW Unit × Int := (s.1.put (.string c.key) (.lit (.int .i64 (S.now c : Int))), IntKind.i64.wrap (s.2 + IntKind.i64.wrap ((S.now c : Int) - S.was es s.1 c)))
def S.gr (es : List S.Ent) (cs : List S.Cg) : DataW Unit × Int := cs.foldl (S.grStep es) (.map [], 0)
theorem S.gr_next (es : List S.Ent) (cs : List S.Cg) (k : Nat) (c : S.Cg) (h : cs[k]? = some c) : S.gr es (cs.take (k + 1)) = S.grStep es (S.gr es (cs.take k)) c := by
 rw [List.take_add_one, h]
 simp [S.gr]
theorem yC (es : List S.Ent) (key : List UInt8) (n : Nat) (h1 : ∀ x ∈ es, x.key = key -> n = key.length + x.val.length) (h2 : key ∉ es.map (·.key) -> n = 0) : n = S.szOf es key := by
 unfold S.szOf
 cases h : es.find? (fun x => decide (x.key = key)) with
 | none =>
  refine h2 (fun hm => ?_)
  obtain ⟨x, hx, hk⟩ := List.mem_map.1 hm
  have := List.find?_eq_none.1 h x hx
  simp [hk] at this
 | some x =>
  have hm := List.mem_of_find?_eq_some h
  have hk := List.find?_some h
  simp at hk
  have := h1 x hm hk
  simp only [hk]
  exact this
theorem uF (n : Nat) (h : n <= 1000000) : (Lit.int .i64 (n : Int)).wf = true := by
 simp [Lit.wf, IntKind.min, IntKind.max, IntKind.signed, IntKind.bits]
 omega
theorem qJ {w W : World} {gm k : Nat} {D : DataW Unit} (h : w.ownsMap Tryz.prog 9 (plainElem (H := Unit) Tryz.prog 3) gm k D) (hb : Below w.heap.size w W) : W.ownsMap Tryz.prog 9 (plainElem (H := Unit) Tryz.prog 3) gm k D := by
 have hl := h.lt
 obtain ⟨a, c, h1, h2⟩ := h
 exact ⟨a, c, (hb.block gm hl).trans h1, h2⟩
set_option maxHeartbeats 16000000 in
set_option maxRecDepth 100000 in
theorem j6 (B gk gs gt b off cap : Nat) (bd : Int) (pg : Nat -> List UInt8) (es : List S.Ent) (d : List ChV) (cs : List S.Cg) (w : World) (hr : Rds B w gs pg) (hl : S.rO pg es) (ht : lD w gt gs) (hs : oN w gk gt bd) (h0 : ∀ j u, (d.flatMap encCh)[j]? = some u -> w.cell? ⟨b, off + j, none⟩ = some u) (hb : b < w.heap.size) (hn : d.length <= 100000) (hcap : d.length <= cap) (hc : fP w d cs) (hk : ∀ x ∈ d, x.kn <= 1000 /\ x.vn <= 1000) :
  Calls Tryz.prog 60 #[.pointer (some ⟨gk, 0, none⟩), .slice (some ⟨b, off, none⟩) d.length cap] w fun e w' => e = .returned (.int .i64 (S.gr es cs).2) /\ Below w.heap.size w w' := by
 have HR := hide hr
 have HL := hide hl
 have HT := hide ht
 have HS := hide hs
 have H0 := hide h0
 have HB := hide hb
 have HC := hide hc
 have HKK := hide hk
 obtain ⟨n, hn'⟩ : ∃ n, n = d.length := ⟨_, rfl⟩
 have HN := hide hn'
 rw [<- hn'] at hn hcap ⊢
 have HN2 : Hid (n <= 100000) := hn
 have hcap' : (n : Int) <= (cap : Int) := by omega
 have hmm := @run_makeMap Tryz.prog
 have M0 : Hid ((w.alloc (.map #[] 0)).ownsMap Tryz.prog 9 (plainElem (H := Unit) Tryz.prog 3) w.heap.size 0 (.map [])) := World.ownsMap_made _ _ _ _
 have B0 : Hid (Below w.heap.size w (w.alloc (.map #[] 0))) := ba ..
 obtain ⟨gm, hgm⟩ : ∃ g, g = w.heap.size := ⟨_, rfl⟩
 have HGM : Hid (w.heap.size <= gm) := Nat.le_of_eq hgm.symm
 rw [<- hgm] at M0
 clear hr hl ht hs h0 hb hc hk hn'
 go_enter Tryz.func60, Tryz.ntmps60
 go_wp2_with fail
 rw [<- hgm]
 clear hmm hgm
 generalize w.alloc (.map #[] 0) = w1 at M0 B0 ⊢
 go_loopw [5, 15] (fun z i wr => ∃ k : Nat, k <= n /\ i = .int .i64 (k : Int) /\ z = .int .i64 (S.gr es (cs.take k)).2 /\ Hid (wr.ownsMap Tryz.prog 9 (plainElem (H := Unit) Tryz.prog 3) gm k (S.gr es (cs.take k)).1) /\ Hid (Below w.heap.size w wr)) (fun z i _ => n - (intOf i).toNat)
 case atStart => exact ⟨0, by omega, rfl, rfl, M0, B0⟩
 case round =>
 obtain ⟨k, hkn, rfl, rfl, HM, BW⟩ := hrel
 by_cases hlt : k < n
 ·have hkd : k < d.length := by have := HN.out; omega
  have hkc : k < cs.length := by have := HC.out.1; omega
  have hkI : (k : Int) < (n : Int) := by omega
  have hk0 : (0 : Int) <= (k : Int) := by omega
  obtain ⟨x, hx⟩ : ∃ x, x = d[k] := ⟨_, rfl⟩
  obtain ⟨c, hcx⟩ : ∃ c, c = cs[k] := ⟨_, rfl⟩
  have XK : d[k]? = some x := by rw [hx]; exact List.getElem?_eq_getElem hkd
  have CK : Hid (cs[k]? = some c) := by rw [hcx]; exact List.getElem?_eq_getElem hkc
  have CI : Hid (yt w x c) := HC.out.2 k _ _ XK CK.out
  have KK := HKK.out x (List.mem_of_getElem? XK)
  have CL : ∀ (r : Nat) u, (encCh x)[r]? = some u -> w.cell? ⟨b, off + (k * 3 + r), none⟩ = some u := fun r u hu => H0.out _ u (by
   rw [flat_get encCh_len d k r x XK (by have := (List.getElem?_eq_some_iff.1 hu).1; rw [encCh_len] at this; exact this)]; exact hu)
  obtain ⟨t0, t1, t2⟩ := Dn CL
  obtain ⟨ka, kn, kc, va, vn, vc, dr⟩ := x
  obtain ⟨key, val, dr'⟩ := c
  obtain rfl : dr = dr' := CI.out.dr
  have u0 := (BW.out.cell (p := ⟨b, off + k * 3, none⟩) HB.out).trans t0
  have u1 := (BW.out.cell (p := ⟨b, off + k * 3 + 1, none⟩) HB.out).trans t1
  have u2 := (BW.out.cell (p := ⟨b, off + k * 3 + 2, none⟩) HB.out).trans t2
  simp only at u0 u1 u2
  have KV : Hid (kn = key.length /\ vn = val.length /\ kn <= 1000 /\ vn <= 1000) := by
   obtain ⟨_, l1, _, e1, h1, _⟩ := CI.out.key.form
   obtain ⟨_, l2, _, e2, h2, _⟩ := CI.out.val.form
   simp only [Value.slice.injEq] at e1 e2
   exact ⟨e1.2.1.trans h1, e2.2.1.trans h2, KK.1, KK.2⟩
  clear t0 t1 t2 CL XK hx hcx KK
  go_upto_region 6 with fail
  obtain ⟨W, hW⟩ : ∃ W, W = wr.alloc (.cells #[.slice ka kn kc, .slice va vn vc, .bool dr] 34) := ⟨_, rfl⟩
  rw [<- hW]
  have bW : Below wr.heap.size wr W := by rw [hW]; exact ba ..
  have rW : W.heap[wr.heap.size]? = some (.cells #[.slice ka kn kc, .slice va vn vc, .bool dr] 34 (0, 0)) := by rw [hW]; exact heap_alloc_new _ _
  have HMW : Hid (W.ownsMap Tryz.prog 9 (plainElem (H := Unit) Tryz.prog 3) gm k (S.gr es (cs.take k)).1) := by rw [hW]; exact HM.out.alloc _
  obtain ⟨gb, hgb⟩ : ∃ gb, gb = wr.heap.size := ⟨_, rfl⟩
  rw [<- hgb] at rW ⊢
  obtain ⟨x0, x1, x2⟩ := cells3c rW
  have RWX := hide rW
  have BWX := hide (BW.out.trans (bW.mono BW.out.size))
  clear hW bW rW hgb u0 u1 u2 BW HM
  obtain ⟨KS, hKS⟩ : ∃ s, s = (⟨key.toArray⟩ : ByteArray) := ⟨_, rfl⟩
  have hkey : keyOf Tryz.prog 9 (.string KS) = some (.string key) := by rw [hKS]; exact key9 key (by have := KV.out; omega)
  have k1 : (convert 32 9 (.slice ka kn kc)).run Tryz.prog W = .ok (.string KS) W := by rw [hKS]; exact fB (CI.out.key.below BWX.out (lr _))
  have HKS := hide hKS
  clear hKS
  cases hh : has (S.gr es (cs.take k)).1 (.string key)
  focus
   cases dr
   focus
    skip
    go_wp2_with (at_lookup; refine wpList_lookup_own_ok_int _ rfl _ _ 190 rfl 9 3 .i64 vW Tryz.underlying190 Tryz.underlying3 (yx _) gm k _ rfl HMW.out _ _ rfl hkey ?_; intro z9 hat hwz; rw [hh])
    have HWZ : Hid (S.was es (S.gr es (cs.take k)).1 ⟨key, val, false⟩ = (S.szOf es key : Int)) := by show S.was _ _ _ = _; simp [S.was, hh]
    refine (nk B gk gt gs bd pg es _ key W (HR.out.below BWX.out) ((BWX.out.block _ (ae HT.out)).trans HT.out) HL.out (HS.out.below BWX.out) (CI.out.key.below BWX.out (lr _)) (by have := KV.out; omega)).mono ?_
    rintro e WX ⟨m, rfl, e1, e2, bX⟩
    obtain rfl := yC es key m e1 e2
    have HMW := hide (qJ HMW.out bX)
    have RWX := hide ((bX.block gb (ae RWX.out)).trans RWX.out)
    obtain ⟨x0, x1, x2⟩ := cells3c RWX.out
    have BWX := hide (BWX.out.trans (bX.mono BWX.out.size))
    have k1 : (convert 32 9 (.slice ka kn kc)).run Tryz.prog WX = .ok (.string KS) WX := by rw [HKS.out]; exact fB (CI.out.key.below BWX.out (lr _))
    clear e1 e2 bX
    go_wp2_with fail
    refine (jl ka va kn vn kc vc (by have := KV.out; omega) (by have := KV.out; omega) WX).mono ?_
    rintro e WV ⟨rfl, rfl⟩
    have NV : Hid (S.now ⟨key, val, false⟩ = kn + vn) := by have := KV.out; show S.now _ = _; simp [S.now]; omega
    have NW : Hid (kn + vn <= 1000000) := by have := KV.out; show _ <= _; omega
    have HMV := hide HMW.out
    go_wp2_with (at_mapUpdate; refine wpList_mapUpdate_own _ rfl _ _ _ 190 rfl 9 3 vW Tryz.underlying190 _ gm k _ rfl HMV.out (by have := HN2.out; unfold maxLen; omega) _ _ _ rfl rfl hkey _ [] (plainElem_int Tryz.underlying3 (uF _ NW.out)) ?_; intro w7 pJ kY)
    have HM7 := hide pJ
    have B7 : Hid (Below w.heap.size w w7) := BWX.out.trans (((Chg.refl (fun j => w.heap.size <= j) _).grown kY (fun j _ e => by simp only [Option.some.injEq] at e; have := HGM.out; omega)).below _ BWX.out.size (fun j hj e => by omega))
   rotate_left
   focus
    skip
    go_wp2_with (at_lookup; refine wpList_lookup_own_ok_int _ rfl _ _ 190 rfl 9 3 .i64 vW Tryz.underlying190 Tryz.underlying3 (yx _) gm k _ rfl HMW.out _ _ rfl hkey ?_; intro z9 hat hwz; rw [hh])
    have HWZ : Hid (S.was es (S.gr es (cs.take k)).1 ⟨key, val, true⟩ = (S.szOf es key : Int)) := by show S.was _ _ _ = _; simp [S.was, hh]
    refine (nk B gk gt gs bd pg es _ key W (HR.out.below BWX.out) ((BWX.out.block _ (ae HT.out)).trans HT.out) HL.out (HS.out.below BWX.out) (CI.out.key.below BWX.out (lr _)) (by have := KV.out; omega)).mono ?_
    rintro e WX ⟨m, rfl, e1, e2, bX⟩
    obtain rfl := yC es key m e1 e2
    have HMW := hide (qJ HMW.out bX)
    have RWX := hide ((bX.block gb (ae RWX.out)).trans RWX.out)
    obtain ⟨x0, x1, x2⟩ := cells3c RWX.out
    have BWX := hide (BWX.out.trans (bX.mono BWX.out.size))
    have k1 : (convert 32 9 (.slice ka kn kc)).run Tryz.prog WX = .ok (.string KS) WX := by rw [HKS.out]; exact fB (CI.out.key.below BWX.out (lr _))
    clear e1 e2 bX
    have NV : Hid (S.now ⟨key, val, true⟩ = 0) := rfl
    have HMV := hide HMW.out
    go_wp2_with (at_mapUpdate; refine wpList_mapUpdate_own _ rfl _ _ _ 190 rfl 9 3 vW Tryz.underlying190 _ gm k _ rfl HMV.out (by have := HN2.out; unfold maxLen; omega) _ _ _ rfl rfl hkey _ [] (plainElem_int Tryz.underlying3 (uF 0 (by omega))) ?_; intro w7 pJ kY)
    have HM7 := hide pJ
    have B7 : Hid (Below w.heap.size w w7) := BWX.out.trans (((Chg.refl (fun j => w.heap.size <= j) _).grown kY (fun j _ e => by simp only [Option.some.injEq] at e; have := HGM.out; omega)).below _ BWX.out.size (fun j hj e => by omega))
  rotate_left 2
  focus
   cases dr
   focus
    skip
    go_wp2_with (at_lookup; refine wpList_lookup_own_ok_int _ rfl _ _ 190 rfl 9 3 .i64 vW Tryz.underlying190 Tryz.underlying3 (yx _) gm k _ rfl HMW.out _ _ rfl hkey ?_; intro z9 hat hwz; rw [hh])
    have HWZ : Hid (S.was es (S.gr es (cs.take k)).1 ⟨key, val, false⟩ = z9) := by show S.was _ _ _ = _; simp [S.was, hh, hat]
    refine (jl ka va kn vn kc vc (by have := KV.out; omega) (by have := KV.out; omega) W).mono ?_
    rintro e WV ⟨rfl, rfl⟩
    have NV : Hid (S.now ⟨key, val, false⟩ = kn + vn) := by have := KV.out; show S.now _ = _; simp [S.now]; omega
    have NW : Hid (kn + vn <= 1000000) := by have := KV.out; show _ <= _; omega
    have HMV := hide HMW.out
    go_wp2_with (at_mapUpdate; refine wpList_mapUpdate_own _ rfl _ _ _ 190 rfl 9 3 vW Tryz.underlying190 _ gm k _ rfl HMV.out (by have := HN2.out; unfold maxLen; omega) _ _ _ rfl rfl hkey _ [] (plainElem_int Tryz.underlying3 (uF _ NW.out)) ?_; intro w7 pJ kY)
    have HM7 := hide pJ
    have B7 : Hid (Below w.heap.size w w7) := BWX.out.trans (((Chg.refl (fun j => w.heap.size <= j) _).grown kY (fun j _ e => by simp only [Option.some.injEq] at e; have := HGM.out; omega)).below _ BWX.out.size (fun j hj e => by omega))
   rotate_left
   focus
    skip
    have HMV := hide HMW.out
    go_wp2_with (first | (at_lookup; refine wpList_lookup_own_ok_int _ rfl _ _ 190 rfl 9 3 .i64 vW Tryz.underlying190 Tryz.underlying3 (yx _) gm k _ rfl HMW.out _ _ rfl hkey ?_; intro z9 hat hwz; rw [hh]) | (at_mapUpdate; refine wpList_mapUpdate_own _ rfl _ _ _ 190 rfl 9 3 vW Tryz.underlying190 _ gm k _ rfl HMV.out (by have := HN2.out; unfold maxLen; omega) _ _ _ rfl rfl hkey _ [] (plainElem_int Tryz.underlying3 (uF 0 (by omega))) ?_; intro w7 pJ kY))
    have HWZ : Hid (S.was es (S.gr es (cs.take k)).1 ⟨key, val, true⟩ = z9) := by show S.was _ _ _ = _; simp [S.was, hh, hat]
    have NV : Hid (S.now ⟨key, val, true⟩ = 0) := rfl
    have HM7 := hide pJ
    have B7 : Hid (Below w.heap.size w w7) := BWX.out.trans (((Chg.refl (fun j => w.heap.size <= j) _).grown kY (fun j _ e => by simp only [Option.some.injEq] at e; have := HGM.out; omega)).below _ BWX.out.size (fun j hj e => by omega))
  all_goals
   clear pJ kY
   have GRN := S.gr_next es cs k _ CK.out
   go_roundw
   case rel =>
    have hnow := NV.out
    have hwas := HWZ.out
    refine ⟨k + 1, by omega, by go_num, ?_, ?_, B7⟩
    ·rw [GRN]; simp [S.grStep, hnow, hwas, IntKind.wrap_i64, RowKit.wrap64]
    ·rw [GRN]; simp only [S.grStep, hnow]; exact HM7
   case measure => simp [intOf]; omega
 ·obtain rfl : k = n := by omega
  have e1 : cs.take k = cs := List.take_of_length_le (by have := HC.out.1; have := HN.out; omega)
  rw [e1] at HM ⊢
  go_wp2_with fail
  go_ret
  exact ⟨rfl, BW.out⟩
end Go.Proofs.YteealihknndclaaGreatDoor
namespace Go.Proofs.YteealihknndclaaGreatDoor
open Go.RowKit
theorem Els.at0 {w : World} {v : Value} {d : List KcV} (h : Els dD w v d) (hne : d ≠ []) : ∃ b off cap, v = .slice (some ⟨b, off, none⟩) d.length cap := by
 rcases h with ⟨rfl, rfl⟩ | ⟨a, cap, rfl, rfl⟩ | ⟨b, off, cap, rfl, _⟩
 ·exact absurd rfl hne
 ·exact absurd rfl hne
 ·exact ⟨b, off, cap, rfl⟩
theorem tY {w W : World} {d : List KcV} {d' : List ChV} {cs : List (UInt8 × S.Cg)} (hg : d.all KcV.good = true) (hc : kF w d cs) (ha : fP W d' (cs.map S.tr)) : d'.all ChV.good = true /\ ∀ x ∈ d', x.kn <= 1000 /\ x.vn <= 1000 := by
 have key : ∀ x ∈ d', 1 <= x.kn /\ x.kn <= 40 /\ x.vn <= 400 := fun x hx => by
  obtain ⟨i, hi, rfl⟩ := List.mem_iff_getElem.1 hx
  have hl : i < cs.length := by have := ha.1; rw [List.length_map] at this; omega
  have hd : i < d.length := by have := hc.1; omega
  have h1 := ha.2 i _ _ (List.getElem?_eq_getElem hi) (by rw [List.getElem?_map, List.getElem?_eq_getElem hl]; rfl)
  have h2 := hc.2 i _ _ (List.getElem?_eq_getElem hd) (List.getElem?_eq_getElem hl)
  have h3 : d[i].good = true := List.all_eq_true.1 hg _ (List.getElem_mem hd)
  simp [KcV.good] at h3
  obtain ⟨_, _, _, e1, l1, _⟩ := h1.key.form
  obtain ⟨_, _, _, e2, l2, _⟩ := h1.val.form
  obtain ⟨_, _, _, e3, l3, _⟩ := h2.key.form
  obtain ⟨_, _, _, e4, l4, _⟩ := h2.val.form
  simp only [Value.slice.injEq] at e1 e2 e3 e4
  have m1 := e1.2.1.trans l1
  have m2 := e2.2.1.trans l2
  have m3 := e3.2.1.trans l3
  have m4 := e4.2.1.trans l4
  simp [S.tr] at m1 m2
  omega
 refine ⟨List.all_eq_true.2 (fun x hx => ?_), fun x hx => ?_⟩
 ·have := key x hx
  simp [ChV.good]
  omega
 ·have := key x hx
  omega
theorem uM {w : World} {d : List KcV} {cs : List (UInt8 × S.Cg)} (hg : d.all KcV.good = true) (hc : kF w d cs) : ∀ c ∈ cs, c.2.key.length <= 1000000 := fun c hcm => by
 obtain ⟨i, hi, rfl⟩ := List.mem_iff_getElem.1 hcm
 have hd : i < d.length := by have := hc.1; omega
 have h2 := hc.2 i _ _ (List.getElem?_eq_getElem hd) (List.getElem?_eq_getElem hi)
 have h3 : d[i].good = true := List.all_eq_true.1 hg _ (List.getElem_mem hd)
 simp [KcV.good] at h3
 obtain ⟨_, _, _, e3, l3, _⟩ := h2.key.form
 simp only [Value.slice.injEq] at e3
 have m3 := e3.2.1.trans l3
 omega
set_option maxHeartbeats 16000000 in
set_option maxRecDepth 100000 in
theorem sV (w0 w : World) (o : Ow) (gk gt gs n : Nat) (bd : Int) (es : List S.Ent) (v : Value) (d : List KcV) (cs : List (UInt8 × S.Cg)) (h : KvO w0 w o gk gt gs n bd es) (hd : Els dD w v d) (hne : d ≠ []) (hl : d.length <= 19) (hg : d.all KcV.good = true) (hc : kF w d cs) (hzz : 0 < (S.gr es (cs.map S.tr)).2 /\ (S.gr es (cs.map S.tr)).2 <= 1000000 /\ bd < S.used es + (S.gr es (cs.map S.tr)).2) (hu : S.used es <= 1000000) :
  Calls Tryz.prog 28 #[.pointer (some ⟨gk, 0, none⟩), v] w fun e w' => e = .returned (.int .i64 26) /\ Below w.heap.size w w' := by
 obtain ⟨b, off, cap, rfl⟩ := hd.at0 hne
 have HB := hide h.1
 have HS := hide h.2.1
 have HNK := hide h.2.2
 have HD := hide hd
 have HG := hide hg
 have HC := hide hc
 have HNE := hide hne
 have HL := hide hl
 have HP : Hid ((d.all KcV.good && decide (d.length <= 80)) = true) := by show _ = true; simp [hg]; omega
 clear h hd hg hc hne hl
 go_enter Tryz.func28, Tryz.ntmps28
 go_wp2_with fail
 refine (gD _ d w HD.out).mono ?_
 rintro e w1 ⟨rfl, b1⟩
 rw [HP.out]
 have B1 := hide b1
 have HD1 : Hid (Els dD w1 (.slice (some ⟨b, off, none⟩) d.length cap) d) := HD.out.below b1
 have HC1 : Hid (kF w1 d cs) := ⟨HC.out.1, fun i x c hx hcx => by have q := HC.out.2 i x c hx hcx; exact ⟨q.sp, q.key.below b1 (lr _), q.val.below b1 (lr _), q.dr⟩⟩
 clear b1
 go_wp2_with fail
 refine (il _ d cs w1 HD1.out HC1.out (by have := HL.out; omega) (uM HG.out HC.out)).mono ?_
 rintro e w2 ⟨g, d', rfl, hg2, hl2, hci, hca, b2⟩
 have C2 := hide hci
 have A2 := hide hca
 have L2 := hide hl2
 have B2 := hide (B1.out.trans (b2.mono B1.out.size))
 clear hg2 hl2 hci hca b2 HD1 HC1
 go_wp2_with fail
 obtain ⟨pg, hr, ht, hlf⟩ := (HB.out.then B2.out).rds
 have GD := hide (tY HG.out HC.out A2.out)
 have e0 := j6 _ gk gs gt g 0 d.length bd pg es d' (cs.map S.tr) w2 hr hlf ht (HS.out.below B2.out) (C2.out.els L2.out) C2.out.lt (by have := L2.out; have := HL.out; omega) (by have := L2.out; omega) A2.out GD.out.2
 rw [L2.out] at e0
 refine e0.mono ?_
 clear e0 hr ht hlf
 rintro e w3 ⟨rfl, b3⟩
 have B3 := hide (B2.out.trans (b3.mono B2.out.size))
 have C3 := hide (C2.out.below b3)
 have A3 := hide (A2.out.below b3)
 have HS3 := hide (HS.out.below B3.out)
 clear b3 B2 C2 A2 B1
 obtain ⟨z, hz⟩ : ∃ z, z = (S.gr es (cs.map S.tr)).2 := ⟨_, rfl⟩
 rw [<- hz] at hzz ⊢
 have QZ : Hid ((0 : Int) < z) := hzz.1
 have QS : Hid (IntKind.i64.wrap ((S.used es : Int) + z) = (S.used es : Int) + z) := by show _ = _; rw [IntKind.wrap_i64]; omega
 have QF : Hid (bd < (S.used es : Int) + z) := hzz.2.2
 clear hzz hz hu
 go_upto_region 5 with fail
 refine wp_region_noPanic ?_
 refine wp_region_held_drew (S := (fun Z => oN Z gk gt bd)) follows HS3.out (fun hHeld => ?_)
 have B3d : Hid (Below w.heap.size w w3.drew) := B3.out.drew
 have C3d : Hid (lH w3.drew g d.length d') := C3.out
 have A3d : Hid (fP w3.drew d' (cs.map S.tr)) := A3.out.below ((Below.refl _ _).drew)
 clear B3 C3 A3 HS3
 generalize w3.drew = Z0 at B3d C3d A3d hHeld ⊢
 refine tq 0 ?_
 simp only [uA]
 refine tk 1 ?_ rfl (Or.inl ⟨by rfl, ?_⟩) ?_
 rotate_left
 ·intro w hSw
  have q := QZ.out
  clear hSw
  go_simp
  all_goals with_reducible rfl
 simp only [uA]
 refine tq 2 ?_
 simp only [uA]
 refine tq 3 ?_
 simp only [uA]
 refine tq 5 ?_
 simp only [uA]
 refine tq 7 ?_
 simp only [uA]
 refine tq 8 ?_
 simp only [uA]
 refine tq 9 ?_
 simp only [uA]
 refine tk 10 ?_ rfl (Or.inl ⟨by rfl, ?_⟩) ?_
 rotate_left
 ·intro w hSw
  obtain ⟨c0, c1⟩ := cells2 hSw
  clear hSw
  go_simp
  all_goals with_reducible rfl
 simp only [uA]
 refine r1 4 fun K hK => ?_
 go_simp
 obtain ⟨pg, hr, ht, hlf⟩ := (HB.out.then B3d.out).rds
 refine (jk _ gk gs gt bd pg es Z0 hr hlf ht hHeld).mono ?_
 rintro e Z1 ⟨rfl, bz⟩
 have B4 := hide (B3d.out.trans (bz.mono B3d.out.size))
 have C4 := hide (C3d.out.below bz)
 have A4 := hide (A3d.out.below bz)
 have hk4 := hHeld.below bz
 clear hr ht hlf bz B3d C3d A3d hHeld
 refine hK.out _ _ hk4 (fun hHeld => ?_)
 clear hK K hk4
 try simp only [uA]
 refine tk 6 ?_ rfl (Or.inl ⟨by rfl, ?_⟩) ?_
 rotate_left
 ·intro w hSw
  have q := QS.out
  clear hSw
  go_simp
  all_goals with_reducible rfl
 simp only [uA]
 refine tk 11 ?_ rfl (Or.inl ⟨by rfl, ?_⟩) ?_
 rotate_left
 ·intro w hSw
  have q := QF.out
  clear hSw
  go_simp
  all_goals with_reducible rfl
 simp only [uA]
 refine tq 12 ?_
 simp only [uA]
 refine wpAnyH_done (by kernel_rfl) ?_ _
 refine NoPanic.normal ?_
 have K4 := hide hHeld
 clear hHeld
 go_wp2_with fail
 go_ret
 exact ⟨rfl, B4.out⟩
set_option maxHeartbeats 16000000 in
set_option maxRecDepth 100000 in
theorem Aa (w0 w : World) (o : Ow) (gk gt gs n : Nat) (bd : Int) (es : List S.Ent) (v : Value) (d : List KcV) (cs : List (UInt8 × S.Cg)) (h : KvO w0 w o gk gt gs n bd es) (hd : Els dD w v d) (hne : d ≠ []) (hl : d.length <= 19) (hg : d.all KcV.good = true) (hc : kF w d cs) (hzz : (S.gr es (cs.map S.tr)).2 <= 0) (hle : es.length <= 9000) (hmk : S.NodeOk 0 (S.mrg es (S.lasts (cs.map S.tr)))) (hn : n + 2 < 18446744073709551616) :
  Calls Tryz.prog 28 #[.pointer (some ⟨gk, 0, none⟩), v] w fun e w' => e = .returned (.int .i64 0) /\ ∃ o', o'.g = o.g /\ KvO w0 w' o' gk gt gs (n + 2) bd (S.mrg es (S.lasts (cs.map S.tr))) /\ Chg o.has w w' /\ ∀ k, o'.has k -> o.has k \/ w.heap.size <= k := by
 have HM := hide (And.intro hle (And.intro hmk hn))
 clear hle hmk hn
 obtain ⟨b, off, cap, rfl⟩ := hd.at0 hne
 have HB := hide h.1
 have HS := hide h.2.1
 have HNK := hide h.2.2
 have HD := hide hd
 have HG := hide hg
 have HC := hide hc
 have HNE := hide hne
 have HL := hide hl
 have HP : Hid ((d.all KcV.good && decide (d.length <= 80)) = true) := by show _ = true; simp [hg]; omega
 clear h hd hg hc hne hl
 go_enter Tryz.func28, Tryz.ntmps28
 go_wp2_with fail
 refine (gD _ d w HD.out).mono ?_
 rintro e w1 ⟨rfl, b1⟩
 rw [HP.out]
 have B1 := hide b1
 have HD1 : Hid (Els dD w1 (.slice (some ⟨b, off, none⟩) d.length cap) d) := HD.out.below b1
 have HC1 : Hid (kF w1 d cs) := ⟨HC.out.1, fun i x c hx hcx => by have q := HC.out.2 i x c hx hcx; exact ⟨q.sp, q.key.below b1 (lr _), q.val.below b1 (lr _), q.dr⟩⟩
 clear b1
 go_wp2_with fail
 refine (il _ d cs w1 HD1.out HC1.out (by have := HL.out; omega) (uM HG.out HC.out)).mono ?_
 rintro e w2 ⟨g, d', rfl, hg2, hl2, hci, hca, b2⟩
 have C2 := hide hci
 have A2 := hide hca
 have L2 := hide hl2
 have B2 := hide (B1.out.trans (b2.mono B1.out.size))
 clear hg2 hl2 hci hca b2 HD1 HC1
 go_wp2_with fail
 obtain ⟨pg, hr, ht, hlf⟩ := (HB.out.then B2.out).rds
 have GD := hide (tY HG.out HC.out A2.out)
 have e0 := j6 _ gk gs gt g 0 d.length bd pg es d' (cs.map S.tr) w2 hr hlf ht (HS.out.below B2.out) (C2.out.els L2.out) C2.out.lt (by have := L2.out; have := HL.out; omega) (by have := L2.out; omega) A2.out GD.out.2
 rw [L2.out] at e0
 refine e0.mono ?_
 clear e0 hr ht hlf
 rintro e w3 ⟨rfl, b3⟩
 have B3 := hide (B2.out.trans (b3.mono B2.out.size))
 have C3 := hide (C2.out.below b3)
 have A3 := hide (A2.out.below b3)
 have HS3 := hide (HS.out.below B3.out)
 clear b3 B2 C2 A2 B1
 obtain ⟨z, hz⟩ : ∃ z, z = (S.gr es (cs.map S.tr)).2 := ⟨_, rfl⟩
 rw [<- hz] at hzz ⊢
 have QZ : Hid (decide ((0 : Int) < z) = false) := decide_eq_false (by omega)
 clear hzz hz
 go_upto_region 5 with fail
 refine wp_region_noPanic ?_
 refine wp_region_held_drew (S := (fun Z => oN Z gk gt bd)) follows HS3.out (fun hHeld => ?_)
 have B3d : Hid (Below w.heap.size w w3.drew) := B3.out.drew
 have C3d : Hid (lH w3.drew g d.length d') := C3.out
 have A3d : Hid (fP w3.drew d' (cs.map S.tr)) := A3.out.below ((Below.refl _ _).drew)
 clear B3 C3 A3 HS3
 generalize w3.drew = Z0 at B3d C3d A3d hHeld ⊢
 refine tq 0 ?_
 simp only [uA]
 refine tk 1 ?_ rfl (Or.inl ⟨by rfl, ?_⟩) ?_
 rotate_left
 ·intro w hSw
  have q := QZ.out
  clear hSw
  go_simp
  all_goals with_reducible rfl
 simp only [uA]
 refine tq 2 ?_
 simp only [uA]
 refine tk 3 undef rfl (Or.inr ⟨by rfl, rfl⟩) ?_
 simp only [uA]
 refine tk 4 undef rfl (Or.inr ⟨by rfl, rfl⟩) ?_
 simp only [uA]
 refine tk 5 undef rfl (Or.inr ⟨by rfl, rfl⟩) ?_
 simp only [uA]
 refine tk 6 undef rfl (Or.inr ⟨by rfl, rfl⟩) ?_
 simp only [uA]
 refine tk 7 undef rfl (Or.inr ⟨by rfl, rfl⟩) ?_
 simp only [uA]
 refine tk 8 undef rfl (Or.inr ⟨by rfl, rfl⟩) ?_
 simp only [uA]
 refine tk 9 undef rfl (Or.inr ⟨by rfl, rfl⟩) ?_
 simp only [uA]
 refine tk 10 undef rfl (Or.inr ⟨by rfl, rfl⟩) ?_
 simp only [uA]
 refine tk 11 undef rfl (Or.inr ⟨by rfl, rfl⟩) ?_
 simp only [uA]
 refine tq 12 ?_
 simp only [uA]
 refine wpAnyH_done (by kernel_rfl) ?_ _
 refine NoPanic.normal ?_
 have B4 := B3d
 have C4 := C3d
 have A4 := A3d
 have K4 := hide hHeld
 clear hHeld B3d C3d A3d
 obtain ⟨c0, c1⟩ := cells2 K4.out
 go_wp2_with fail
 have hdo := do_ok w0 o gt gs n g 0 d.length d' (cs.map S.tr) es Z0 (HB.out.then B4.out) (C4.out.els L2.out) (by intro e; have := L2.out; rw [e] at this; exact HNE.out (List.length_eq_zero_iff.1 this.symm)) (by have := L2.out; have := HL.out; omega) (by have := L2.out; omega) GD.out.1 A4.out HM.out.1 HM.out.2.1 HM.out.2.2
 rw [L2.out] at hdo
 refine hdo.mono ?_
 clear hdo c0 c1
 rintro e w5 ⟨rfl, o', ho', hbt, hch, hown⟩
 have R1 := hide (show KvO w0 w5 o' gk gt gs (n + 2) bd (S.mrg es (S.lasts (cs.map S.tr))) from ⟨hbt, hch.row K4.out HNK.out.1, fun e => by
  rcases hown gk e with e | e
  ·exact HNK.out.1 e
  ·have := ae HS.out; have := B4.out.size; omega, HNK.out.2⟩)
 have R2 := hide ((Chg.ofBelow' (p := o.has) B4.out).trans hch (fun _ _ e => e))
 have R3 : Hid (∀ k, o'.has k -> o.has k \/ w.heap.size <= k) := fun k hk => (hown k hk).imp_right (fun e => ltr B4.out.size e)
 have R0 := hide ho'
 clear hbt hch hown ho'
 go_wp2_with fail
 go_ret
 exact ⟨rfl, o', R0.out, R1.out, R2.out, R3.out⟩
set_option maxHeartbeats 16000000 in
set_option maxRecDepth 100000 in
theorem sU (w0 w : World) (o : Ow) (gk gt gs n : Nat) (bd : Int) (es : List S.Ent) (v : Value) (d : List KcV) (cs : List (UInt8 × S.Cg)) (h : KvO w0 w o gk gt gs n bd es) (hd : Els dD w v d) (hne : d ≠ []) (hl : d.length <= 19) (hg : d.all KcV.good = true) (hc : kF w d cs) (hzz : 0 < (S.gr es (cs.map S.tr)).2 /\ (S.gr es (cs.map S.tr)).2 <= 1000000 /\ S.used es + (S.gr es (cs.map S.tr)).2 <= bd /\ S.used es <= 1000000) (hle : es.length <= 9000) (hmk : S.NodeOk 0 (S.mrg es (S.lasts (cs.map S.tr)))) (hn : n + 2 < 18446744073709551616) :
  Calls Tryz.prog 28 #[.pointer (some ⟨gk, 0, none⟩), v] w fun e w' => e = .returned (.int .i64 0) /\ ∃ o', o'.g = o.g /\ KvO w0 w' o' gk gt gs (n + 2) bd (S.mrg es (S.lasts (cs.map S.tr))) /\ Chg o.has w w' /\ ∀ k, o'.has k -> o.has k \/ w.heap.size <= k := by
 have HM := hide (And.intro hle (And.intro hmk hn))
 clear hle hmk hn
 obtain ⟨b, off, cap, rfl⟩ := hd.at0 hne
 have HB := hide h.1
 have HS := hide h.2.1
 have HNK := hide h.2.2
 have HD := hide hd
 have HG := hide hg
 have HC := hide hc
 have HNE := hide hne
 have HL := hide hl
 have HP : Hid ((d.all KcV.good && decide (d.length <= 80)) = true) := by show _ = true; simp [hg]; omega
 clear h hd hg hc hne hl
 go_enter Tryz.func28, Tryz.ntmps28
 go_wp2_with fail
 refine (gD _ d w HD.out).mono ?_
 rintro e w1 ⟨rfl, b1⟩
 rw [HP.out]
 have B1 := hide b1
 have HD1 : Hid (Els dD w1 (.slice (some ⟨b, off, none⟩) d.length cap) d) := HD.out.below b1
 have HC1 : Hid (kF w1 d cs) := ⟨HC.out.1, fun i x c hx hcx => by have q := HC.out.2 i x c hx hcx; exact ⟨q.sp, q.key.below b1 (lr _), q.val.below b1 (lr _), q.dr⟩⟩
 clear b1
 go_wp2_with fail
 refine (il _ d cs w1 HD1.out HC1.out (by have := HL.out; omega) (uM HG.out HC.out)).mono ?_
 rintro e w2 ⟨g, d', rfl, hg2, hl2, hci, hca, b2⟩
 have C2 := hide hci
 have A2 := hide hca
 have L2 := hide hl2
 have B2 := hide (B1.out.trans (b2.mono B1.out.size))
 clear hg2 hl2 hci hca b2 HD1 HC1
 go_wp2_with fail
 obtain ⟨pg, hr, ht, hlf⟩ := (HB.out.then B2.out).rds
 have GD := hide (tY HG.out HC.out A2.out)
 have e0 := j6 _ gk gs gt g 0 d.length bd pg es d' (cs.map S.tr) w2 hr hlf ht (HS.out.below B2.out) (C2.out.els L2.out) C2.out.lt (by have := L2.out; have := HL.out; omega) (by have := L2.out; omega) A2.out GD.out.2
 rw [L2.out] at e0
 refine e0.mono ?_
 clear e0 hr ht hlf
 rintro e w3 ⟨rfl, b3⟩
 have B3 := hide (B2.out.trans (b3.mono B2.out.size))
 have C3 := hide (C2.out.below b3)
 have A3 := hide (A2.out.below b3)
 have HS3 := hide (HS.out.below B3.out)
 clear b3 B2 C2 A2 B1
 obtain ⟨z, hz⟩ : ∃ z, z = (S.gr es (cs.map S.tr)).2 := ⟨_, rfl⟩
 rw [<- hz] at hzz ⊢
 have QZ : Hid ((0 : Int) < z) := hzz.1
 have QS : Hid (IntKind.i64.wrap ((S.used es : Int) + z) = (S.used es : Int) + z) := by show _ = _; rw [IntKind.wrap_i64]; have := hzz.2.2.2; omega
 have QF : Hid (decide (bd < (S.used es : Int) + z) = false) := decide_eq_false (by omega)
 clear hzz hz
 go_upto_region 5 with fail
 refine wp_region_noPanic ?_
 refine wp_region_held_drew (S := (fun Z => oN Z gk gt bd)) follows HS3.out (fun hHeld => ?_)
 have B3d : Hid (Below w.heap.size w w3.drew) := B3.out.drew
 have C3d : Hid (lH w3.drew g d.length d') := C3.out
 have A3d : Hid (fP w3.drew d' (cs.map S.tr)) := A3.out.below ((Below.refl _ _).drew)
 clear B3 C3 A3 HS3
 generalize w3.drew = Z0 at B3d C3d A3d hHeld ⊢
 refine tq 0 ?_
 simp only [uA]
 refine tk 1 ?_ rfl (Or.inl ⟨by rfl, ?_⟩) ?_
 rotate_left
 ·intro w hSw
  have q := QZ.out
  clear hSw
  go_simp
  all_goals with_reducible rfl
 simp only [uA]
 refine tq 2 ?_
 simp only [uA]
 refine tq 3 ?_
 simp only [uA]
 refine tq 5 ?_
 simp only [uA]
 refine tq 7 ?_
 simp only [uA]
 refine tq 8 ?_
 simp only [uA]
 refine tq 9 ?_
 simp only [uA]
 refine tk 10 ?_ rfl (Or.inl ⟨by rfl, ?_⟩) ?_
 rotate_left
 ·intro w hSw
  obtain ⟨c0, c1⟩ := cells2 hSw
  clear hSw
  go_simp
  all_goals with_reducible rfl
 simp only [uA]
 refine r1 4 fun K hK => ?_
 go_simp
 obtain ⟨pg, hr, ht, hlf⟩ := (HB.out.then B3d.out).rds
 refine (jk _ gk gs gt bd pg es Z0 hr hlf ht hHeld).mono ?_
 rintro e Z1 ⟨rfl, bz⟩
 have B4 := hide (B3d.out.trans (bz.mono B3d.out.size))
 have C4 := hide (C3d.out.below bz)
 have A4 := hide (A3d.out.below bz)
 have hk4 := hHeld.below bz
 clear hr ht hlf bz B3d C3d A3d hHeld
 refine hK.out _ _ hk4 (fun hHeld => ?_)
 clear hK K hk4
 try simp only [uA]
 refine tk 6 ?_ rfl (Or.inl ⟨by rfl, ?_⟩) ?_
 rotate_left
 ·intro w hSw
  have q := QS.out
  clear hSw
  go_simp
  all_goals with_reducible rfl
 simp only [uA]
 refine tk 11 ?_ rfl (Or.inl ⟨by rfl, ?_⟩) ?_
 rotate_left
 ·intro w hSw
  have q := QF.out
  clear hSw
  go_simp
  all_goals with_reducible rfl
 simp only [uA]
 refine tq 12 ?_
 simp only [uA]
 refine wpAnyH_done (by kernel_rfl) ?_ _
 refine NoPanic.normal ?_
 have K4 := hide hHeld
 clear hHeld
 obtain ⟨c0, c1⟩ := cells2 K4.out
 go_wp2_with fail
 have hdo := do_ok w0 o gt gs n g 0 d.length d' (cs.map S.tr) es Z1 (HB.out.then B4.out) (C4.out.els L2.out) (by intro e; have := L2.out; rw [e] at this; exact HNE.out (List.length_eq_zero_iff.1 this.symm)) (by have := L2.out; have := HL.out; omega) (by have := L2.out; omega) GD.out.1 A4.out HM.out.1 HM.out.2.1 HM.out.2.2
 rw [L2.out] at hdo
 refine hdo.mono ?_
 clear hdo c0 c1
 rintro e w5 ⟨rfl, o', ho', hbt, hch, hown⟩
 have R1 := hide (show KvO w0 w5 o' gk gt gs (n + 2) bd (S.mrg es (S.lasts (cs.map S.tr))) from ⟨hbt, hch.row K4.out HNK.out.1, fun e => by
  rcases hown gk e with e | e
  ·exact HNK.out.1 e
  ·have := ae HS.out; have := B4.out.size; omega, HNK.out.2⟩)
 have R2 := hide ((Chg.ofBelow' (p := o.has) B4.out).trans hch (fun _ _ e => e))
 have R3 : Hid (∀ k, o'.has k -> o.has k \/ w.heap.size <= k) := fun k hk => (hown k hk).imp_right (fun e => ltr B4.out.size e)
 have R0 := hide ho'
 clear hbt hch hown ho'
 go_wp2_with fail
 go_ret
 exact ⟨rfl, o', R0.out, R1.out, R2.out, R3.out⟩
theorem iF (s : UInt8) (a : Option Addr) (b c : Nat) (d : Option Addr) (e f : Nat) (g : Bool) : Value.agg (dD ⟨s, a, b, c, d, e, f, g⟩).toArray = .agg #[.int .u8 (s.toNat : Int), .slice a b c, .slice d e f, .bool g] := rfl
theorem CP : (S.gr [] [⟨[1, 97], [120], false⟩, ⟨[2, 97], [121], false⟩]).2 = 6 := by kernel_rfl
theorem Cv : S.mrg [] (S.lasts [⟨[1, 97], [120], false⟩, ⟨[2, 97], [121], false⟩]) = [⟨[1, 97], [120], 0⟩, ⟨[2, 97], [121], 0⟩] := by kernel_rfl
theorem kvk_ok : S.NodeOk 0 (S.mrg [] (S.lasts [⟨[1, 97], [120], false⟩, ⟨[2, 97], [121], false⟩])) := by
 rw [Cv]
 refine ⟨fun x hx => ?_, ?_, by omega, by decide, fun _ x hx => ?_, fun h => absurd rfl h⟩
 ·simp only [List.mem_cons, List.not_mem_nil, or_false] at hx
  rcases hx with rfl | rfl <;> exact ⟨by decide, by decide, by decide, by decide⟩
 ·unfold S.up; decide
 ·simp only [List.mem_cons, List.not_mem_nil, or_false] at hx
  rcases hx with rfl | rfl <;> simp
theorem kz {w : World} {g : Nat} {d : List KcV} (h : w.heap[g]? = some (.cells (d.flatMap dD).toArray 67 (0, 0))) (hl : d.length <= 1000000) : Els dD w (.slice (some ⟨g, 0, none⟩) d.length d.length) d :=
 Or.inr (Or.inr ⟨g, 0, d.length, rfl, lr _, hl, ae h, fun j u hu => by rw [Nat.zero_add, cell_of_row w g j _ _ _ h]; simpa using hu⟩)
theorem yj.below {w W : World} {x : KcV} {c : UInt8 × S.Cg} (h : yj w x c) (hb : Below w.heap.size w W) : yj W x c := ⟨h.sp, h.key.below hb (lr _), h.val.below hb (lr _), h.dr⟩
set_option maxHeartbeats 16000000 in
set_option maxRecDepth 100000 in
theorem vZ (w : World) (hK : KAt w) (h1 : 1 < w.heap.size) :
  Calls Tryz.prog 33 #[] w fun e w' => e = .returned (.bool true) /\ Below w.heap.size w w' := by
 have HK := hide hK
 have HP : Hid (1 < w.heap.size) := h1
 clear hK h1
 go_enter Tryz.func33, Tryz.ntmps33
 go_wp2_with fail
 refine (pF 100 (by omega) (by omega) w HK.out HP.out).mono ?_
 rintro e w1 ⟨o, gk, gt, gs, rfl, hkv⟩
 have K1 := hide hkv
 clear hkv
 go_wp2_with fail
 refine (fw [97] [120] (by decide) (by decide) 1 _ _ rfl rfl w1).mono ?_
 rintro e w2 ⟨⟨sp1, ka1, kn1, kc1, va1, vn1, vc1, dr1⟩, rfl, hx1, k1, v1, b1⟩
 obtain rfl : sp1 = 1 := hx1.sp
 obtain rfl : dr1 = false := hx1.dr
 rw [iF]
 have HX1 := hide hx1
 have KV1 := hide (And.intro k1 v1)
 have BB1 := hide b1
 clear hx1 k1 v1 b1
 go_wp2_with fail
 refine (fw [97] [121] (by decide) (by decide) 2 _ _ rfl rfl w2).mono ?_
 rintro e w3 ⟨⟨sp2, ka2, kn2, kc2, va2, vn2, vc2, dr2⟩, rfl, hx2, k2, v2, b2⟩
 obtain rfl : sp2 = 2 := hx2.sp
 obtain rfl : dr2 = false := hx2.dr
 rw [iF]
 have HX2 := hide hx2
 have KV2 := hide (And.intro k2 v2)
 have BB2 := hide b2
 clear hx2 k2 v2 b2
 go_wp2_with fail
 generalize hW4 : w3.alloc _ = W4
 have r4 : W4.heap[w3.heap.size]? = some (.cells (([⟨1, ka1, kn1, kc1, va1, vn1, vc1, false⟩, ⟨2, ka2, kn2, kc2, va2, vn2, vc2, false⟩] : List KcV).flatMap dD).toArray 67 (0, 0)) := by rw [<- hW4]; exact heap_alloc_new _ _
 have b4 : Below w3.heap.size w3 W4 := by rw [<- hW4]; exact ba ..
 have k1 := KV1.out
 have k2 := KV2.out
 have hd := sU w W4 o gk gt gs 2 100 [] _ [⟨1, ka1, kn1, kc1, va1, vn1, vc1, false⟩, ⟨2, ka2, kn2, kc2, va2, vn2, vc2, false⟩] [(1, ⟨[97], [120], false⟩), (2, ⟨[97], [121], false⟩)]
  (((K1.out.then BB1.out).then BB2.out).then b4) (kz r4 (by simp)) (by simp) (by simp) (by simp [KcV.good, k1.1, k1.2, k2.1, k2.2]) ⟨rfl, fun i x c hx hc => by
   match i, hx, hc with
   | 0, hx, hc => cases hx; cases hc; exact (HX1.out.below BB2.out).below b4
   | 1, hx, hc => cases hx; cases hc; exact HX2.out.below b4⟩ (by rw [show (List.map S.tr [(1, ⟨[97], [120], false⟩), (2, ⟨[97], [121], false⟩)] : List S.Cg) = [⟨[1, 97], [120], false⟩, ⟨[2, 97], [121], false⟩] from rfl, CP]; simp [S.used]) (by simp) kvk_ok (by omega)
 rw [show (List.map S.tr [(1, ⟨[97], [120], false⟩), (2, ⟨[97], [121], false⟩)] : List S.Cg) = [⟨[1, 97], [120], false⟩, ⟨[2, 97], [121], false⟩] from rfl, Cv] at hd
 refine hd.mono ?_
 clear hd r4 b4 hW4 k1 k2
 rintro e w5 ⟨rfl, o', ho', hkv, hch, hown⟩
 have K5 := hide hkv
 clear ho' hkv hch hown K1 HX1 HX2 KV1 KV2 BB1 BB2
 have cK : ∀ (W : World) (C : Array Value) (n c g : Nat), g = W.heap.size -> (convert 32 32 (.slice (some ⟨g, 0, none⟩) n c)).run Tryz.prog (W.alloc (.cells C 5)) = .ok (.slice (some ⟨g, 0, none⟩) n c) (W.alloc (.cells C 5 (C.size, C.size + 1))) := fun W C n c g hg => by rw [hg]; exact convK32 W C n c
 go_wp2_with fail
 obtain ⟨b6, s6⟩ := lit_new w5 [97] #[.int .u8 97] 1 rfl rfl (by simp) (1, 2)
 generalize hW6 : w5.alloc _ = W6 at b6 s6 ⊢
 have K6 := hide (K5.out.then b6)
 obtain ⟨pg, hr, ht, hlf⟩ := K6.out.1.rds
 refine (sS _ gk gt gs 100 pg _ 1 _ [97] W6 hr ht hlf K6.out.2.1 s6 (by simp)).mono ?_
 clear hr ht hlf hW6 b6 s6 cK
 rintro e w7 ⟨v, ok, rfl, ow, b7⟩
 obtain ⟨rfl, hv⟩ := ow.yes ⟨[1, 97], [120], 0⟩ (by simp) rfl
 have hG : Got w7 W6.heap.size v [120] := hv
 obtain ⟨av, cv, hf⟩ := hG.form
 subst hf
 have k1 : (convert 32 9 (.slice av 1 cv)).run Tryz.prog w7 = .ok (.string ⟨#[120]⟩) w7 := fB (hG.sliceAt (by simp))
 have K7 := hide (K6.out.then b7)
 clear ow hv hG b7 K6 K5
 simp only [List.length_cons, List.length_nil, Nat.zero_add]
 go_wp2_with fail
 obtain ⟨pg2, hr, ht, hlf⟩ := K7.out.1.rds
 refine (jk _ gk gs gt 100 pg2 _ w7 hr hlf ht K7.out.2.1).mono ?_
 clear hr ht hlf k1
 rintro e w8 ⟨rfl, b8⟩
 rw [show S.used [⟨[1, 97], [120], 0⟩, ⟨[2, 97], [121], 0⟩] = 6 from rfl]
 have B8 := hide (K7.out.then b8).1.below
 clear b8 K7
 go_wp2_with fail
 go_ret
 exact ⟨rfl, B8.out⟩
theorem zu (n : Nat) (hn : n <= 100000) (W : World) : (convert 32 9 (.slice (some ⟨W.heap.size, 0, none⟩) n n)).run Tryz.prog (W.alloc (.cells (S.v8 (S.zeros n)) 5)) = .ok (.string ⟨(S.zeros n).toArray⟩) (W.alloc (.cells (S.v8 (S.zeros n)) 5)) :=
 fB (aG (heap_alloc_new _ _) (by simp [S.zeros]) (by simp [S.zeros]; omega))
theorem lW {w : World} {ops : Array Oper} {rest : List Oper} {o : Oper} {a : Act} {Q : Exit -> Act -> World -> Prop} (hgd : o.guard = none) (t : TypeId) (x y : Operand) (ho : o.op = .makeSlice t x y) (vx vy : Value) (hx : a.eval x = vx) (hy : a.eval y = vy) (v : Value) (w' : World)
  (hr : (Instr.makeSlice t vx vy).run Tryz.prog w = .ok v w') (h : wpList Tryz.prog ops Q rest (a.put o.dst v) w') : wpList Tryz.prog ops Q (o :: rest) a w :=
 wpList_plain hgd fun _ hK => by
  unfold Oper.wp execOp
  simp only [ho, Sem.run_bind, hx, hy, hr, Result.andThen_ok]
  exact hK _ _ h
end Go.Proofs.YteealihknndclaaGreatDoor
