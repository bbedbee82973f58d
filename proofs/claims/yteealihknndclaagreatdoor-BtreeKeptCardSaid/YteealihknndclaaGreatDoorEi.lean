/- is: has a tree just these pairs. -/
import Derived.Test.YteealihknndclaaGreatDoorEd
import Derived.Test.YteealihknndclaaGreatDoorCc
import Derived.Lib.ConvBytes
import Derived.Test.YteealihknndclaaGreatDoorBase
namespace Go.Proofs.YteealihknndclaaGreatDoor
open Go.RowKit
def S.nsk : List UInt8 := [110, 111, 32, 115, 117, 99, 104, 32, 107, 101, 121]
theorem nH (w : World) (l : List UInt8) (C : Array Value) (n : Nat) (hC : C = S.v8 l) (hn : n = l.length) (hl : l.length <= 1000) (r : Nat × Nat) : Below w.heap.size w (w.alloc (.cells C 5 r)) /\ SliceAt (w.alloc (.cells C 5 r)) (.slice (some ⟨w.heap.size, 0, none⟩) n n) l := by
 subst hC hn
 refine ⟨ba .., Or.inr (Or.inr ⟨w.heap.size, 0, _, rfl, lr _, by omega, by simp, fun j hj => ?_⟩)⟩
 rw [Nat.zero_add, cell_of_row _ w.heap.size j (S.v8 l) 5 r (heap_alloc_new _ _)]
 simp [S.v8, hj]
theorem Ao (w : World) (C : Array Value) (n c : Nat) : (convert 32 32 (.slice (some ⟨w.heap.size, 0, none⟩) n c)).run Tryz.prog (w.alloc (.cells C 5)) = .ok (.slice (some ⟨w.heap.size, 0, none⟩) n c) (w.alloc (.cells C 5 (C.size, C.size + 1))) := Lib.run_convert_bytes_const w 32 5 C n c Tryz.underlying32 Tryz.underlying5
set_option maxHeartbeats 16000000 in
set_option maxRecDepth 100000 in
theorem is_yes (B gs gt : Nat) (pg : Nat -> List UInt8) (es : List S.Ent) (v : Value) (w : World) (hr : Rds B w gs pg) (hl : S.nU pg es) (ht : kL w gt gs) (hv : uK w v es) :
  Calls Tryz.prog 47 #[.pointer (some ⟨gt, 0, none⟩), v] w fun e w' => e = .returned (.bool true) /\ Below w.heap.size w w' := by
 obtain ⟨vo, vc, hvv, _⟩ := id hv
 have HR := hide hr
 have HL := hide hl
 have HT := hide ht
 have HV := hide hv
 obtain ⟨N, hN⟩ : ∃ N, N = es.length := ⟨_, rfl⟩
 rw [<- hN] at hvv
 subst hvv
 have HN := hide hN
 have HNL := hide (show N <= 254 by rw [hN]; exact hl.ok.len)
 rename_i hvv2
 clear hr hl ht hv hN hvv2
 go_enter Tryz.func47, Tryz.ntmps47
 go_wp2_with fail
 refine (len_0 B gt gs pg es w HR.out HT.out HL.out).mono ?_
 rintro e w1 ⟨rfl, hb⟩
 rw [<- HN.out]
 have B1 := hide hb
 clear hb
 go_wp2_with fail
 refine (Ap B gt gs pg es w1 (HR.out.below B1.out) ((B1.out.block _ (aa HT.out)).trans HT.out) HL.out).mono ?_
 rintro e w2 ⟨rfl, hb⟩
 have B2 := hide (B1.out.trans (hb.mono B1.out.size))
 clear hb B1
 go_wp2_with fail
 refine (yP B gs gt pg es _ w2 (HR.out.below B2.out) HL.out ((B2.out.block _ (aa HT.out)).trans HT.out) (HV.out.below B2.out)).mono ?_
 rintro e w3 ⟨rfl, hb⟩
 have B3 := hide (B2.out.trans (hb.mono B2.out.size))
 clear hb B2
 go_wp2_with fail
 go_loopw [5, 6] (fun t i wr => ∃ k : Nat, k <= N /\ i = .int .i64 (k : Int) /\ t = .bool ((es.take k).any (fun e => e.key == S.nsk)) /\ Below w.heap.size w wr) (fun _ i _ => N - (intOf i).toNat)
 case atStart => exact ⟨0, Nat.zero_le _, rfl, by simp, B3.out⟩
 case round =>
  obtain ⟨k, hk, rfl, rfl, hbw⟩ := hrel
  by_cases hlt : k < N
  ·obtain ⟨en, hen⟩ : ∃ en, es[k]? = some en := ⟨_, List.getElem?_eq_getElem (by rw [<- HN.out]; exact hlt)⟩
   obtain ⟨vo', vc3, hv1, hv2⟩ := HV.out.below hbw
   simp only [Value.slice.injEq] at hv1
   obtain ⟨rfl, -, rfl⟩ := hv1
   obtain ⟨b, off, ka, kn, kc, va, vn, vc2, rfl, hbl, e1, e2, s1, s2⟩ := hv2 k en hen
   have GT := hide (xM B gt gs pg es (.slice ka kn kc) en.key wr (HR.out.below hbw) ((hbw.block _ (aa HT.out)).trans HT.out) HL.out s1)
   obtain ⟨T, hT⟩ : ∃ T, T = (es.take k).any (fun e => e.key == S.nsk) := ⟨_, rfl⟩
   rw [<- hT]
   have HTK := hide (show ((es.take (k + 1)).any (fun e => e.key == S.nsk)) = (T || (en.key == S.nsk)) by
    rw [List.take_add_one, hen, List.any_append, <- hT]; simp)
   have q0 : (0 : Int) <= (k : Int) := by omega
   have q1 : (k : Int) < (N : Int) := by omega
   have qw : IntKind.i64.wrap ((k : Int) + 1) = (k : Int) + 1 := by rw [IntKind.wrap_i64]; have := HNL.out; omega
   have HEN := hide hen
   have S1 := hide s1
   have S2 := hide s2
   have HBL := hide hbl
   have HBW := hide hbw
   have HLT := hide hlt
   clear hv2 hT hen s1 s2 hbl hbw hlt hk
   go_wp2_with fail
   refine GT.out.mono ?_
   rintro e w5 ⟨gv, ok, rfl, mO, hb5⟩
   obtain ⟨rfl, hgv⟩ := mO.yes en (List.mem_of_getElem? HEN.out) rfl
   have eok := HL.out.ok.ent en (List.mem_of_getElem? HEN.out)
   have SG : SliceAt w5 gv en.val := by
    rcases hgv with ⟨rfl, h⟩ | ⟨q, rfl, _, hq⟩
    ·rw [h]; exact Or.inl ⟨rfl, rfl⟩
    ·exact ay hq rfl (by have := eok.val; omega)
   obtain ⟨go, gn, gc, rfl, z1, z2⟩ := SG.form
   clear z1 z2
   have S15 := S1.out.below hb5 (lr _)
   have S25 := S2.out.below hb5 (lr _)
   have d1 : w5.cell? ⟨b, off + k * 2, none⟩ = some (.slice ka kn kc) := (hb5.cell (p := ⟨b, off + k * 2, none⟩) HBL.out).trans e1
   have d2 : w5.cell? ⟨b, off + k * 2 + 1, none⟩ = some (.slice va vn vc2) := (hb5.cell (p := ⟨b, off + k * 2 + 1, none⟩) HBL.out).trans e2
   obtain ⟨KS, hKS⟩ : ∃ s, s = (⟨en.key.toArray⟩ : ByteArray) := ⟨_, rfl⟩
   obtain ⟨VS, hVS⟩ : ∃ s, s = (⟨en.val.toArray⟩ : ByteArray) := ⟨_, rfl⟩
   have k1 : ∀ m, (convert 32 9 (.slice go gn gc)).run Tryz.prog (w5.drewN m) = .ok (.string VS) (w5.drewN m) := fun m => by rw [hVS]; exact aP (show SliceAt (w5.drewN m) _ _ from SG)
   have k2 : ∀ m, (convert 32 9 (.slice va vn vc2)).run Tryz.prog (w5.drewN m) = .ok (.string VS) (w5.drewN m) := fun m => by rw [hVS]; exact aP (show SliceAt (w5.drewN m) _ _ from S25)
   have k3 : ∀ m, (convert 32 9 (.slice ka kn kc)).run Tryz.prog (w5.drewN m) = .ok (.string KS) (w5.drewN m) := fun m => by rw [hKS]; exact aP (show SliceAt (w5.drewN m) _ _ from S15)
   have HKS := hide hKS
   have B5 := hide (HBW.out.trans (hb5.mono HBW.out.size))
   clear mO hgv eok SG S15 S25 hKS hVS hb5 e1 e2 GT
   go_wp2_with fail
   go_quiet (fail)
   cases T with
   | true =>
    go_wp2_with fail
    go_roundw
    case rel => exact ⟨k + 1, HLT.out, rfl, by rw [HTK.out]; rfl, ⟨B5.out.os, B5.out.tape, B5.out.output, B5.out.size, B5.out.block⟩⟩
    case measure => have := HLT.out; simp only [intOf]; omega
   | false =>
    go_wp2_with fail
    refine ⟨⟨k + 1, HLT.out, rfl, ?_, ⟨B5.out.os, B5.out.tape, B5.out.output, B5.out.size, B5.out.block⟩⟩, by have := HLT.out; simp only [intOf]; omega⟩
    rw [HTK.out, HKS.out, Bool.false_or]
    have e : (⟨en.key.toArray⟩ : ByteArray).toList = en.key := by simp [ByteArray.toList_eq]
    rw [e]
    rfl
  ·obtain rfl : k = N := by omega
   rw [List.take_of_length_le (by rw [<- HN.out]; exact lr _)]
   obtain ⟨T, hT⟩ : ∃ T, T = es.any (fun e => e.key == S.nsk) := ⟨_, rfl⟩
   rw [<- hT]
   have HTT := hide hT
   have HBW := hide hbw
   clear hT hbw
   have cK := Ao wr
   go_wp2_with fail
   obtain ⟨bL, sL⟩ := nH wr S.nsk #[.int .u8 110, .int .u8 111, .int .u8 32, .int .u8 115, .int .u8 117, .int .u8 99, .int .u8 104, .int .u8 32, .int .u8 107, .int .u8 101, .int .u8 121] 11 rfl rfl (by decide) (11, 12)
   have BL := HBW.out.trans (bL.mono HBW.out.size)
   refine (xM B gt gs pg es _ S.nsk _ (HR.out.below BL) ((BL.block _ (aa HT.out)).trans HT.out) HL.out sL).mono ?_
   rintro e w5 ⟨gv, ok, rfl, mO, hb5⟩
   have hok : ok = T := by
    rw [HTT.out]
    by_cases hm : S.nsk ∈ es.map (·.key)
    ·obtain ⟨x, hx, he⟩ := List.mem_map.1 hm
     rw [(mO.yes x hx he).1, eq_comm, List.any_eq_true]
     exact ⟨x, hx, by simp [he]⟩
    ·rw [(mO.no hm).1, eq_comm, List.any_eq_false]
     intro x hx he
     exact hm (List.mem_map.2 ⟨x, hx, by simpa using he⟩)
   subst hok
   have B5 := hide (BL.trans (hb5.mono BL.size))
   clear mO hb5 bL sL BL cK
   go_wp2_with fail
   go_ret
   exact ⟨rfl, B5.out⟩
set_option maxHeartbeats 8000000 in
set_option maxRecDepth 10000 in
theorem uJ (w : World) (hK : KAt w) (h1 : 1 < w.heap.size) :
  Calls Tryz.prog 9 #[] w fun e w' => ∃ o gt gs, e = .returned (.tuple #[o.ptr, .pointer (some ⟨gt, 0, none⟩), .bool true]) /\ BtO w w' o gt gs 2 [] /\ w.heap.size <= gt /\ w.heap.size <= gs := by
 have HK := hide hK
 have HP : Hid (1 < w.heap.size) := h1
 clear hK h1
 go_enter Tryz.func9, Tryz.ntmps9
 go_wp2_with fail
 refine (new_any 8192 w (by omega) (by omega)).mono ?_
 rintro e w1 ⟨o, rfl, hd, ho, b1⟩
 have D1 : Hid (Dsk w1 o (S.Dk.new 8192)) := ⟨hd, HK.out.below b1 HK.out.pos, fun e => by have := ho 1 e; have := HP.out; omega⟩
 have O1 := hide ho
 have B1 := hide b1
 have gP : o.ptr = .pointer (some ⟨o.g, 0, none⟩) := rfl
 rw [gP]
 clear hd ho b1
 go_wp2_with fail
 rw [<- gP]
 refine (zu w w1 o 8192 (by omega) D1.out O1.out B1.out HP.out).mono ?_
 rintro e w2 ⟨rfl, o2, d2, pg, hg2, hb2⟩
 have P2 := hide hb2
 have hp2' : o2.ptr = o.ptr := by unfold Ow.ptr; rw [hg2]
 have HG2 := hide hg2
 have HP2 := hide hp2'
 clear hb2 hp2' hg2 gP
 rw [<- HP2.out]
 go_wp2_with fail
 refine (open_0 w w2 o2 d2 0 2 pg [] P2.out).mono ?_
 rintro e w3 ⟨gt, gs, rfl, ht, hs, hgt, hgs, hb⟩
 have hpt : o2.ptr = .pointer (some ⟨o2.g, 0, none⟩) := rfl
 have RES : Hid (BtO w w3 o2 gt gs 2 []) := ⟨d2, 0, 2, pg, P2.out.then hb, ht, hs, fun e => by have := P2.out.pgs.dk.dk.lt gt e; omega, fun e => by have := P2.out.pgs.dk.dk.lt gs e; omega, lr _⟩
 have BT := hide (show w.heap.size <= gt /\ w.heap.size <= gs from ⟨ltr P2.out.pgs.below.size hgt, ltr P2.out.pgs.below.size hgs⟩)
 clear ht hs hgt hgs hb
 go_wp2_with fail
 exact bodyPost_ret (v := .tuple #[o2.ptr, .pointer (some ⟨gt, 0, none⟩), .bool true]) (by simp [results, Tryz.results9]; rfl) rfl ⟨o2, gt, gs, rfl, RES.out, BT.out⟩
theorem tJ (W : World) (l : List UInt8) (hl : l.length <= 1000000) : ∃ c W', (convert 9 32 (.string ⟨l.toArray⟩)).run Tryz.prog W = .ok (.slice (some ⟨W.heap.size, 0, none⟩) l.length c) W' /\ SliceAt W' (.slice (some ⟨W.heap.size, 0, none⟩) l.length c) l /\ Below W.heap.size W W' := by
 have hsz : (⟨l.toArray⟩ : ByteArray).size = l.length := by simp [ByteArray.size]
 refine ⟨grownCap W (⟨l.toArray⟩ : ByteArray).size 0 5, Lib.bytesWorld W 5 ⟨l.toArray⟩, ?_, ?_, ?_⟩
 ·have := Lib.run_convert_string_bytes (P := Tryz.prog) W 9 32 5 ⟨l.toArray⟩ Tryz.underlying9 Tryz.underlying32 Tryz.underlying5
  rw [this, hsz]
 ·refine Or.inr (Or.inr ⟨W.heap.size, 0, _, rfl, ?_, by omega, by rw [Lib.bytesWorld_size]; omega, fun j hj => ?_⟩)
  ·rw [hsz]; exact grownCap_ge _ _ _ _
  ·rw [Nat.zero_add, Lib.bytesWorld_cell W 5 ⟨l.toArray⟩ j (by rw [hsz]; exact hj)]
   first | done | rfl | simp [hj]
 ·exact ⟨rfl, rfl, rfl, by rw [Lib.bytesWorld_size]; omega, fun k hk => Lib.bytesWorld_at_old W 5 _ k hk⟩
theorem qG {p : Nat -> Prop} {w W : World} {v : Value} {bs : List UInt8} (h : SliceAt w v bs) (hc : Chg p w W) (hp : ∀ a n c, v = .slice (some a) n c -> ¬ p a.block) : SliceAt W v bs := by
 rcases h with h | h | ⟨b, off, cap, rfl, h1, h2, h3, h4⟩
 ·exact Or.inl h
 ·exact Or.inr (Or.inl h)
 ·exact Or.inr (Or.inr ⟨b, off, cap, rfl, h1, h2, Nat.lt_of_lt_of_le h3 hc.size, fun j hj => (World.cell?_of_block (hc.block b h3 (hp _ _ _ rfl))).trans (h4 j hj)⟩)
theorem zX : (Tryz.prog.info? 34).map (·.size) = some 3 := by kernel_rfl
theorem store34 {w : World} {g : Nat} {c0 : Array Value} (a : w.heap[g]? = some (.cells c0 34 (0, 0))) (h0 : c0.size = 3) (x : ChV) :
  ∃ w', (Instr.storeAt 34 (.pointer (some ⟨g, 0, none⟩)) (.agg (aQ x).toArray)).run Tryz.prog w = .ok () w' /\ w'.heap[g]? = some (.cells (aQ x).toArray 34 (0, 0)) /\ Chg (fun k => k = g) w w' := by
 have h1 : (aQ x).toArray.all (·.oneCell') = true := all_oneCell_toArray (fun v hv => mQ [x] v (by simpa using hv))
 have hr := run_storeVar_row (P := Tryz.prog) w g 34 34 _ (aQ x).toArray a (by rw [zX, List.size_toArray, jL]) (by exact h0) h1
 refine ⟨w.setRow g (aQ x).toArray, ?_, setRow_heap w g _ _ _ _ a, Chg.setRow (p := fun k => k = g) g _ rfl⟩
 simp only [Instr.storeAt, Instr.sureAddr, Sem.run_bind, Sem.run_pure, Result.andThen_ok, hr]
theorem var34 {w : World} {g : Nat} {x : ChV} (h : w.heap[g]? = some (.cells (aQ x).toArray 34 (0, 0))) : (loadVar 34 ⟨g, 0, none⟩).run Tryz.prog w = .ok (.agg (aQ x).toArray) w :=
 run_loadVar_row w g 34 34 _ (0, 0) _ h Tryz.underlying34 rfl (by rw [zX, List.size_toArray, jL])
set_option maxHeartbeats 8000000 in
set_option maxRecDepth 10000 in
theorem uz (a b : List UInt8) (ha : a.length <= 1000000) (hb : b.length <= 1000000) (A B : ByteArray) (hA : A = ⟨a.toArray⟩) (hB : B = ⟨b.toArray⟩) (w : World) :
  Calls Tryz.prog 13 #[.string A, .string B] w fun e w' => ∃ x : ChV, e = .returned (.agg (aQ x).toArray) /\ yu w' x ⟨a, b, false⟩ /\ x.kn = a.length /\ x.vn = b.length /\ Below w.heap.size w w' := by
 go_enter Tryz.func13, Tryz.ntmps13
 go_upto_region 1 with fail
 generalize hW0 : w.alloc _ = W0
 have B0 : Below w.heap.size w W0 := by rw [<- hW0]; exact ba ..
 have R0 : W0.heap[w.heap.size]? = some (.cells #[.slice none 0 0, .slice none 0 0, .bool false] 34 (0, 0)) := by rw [<- hW0]; exact heap_alloc_new _ _
 obtain ⟨c1, W1, cv1, s1, b1⟩ := tJ W0 a ha
 obtain ⟨c2, W2, cv2, s2, b2⟩ := tJ W1 b hb
 rw [<- hA] at cv1
 rw [<- hB] at cv2
 have R2 : W2.heap[w.heap.size]? = some (.cells #[.slice none 0 0, .slice none 0 0, .bool false] 34 (0, 0)) := (b2.block _ (Nat.lt_of_lt_of_le (aa R0) b1.size)).trans ((b1.block _ (aa R0)).trans R0)
 obtain ⟨W3, hst, r3, k3⟩ := store34 R2 rfl ⟨some ⟨W0.heap.size, 0, none⟩, a.length, c1, some ⟨W1.heap.size, 0, none⟩, b.length, c2, false⟩
 have jc : (Instr.storeAt 34 (.pointer (some ⟨w.heap.size, 0, none⟩)) (.agg #[.slice (some ⟨W0.heap.size, 0, none⟩) a.length c1, .slice (some ⟨W1.heap.size, 0, none⟩) b.length c2, .bool false])).run Tryz.prog W2 = .ok () W3 := hst
 have n1 : w.heap.size < W0.heap.size := aa R0
 have RES : Hid (yu W3 ⟨some ⟨W0.heap.size, 0, none⟩, a.length, c1, some ⟨W1.heap.size, 0, none⟩, b.length, c2, false⟩ ⟨a, b, false⟩) :=
  ⟨qG (s1.below b2 (lr _)) k3 (fun a n c e hk => by simp only [Value.slice.injEq, Option.some.injEq] at e; rw [<- e.1] at hk; have hk' : W0.heap.size = w.heap.size := hk; omega), qG s2 k3 (fun a n c e hk => by simp only [Value.slice.injEq, Option.some.injEq] at e; rw [<- e.1] at hk; have hk' : W1.heap.size = w.heap.size := hk; have := b1.size; omega), rfl⟩
 have B3 := hide (show Below w.heap.size w W3 from ((B0.trans (b1.mono B0.size)).trans (b2.mono (ltr B0.size b1.size))).trans (k3.base (ltr B0.size (ltr b1.size b2.size)) (lr _)))
 have R3 := hide r3
 clear hW0 B0 R0 s1 b1 s2 b2 R2 hst r3 k3 n1 hA hB
 go_wp2_with (with_reducible refine ak ⟨none, .store 34 (.tmp 4) (.tmp 9), 0, "law.go:106", #[{ on := 4, ground := Ground.data }, { on := 0, ground := Ground.phase }, { on := 1, ground := Ground.phase }, { on := 2, ground := Ground.phase }, { on := 3, ground := Ground.phase }, { on := 4, ground := Ground.phase }], none⟩ ?_; refine ah rfl 34 (.tmp 4) (.tmp 9) rfl (.pointer (some ⟨w.heap.size, 0, none⟩)) (.agg #[.slice (some ⟨W0.heap.size, 0, none⟩) a.length c1, .slice (some ⟨W1.heap.size, 0, none⟩) b.length c2, .bool false]) rfl rfl W3 jc ?_)
 exact bodyPost_ret (v := .agg (aQ ⟨some ⟨W0.heap.size, 0, none⟩, a.length, c1, some ⟨W1.heap.size, 0, none⟩, b.length, c2, false⟩).toArray) (qM Tryz.results13 _ _ w.heap.size _ rfl (var34 R3.out)) rfl ⟨_, rfl, RES.out, rfl, rfl, B3.out⟩
theorem chc (x : ChV) : (Value.agg (aQ x).toArray).cells = (aQ x).toArray := rfl
theorem bs36one (W : World) (x : ChV) : (Instr.buildSlice 36 1 #[(0, .agg (aQ x).toArray)]).run Tryz.prog W = .ok (.slice (some ⟨W.heap.size, 0, none⟩) 1 1) (W.alloc (.cells (aQ x).toArray 34)) := by
 obtain ⟨i, hi, hz, hs, _⟩ := info_parts zm
 refine run_buildSlice W 36 34 1 _ _ i _ Tryz.underlying36 hi hz (by rw [hs]; omega) (by rw [hs]; omega) ?_
 have h := Great.fill_whole (s := 3) (by omega) [Value.agg (aQ x).toArray] ((Array.range (1 * i.size)).map ((Value.agg #[.slice none 0 0, .slice none 0 0, .bool false]).cells[· % (Value.agg #[.slice none 0 0, .slice none 0 0, .bool false]).cells.size]!)) (fun y hy => by
  simp only [List.mem_cons, List.not_mem_nil, or_false] at hy
  subst hy; rfl) (by simp [hs])
 rw [hs] at h ⊢
 refine h.trans ?_
 simp [chc]
theorem xB : S.mrg [] (S.lasts [⟨[98], [49], false⟩, ⟨[97], [50], false⟩]) = [⟨[97], [50], 0⟩, ⟨[98], [49], 0⟩] := by kernel_rfl
theorem prs_two (w : World) (a b c d : UInt8) (A B C D : Int) (hA : A = a.toNat) (hB : B = b.toNat) (hC : C = c.toNat) (hD : D = d.toNat) :
  Below w.heap.size w (((((w.alloc (.cells #[.int .u8 A] 5 (1, 2))).alloc (.cells #[.int .u8 B] 5 (1, 2))).alloc (.cells #[.int .u8 C] 5 (1, 2))).alloc (.cells #[.int .u8 D] 5 (1, 2))).alloc (.cells #[.slice (some ⟨w.heap.size, 0, none⟩) 1 1, .slice (some ⟨w.heap.size + 1, 0, none⟩) 1 1, .slice (some ⟨w.heap.size + 1 + 1, 0, none⟩) 1 1, .slice (some ⟨w.heap.size + 1 + 1 + 1, 0, none⟩) 1 1] 46)) /\
  uK (((((w.alloc (.cells #[.int .u8 A] 5 (1, 2))).alloc (.cells #[.int .u8 B] 5 (1, 2))).alloc (.cells #[.int .u8 C] 5 (1, 2))).alloc (.cells #[.int .u8 D] 5 (1, 2))).alloc (.cells #[.slice (some ⟨w.heap.size, 0, none⟩) 1 1, .slice (some ⟨w.heap.size + 1, 0, none⟩) 1 1, .slice (some ⟨w.heap.size + 1 + 1, 0, none⟩) 1 1, .slice (some ⟨w.heap.size + 1 + 1 + 1, 0, none⟩) 1 1] 46)) (.slice (some ⟨w.heap.size + 1 + 1 + 1 + 1, 0, none⟩) 2 2) [⟨[a], [b], 0⟩, ⟨[c], [d], 0⟩] := by
 subst hA hB hC hD
 obtain ⟨b1, s1⟩ := nH w [a] #[.int .u8 a.toNat] 1 rfl rfl (by simp) (1, 2)
 generalize hW1 : w.alloc (.cells #[.int .u8 (a.toNat : Int)] 5 (1, 2)) = W1 at b1 s1 ⊢
 have z1 : W1.heap.size = w.heap.size + 1 := by rw [<- hW1]; simp
 obtain ⟨b2, s2⟩ := nH W1 [b] #[.int .u8 b.toNat] 1 rfl rfl (by simp) (1, 2)
 generalize hW2 : W1.alloc (.cells #[.int .u8 (b.toNat : Int)] 5 (1, 2)) = W2 at b2 s2 ⊢
 have z2 : W2.heap.size = w.heap.size + 1 + 1 := by rw [<- hW2]; simp [z1]
 obtain ⟨b3, s3⟩ := nH W2 [c] #[.int .u8 c.toNat] 1 rfl rfl (by simp) (1, 2)
 generalize hW3 : W2.alloc (.cells #[.int .u8 (c.toNat : Int)] 5 (1, 2)) = W3 at b3 s3 ⊢
 have z3 : W3.heap.size = w.heap.size + 1 + 1 + 1 := by rw [<- hW3]; simp [z2]
 obtain ⟨b4, s4⟩ := nH W3 [d] #[.int .u8 d.toNat] 1 rfl rfl (by simp) (1, 2)
 generalize hW4 : W3.alloc (.cells #[.int .u8 (d.toNat : Int)] 5 (1, 2)) = W4 at b4 s4 ⊢
 have z4 : W4.heap.size = w.heap.size + 1 + 1 + 1 + 1 := by rw [<- hW4]; simp [z3]
 rw [z1] at s2
 rw [z2] at s3
 rw [z3] at s4
 have b5 : Below W4.heap.size W4 (W4.alloc (.cells #[.slice (some ⟨w.heap.size, 0, none⟩) 1 1, .slice (some ⟨w.heap.size + 1, 0, none⟩) 1 1, .slice (some ⟨w.heap.size + 1 + 1, 0, none⟩) 1 1, .slice (some ⟨w.heap.size + 1 + 1 + 1, 0, none⟩) 1 1] 46)) := ba ..
 have r5 : (W4.alloc (.cells #[.slice (some ⟨w.heap.size, 0, none⟩) 1 1, .slice (some ⟨w.heap.size + 1, 0, none⟩) 1 1, .slice (some ⟨w.heap.size + 1 + 1, 0, none⟩) 1 1, .slice (some ⟨w.heap.size + 1 + 1 + 1, 0, none⟩) 1 1] 46)).heap[w.heap.size + 1 + 1 + 1 + 1]? = some (.cells #[.slice (some ⟨w.heap.size, 0, none⟩) 1 1, .slice (some ⟨w.heap.size + 1, 0, none⟩) 1 1, .slice (some ⟨w.heap.size + 1 + 1, 0, none⟩) 1 1, .slice (some ⟨w.heap.size + 1 + 1 + 1, 0, none⟩) 1 1] 46 (0, 0)) := by rw [<- z4]; exact heap_alloc_new _ _
 generalize hW5 : W4.alloc _ = W5 at b5 r5 ⊢
 have c25 := ((b3.trans (b4.mono b3.size)).trans (b5.mono (ltr b3.size b4.size)))
 have c15 := (b2.trans (c25.mono b2.size))
 refine ⟨b1.trans (c15.mono b1.size), some ⟨w.heap.size + 1 + 1 + 1 + 1, 0, none⟩, 2, rfl, fun i e he => ?_⟩
 have lt := aa r5
 match i, he with
 | 0, he =>
  cases he
  exact ⟨_, 0, _, _, _, _, _, _, rfl, lt, cell_of_row W5 _ 0 _ _ _ r5, cell_of_row W5 _ 1 _ _ _ r5, s1.below c15 (lr _), s2.below c25 (lr _)⟩
 | 1, he =>
  cases he
  exact ⟨_, 0, _, _, _, _, _, _, rfl, lt, cell_of_row W5 _ 2 _ _ _ r5, cell_of_row W5 _ 3 _ _ _ r5, s3.below (b4.trans (b5.mono b4.size)) (lr _), s4.below b5 (lr _)⟩
theorem Fq : S.bS 0 (S.mrg [] (S.lasts [⟨[98], [49], false⟩, ⟨[97], [50], false⟩])) := by
 rw [xB]
 refine ⟨fun x hx => ?_, ?_, by omega, by decide, fun _ x hx => ?_, fun h => absurd rfl h⟩
 ·simp only [List.mem_cons, List.not_mem_nil, or_false] at hx
  rcases hx with rfl | rfl <;> exact ⟨by decide, by decide, by decide, by decide⟩
 ·unfold S.up; decide
 ·simp only [List.mem_cons, List.not_mem_nil, or_false] at hx
  rcases hx with rfl | rfl <;> simp
set_option maxHeartbeats 16000000 in
set_option maxRecDepth 100000 in
theorem BP (w : World) (hK : KAt w) (h1 : 1 < w.heap.size) :
  Calls Tryz.prog 15 #[] w fun e w' => e = .returned (.bool true) /\ Below w.heap.size w w' := by
 have HK := hide hK
 have HP : Hid (1 < w.heap.size) := h1
 clear hK h1
 go_enter Tryz.func15, Tryz.ntmps15
 go_wp2_with fail
 refine (uJ w HK.out HP.out).mono ?_
 rintro e w1 ⟨o, gt, gs, rfl, hbt, lgt, lgs⟩
 have HB1 := hide hbt
 clear hbt lgt lgs
 go_wp2_with fail
 refine (uz [98] [49] (by decide) (by decide) _ _ rfl rfl w1).mono ?_
 rintro e w2 ⟨⟨ka1, kn1, kc1, va1, vn1, vc1, dr1⟩, rfl, hx1, k1, v1, b1⟩
 rw [show (Value.agg (aQ ⟨ka1, kn1, kc1, va1, vn1, vc1, dr1⟩).toArray) = .agg #[.slice ka1 kn1 kc1, .slice va1 vn1 vc1, .bool dr1] from rfl]
 have HX1 := hide hx1
 have KV1 := hide (And.intro k1 v1)
 have BB1 := hide b1
 clear hx1 k1 v1 b1
 go_wp2_with fail
 refine (uz [97] [50] (by decide) (by decide) _ _ rfl rfl w2).mono ?_
 rintro e w3 ⟨⟨ka2, kn2, kc2, va2, vn2, vc2, dr2⟩, rfl, hx2, k2, v2, b2⟩
 rw [show (Value.agg (aQ ⟨ka2, kn2, kc2, va2, vn2, vc2, dr2⟩).toArray) = .agg #[.slice ka2 kn2 kc2, .slice va2 vn2 vc2, .bool dr2] from rfl]
 have HX2 := hide hx2
 have KV2 := hide (And.intro k2 v2)
 have BB2 := hide b2
 clear hx2 k2 v2 b2
 go_wp2_with fail
 have r4 : (w3.alloc (.cells #[.slice ka1 kn1 kc1, .slice va1 vn1 vc1, .bool dr1, .slice ka2 kn2 kc2, .slice va2 vn2 vc2, .bool dr2] 34)).heap[w3.heap.size]? = some (.cells (([⟨ka1, kn1, kc1, va1, vn1, vc1, dr1⟩, ⟨ka2, kn2, kc2, va2, vn2, vc2, dr2⟩] : List ChV).flatMap aQ).toArray 34 (0, 0)) := heap_alloc_new _ _
 have b4 : Below w3.heap.size w3 (w3.alloc (.cells #[.slice ka1 kn1 kc1, .slice va1 vn1 vc1, .bool dr1, .slice ka2 kn2 kc2, .slice va2 vn2 vc2, .bool dr2] 34)) := ba ..
 generalize hW4 : w3.alloc _ = W4 at r4 b4 ⊢
 have k1 := KV1.out
 have k2 := KV2.out
 have hd := do_ok w o gt gs 2 w3.heap.size 0 2 [⟨ka1, kn1, kc1, va1, vn1, vc1, dr1⟩, ⟨ka2, kn2, kc2, va2, vn2, vc2, dr2⟩] [⟨[98], [49], false⟩, ⟨[97], [50], false⟩] [] W4
  (((HB1.out.then BB1.out).then BB2.out).then b4) (fun j u h => by rw [Nat.zero_add, cell_of_row W4 _ j _ _ _ r4]; simpa using h) (by simp) (by simp) (by simp)
  (by simp [ChV.good, k1.1, k1.2, k2.1, k2.2]) ⟨rfl, fun i x c hx hc => by
   match i, hx, hc with
   | 0, hx, hc => cases hx; cases hc; exact (HX1.out.below BB2.out).below b4
   | 1, hx, hc => cases hx; cases hc; exact HX2.out.below b4⟩ (by simp) Fq (by omega)
 rw [xB] at hd
 refine hd.mono ?_
 clear hd r4 b4 hW4 k1 k2
 rintro e w5 ⟨rfl, o', ho', hbt', hch, hown⟩
 obtain ⟨pg, hrd, htr, hlf⟩ := hbt'.rds
 have RD := hide hrd
 have TR := hide htr
 have LF := hide hlf
 have B5 := hide hbt'.below
 clear ho' hbt' hch hown hrd htr hlf HB1 HX1 HX2 KV1 KV2 BB1 BB2
 have cK : ∀ (W : World) (C : Array Value) (n c g : Nat), g = W.heap.size -> (convert 32 32 (.slice (some ⟨g, 0, none⟩) n c)).run Tryz.prog (W.alloc (.cells C 5)) = .ok (.slice (some ⟨g, 0, none⟩) n c) (W.alloc (.cells C 5 (C.size, C.size + 1))) := fun W C n c g hg => by rw [hg]; exact Ao W C n c
 go_wp2_with fail
 obtain ⟨bL, pL⟩ := prs_two w5 97 50 98 49 97 50 98 49 rfl rfl rfl rfl
 refine (is_yes w5.heap.size gs gt pg _ _ _ (RD.out.below bL) LF.out ((bL.block _ (aa TR.out)).trans TR.out) pL).mono ?_
 rintro e w6 ⟨rfl, hb6⟩
 have B6 := hide ((B5.out.trans (bL.mono B5.out.size)).trans (hb6.mono (B5.out.trans (bL.mono B5.out.size)).size))
 clear bL pL hb6 cK
 go_wp2_with fail
 go_ret
 exact ⟨rfl, B6.out⟩
structure Entry where
 g : Option Nat
 cap : Nat
 bs : List UInt8
 u : Value
def yg (g : Option Nat) : Option Addr := g.map fun b => ⟨b, 0, none⟩
def Entry.val (e : Entry) : Value := .slice (yg e.g) e.bs.length e.cap
theorem run_copy_nil (w : World) (v : Value) (bs : List UInt8) (ty : TypeId) (hv : SliceAt w v bs) (hb : bs.length <= 140737488355328) :
  ∃ v' w', (Builtin.append_ #[32, 32] ty #[.slice none 0 0, v]).run Tryz.prog w = .ok v' w' /\ (bu w' v' bs /\ w.grownBy w' none /\ ∀ k, v'.ownBlock = some k -> w.heap.size <= k) := by
 obtain ⟨i, hi, hz0, hz1, hz2⟩ := info_parts Ae
 have key : ∀ (ad : Addr) (c : Nat), (∀ j x, (S.v8l bs)[j]? = some x -> w.cell? (ad.add j) = some x) -> v = .slice (some ad) bs.length c -> ∃ v' w', (Builtin.append_ #[32, 32] ty #[.slice none 0 0, v]).run Tryz.prog w = .ok v' w' /\ (bu w' v' bs /\ w.grownBy w' none /\ ∀ k, v'.ownBlock = some k -> w.heap.size <= k) := by
  rintro ad c hc rfl
  obtain ⟨v', w', hr, ho, hg, _⟩ := run_append_own (P := Tryz.prog) w w.heap.size 32 ty 5 i (.int .u8 0) 1 1 Tryz.underlying32 hi hz0 hz1 hz2 rfl (by omega) (.slice none 0 0) 0 [] (World.ownsRow_nil w w.heap.size 5 1) ad bs.length c (S.v8l bs) (by rw [S.ae]; omega) hc (S.bT _) (by simp only [maxLen]; omega) (by omega) (lr _)
  rw [Nat.zero_add, List.nil_append] at ho
  refine ⟨v', w', hr, ⟨ho.1, ?_⟩, hg, fun k hk => (ho.lt k hk).1⟩
  rcases ho.2 with h2 | ⟨g, cap, cur, h2, _, h3⟩
  ·exact Or.inl h2
  ·exact Or.inr ⟨g, cap, cur, h2, Nat.zero_le _, h3⟩
 rcases hv with ⟨rfl, rfl⟩ | ⟨a, cap, rfl, _, rfl⟩ | ⟨b, off, cap, rfl, h1, h2, h3, h4⟩
 ·exact ⟨_, w, run_append_owned_none (P := Tryz.prog) (w := w) 0 32 ty 5 i 1 Tryz.underlying32 hi (.slice none 0 0) 0 [] (World.ownsRow_nil w 0 5 1), World.ownsRow_nil w 0 5 1, ⟨rfl, rfl, rfl, lr _, fun _ _ _ => rfl⟩, fun k hk => by simp [Value.ownBlock] at hk⟩
 ·exact key a cap (fun j x h => by simp [S.v8l] at h) rfl
 ·refine key ⟨b, off, none⟩ cap (fun j x h => ?_) rfl
  obtain ⟨rfl, hj⟩ := S.mD bs j x h
  rw [Addr.add_lit]
  exact h4 j hj
def ku (es : List Entry) : Nat := (es.map fun e => e.cap + 1).sum
def hw (es : List Entry) : Int := IntKind.i64.wrap (ku es : Int)
def Ed (w : World) (g : Option Nat) (cap : Nat) (bs : List UInt8) : Prop := (∀ b, g = some b -> Room w b cap bs) /\ (g = none -> cap = 0 /\ bs = [])
theorem Ed.le {w : World} {g : Option Nat} {cap : Nat} {bs : List UInt8} (h : Ed w g cap bs) : bs.length <= cap := by
 cases g with
 | none => have := h.2 rfl; rw [this.2]; simp
 | some b => obtain ⟨_, _, _, h3, _⟩ := h.1 b rfl; exact h3
theorem Ed.sliceAt {w : World} {g : Option Nat} {cap : Nat} {bs : List UInt8} {ao : Option Addr} (h : Ed w g cap bs) (hao : ao = yg g) (hr : bs.length <= 140737488355328) : SliceAt w (.slice ao bs.length cap) bs := by
 subst hao
 cases g with
 | none => obtain ⟨rfl, rfl⟩ := h.2 rfl; exact Or.inl ⟨rfl, rfl⟩
 | some b => exact (h.1 b rfl).sliceAt hr
theorem Ed.same {w W : World} {g : Option Nat} {cap : Nat} {bs : List UInt8} (h : Ed w g cap bs) (hb : ∀ b, g = some b -> W.heap[b]? = w.heap[b]?) : Ed W g cap bs :=
 ⟨fun b e => by obtain ⟨cur, q1, q2⟩ := h.1 b e; exact ⟨cur, (hb b e).trans q1, q2⟩, h.2⟩
theorem Ed.kept {w W : World} {g : Option Nat} {cap : Nat} {bs : List UInt8} (h : Ed w g cap bs) (hb : ∀ k, k < w.heap.size -> W.heap[k]? = w.heap[k]?) : Ed W g cap bs :=
 h.same fun b e => by obtain ⟨cur, q1, _⟩ := h.1 b e; exact hb b (aa q1)
structure kG (w : World) (gB base top : Nat) (vl vw : Value) (e : Entry) : Prop where
 ed : Ed w e.g e.cap e.bs
 at_ : ∀ b, e.g = some b -> base <= b /\ b < top /\ b ≠ gB /\ vl.ownBlock ≠ some b /\ vw.ownBlock ≠ some b
 cp : bu w e.u e.bs
 cpAt : ∀ k, e.u.ownBlock = some k -> k < top /\ k ≠ gB /\ vl.ownBlock ≠ some k /\ vw.ownBlock ≠ some k
 cpLo : ∀ k, e.u.ownBlock = some k -> base <= k
 capl : e.cap <= 9223372036854775807
 bsl : e.bs.length <= 140737488355328
structure aO (w : World) (gB base top : Nat) (vl vw : Value) (es : List Entry) : Prop where
 row : w.heap[gB]? = some (.cells #[vl, vw, .int .i64 (hw es), .bool false] 55 (0, 0))
 lo : base <= gB
 hi : gB < top
 top_le : top <= w.heap.size
 lists : Lists w vl (es.map Entry.val)
 was : Lists w vw (es.map Entry.u)
 vlSep : ∀ k, vl.ownBlock = some k -> base <= k /\ k < top /\ k ≠ gB
 vwSep : ∀ k, vw.ownBlock = some k -> base <= k /\ k < top /\ k ≠ gB /\ vl.ownBlock ≠ some k
 ents : ∀ e ∈ es, kG w gB base top vl vw e
 nodup : (es.filterMap Entry.g).Nodup
 few : es.length <= 100
structure Fr (gB : Nat) (vl vw : Value) (w W : World) : Prop where
 os : W.os = w.os
 tape : W.tape = w.tape
 output : W.output = w.output
 size : w.heap.size <= W.heap.size
 block : ∀ k, k < w.heap.size -> k ≠ gB -> vl.ownBlock ≠ some k -> vw.ownBlock ≠ some k -> W.heap[k]? = w.heap[k]?
theorem Fr.refl (gB : Nat) (vl vw : Value) (w : World) : Fr gB vl vw w w := ⟨rfl, rfl, rfl, lr _, fun _ _ _ _ _ => rfl⟩
theorem Fr.drew {gB : Nat} {vl vw : Value} {w W : World} (h : Fr gB vl vw w W) : Fr gB vl vw w W.drew := ⟨h.os, h.tape, h.output, h.size, h.block⟩
theorem Fr.alloc {gB : Nat} {vl vw : Value} {w W : World} (h : Fr gB vl vw w W) (o : Obj) : Fr gB vl vw w (W.alloc o) :=
 ⟨h.os, h.tape, h.output, ltr h.size (by simp), fun k hk h1 h2 h3 => (heap_alloc_old W o (Nat.lt_of_lt_of_le hk h.size)).trans (h.block k hk h1 h2 h3)⟩
theorem Fr.setCell {gB : Nat} {vl vw : Value} {w W : World} (h : Fr gB vl vw w W) (i : Nat) (v : Value) : Fr gB vl vw w (W.setCell ⟨gB, i, none⟩ v) :=
 have hb := (Below.refl 0 W).setCell (p := ⟨gB, i, none⟩) (Nat.zero_le _) v
 ⟨hb.os.trans h.os, hb.tape.trans h.tape, hb.output.trans h.output, ltr h.size hb.size, fun k hk h1 h2 h3 => (heap_setCell_other W ⟨gB, i, none⟩ k v h1).trans (h.block k hk h1 h2 h3)⟩
theorem Fr.grown {gB : Nat} {vl vw : Value} {w W W' : World} {row : Option Nat} (h : Fr gB vl vw w W) (hg : W.grownBy W' row) (hrow : ∀ k, k < w.heap.size -> row = some k -> vl.ownBlock = some k \/ vw.ownBlock = some k) : Fr gB vl vw w W' :=
 ⟨hg.os.trans h.os, hg.tape.trans h.tape, hg.output.trans h.output, ltr h.size hg.size, fun k hk h1 h2 h3 => (hg.block k (Nat.lt_of_lt_of_le hk h.size) (fun e => by rcases hrow k hk e.symm with h' | h'; exact h2 h'; exact h3 h')).trans (h.block k hk h1 h2 h3)⟩
theorem kG.kept {w W : World} {gB base top top' : Nat} {vl vw vl' vw' : Value} {e : Entry} (h : kG w gB base top vl vw e) (hf : Fr gB vl vw w W) (ht : top <= w.heap.size) (ht' : top <= top')
  (hvl : ∀ k, vl'.ownBlock = some k -> vl.ownBlock = some k \/ w.heap.size <= k) (hvw : ∀ k, vw'.ownBlock = some k -> vw.ownBlock = some k \/ w.heap.size <= k) : kG W gB base top' vl' vw' e := by
 have hk : ∀ k, k < top -> vl.ownBlock ≠ some k -> vl'.ownBlock ≠ some k := fun k hk h e => by rcases hvl k e with h' | h'; exact h h'; omega
 have hk' : ∀ k, k < top -> vw.ownBlock ≠ some k -> vw'.ownBlock ≠ some k := fun k hk h e => by rcases hvw k e with h' | h'; exact h h'; omega
 refine ⟨h.ed.same fun b e => ?_, fun b e => ?_, h.cp.kept fun k hk0 => ?_, fun k hk0 => ?_, h.cpLo, h.capl, h.bsl⟩
 ·obtain ⟨_, q1, q2, q3, q4⟩ := h.at_ b e
  exact hf.block b (by omega) q2 q3 q4
 ·obtain ⟨q0, q1, q2, q3, q4⟩ := h.at_ b e
  exact ⟨q0, by omega, q2, hk b q1 q3, hk' b q1 q4⟩
 ·obtain ⟨q1, q2, q3, q4⟩ := h.cpAt k hk0
  exact hf.block k (by omega) q2 q3 q4
 ·obtain ⟨q1, q2, q3, q4⟩ := h.cpAt k hk0
  exact ⟨by omega, q2, hk k q1 q3, hk' k q1 q4⟩
theorem sN (es : List Entry) (e : Entry) : ku (es ++ [e]) = ku es + (e.cap + 1) := by simp [ku]
theorem aO.more {w W : World} {gB base top cap : Nat} {g : Option Nat} {ao : Option Addr} {vl vw vl' vw' u : Value} {bs : List UInt8} {es : List Entry} (h : aO w gB base top vl vw es) (hr : Ed w g cap bs) (hao : ao = yg g) (hno : ∀ b, g = some b -> b ≠ gB /\ vl.ownBlock ≠ some b /\ vw.ownBlock ≠ some b /\ ∀ e ∈ es, e.g ≠ some b) (hbase : ∀ b, g = some b -> base <= b) (hcap : cap <= 9223372036854775807) (hbl : bs.length <= 140737488355328)
  (hrow : W.heap[gB]? = some (.cells #[vl', vw', .int .i64 (hw (es ++ [⟨g, cap, bs, u⟩])), .bool false] 55 (0, 0))) (hf : Fr gB vl vw w W)
  (hL : Lists W vl' (es.map Entry.val ++ [.slice ao bs.length cap])) (hW : Lists W vw' (es.map Entry.u ++ [u]))
  (hvl : ∀ k, vl'.ownBlock = some k -> vl.ownBlock = some k \/ w.heap.size <= k) (hvw : ∀ k, vw'.ownBlock = some k -> vw.ownBlock = some k \/ w.heap.size <= k) (hsep : ∀ k, vw'.ownBlock = some k -> vl'.ownBlock ≠ some k)
  (hu : bu W u bs) (hub : ∀ k, u.ownBlock = some k -> w.heap.size <= k /\ vl'.ownBlock ≠ some k /\ vw'.ownBlock ≠ some k)
  (vN : es.length < 100) : aO W gB base W.heap.size vl' vw' (es ++ [⟨g, cap, bs, u⟩]) := by
 subst hao
 have hgw : ∀ b, g = some b -> b < w.heap.size := fun b e => by obtain ⟨cur, q1, _⟩ := hr.1 b e; exact aa q1
 have hgB : ∀ b, g = some b -> b ≠ gB := fun b e => (hno b e).1
 have hgl : ∀ b, g = some b -> vl.ownBlock ≠ some b := fun b e => (hno b e).2.1
 have hgv : ∀ b, g = some b -> vw.ownBlock ≠ some b := fun b e => (hno b e).2.2.1
 have hts := h.top_le
 refine ⟨hrow, h.lo, Nat.lt_of_lt_of_le h.hi (ltr hts hf.size), lr _, by rw [List.map_append]; exact hL, by rw [List.map_append]; exact hW, fun k hk => ?_, fun k hk => ?_, fun e he => ?_, ?_, by simp; omega⟩
 ·refine ⟨?_, hL.lt hk, ?_⟩
  ·rcases hvl k hk with h' | h'
   ·exact (h.vlSep k h').1
   ·have := h.lo; have := h.hi; omega
  ·rcases hvl k hk with h' | h'
   ·exact (h.vlSep k h').2.2
   ·have := h.hi; omega
 ·refine ⟨?_, hW.lt hk, ?_, hsep k hk⟩
  ·rcases hvw k hk with h' | h'
   ·exact (h.vwSep k h').1
   ·have := h.lo; have := h.hi; omega
  ·rcases hvw k hk with h' | h'
   ·exact (h.vwSep k h').2.2.1
   ·have := h.hi; omega
 ·rcases List.mem_append.1 he with he | he
  ·exact (h.ents e he).kept hf hts (ltr hts hf.size) hvl hvw
  ·obtain rfl := List.mem_singleton.1 he
   refine ⟨hr.same fun b e => hf.block b (hgw b e) (hgB b e) (hgl b e) (hgv b e), fun b e => ⟨hbase b e, Nat.lt_of_lt_of_le (hgw b e) hf.size, hgB b e, fun c => ?_, fun c => ?_⟩, hu, fun k hk => ?_, fun k hk => by have := (hub k hk).1; have := h.lo; have := h.hi; omega, hcap, hbl⟩
   ·have := hgw b e; rcases hvl b c with h' | h'; exact hgl b e h'; omega
   ·have := hgw b e; rcases hvw b c with h' | h'; exact hgv b e h'; omega
   ·obtain ⟨q1, q2, q3⟩ := hub k hk
    exact ⟨hu.lt hk, by have := h.hi; omega, q2, q3⟩
 ·rw [List.filterMap_append, List.nodup_append]
  refine ⟨h.nodup, ?_, fun a ha b hb => ?_⟩
  ·cases g <;> simp
  ·obtain ⟨e, he, hea⟩ := List.mem_filterMap.1 ha
   have hgb : g = some b := by cases g <;> simp_all
   intro c
   exact (hno b hgb).2.2.2 e he (by rw [hea, c])
structure Only (gB : Nat) (w W : World) : Prop where
 os : W.os = w.os
 tape : W.tape = w.tape
 output : W.output = w.output
 size : W.heap.size = w.heap.size
 block : ∀ k, k ≠ gB -> W.heap[k]? = w.heap[k]?
theorem Only.drew {gB : Nat} {w W : World} (h : Only gB w W) : Only gB w W.drew := ⟨h.os, h.tape, h.output, h.size, h.block⟩
theorem size_setCell (W : World) (a : Addr) (v : Value) : (W.setCell a v).heap.size = W.heap.size := by simp
theorem Only.setCell {gB : Nat} {w W : World} (h : Only gB w W) (i : Nat) (v : Value) : Only gB w (W.setCell ⟨gB, i, none⟩ v) :=
 have hb := (Below.refl 0 W).setCell (p := ⟨gB, i, none⟩) (Nat.zero_le _) v
 ⟨hb.os.trans h.os, hb.tape.trans h.tape, hb.output.trans h.output, (size_setCell W _ v).trans h.size, fun k hk => (heap_setCell_other W ⟨gB, i, none⟩ k v hk).trans (h.block k hk)⟩
theorem Still.only {gB : Nat} {w W : World} (h : Still w W) : Only gB w W := ⟨h.2.1, h.2.2.1, h.2.2.2, by rw [h.1], fun _ _ => by rw [h.1]⟩
theorem ma {w : World} {g i : Nat} {cs : Array Value} {t : TypeId} {v : Value} (h : w.heap[g]? = some (.cells cs t (0, 0))) (hv : cs[i]? = some v) : Still w (w.setCell ⟨g, i, none⟩ v) := by
 have hb := (Below.refl 0 w).setCell (p := ⟨g, i, none⟩) (Nat.zero_le _) v
 refine ⟨?_, hb.os, hb.tape, hb.output⟩
 apply Array.ext_getElem?
 intro k
 by_cases hk : k = g
 ·subst hk
  rw [heap_setCell_same _ _ _ _ _ _ h, h]
  congr 2
  apply Array.ext_getElem?
  intro j
  rw [Array.getElem?_setIfInBounds]
  split
  ·rename_i hj
   subst hj
   have := (Array.getElem?_eq_some_iff.1 hv).1
   rw [if_pos this, hv]
  ·rfl
 ·exact heap_setCell_other w ⟨g, i, none⟩ k v hk
theorem Still.cell {w W : World} (h : Still w W) {a : Addr} {v : Value} (hc : w.cell? a = some v) : W.cell? a = some v := (World.cell?_of_block (w := w) (by rw [h.1])).trans hc
theorem Only.cell {gB : Nat} {w W : World} (h : Only gB w W) {a : Addr} {v : Value} (hc : w.cell? a = some v) (ha : a.block ≠ gB) : W.cell? a = some v := (World.cell?_of_block (w := w) (h.block _ ha)).trans hc
theorem kG.only {w W : World} {gB base top : Nat} {vl vw vl' vw' : Value} {e : Entry} (h : kG w gB base top vl vw e) (hf : Only gB w W) (hl : vl'.ownBlock = vl.ownBlock) (hw : vw'.ownBlock = vw.ownBlock) : kG W gB base top vl' vw' e := by
 refine ⟨h.ed.same fun b e => hf.block b (h.at_ b e).2.2.1, fun b e => ?_, h.cp.kept fun k hk => hf.block k (h.cpAt k hk).2.1, fun k hk => ?_, h.cpLo, h.capl, h.bsl⟩
 ·rw [hl, hw]; exact h.at_ b e
 ·rw [hl, hw]; exact h.cpAt k hk
theorem xL (e : Entry) (es : List Entry) : ku (e :: es) = (e.cap + 1) + ku es := by simp [ku]
theorem aO.drop {w W : World} {gB base top gl ol cl gw ow cw : Nat} {e : Entry} {es : List Entry}
  (h : aO w gB base top (.slice (some ⟨gl, ol, none⟩) (es.length + 1) cl) (.slice (some ⟨gw, ow, none⟩) (es.length + 1) cw) (e :: es)) (hcl : ¬ cl = 1) (hcw : ¬ cw = 1) (hf : Only gB w W)
  (hrow : W.heap[gB]? = some (.cells #[.slice (some ⟨gl, ol + 1, none⟩) es.length (cl - 1), .slice (some ⟨gw, ow + 1, none⟩) es.length (cw - 1), .int .i64 (hw es), .bool false] 55 (0, 0))) :
  aO W gB base top (.slice (some ⟨gl, ol + 1, none⟩) es.length (cl - 1)) (.slice (some ⟨gw, ow + 1, none⟩) es.length (cw - 1)) es := by
 have hl := h.lists
 have hw := h.was
 rw [List.map_cons, <- List.length_map (f := Entry.val)] at hl
 rw [List.map_cons, <- List.length_map (f := Entry.u)] at hw
 have hl2 := hl.tail
 have hw2 := hw.tail
 rw [if_neg hcl, List.length_map] at hl2
 rw [if_neg hcw, List.length_map] at hw2
 refine ⟨hrow, h.lo, h.hi, by rw [hf.size]; exact h.top_le, hl2.kept fun k hk => hf.block k (h.vlSep k hk).2.2, hw2.kept fun k hk => hf.block k (h.vwSep k hk).2.2.1, fun k hk => h.vlSep k hk, fun k hk => h.vwSep k hk, fun e' he => (h.ents e' (List.mem_cons_of_mem _ he)).only hf rfl rfl, ?_, ?_⟩
 ·have := h.nodup
  rw [List.filterMap_cons] at this
  split at this
  ·exact this
  ·exact (List.nodup_cons.1 this).2
 ·have := h.few
  rw [List.length_cons] at this
  omega
theorem aO.raise {w : World} {gB base top top' : Nat} {vl vw : Value} {es : List Entry} (h : aO w gB base top vl vw es) (ht : top <= top') (ht' : top' <= w.heap.size) : aO w gB base top' vl vw es :=
 ⟨h.row, h.lo, Nat.lt_of_lt_of_le h.hi ht, ht', h.lists, h.was, fun k hk => ⟨(h.vlSep k hk).1, Nat.lt_of_lt_of_le (h.vlSep k hk).2.1 ht, (h.vlSep k hk).2.2⟩, fun k hk => ⟨(h.vwSep k hk).1, Nat.lt_of_lt_of_le (h.vwSep k hk).2.1 ht, (h.vwSep k hk).2.2⟩,
  fun e he => by
  have q := h.ents e he
  exact ⟨q.ed, fun b c => ⟨(q.at_ b c).1, Nat.lt_of_lt_of_le (q.at_ b c).2.1 ht, (q.at_ b c).2.2⟩, q.cp, fun k hk => ⟨Nat.lt_of_lt_of_le (q.cpAt k hk).1 ht, (q.cpAt k hk).2⟩, q.cpLo, q.capl, q.bsl⟩, h.nodup, h.few⟩
theorem aO.still {w W : World} {gB base top : Nat} {vl vw : Value} {es : List Entry} (h : aO w gB base top vl vw es) (hs : Still w W) : aO W gB base top vl vw es :=
 ⟨by rw [hs.1]; exact h.row, h.lo, h.hi, by rw [hs.1]; exact h.top_le, h.lists.kept fun k _ => by rw [hs.1], h.was.kept fun k _ => by rw [hs.1], h.vlSep, h.vwSep, fun e he => (h.ents e he).only hs.only rfl rfl, h.nodup, h.few⟩
def Fp (w : World) (gB : Nat) : Nat := match w.cell? ⟨gB, 0, none⟩ with | some (.slice _ n _) => n | _ => 0
theorem xx {w : World} {gB n c : Nat} {ao : Option Addr} (h : w.cell? ⟨gB, 0, none⟩ = some (.slice ao n c)) : Fp w gB = n := by rw [Fp, h]
end Go.Proofs.YteealihknndclaaGreatDoor
namespace Go.Proofs.YteealihknndclaaGreatDoor
theorem AO (x y : Int) : IntKind.i64.wrap (IntKind.i64.wrap (IntKind.i64.wrap x + y) + 1) = IntKind.i64.wrap (x + (y + 1)) := by
 simp only [IntKind.wrap_i64]
 omega
theorem AP (x y : Int) : IntKind.i64.wrap (IntKind.i64.wrap (IntKind.i64.wrap (y + 1 + x) - y) - 1) = IntKind.i64.wrap x := by
 simp only [IntKind.wrap_i64]
 omega
theorem hw_more (es : List Entry) (e : Entry) : hw (es ++ [e]) = IntKind.i64.wrap (IntKind.i64.wrap (hw es + (e.cap : Int)) + 1) := by
 unfold hw
 rw [AO, sN]
 congr 1
theorem hw_less (es : List Entry) (e : Entry) : hw es = IntKind.i64.wrap (IntKind.i64.wrap (hw (e :: es) - (e.cap : Int)) - 1) := by
 unfold hw
 have h : ((ku (e :: es) : Nat) : Int) = (e.cap : Int) + 1 + (ku es : Int) := by rw [xL]; omega
 rw [h, AP]
end Go.Proofs.YteealihknndclaaGreatDoor
