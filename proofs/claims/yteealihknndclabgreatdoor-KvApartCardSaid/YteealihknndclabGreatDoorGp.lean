/- current: the head that holds, and its place. -/
/- The seal of a log with one record more; the head behind a head. -/
import Derived.Test.YteealihknndclabGreatDoorBd
import Derived.Test.YteealihknndclabGreatDoorBase
namespace Go.Proofs.YteealihknndclabGreatDoor
open Go.RowKit

def curv (r : Option (S.Hd × Nat)) : Value := match r with
 | some (h, p) => .tuple #[hdv h, .int .i64 (p : Int), .bool true]
 | none => .tuple #[hdv S.Hd.none, .int .i64 0, .bool false]
theorem Dsk.one {w W : World} {o : Ow} {d : S.Dk} {g : Nat} (h : Dsk w o d) (hc : Chg (fun k => k = g) w W) (hg : ¬ o.has g) (h0 : 1 < g) : Dsk W o d :=
 ⟨h.dk.chg hc (fun k hk e => by subst e; exact hg hk), h.k.chg hc (by omega), h.no⟩
structure CuIs (w : World) (ga gr gk : Nat) (p : Value) (f c : Nat) (h b : S.Hd) : Prop where
 ar : eX w ga p f c
 res : bQ w gr h
 back : bQ w gk b
theorem CuIs.below {w W : World} {ga gr gk : Nat} {p : Value} {f c : Nat} {h b : S.Hd} (x : CuIs w ga gr gk p f c h b) (hb : Below w.heap.size w W) : CuIs W ga gr gk p f c h b :=
 ⟨x.ar.below hb (aa x.ar), x.res.below hb (aa x.res), x.back.below hb (aa x.back)⟩
set_option maxHeartbeats 4000000 in
set_option maxRecDepth 10000 in
theorem qz (o : Ow) (d : S.Dk) (f c : Nat) (w : World) (hd : Dsk w o d) (h : f + 1 < d.safe.length) (hc : c <= 100000) (s0 s1 : List UInt8) (hs0 : s0 = d.seen.getD (f + 0) []) (hs1 : s1 = d.seen.getD (f + 1) []) :
  Calls Tryz.prog 155 #[arv o.ptr f c] w fun e w' => e = .returned (curv (S.cur f c s0 s1)) /\ Below w.heap.size w w' := by
 have hn := hd.dk.n
 have HL0 : Hid (s0.length = 128) := by show s0.length = 128; rw [hs0]; exact hd.dk.ok.seen _ (by omega)
 have HL1 : Hid (s1.length = 128) := by show s1.length = 128; rw [hs1]; exact hd.dk.ok.seen _ h
 have HO : Hid (f + 1 < d.safe.length) := h
 have HLT : Hid (∀ k, o.has k -> k < w.heap.size) := hd.dk.lt
 have HP : Hid (1 < w.heap.size) := hd.k.pos
 obtain ⟨w0, hw0⟩ : ∃ w0, w0 = (w.alloc (.cells #[o.ptr, .int .i64 (f : Int), .int .i64 (c : Int)] 182)).alloc (.cells (S.hc S.Hd.none).toArray 186) := ⟨_, rfl⟩
 have HZ : Hid (w0.heap.size = w.heap.size + 2) := by show w0.heap.size = _; rw [hw0]; simp
 have HB : Hid (Below w.heap.size w w0) := by rw [hw0]; exact (ba ..).alloc (by simp) _
 have HA : Hid (eX w0 w.heap.size o.ptr f c) := by
  show w0.heap[w.heap.size]? = _
  rw [hw0, heap_alloc_old _ _ (by simp)]
  exact heap_alloc_new _ _
 have HH : Hid (bQ w0 (w.heap.size + 1) S.Hd.none) := by
  show w0.heap[w.heap.size + 1]? = _
  rw [hw0, show w.heap.size + 1 = (w.alloc (.cells #[o.ptr, .int .i64 (f : Int), .int .i64 (c : Int)] 182)).heap.size from by simp]
  exact heap_alloc_new _ _
 have HD := hide (hd.below HB.out)
 have hal := iZ (w.alloc (.cells #[o.ptr, .int .i64 (f : Int), .int .i64 (c : Int)] 182))
 rw [<- hw0] at hal
 have hz1 : (w.alloc (.cells #[o.ptr, .int .i64 (f : Int), .int .i64 (c : Int)] 182)).heap.size = w.heap.size + 1 := by simp
 rw [hz1] at hal
 obtain ⟨ga, hga⟩ : ∃ ga, ga = w.heap.size := ⟨_, rfl⟩
 obtain ⟨gr, hgr⟩ : ∃ gr, gr = w.heap.size + 1 := ⟨_, rfl⟩
 rw [<- hga] at HA
 rw [<- hgr] at HH
 have HGA : Hid (ga = w.heap.size /\ gr = w.heap.size + 1) := ⟨hga, hgr⟩
 have HS : Hid (s0 = d.seen.getD (f + 0) [] /\ s1 = d.seen.getD (f + 1) []) := ⟨hs0, hs1⟩
 clear hs0 hs1 hd h hz1
 obtain ⟨a0, a1, a2⟩ := HA.out.cells
 unfold arv
 go_enter Tryz.func155, Tryz.ntmps155
 go_wp2_with (with_reducible refine au ⟨some 2, .alloc 186, 0, "head.go:94", #[], none⟩ ?_; refine ah rfl 186 rfl _ _ hal ?_)
 rw [<- hw0, <- hgr, <- hga]
 clear hga hgr hal hw0
 refine (sG o d f c 0 w0 HD.out (by have := HO.out; omega) hc s0 HS.out.1).mono ?_
 rintro e w1 ⟨rfl, b1⟩
 have hok0 := S.AB f c 0 s0 HL0.out
 obtain ⟨H0, hH0⟩ : ∃ H, H = S.gF f c 0 s0 := ⟨_, rfl⟩
 obtain ⟨M0, hM0⟩ : ∃ M, M = S.sight f c 0 s0 := ⟨_, rfl⟩
 rw [<- hH0] at hok0 ⊢
 rw [<- hM0]
 have HH0 : Hid (H0 = S.gF f c 0 s0 /\ M0 = S.sight f c 0 s0) := ⟨hH0, hM0⟩
 have HA1 := HA.out.below b1 (aa HA.out)
 have HR1 := HH.out.below b1 (aa HH.out)
 have HD1 := HD.out.below b1
 have B1 := HB.out.trans (b1.mono HB.out.size)
 obtain ⟨w2, hst, hr2, c2⟩ := dC (h := H0) HR1 (S.zeros_length _) hok0.sl
 have D2 := HD1.one c2 (fun e => by have := HLT.out _ e; have := HGA.out; omega) (by have := HGA.out; have := HP.out; omega)
 have A2 : eX w2 ga o.ptr f c := c2.row HA1 (by have := HGA.out; omega)
 have B2 : Below w.heap.size w w2 := B1.trans (c2.base B1.size (by have := HGA.out; omega))
 obtain ⟨HV0, jG⟩ : ∃ X, X = hdv H0 := ⟨_, rfl⟩
 rw [<- jG] at hst ⊢
 have zV : Hid (HV0 = hdv H0) := jG
 have ui := hide hok0
 have HD2 := hide D2
 have HA2 := hide A2
 have HR2 := hide hr2
 have HB2 := hide B2
 clear a0 a1 a2
 obtain ⟨a0, a1, a2⟩ := A2.cells
 clear HA1 HR1 HD1 B1 hr2 c2 D2 A2 B2 jG hok0 hH0 hM0 b1
 go_wp2_with (with_reducible refine au ⟨none, .store 186 (.tmp 2) (.tmp 11), 0, "head.go:95", #[{ on := 3, ground := Ground.data }, { on := 1, ground := Ground.chain }, { on := 0, ground := Ground.phase }, { on := 1, ground := Ground.phase }, { on := 2, ground := Ground.phase }, { on := 3, ground := Ground.phase }, { on := 4, ground := Ground.textOnly Departure.lateStores }], none⟩ ?_; refine ai rfl 186 (.tmp 2) (.tmp 11) rfl (.pointer (some ⟨gr, 0, none⟩)) HV0 rfl rfl w2 hst ?_)
 refine (sG o d f c 1 w2 HD2.out HO.out hc s1 HS.out.2).mono ?_
 rintro e w3 ⟨rfl, b3⟩
 have hok1 := S.AB f c 1 s1 HL1.out
 obtain ⟨H1, hH1⟩ : ∃ H, H = S.gF f c 1 s1 := ⟨_, rfl⟩
 obtain ⟨M1, hM1⟩ : ∃ M, M = S.sight f c 1 s1 := ⟨_, rfl⟩
 rw [<- hH1] at hok1 ⊢
 rw [<- hM1]
 have HH1 : Hid (H1 = S.gF f c 1 s1 /\ M1 = S.sight f c 1 s1) := ⟨hH1, hM1⟩
 have uh := hide hok1
 have A3 := HA2.out.below b3 (aa HA2.out)
 have R3 := HR2.out.below b3 (aa HR2.out)
 have B3 := HB2.out.trans (b3.mono HB2.out.size)
 have hal := iZ w3
 have hd4 : bQ (w3.alloc (.cells (S.hc S.Hd.none).toArray 186)) w3.heap.size S.Hd.none := heap_alloc_new _ _
 obtain ⟨w5, Fz, hd5, c5⟩ := dC (h := H1) hd4 (S.zeros_length _) hok1.sl
 have b34 : Below w3.heap.size w3 (w3.alloc (.cells (S.hc S.Hd.none).toArray 186)) := ba ..
 have b5 : Below w3.heap.size w3 w5 := b34.trans (c5.base b34.size (lr _))
 have CU5 : Hid (CuIs w5 ga gr w3.heap.size o.ptr f c H0 H1) := ⟨A3.below b5 (aa A3), R3.below b5 (aa R3), hd5⟩
 have B5 : Hid (Below w.heap.size w w5) := B3.trans (b5.mono B3.size)
 have HGK : Hid (gr < w3.heap.size) := aa R3
 obtain ⟨gk, hgk⟩ : ∃ gk, gk = w3.heap.size := ⟨_, rfl⟩
 rw [<- hgk] at CU5 hal Fz HGK
 obtain ⟨HV1, Cy⟩ : ∃ X, X = hdv H1 := ⟨_, rfl⟩
 rw [<- Cy] at Fz ⊢
 have zU : Hid (HV1 = hdv H1) := Cy
 obtain ⟨HC0, fV⟩ : ∃ X, X = (S.hc S.Hd.none).toArray := ⟨_, rfl⟩
 rw [<- fV] at hal Fz
 have l1 := CU5.out.back.load uh.out.sl
 have l0 := CU5.out.res.load ui.out.sl
 rw [<- zU.out] at l1
 rw [<- zV.out] at l0
 clear hst a0 a1 a2 A3 R3 B3 hd4 hd5 c5 b34 b5 hgk Cy fV hok1 hH1 hM1 b3 HD2 HA2 HR2 HB2
 go_wp2_with (first | (with_reducible refine au ⟨some 6, .alloc 186, 0, "head.go:96", #[], none⟩ ?_; refine ah rfl 186 rfl (.pointer (some ⟨gk, 0, none⟩)) (w3.alloc (.cells HC0 186)) hal ?_) | (with_reducible refine au ⟨none, .store 186 (.tmp 6) (.tmp 16), 0, "head.go:96", #[{ on := 5, ground := Ground.data }, { on := 3, ground := Ground.data }, { on := 1, ground := Ground.chain }, { on := 0, ground := Ground.phase }, { on := 1, ground := Ground.phase }, { on := 2, ground := Ground.phase }, { on := 3, ground := Ground.phase }, { on := 4, ground := Ground.textOnly Departure.lateStores }, { on := 5, ground := Ground.phase }], none⟩ ?_; refine ai rfl 186 (.tmp 6) (.tmp 16) rfl (.pointer (some ⟨gk, 0, none⟩)) HV1 rfl rfl w5 Fz ?_) | (with_reducible refine au ⟨some 19, .load 186 (.tmp 6), 186, "head.go:99", #[], none⟩ ?_; refine ay rfl 186 (.tmp 6) rfl (.pointer (some ⟨gk, 0, none⟩)) rfl HV1 l1 ?_) | (with_reducible refine au ⟨some 21, .load 186 (.tmp 2), 186, "head.go:99", #[], none⟩ ?_; refine ay rfl 186 (.tmp 2) rfl (.pointer (some ⟨gr, 0, none⟩)) rfl HV0 l0 ?_))
 rw [zV.out, zU.out]
 refine (uK H1 H0 M1 M0 w5 uh.out ui.out).mono ?_
 rintro e w6 ⟨rfl, b6⟩
 rw [<- zV.out, <- zU.out]
 have CU6 := hide (CU5.out.below b6)
 have B6 := hide (B5.out.trans (b6.mono B5.out.size))
 clear hal Fz l1 l0 b6 CU5 B5
 have ECU : Hid (S.cur f c s0 s1 = if S.holds H1 M1 H0 M0 = true then some (H1, 1) else if S.holds H0 M0 H1 M1 = true then some (H0, 0) else none) := by rw [HH0.out.1, HH0.out.2, HH1.out.1, HH1.out.2]; rfl
 cases hh1 : S.holds H1 M1 H0 M0 with
 | true =>
  have EC : Hid (S.cur f c s0 s1 = some (H1, 1)) := by rw [ECU.out, if_pos hh1]; rfl
  have l1 := CU6.out.back.load uh.out.sl
  obtain ⟨w7, hst7, r7, c7⟩ := dC (h := H1) CU6.out.res ui.out.sl uh.out.sl
  have l7 := r7.load uh.out.sl
  obtain ⟨w8, sD, r8, c8⟩ := dC (h := H1) r7 uh.out.sl uh.out.sl
  have R8 := hide r8
  have B8 : Hid (Below w.heap.size w w8) := by
   have b7 := B6.out.trans (c7.base B6.out.size (by have := HGA.out; omega))
   exact b7.trans (c8.base b7.size (by have := HGA.out; omega))
  rw [<- zU.out] at l1 hst7 l7 sD
  clear hh1 r7 r8 c7 c8
  go_wp2_with (first | (with_reducible refine au ⟨some 30, .load 186 (.tmp 6), 186, "head.go:100", #[], none⟩ ?_; refine ay rfl 186 (.tmp 6) rfl (.pointer (some ⟨gk, 0, none⟩)) rfl HV1 l1 ?_) | (with_reducible refine au ⟨none, .store 186 (.tmp 2) (.tmp 30), 0, "head.go:100", #[{ on := 0, ground := Ground.data }, { on := 0, ground := Ground.phase }], none⟩ ?_; refine ai rfl 186 (.tmp 2) (.tmp 30) rfl (.pointer (some ⟨gr, 0, none⟩)) HV1 rfl rfl w7 hst7 ?_) | (with_reducible refine au ⟨some 31, .load 186 (.tmp 2), 186, "head.go:103", #[], none⟩ ?_; refine ay rfl 186 (.tmp 2) rfl (.pointer (some ⟨gr, 0, none⟩)) rfl HV1 l7 ?_) | (with_reducible refine au ⟨none, .store 186 (.tmp 2) (.tmp 31), 0, "head.go:103", #[{ on := 0, ground := Ground.data }, { on := 0, ground := Ground.phase }, { on := 1, ground := Ground.textOnly Departure.lateStores }], none⟩ ?_; refine ai rfl 186 (.tmp 2) (.tmp 31) rfl (.pointer (some ⟨gr, 0, none⟩)) HV1 rfl rfl w8 sD ?_))
  refine bodyPost_ret (ib Tryz.results155 _ _ gr (hdv H1) rfl (R8.out.loadVar uh.out.sl)) rfl ⟨?_, B8.out⟩
  rw [EC.out]
  rfl
 | false =>
  have l1 := CU6.out.back.load uh.out.sl
  have l0 := CU6.out.res.load ui.out.sl
  rw [<- zU.out] at l1
  rw [<- zV.out] at l0
  have HH1F := hide hh1
  clear hh1
  go_wp2_with (first | (with_reducible refine au ⟨some 25, .load 186 (.tmp 2), 186, "head.go:102", #[], none⟩ ?_; refine ay rfl 186 (.tmp 2) rfl (.pointer (some ⟨gr, 0, none⟩)) rfl HV0 l0 ?_) | (with_reducible refine au ⟨some 27, .load 186 (.tmp 6), 186, "head.go:102", #[], none⟩ ?_; refine ay rfl 186 (.tmp 6) rfl (.pointer (some ⟨gk, 0, none⟩)) rfl HV1 l1 ?_))
  rw [zV.out, zU.out]
  refine (uK H0 H1 M0 M1 w6 ui.out uh.out).mono ?_
  rintro e w7 ⟨rfl, b7⟩
  rw [<- zV.out, <- zU.out]
  have CU7 := hide (CU6.out.below b7)
  have B7 := hide (B6.out.trans (b7.mono B6.out.size))
  clear l1 l0 b7
  cases hh0 : S.holds H0 M0 H1 M1 with
  | true =>
   have EC : Hid (S.cur f c s0 s1 = some (H0, 0)) := by rw [ECU.out, if_neg (by rw [HH1F.out]; decide), if_pos hh0]; rfl
   have l7 := CU7.out.res.load ui.out.sl
   obtain ⟨w8, sD, r8, c8⟩ := dC (h := H0) CU7.out.res ui.out.sl ui.out.sl
   have R8 := hide r8
   have B8 : Hid (Below w.heap.size w w8) := B7.out.trans (c8.base B7.out.size (by have := HGA.out; omega))
   rw [<- zV.out] at l7 sD
   clear hh0 r8 c8
   go_wp2_with (first | (with_reducible refine au ⟨some 31, .load 186 (.tmp 2), 186, "head.go:103", #[], none⟩ ?_; refine ay rfl 186 (.tmp 2) rfl (.pointer (some ⟨gr, 0, none⟩)) rfl HV0 l7 ?_) | (with_reducible refine au ⟨none, .store 186 (.tmp 2) (.tmp 31), 0, "head.go:103", #[{ on := 0, ground := Ground.data }, { on := 0, ground := Ground.phase }, { on := 1, ground := Ground.textOnly Departure.lateStores }], none⟩ ?_; refine ai rfl 186 (.tmp 2) (.tmp 31) rfl (.pointer (some ⟨gr, 0, none⟩)) HV0 rfl rfl w8 sD ?_))
   refine bodyPost_ret (ib Tryz.results155 _ _ gr (hdv H0) rfl (R8.out.loadVar ui.out.sl)) rfl ⟨?_, B8.out⟩
   rw [EC.out]
   rfl
  | false =>
   have EC : Hid (S.cur f c s0 s1 = none) := by rw [ECU.out, if_neg (by rw [HH1F.out]; decide), if_neg (by rw [hh0]; decide)]; rfl
   have hbd := iI w7
   obtain ⟨w8, sD, r8, c8⟩ := dC (h := S.Hd.none) CU7.out.res ui.out.sl (S.zeros_length _)
   have R8 := hide r8
   have B8 : Hid (Below w.heap.size w w8) := B7.out.trans (c8.base B7.out.size (by have := HGA.out; omega))
   obtain ⟨HVN, hHVN⟩ : ∃ X, X = hdv S.Hd.none := ⟨_, rfl⟩
   rw [<- hHVN] at hbd sD
   clear hh0 r8 c8 hHVN
   go_wp2_with (first | (with_reducible refine au ⟨some 33, .build 186 #[], 186, "head.go:105", #[], none⟩ ?_; refine aG rfl 186 [] rfl [] rfl HVN hbd ?_) | (with_reducible refine au ⟨none, .store 186 (.tmp 2) (.tmp 33), 0, "head.go:105", #[{ on := 0, ground := Ground.data }, { on := 0, ground := Ground.phase }], none⟩ ?_; refine ai rfl 186 (.tmp 2) (.tmp 33) rfl (.pointer (some ⟨gr, 0, none⟩)) HVN rfl rfl w8 sD ?_))
   refine bodyPost_ret (ib Tryz.results155 _ _ gr (hdv S.Hd.none) rfl (R8.out.loadVar (S.zeros_length _))) rfl ⟨?_, B8.out⟩
   rw [EC.out]
   rfl
end Go.Proofs.YteealihknndclabGreatDoor
namespace Go.Proofs.YteealihknndclabGreatDoor
open Go.RowKit

theorem AQ (w : World) : (Instr.alloc 184 true (.tuple #[])).run Tryz.prog w = .ok (.pointer (some ⟨w.heap.size, 0, none⟩)) (w.alloc (.cells (S.v8 (S.zeros 32)) 184)) := by
 have h1 : (Tryz.prog.info? 184).map (fun i => (i.size, i.bytes)) = some (32, 32) := by kernel_rfl
 have h2 : (Tryz.prog.info? 184).bind (·.zero) = some (.agg (S.v8 (S.zeros 32))) := by kernel_rfl
 obtain ⟨i, hi, hz, _, _⟩ := bZ h1 h2
 simp [Instr.alloc, zeroValue, typeInfo, hi, hz, newVar, newRow, Value.cells]
theorem dig_row {w : World} {g : Nat} {xs : List UInt8} {t : TypeId} (h : w.heap[g]? = some (.cells (S.v8 xs) t (0, 0))) (hl : xs.length = 32) : SliceAt w (.slice (some ⟨g, 0, none⟩) 32 32) xs :=
 Or.inr (Or.inr ⟨g, 0, 32, by rw [hl], by omega, by omega, aa h, fun j hj => by rw [Nat.zero_add]; exact bL h j hj⟩)
set_option maxHeartbeats 1600000 in
set_option maxRecDepth 10000 in
theorem aM (sl : List UInt8) (v : Value) (bs : List UInt8) (w : World) (hl : sl.length = 32) (hv : SliceAt w v bs) (hb : bs.length <= 1000000000) (hK : KAt w) :
  Calls Tryz.prog 103 #[.agg (S.v8 sl), v] w fun e w' => e = .returned (.agg (S.v8 (S.sum (sl ++ bs)))) /\ Below w.heap.size w w' := by
 obtain ⟨C, hC⟩ : ∃ C, C = S.v8 sl := ⟨_, rfl⟩
 obtain ⟨w0, hw0⟩ : ∃ w0, w0 = (w.alloc (.cells C 184)).alloc (.cells (S.v8 (S.zeros 32)) 184) := ⟨_, rfl⟩
 have HZ : Hid (w0.heap.size = w.heap.size + 2) := by show w0.heap.size = _; rw [hw0]; simp
 have HB : Hid (Below w.heap.size w w0) := by rw [hw0]; exact (ba ..).alloc (by simp) _
 have r0 : w0.heap[w.heap.size]? = some (.cells (S.v8 sl) 184 (0, 0)) := by
  rw [hw0, heap_alloc_old _ _ (by simp), <- hC]
  exact heap_alloc_new _ _
 have r1 : w0.heap[w.heap.size + 1]? = some (.cells (S.v8 (S.zeros 32)) 184 (0, 0)) := by
  rw [hw0, show w.heap.size + 1 = (w.alloc (.cells C 184)).heap.size from by simp]
  exact heap_alloc_new _ _
 have hal := AQ (w.alloc (.cells C 184))
 have hz1 : (w.alloc (.cells C 184)).heap.size = w.heap.size + 1 := by simp
 rw [<- hw0, hz1] at hal
 obtain ⟨ga, hga⟩ : ∃ ga, ga = w.heap.size := ⟨_, rfl⟩
 obtain ⟨gr, hgr⟩ : ∃ gr, gr = w.heap.size + 1 := ⟨_, rfl⟩
 rw [<- hga] at r0
 rw [<- hgr] at r1
 have HGA : Hid (ga = w.heap.size /\ gr = w.heap.size + 1) := ⟨hga, hgr⟩
 have R1 := hide r1
 have hv0 := hv.below HB.out (lr _)
 have hd0 := dig_row r0 hl
 have K0 := hide (hK.below HB.out hK.pos)
 obtain ⟨ao, ln, cp, rfl, hln, hmx⟩ := hv.form
 obtain ⟨w2, hw2⟩ : ∃ w2, w2 = w0.alloc (.cells #[.slice (some ⟨ga, 0, none⟩) 32 32, .slice ao ln cp] 22) := ⟨_, rfl⟩
 have L2 : Hid (pU w2 w0.heap.size [sl, bs]) := by rw [hw2]; exact DT _ _ _ _ _ hd0 hv0
 have B02 : Hid (Below w0.heap.size w0 w2) := by rw [hw2]; exact ba ..
 have hfl : [sl, bs].flatten = sl ++ bs := by simp
 clear r0 r1 hv hv0 hd0 hK hz1 hln hmx
 rw [<- hC]
 clear hC
 have HSZ : Hid (w0.heap.size = w.heap.size + 2) := HZ.out
 go_enter Tryz.func103, Tryz.ntmps103
 go_upto_region 1 with (with_reducible refine au ⟨some 4, .alloc 184, 0, "head.go:124", #[], none⟩ ?_; refine ah rfl 184 rfl _ _ hal ?_)
 try rw [<- hw0]
 rw [<- hgr, <- hga]
 clear hw0 hal hga hgr
 go_wp2_with fail
 rw [<- hw2]
 clear hw2
 refine (Fx w0.heap.size 2 2 _ w2 rfl (by omega) (by omega) L2.out (by rw [hfl, List.length_append, hl]; omega)).mono ?_
 rw [hfl]
 rintro e w3 ⟨gj, rfl, g3, r3, b3⟩
 have B3 : Hid (Below w.heap.size w w3) := HB.out.trans ((B02.out.trans (b3.mono B02.out.size)).mono (by have := HZ.out; omega))
 have B03 : Hid (Below w0.heap.size w0 w3) := B02.out.trans (b3.mono B02.out.size)
 have T3 := hide (az (wZ r3 rfl) rfl (by rw [List.length_append, hl]; omega))
 have K3 := hide (K0.out.below B03.out K0.out.pos)
 obtain ⟨N, hN⟩ : ∃ N, N = (sl ++ bs).length := ⟨_, rfl⟩
 rw [<- hN] at T3 ⊢
 clear r3 b3 g3 hN hfl
 go_wp2_with fail
 refine (AU _ _ w3 T3.out K3.out).mono ?_
 rintro e w4 ⟨rfl, b4⟩
 have B04 : Below w0.heap.size w0 w4 := B03.out.trans (b4.mono B03.out.size)
 have B4 : Hid (Below w.heap.size w w4) := B3.out.trans (b4.mono B3.out.size)
 have R4 : Hid (w4.heap[gr]? = some (.cells (S.v8 (S.zeros 32)) 184 (0, 0))) := (B04.block gr (aa R1.out)).trans R1.out
 obtain ⟨X, hX⟩ : ∃ X, X = sl ++ bs := ⟨_, rfl⟩
 rw [<- hX]
 have HX : Hid (X = sl ++ bs) := hX
 clear b4 B04 hX
 go_wp2_with (refine wpList_store_row rfl 184 _ _ rfl gr (S.v8 (S.sum X)) rfl rfl 184 _ R4.out (nL X) (uk X) (S.jU _) ?_)
 exact bodyPost_ret (v := .agg (S.v8 (S.sum X))) (results_cell_row (g := gr) (t := 184) (fr := (0, 0)) Tryz.results103 _ _ _ _ rfl (setRow_heap _ _ _ _ _ _ R4.out) Tryz.underlying184 rfl (nL X)) rfl ⟨by rw [HX.out], below_setRow B4.out (by have := HGA.out; omega) _⟩
set_option maxHeartbeats 1600000 in
set_option maxRecDepth 10000 in
theorem xL (h : S.Hd) (u : Nat) (sl : List UInt8) (w : World) (ht : h.turn + 1 < 18446744073709551616) (hl : sl.length = 32) :
  Calls Tryz.prog 102 #[hdv h, .int .i64 (u : Int), .agg (S.v8 sl)] w fun e w' => e = .returned (hdv ⟨h.turn + 1, u, sl⟩) /\ Below w.heap.size w w' := by
 obtain ⟨C, hC⟩ : ∃ C, C = (S.hc h).toArray := ⟨_, rfl⟩
 obtain ⟨D, hD⟩ : ∃ D, D = S.v8 sl := ⟨_, rfl⟩
 obtain ⟨w0, hw0⟩ : ∃ w0, w0 = ((w.alloc (.cells C 186)).alloc (.cells D 184)).alloc (.cells (S.hc S.Hd.none).toArray 186) := ⟨_, rfl⟩
 have HB : Hid (Below w.heap.size w w0) := by rw [hw0]; exact ((ba ..).alloc (by simp) _).alloc (by simp; omega) _
 have a0 : bQ w0 w.heap.size h := by
  show w0.heap[w.heap.size]? = _
  rw [hw0, heap_alloc_old _ _ (by simp; omega), heap_alloc_old _ _ (by simp), <- hC]
  exact heap_alloc_new _ _
 have r1 : w0.heap[w.heap.size + 1]? = some (.cells (S.v8 sl) 184 (0, 0)) := by
  rw [hw0, heap_alloc_old _ _ (by simp), <- hD, show w.heap.size + 1 = (w.alloc (.cells C 186)).heap.size from by simp]
  exact heap_alloc_new _ _
 have a2 : bQ w0 (w.heap.size + 2) S.Hd.none := by
  show w0.heap[w.heap.size + 2]? = _
  rw [hw0, show w.heap.size + 2 = ((w.alloc (.cells C 186)).alloc (.cells D 184)).heap.size from by simp]
  exact heap_alloc_new _ _
 have hal := iZ ((w.alloc (.cells C 186)).alloc (.cells D 184))
 have hz1 : ((w.alloc (.cells C 186)).alloc (.cells D 184)).heap.size = w.heap.size + 2 := by simp
 rw [<- hw0, hz1] at hal
 have c0 := a0.turn
 have ld : (Instr.loadAt 184 (.pointer (some ⟨w.heap.size + 1, 0, none⟩))).run Tryz.prog w0 = .ok (.agg D) w0 := by
  rw [hD, S.jL]
  exact run_loadAt_mid (P := Tryz.prog) w0 _ 0 184 _ _ (aH r1) Tryz.underlying184 rfl (by rw [oV, S.ae, hl])
 have hbd := build73 ⟨h.turn + 1, u, sl⟩ hl w0
 obtain ⟨w1, hst, hr, c1⟩ := dC (h := ⟨h.turn + 1, u, sl⟩) a2 (S.zeros_length _) hl
 have HR := hide hr
 have HB1 : Hid (Below w.heap.size w w1) := HB.out.trans (c1.base HB.out.size (by omega))
 simp only at hbd
 rw [<- hD] at hbd
 obtain ⟨HV, hHV⟩ : ∃ X, X = hdv ⟨h.turn + 1, u, sl⟩ := ⟨_, rfl⟩
 rw [<- hHV] at hbd hst
 obtain ⟨T, hT⟩ : ∃ T, T = h.turn := ⟨_, rfl⟩
 rw [<- hT] at c0 hbd ht
 have hwr : IntKind.u64.wrap ((T : Int) + 1) = ((T + 1 : Nat) : Int) := by rw [IntKind.wrap_u64]; omega
 obtain ⟨T1, hT1⟩ : ∃ T1 : Nat, T1 = T + 1 := ⟨_, rfl⟩
 rw [<- hT1] at hwr hbd
 have HHV : Hid (HV = hdv ⟨h.turn + 1, u, sl⟩) := hHV
 obtain ⟨ga, hga⟩ : ∃ ga, ga = w.heap.size := ⟨_, rfl⟩
 obtain ⟨gd, hgd⟩ : ∃ gd, gd = w.heap.size + 1 := ⟨_, rfl⟩
 obtain ⟨gr, hgr⟩ : ∃ gr, gr = w.heap.size + 2 := ⟨_, rfl⟩
 rw [<- hga] at c0
 rw [<- hgd] at ld
 rw [<- hgr] at hst HR
 clear a0 r1 a2 hz1 hr c1 hHV hT1 hT ht
 unfold hdv
 rw [<- hC, <- hD]
 clear hC hD
 go_enter Tryz.func102, Tryz.ntmps102
 go_upto_region 1 with (with_reducible refine au ⟨some 6, .alloc 186, 0, "head.go:28", #[], none⟩ ?_; refine ah rfl 186 rfl _ _ hal ?_)
 try rw [<- hw0]
 rw [<- hgr, <- hgd, <- hga]
 clear hw0 hal hga hgd hgr
 go_wp2_with (first | (with_reducible refine au ⟨some 11, .load 184 (.tmp 5), 184, "head.go:29", #[], none⟩ ?_; refine ay rfl 184 (.tmp 5) rfl (.pointer (some ⟨gd, 0, none⟩)) rfl (.agg D) ld ?_) | (with_reducible refine au ⟨some 12, .build 186 #[(0, .tmp 9), (1, .tmp 10), (2, .tmp 11)], 186, "head.go:29", #[{ on := 2, ground := Ground.data }, { on := 3, ground := Ground.data }, { on := 4, ground := Ground.data }], none⟩ ?_; refine aG rfl 186 [(0, Operand.tmp 9), (1, Operand.tmp 10), (2, Operand.tmp 11)] rfl [(0, .int .u64 (T1 : Int)), (1, .int .i64 (u : Int)), (2, .agg D)] rfl HV hbd ?_) | (with_reducible refine au ⟨none, .store 186 (.tmp 6) (.tmp 12), 0, "head.go:29", #[{ on := 5, ground := Ground.data }, { on := 0, ground := Ground.phase }, { on := 1, ground := Ground.phase }, { on := 2, ground := Ground.phase }, { on := 3, ground := Ground.phase }, { on := 4, ground := Ground.phase }, { on := 5, ground := Ground.phase }], none⟩ ?_; refine ai rfl 186 (.tmp 6) (.tmp 12) rfl (.pointer (some ⟨gr, 0, none⟩)) HV rfl rfl w1 hst ?_))
 exact bodyPost_ret (bi Tryz.results102 _ _ gr _ rfl (HR.out.loadVar hl)) rfl ⟨rfl, HB1.out⟩
namespace S
theorem oo (r : List UInt8) (rs : List (List UInt8)) : enc (r :: rs) = lenOf r.length ++ (r ++ enc rs) := by simp [enc]
theorem rd_len (n : Nat) (h : n < 16777216) : (Rd.mk (lenOf n) 0 0 0).number 3 = (⟨lenOf n, 3, 0, 0⟩, n) := by
 unfold Rd.number Rd.take
 rw [oQ, if_pos rfl, if_pos (by show 0 + 3 <= (lenOf n).length; rw [bO]; omega)]
 show (_, val (((lenOf n).drop 0).take 3)) = _
 rw [List.drop_zero, List.take_of_length_le (by rw [bO]; omega), lenOf, ik, Nat.mod_eq_of_lt h]
end S
def Reads (w : World) (vs : List Value) (rs : List (List UInt8)) : Prop := vs.length = rs.length /\ ∀ j, j < rs.length -> SliceAt w (vs.getD j default) (rs.getD j [])
theorem Reads.nil (w : World) : Reads w [] [] := ⟨rfl, fun _ hj => absurd hj (Nat.not_lt_zero _)⟩
theorem Reads.snoc {w : World} {vs : List Value} {rs : List (List UInt8)} {v : Value} {r : List UInt8} (h : Reads w vs rs) (hv : SliceAt w v r) : Reads w (vs ++ [v]) (rs ++ [r]) := by
 refine ⟨by simp [h.1], fun j hj => ?_⟩
 simp only [List.length_append, List.length_singleton] at hj
 simp only [List.getD_eq_getElem?_getD]
 by_cases e : j < rs.length
 ·rw [List.getElem?_append_left (by rw [h.1]; exact e), List.getElem?_append_left e]
  have := h.2 j e
  simpa only [List.getD_eq_getElem?_getD] using this
 ·obtain rfl : j = rs.length := by omega
  have e1 : (vs ++ [v])[rs.length]? = some v := by rw [<- h.1]; simp
  rw [e1]
  simpa using hv
theorem Reads.below {w W : World} {vs : List Value} {rs : List (List UInt8)} (h : Reads w vs rs) (hb : Below w.heap.size w W) : Reads W vs rs := ⟨h.1, fun j hj => (h.2 j hj).below hb (lr _)⟩
theorem zq (rs : List (List UInt8)) : rs.length <= (S.enc rs).length := by
 induction rs with
 | nil => exact lr _
 | cons r rs ih => rw [S.oo]; simp [S.bO]; omega
set_option maxHeartbeats 4000000 in
set_option maxRecDepth 10000 in
theorem uy (v : Value) (rs : List (List UInt8)) (w : World) (hv : SliceAt w v (S.enc rs)) (hm : (S.enc rs).length < 1000000) :
  Calls Tryz.prog 158 #[v] w fun e w' => ∃ lv vs, e = .returned (.tuple #[lv, .bool true]) /\ Lists w' lv vs /\ Reads w vs rs /\ (∀ k, lv.ownBlock = some k -> w.heap.size <= k) /\ Below w.heap.size w w' := by
 obtain ⟨ao0, n0, c0, rfl, hn0, hmx0⟩ := hv.form
 have HV := hide hv
 have HN0 := hide hn0
 clear hv hn0
 go_enter Tryz.func158, Tryz.ntmps158
 go_wp2_with fail
 go_loopw [0, 4] (fun u l wr => ∃ (ao : Option Addr) (n c : Nat) (dn rest : List (List UInt8)) (vs : List Value), u = .slice ao n c /\ n = (S.enc rest).length /\ SliceAt w (.slice ao n c) (S.enc rest) /\ rs = dn ++ rest /\ Lists wr l vs /\ Reads w vs dn /\ (∀ k, l.ownBlock = some k -> w.heap.size <= k) /\ Below w.heap.size w wr) (fun u _ _ => match u with | .slice _ n _ => n | _ => 0)
 case atStart => exact ⟨ao0, n0, c0, [], rs, [], rfl, HN0.out, HV.out, rfl, Or.inl ⟨rfl, rfl⟩, Reads.nil _, (fun k hk => by cases hk), Below.refl _ _⟩
 case round =>
  obtain ⟨ao, n, c, dn, rest, vs, rfl, hn, hu, hrs, hL, hRd, hown, hb⟩ := hrel
  have LS := hide hL
  have RD := hide hRd
  have OW := hide hown
  have BB := hide hb
  have HU := hide hu
  have HRS := hide hrs
  cases rest with
  | nil =>
   obtain rfl : n = 0 := by rw [hn]; rfl
   obtain ⟨al, cl, hl⟩ := hL.shape
   clear hL hRd hown hb hu hrs hn HV
   subst hl
   go_wp2_with fail
   go_ret2
   refine ⟨_, vs, rfl, LS.out, ?_, OW.out, BB.out⟩
   have e := HRS.out
   rw [List.append_nil] at e
   rw [e]
   exact RD.out
  | cons r rest =>
   have hel : (S.enc (r :: rest)).length = 3 + (r.length + (S.enc rest).length) := by rw [S.oo]; simp [S.bO]
   have htot : (S.enc (r :: rest)).length <= (S.enc rs).length := by rw [hrs]; simp [S.enc]
   have hrl : r.length < 1000000 := by omega
   obtain ⟨L, hL'⟩ : ∃ L, L = r.length := ⟨_, rfl⟩
   obtain ⟨M, hM⟩ : ∃ M, M = (S.enc rest).length := ⟨_, rfl⟩
   have hnn : n = 3 + (L + M) := by rw [hn, hel, hL', hM]
   have hLM : L + M < 1000000 := by omega
   have hlc := hu.le_cap
   obtain ⟨bk, off, rfl, hz1, hz2, hz3⟩ := hu.src (by omega)
   clear hz1 hz2 hz3
   have p3 := j5 hu 3 (by omega)
   have e3 : (S.enc (r :: rest)).take 3 = S.lenOf L := by rw [S.oo, <- hL']; exact List.take_left' (S.bO _)
   rw [e3] at p3
   have f3 := lW hu hn 3 (by omega)
   have e4 : (S.enc (r :: rest)).drop 3 = r ++ S.enc rest := by rw [S.oo]; exact List.drop_left' (S.bO _)
   rw [e4] at f3
   obtain ⟨ox, hox⟩ : ∃ ox, ox = if c = 3 then off else off + 3 := ⟨_, rfl⟩
   have hax : (if c = 3 then some (⟨bk, off, none⟩ : Addr) else some ⟨bk, off + 3, none⟩) = some ⟨bk, ox, none⟩ := by rw [hox]; split <;> rfl
   rw [Option.map_some, Addr.add_lit, hax] at f3
   have f3' : SliceAt w (.slice (some ⟨bk, ox, none⟩) (L + M) (c - 3)) (r ++ S.enc rest) := by rw [show L + M = n - 3 from by omega]; exact f3
   have pl := j5 f3' L (by omega)
   have e5 : (r ++ S.enc rest).take L = r := by rw [hL']; exact List.take_left
   rw [e5] at pl
   have fl := lW f3' (by rw [List.length_append]; omega) L (by omega)
   have e6 : (r ++ S.enc rest).drop L = S.enc rest := by rw [hL']; exact List.drop_left
   rw [e6, show L + M - L = M from by omega] at fl
   obtain ⟨oy, hoy⟩ : ∃ oy, oy = if c - 3 = L then ox else ox + L := ⟨_, rfl⟩
   have hay : (if c - 3 = L then some (⟨bk, ox, none⟩ : Addr) else some ⟨bk, ox + L, none⟩) = some ⟨bk, oy, none⟩ := by rw [hoy]; split <;> rfl
   rw [Option.map_some, Addr.add_lit, hay] at fl
   have P3 := hide p3
   have PL := hide pl
   have FL := hide fl
   have ET := hide (S.rd_len L (by omega))
   have q1 : (0 : Int) < ((3 + (L + M) : Nat) : Int) := by omega
   have q2 : ¬ ((3 + (L + M) : Nat) : Int) < 3 := by omega
   have q3 : (3 : Int) <= ((3 + (L + M) : Nat) : Int) := by omega
   have q4 : ((3 + (L + M) : Nat) : Int) <= (c : Int) := by omega
   have q5 : (3 : Int) <= (c : Int) := by omega
   have HAX := hide hax
   have HAY := hide hay
   have HLR : Hid (L = r.length /\ M = (S.enc rest).length) := ⟨hL', hM⟩
   obtain ⟨al, cl, hl⟩ := hL.shape
   clear hL hRd hown hb hu hrs hn hel htot hrl p3 e3 f3 e4 f3' pl e5 fl e6 hax hay hox hoy hL' hM HV
   subst hl hnn
   go_wp2_with fail
   refine (iy _ _ wr (P3.out.below BB.out (lr _)) (by rw [S.bO]; omega)).mono ?_
   rintro e w1 ⟨gd, gx, rfl, g1, x1, r1, b1⟩
   have RD1 := hide r1
   have B1 : Hid (Below wr.heap.size wr w1) := b1
   have G1 : Hid (wr.heap.size <= gd) := g1
   clear g1 x1 r1 b1
   go_wp2_with fail
   refine (eO gd gx w1 ET.out RD1.out).mono ?_
   rintro e w2 ⟨rfl, r2, c2⟩
   have b2 : Below wr.heap.size wr w2 := B1.out.trans (c2.base B1.out.size G1.out)
   have L2 : Hid (Lists w2 (.slice al vs.length cl) vs) := LS.out.kept fun k hk => b2.block k (LS.out.lt hk)
   have B2 : Hid (Below w.heap.size w w2) := BB.out.trans (b2.mono BB.out.size)
   have hs2 : w.heap.size <= w2.heap.size := B2.out.size
   clear r2 c2 b2 RD1 B1 G1
   have m1 : ((3 + (L + M) : Nat) : Int) - 3 = ((L + M : Nat) : Int) := by omega
   have m2 : ¬ (((L + M : Nat) : Int) < (L : Int)) := by omega
   have m3 : (L : Int) <= ((L + M : Nat) : Int) := by omega
   have m4 : ((L + M : Nat) : Int) <= (c : Int) - 3 := by omega
   have n1 : 3 + (L + M) - 3 = L + M := by omega
   have n2 : L + M - L = M := by omega
   have HVL : Hid (vs.length <= 1000000) := by
    show vs.length <= 1000000
    have h1 := RD.out.1
    have h2 := zq rs
    have h3 : dn.length <= rs.length := by rw [HRS.out, List.length_append]; omega
    omega
   go_upto_region 7 with fail
   rw [HAX.out]
   go_upto_region 10 with (at_builtin; (refine aA rfl (.tmp 23) (.tmp 27) 205 205 rfl _ _ rfl rfl (qD _ (.slice al vs.length cl) _ w2.heap.size vs 205 (L2.out.kept (fun k hk => heap_alloc_old _ _ (L2.out.lt hk))) (heap_alloc_new _ _) rfl HVL.out) ?_; rintro v3 w3 ⟨hL3, hg3, ho3⟩; have HL3 := hide hL3; have HG3 := hide hg3; have HO3 := hide ho3; clear hL3 hg3 ho3))
   obtain ⟨a3, c3, hv3⟩ := HL3.out.shape
   subst hv3
   have B3 : Hid (Below w.heap.size w w3) := ⟨HG3.out.os.trans B2.out.os, HG3.out.tape.trans B2.out.tape, HG3.out.output.trans B2.out.output, by have h1 := HG3.out.size; simp at h1; omega, fun k hk => by
    refine (HG3.out.block k (by simp; omega) (fun e => ?_)).trans ((heap_alloc_old _ _ (by omega)).trans (B2.out.block k hk))
    have := OW.out k e.symm
    omega⟩
   have O3 : Hid (∀ k, (Value.slice a3 (vs ++ [Value.slice (some ⟨bk, ox, none⟩) L (c - 3)]).length c3).ownBlock = some k -> w.heap.size <= k) := fun k hk => by
    rcases HO3.out with h' | h'
    ·exact OW.out k (h' ▸ hk)
    ·rw [hk] at h'
     have := Option.some.inj h'
     rw [this]
     simp
     omega
   go_wp2_with fail
   rw [HAY.out]
   go_roundw
   case rel =>
    refine ⟨_, _, _, dn ++ [r], rest, vs ++ [.slice (some ⟨bk, ox, none⟩) L (c - 3)], rfl, HLR.out.2, FL.out, ?_, HL3.out, RD.out.snoc PL.out, O3.out, B3.out⟩
    rw [HRS.out, List.append_assoc]
    rfl
   case measure => simp; omega
end Go.Proofs.YteealihknndclabGreatDoor
namespace Go.Proofs.YteealihknndclabGreatDoor
open Go.RowKit

theorem fD {w : World} {ops : Array Oper} {rest : List Oper} {o : Oper} {a : Act} {Q : Exit -> Act -> World -> Prop} (hw : Region.wanted o (yielded ops a.tmps) = true) (t : TypeId) (x : Operand) (ho : o.op = .load t x) (vx : Value) (hx : a.eval x = vx) (v : Value)
  (hr : (Instr.loadAt t vx).run Tryz.prog w = .ok v w) (h : wpList Tryz.prog ops Q rest (a.put o.dst v) w) : wpList Tryz.prog ops Q (o :: rest) a w := by
 subst hx
 refine wpList_step fun _ hK => ?_
 rw [if_pos hw]
 unfold Oper.wp execOp
 simp only [ho, Sem.run_bind, hr, Result.andThen_ok]
 exact hK _ _ h
theorem zn {w : World} {g : Nat} {xs : List UInt8} (h : w.heap[g]? = some (.cells (S.v8 xs) 184 (0, 0))) (hl : xs.length = 32) : (Instr.loadAt 184 (.pointer (some ⟨g, 0, none⟩))).run Tryz.prog w = .ok (.agg (S.v8 xs)) w := by
 rw [S.jL] at h ⊢
 exact run_loadAt_mid (P := Tryz.prog) w _ 0 184 _ _ (aH h) Tryz.underlying184 rfl (by rw [oV, S.ae, hl])
theorem DY {w : World} {g : Nat} {xs ys : List UInt8} (h : w.heap[g]? = some (.cells (S.v8 xs) 184 (0, 0))) (hx : xs.length = 32) (hy : ys.length = 32) :
  ∃ w', (Instr.storeAt 184 (.pointer (some ⟨g, 0, none⟩)) (.agg (S.v8 ys))).run Tryz.prog w = .ok () w' /\ w'.heap[g]? = some (.cells (S.v8 ys) 184 (0, 0)) /\ Chg (fun k => k = g) w w' := by
 have hr := run_storeVar_row (P := Tryz.prog) w g 184 184 _ (S.v8 ys) h (by rw [oV, S.aU, hy]) (by rw [S.aU, S.aU, hx, hy]) (S.jU _)
 refine ⟨w.setRow g (S.v8 ys), ?_, setRow_heap w g _ _ _ _ h, Chg.setRow (p := fun k => k = g) g _ rfl⟩
 simp only [Instr.storeAt, Instr.sureAddr, Sem.run_bind, Sem.run_pure, Result.andThen_ok, hr]
theorem Bu (rs : List (List UInt8)) (k : Nat) (h : k < rs.length) : S.dY (rs.take (k + 1)) = S.sum (S.dY (rs.take k) ++ rs.getD k []) := by
 rw [List.take_succ_eq_append_getElem h, S.oW]
 simp [List.getD_eq_getElem?_getD, h]
set_option maxHeartbeats 4000000 in
set_option maxRecDepth 10000 in
theorem wX (v : Value) (rs : List (List UInt8)) (sl : List UInt8) (w : World) (hv : SliceAt w v (S.enc rs)) (hm : (S.enc rs).length < 1000000) (hl : sl.length = 32) (hK : KAt w) :
  Calls Tryz.prog 185 #[v, .agg (S.v8 sl)] w fun e w' => e = .returned (.bool (S.dY rs == sl)) /\ Below w.heap.size w w' := by
 obtain ⟨C, hC⟩ : ∃ C, C = S.v8 sl := ⟨_, rfl⟩
 obtain ⟨w0, hw0⟩ : ∃ w0, w0 = w.alloc (.cells C 184) := ⟨_, rfl⟩
 have HB : Hid (Below w.heap.size w w0) := by rw [hw0]; exact ba ..
 have r0 : w0.heap[w.heap.size]? = some (.cells (S.v8 sl) 184 (0, 0)) := by rw [hw0, <- hC]; exact heap_alloc_new _ _
 have HV := hide (hv.below HB.out (lr _))
 have K0 := hide (hK.below HB.out hK.pos)
 obtain ⟨ga, hga⟩ : ∃ ga, ga = w.heap.size := ⟨_, rfl⟩
 rw [<- hga] at r0
 have R0 := hide r0
 have HGA : Hid (ga = w.heap.size) := hga
 have HK0 : Hid (1 < w.heap.size) := hK.pos
 obtain ⟨ao, n, c, rfl, hz1, hz2⟩ := hv.form
 rw [<- hC]
 have HC : Hid (C = S.v8 sl) := hC
 clear hv hK r0 hz1 hz2 hC
 go_enter Tryz.func185, Tryz.ntmps185
 go_wp2_with fail
 rw [<- hw0, <- hga]
 clear hw0 hga
 refine (uy _ rs w0 HV.out hm).mono ?_
 rintro e w1 ⟨lv, vs, rfl, hL, hRd, hOw, b1⟩
 have LS := hide hL
 have RD : Hid (Reads w1 vs rs) := hRd.below b1
 have OW := hide hOw
 have R1 : Hid (w1.heap[ga]? = some (.cells (S.v8 sl) 184 (0, 0))) := (b1.block ga (aa R0.out)).trans R0.out
 have K1 := hide (K0.out.below b1 K0.out.pos)
 have B1 : Hid (Below w.heap.size w w1) := HB.out.trans (b1.mono HB.out.size)
 obtain ⟨al, cl, hlv⟩ := hL.shape
 subst hlv
 have hvl := hRd.1
 have hrl := zq rs
 obtain ⟨N, hN⟩ : ∃ N, N = vs.length := ⟨_, rfl⟩
 rw [<- hN] at LS hvl ⊢
 have HN : Hid (N = rs.length) := hvl
 have hN1 : N < 1000000 := by omega
 have hal := AQ w1
 obtain ⟨w2, hw2⟩ : ∃ w2, w2 = w1.alloc (.cells (S.v8 (S.zeros 32)) 184) := ⟨_, rfl⟩
 rw [<- hw2] at hal
 have b2 : Below w1.heap.size w1 w2 := by rw [hw2]; exact ba ..
 have R2 : Hid (w2.heap[w1.heap.size]? = some (.cells (S.v8 (S.zeros 32)) 184 (0, 0))) := by rw [hw2]; exact heap_alloc_new _ _
 have B2 : Hid (Below w1.heap.size w1 w2) := b2
 obtain ⟨gd, hgd⟩ : ∃ gd, gd = w1.heap.size := ⟨_, rfl⟩
 rw [<- hgd] at R2 hal
 have HGD : Hid (gd = w1.heap.size) := hgd
 clear hL hRd hOw b1 hvl hrl hw2 b2 hgd hN R0 K0 HV
 go_wp2_with (with_reducible refine au ⟨some 7, .alloc 184, 0, "head.go:116", #[], none⟩ ?_; refine ah rfl 184 rfl _ _ hal ?_)
 clear hal
 go_loopw [17] (fun i wr => ∃ k : Nat, k <= N /\ i = .int .i64 (k : Int) /\ wr.heap[gd]? = some (.cells (S.v8 (S.dY (rs.take k))) 184 (0, 0)) /\ Below gd w1 wr) (fun i _ => N - (intOf i).toNat)
 case atStart => exact ⟨0, Nat.zero_le _, rfl, R2.out, by rw [HGD.out]; exact B2.out⟩
 case round =>
  obtain ⟨k, hk, rfl, hr, hb⟩ := hrel
  have hgs : gd = w1.heap.size := HGD.out
  have hb' : Below w1.heap.size w1 wr := by rw [<- hgs]; exact hb
  have hsl := S.fB (rs.take k)
  by_cases hlt : k < N
  ·have L3 := LS.out.kept (w' := wr) fun j hj => hb'.block j (LS.out.lt hj)
   obtain ⟨gl, off, cc, hlv, hcap, hcell⟩ := L3.at k (by rw [RD.out.1, <- HN.out]; exact hlt)
   simp only [Value.slice.injEq] at hlv
   obtain ⟨rfl, hz0, rfl⟩ := hlv
   clear hz0
   have hsv := (RD.out.2 k (by rw [<- HN.out]; exact hlt)).below hb' (lr _)
   obtain ⟨ax, nx, cx, hx, hz1, hz2⟩ := hsv.form
   rw [hx] at hsv hcell
   have HSV := hide hsv
   have KW := hide (K1.out.below hb' K1.out.pos)
   have hld := zn hr hsl
   have hrk : (rs.getD k []).length <= 1000000000 := by
    have h1 : rs.getD k [] ∈ rs := by
     rw [List.getD_eq_getElem?_getD, List.getElem?_eq_getElem (by rw [<- HN.out]; exact hlt)]
     exact List.getElem_mem _
    have h2 : (rs.getD k []).length <= (S.enc rs).length := by
     obtain ⟨a, b, e⟩ := List.append_of_mem h1
     have : (S.enc rs).length = (S.enc a).length + ((3 + (rs.getD k []).length) + (S.enc b).length) := by
      conv => lhs; rw [e]
      simp [S.enc, S.bO]
      omega
     omega
    omega
   have HR := hide hr
   have HBB := hide hb
   have SK := hide (Bu rs k (by rw [<- HN.out]; exact hlt))
   obtain ⟨SL, hSL⟩ : ∃ SL, SL = S.dY (rs.take k) := ⟨_, rfl⟩
   rw [<- hSL] at hsl hld HR SK
   obtain ⟨DV, hDV⟩ : ∃ DV, DV = S.v8 SL := ⟨_, rfl⟩
   rw [<- hDV] at hld
   have HDV : Hid (DV = S.v8 SL) := hDV
   have q1 : (0 : Int) <= (k : Int) := by omega
   have q2 : (k : Int) < (N : Int) := by omega
   have q3 : IntKind.i64.wrap ((k : Int) + 1) = (k : Int) + 1 := by rw [IntKind.wrap_i64]; omega
   clear hr hb hb' L3 hsv hx hz1 hz2 hgs hSL hDV hcap
   go_wp2_with (with_reducible refine au ⟨some 21, .load 184 (.tmp 7), 184, "head.go:118", #[], none⟩ ?_; refine ay rfl 184 (.tmp 7) rfl (.pointer (some ⟨gd, 0, none⟩)) rfl (.agg DV) hld ?_)
   rw [HDV.out]
   refine (aM SL _ _ wr hsl HSV.out hrk KW.out).mono ?_
   rintro e w3 ⟨rfl, b3⟩
   rw [<- HDV.out, <- SK.out]
   have r3 : w3.heap[gd]? = some (.cells (S.v8 SL) 184 (0, 0)) := (b3.block gd (aa HR.out)).trans HR.out
   obtain ⟨w4, hst, r4, c4⟩ := DY (ys := S.dY (rs.take (k + 1))) r3 hsl (S.fB _)
   have R4 := hide r4
   have B4 : Hid (Below gd w1 w4) := by
    have h1 := HBB.out.trans (b3.mono (Nat.le_of_lt (aa HR.out)))
    exact h1.trans (c4.base (ltr (Nat.le_of_eq HGD.out) h1.size) (lr _))
   obtain ⟨D2, hD2⟩ : ∃ D2, D2 = S.v8 (S.dY (rs.take (k + 1))) := ⟨_, rfl⟩
   rw [<- hD2] at hst ⊢
   clear b3 r3 r4 c4 hld hD2
   go_wp2_with (with_reducible refine au ⟨none, .store 184 (.tmp 7) (.tmp 23), 0, "head.go:118", #[{ on := 2, ground := Ground.data }, { on := 2, ground := Ground.chain }, { on := 0, ground := Ground.phase }, { on := 1, ground := Ground.phase }, { on := 2, ground := Ground.phase }], none⟩ ?_; refine ai rfl 184 (.tmp 7) (.tmp 23) rfl (.pointer (some ⟨gd, 0, none⟩)) (.agg D2) rfl rfl w4 hst ?_)
   go_roundw
   case rel => exact ⟨k + 1, by omega, by go_num, R4.out, B4.out⟩
   case measure => simp [intOf]; omega
  ·have q2 : ¬ ((k : Int) < (N : Int)) := by omega
   have eT : rs.take k = rs := List.take_of_length_le (by rw [<- HN.out]; omega)
   rw [eT] at hr hsl
   have r5 : wr.heap[ga]? = some (.cells (S.v8 sl) 184 (0, 0)) := (hb'.block ga (aa R1.out)).trans R1.out
   have l1 := zn hr hsl
   have l2 := zn r5 hl
   have heq := tY (S.dY rs) sl hsl hl wr
   obtain ⟨D1, hD1⟩ : ∃ D, D = S.v8 (S.dY rs) := ⟨_, rfl⟩
   rw [<- hD1] at l1 heq
   rw [<- HC.out] at l2 heq
   obtain ⟨R, hR⟩ : ∃ R, R = (S.dY rs == sl) := ⟨_, rfl⟩
   rw [<- hR] at heq
   have HRR : Hid (R = (S.dY rs == sl)) := hR
   have BF : Hid (Below w.heap.size w wr) := B1.out.trans (hb'.mono B1.out.size)
   clear hr hb hb' hsl eT r5 hgs hD1 hR
   go_wp2_with (first | (with_reducible refine au { dst := some 27, op := Op.load 184 (Operand.tmp 7), type := 184, pos := "head.go:120", after := #[{ on := 1, ground := Ground.guard }], guard := some (1, true) } ?_; refine fD rfl 184 (.tmp 7) rfl (.pointer (some ⟨gd, 0, none⟩)) rfl (.agg D1) l1 ?_) | (with_reducible refine au { dst := some 28, op := Op.load 184 (Operand.tmp 3), type := 184, pos := "head.go:120", after := #[{ on := 1, ground := Ground.guard }], guard := some (1, true) } ?_; refine fD rfl 184 (.tmp 3) rfl (.pointer (some ⟨ga, 0, none⟩)) rfl (.agg C) l2 ?_))
   go_ret
   exact ⟨nO HRR.out, BF.out⟩
end Go.Proofs.YteealihknndclabGreatDoor
namespace Go.Proofs.YteealihknndclabGreatDoor
open Go.RowKit

set_option maxHeartbeats 1600000 in
set_option maxRecDepth 10000 in
theorem Ey (p : Value) (f c k : Nat) (gb : Nat) (s : List UInt8) (w : World) (hf : f <= 100000) (hc : c <= 100000) (hk : k <= 100000) (hs : w.heap[gb]? = some (.cells (S.v8 s) 5 (0, 0))) (ho : S.oC f c k s) :
  Calls Tryz.prog 184 #[arv p f c, .int .i64 (k : Int), .slice (some ⟨gb, 0, none⟩) 128 128] w fun e w' => e = .returned (.bool true) /\ Below w.heap.size w w' := by
 obtain ⟨w0, hw0, HA, HB, HZ⟩ := lL w p f c
 obtain ⟨a0, a1, a2⟩ := pQ w p f c
 have hl := ho.1
 have HS := hide ((HB.out.block gb (aa hs)).trans hs)
 have HO := hide ho
 unfold arv
 clear hs ho
 go_enter Tryz.func184, Tryz.ntmps184
 go_wp2_with fail
 rw [<- hw0]
 clear hw0 a0 a1 a2
 refine (qJ p f c k w0 hf hc hk).mono ?_
 rintro e w1 ⟨gt, rfl, g1, r1, b1⟩
 have HTG := hide (az r1 (S.aV _ _ _).symm (by rw [S.aV]; omega))
 have HSB := hide (az ((b1.block gb (aa HS.out)).trans HS.out) hl.symm (by rw [hl]; omega))
 have B1 : Hid (Below w.heap.size w w1) := HB.out.trans (b1.mono HB.out.size)
 clear g1 r1 b1 HS
 go_wp2_with fail
 refine (mU _ _ _ _ w1 HSB.out HTG.out).mono ?_
 rintro e w9 ⟨rfl, rfl⟩
 by_cases ht : S.tag f c k <+: s
 ·rw [decide_eq_true ht]
  clear ht
  go_wp2_with fail
  go_ret
  exact ⟨rfl, B1.out⟩
 ·rw [decide_eq_false ht]
  have hq : s.take (S.dO s s.length) <+: S.tag f c k := by
   rcases HO.out.asks with h | h
   ·exact absurd h ht
   ·exact h
  rw [hl] at hq
  have HQ := hide hq
  have hle := S.ut s 128
  have HP := hide (j5 HSB.out (S.dO s 128) hle)
  clear ht hq
  go_wp2_with fail
  refine (tH gb 0 128 128 s w1 (by omega) HSB.out).mono ?_
  rintro e w9 ⟨rfl, rfl⟩
  obtain ⟨m, hm⟩ : ∃ m, m = S.dO s 128 := ⟨_, rfl⟩
  rw [<- hm] at HP HQ hle ⊢
  clear hm
  go_wp2_with fail
  refine (mU _ _ _ _ w1 HTG.out HP.out).mono ?_
  rintro e w9 ⟨rfl, rfl⟩
  rw [decide_eq_true HQ.out]
  go_wp2_with fail
  go_ret
  exact ⟨rfl, B1.out⟩
end Go.Proofs.YteealihknndclabGreatDoor
