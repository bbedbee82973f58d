/- current: the head that holds, and its place. -/
/- The seal of a log with one record more; the head behind a head. -/
import Derived.Test.YthjlhngjpbmieaaGreatDoorGo
namespace Go.Proofs.YthjlhngjpbmieaaGreatDoor
open Go.RowKit

/-- What current answers. -/
def curv (r : Option (S.Hd × Nat)) : Value := match r with
  | some (h, p) => .tuple #[hdv h, .int .i64 (p : Int), .bool true]
  | none => .tuple #[hdv S.Hd.none, .int .i64 0, .bool false]
theorem Dsk.one {w W : World} {o : Ow} {d : S.Dk} {g : Nat} (h : Dsk w o d) (hc : Chg (fun k => k = g) w W) (hg : ¬ o.has g) (h0 : 0 < g) : Dsk W o d :=
  ⟨h.dk.chg hc (fun k hk e => by subst e; exact hg hk), h.k.chg hc (by omega), h.no⟩
structure CuIs (w : World) (ga gr gk : Nat) (p : Value) (f c : Nat) (h b : S.Hd) : Prop where
  ar : ArAt w ga p f c
  res : HdAt w gr h
  back : HdAt w gk b
theorem CuIs.below {w W : World} {ga gr gk : Nat} {p : Value} {f c : Nat} {h b : S.Hd} (x : CuIs w ga gr gk p f c h b) (hb : Below w.heap.size w W) : CuIs W ga gr gk p f c h b :=
  ⟨x.ar.below hb (block_lt_of_row x.ar), x.res.below hb (block_lt_of_row x.res), x.back.below hb (block_lt_of_row x.back)⟩
set_option maxHeartbeats 4000000 in
set_option maxRecDepth 10000 in
theorem current_any (o : Ow) (d : S.Dk) (f c : Nat) (w : World) (hd : Dsk w o d) (h : f + 1 < d.safe.length) (hc : c ≤ 100000) (s0 s1 : List UInt8) (hs0 : s0 = d.seen.getD (f + 0) []) (hs1 : s1 = d.seen.getD (f + 1) []) :
   Calls Tryz.prog 66 #[arv o.ptr f c] w fun e w' => e = .returned (curv (S.cur f c s0 s1)) ∧ Below w.heap.size w w' := by
  have hn := hd.dk.n
  have HL0 : Hid (s0.length = 128) := by show s0.length = 128; rw [hs0]; exact hd.dk.ok.seen _ (by omega)
  have HL1 : Hid (s1.length = 128) := by show s1.length = 128; rw [hs1]; exact hd.dk.ok.seen _ h
  have HO : Hid (f + 1 < d.safe.length) := h
  have HLT : Hid (∀ k, o.has k → k < w.heap.size) := hd.dk.lt
  have HP : Hid (0 < w.heap.size) := hd.k.pos
  obtain ⟨w0, hw0⟩ : ∃ w0, w0 = (w.alloc (.cells #[o.ptr, .int .i64 (f : Int), .int .i64 (c : Int)] 101)).alloc (.cells (S.hc S.Hd.none).toArray 106) := ⟨_, rfl⟩
  have HZ : Hid (w0.heap.size = w.heap.size + 2) := by show w0.heap.size = _; rw [hw0]; simp
  have HB : Hid (Below w.heap.size w w0) := by rw [hw0]; exact ((Below.refl _ _).alloc (Nat.le_refl _) _).alloc (by simp) _
  have HA : Hid (ArAt w0 w.heap.size o.ptr f c) := by
    show w0.heap[w.heap.size]? = _
    rw [hw0, heap_alloc_old _ _ (by simp)]
    exact heap_alloc_new _ _
  have HH : Hid (HdAt w0 (w.heap.size + 1) S.Hd.none) := by
    show w0.heap[w.heap.size + 1]? = _
    rw [hw0, show w.heap.size + 1 = (w.alloc (.cells #[o.ptr, .int .i64 (f : Int), .int .i64 (c : Int)] 101)).heap.size from by simp]
    exact heap_alloc_new _ _
  have HD := hide (hd.below HB.out)
  have hal := alloc73 (w.alloc (.cells #[o.ptr, .int .i64 (f : Int), .int .i64 (c : Int)] 101))
  rw [← hw0] at hal
  have hz1 : (w.alloc (.cells #[o.ptr, .int .i64 (f : Int), .int .i64 (c : Int)] 101)).heap.size = w.heap.size + 1 := by simp
  rw [hz1] at hal
  obtain ⟨ga, hga⟩ : ∃ ga, ga = w.heap.size := ⟨_, rfl⟩
  obtain ⟨gr, hgr⟩ : ∃ gr, gr = w.heap.size + 1 := ⟨_, rfl⟩
  rw [← hga] at HA
  rw [← hgr] at HH
  have HGA : Hid (ga = w.heap.size ∧ gr = w.heap.size + 1) := ⟨hga, hgr⟩
  have HS : Hid (s0 = d.seen.getD (f + 0) [] ∧ s1 = d.seen.getD (f + 1) []) := ⟨hs0, hs1⟩
  clear hs0 hs1 hd h hz1
  obtain ⟨a0, a1, a2⟩ := HA.out.cells
  unfold arv
  go_enter Tryz.func66, Tryz.ntmps66
  go_wp2_with (with_reducible refine at_op ⟨some 2, .alloc 106, 0, "head.go:94", #[], none⟩ ?_; refine wpList_alloc_known rfl 106 rfl _ _ hal ?_)
  rw [← hw0, ← hgr, ← hga]
  clear hga hgr hal hw0
  refine (headAt_any o d f c 0 w0 HD.out (by have := HO.out; omega) hc s0 HS.out.1).mono ?_
  rintro e w1 ⟨rfl, b1⟩
  have hok0 := S.hdAt_ok f c 0 s0 HL0.out
  obtain ⟨H0, hH0⟩ : ∃ H, H = S.hdAt f c 0 s0 := ⟨_, rfl⟩
  obtain ⟨M0, hM0⟩ : ∃ M, M = S.sight f c 0 s0 := ⟨_, rfl⟩
  rw [← hH0] at hok0 ⊢
  rw [← hM0]
  have HH0 : Hid (H0 = S.hdAt f c 0 s0 ∧ M0 = S.sight f c 0 s0) := ⟨hH0, hM0⟩
  have HA1 := HA.out.below b1 (block_lt_of_row HA.out)
  have HR1 := HH.out.below b1 (block_lt_of_row HH.out)
  have HD1 := HD.out.below b1
  have B1 := HB.out.trans (b1.mono HB.out.size)
  obtain ⟨w2, hst, hr2, c2⟩ := store73 (h := H0) HR1 (S.zeros_length _) hok0.sl
  have D2 := HD1.one c2 (fun e => by have := HLT.out _ e; have := HGA.out; omega) (by have := HGA.out; omega)
  have A2 : ArAt w2 ga o.ptr f c := c2.row HA1 (by have := HGA.out; omega)
  have B2 : Below w.heap.size w w2 := B1.trans (c2.base B1.size (by have := HGA.out; omega))
  obtain ⟨HV0, hHV0⟩ : ∃ X, X = hdv H0 := ⟨_, rfl⟩
  rw [← hHV0] at hst ⊢
  have HHV0 : Hid (HV0 = hdv H0) := hHV0
  have HOK0 := hide hok0
  have HD2 := hide D2
  have HA2 := hide A2
  have HR2 := hide hr2
  have HB2 := hide B2
  clear a0 a1 a2
  obtain ⟨a0, a1, a2⟩ := A2.cells
  clear HA1 HR1 HD1 B1 hr2 c2 D2 A2 B2 hHV0 hok0 hH0 hM0 b1
  go_wp2_with (with_reducible refine at_op ⟨none, .store 106 (.tmp 2) (.tmp 11), 0, "head.go:95", #[⟨3, .data⟩, ⟨1, .chain⟩, ⟨0, .phase⟩, ⟨1, .phase⟩, ⟨2, .phase⟩, ⟨3, .phase⟩, ⟨4, .textOnly .lateStores⟩], none⟩ ?_; refine wpList_store_as rfl 106 (.tmp 2) (.tmp 11) rfl (.pointer (some ⟨gr, 0, none⟩)) HV0 rfl rfl w2 hst ?_)
  refine (headAt_any o d f c 1 w2 HD2.out HO.out hc s1 HS.out.2).mono ?_
  rintro e w3 ⟨rfl, b3⟩
  have hok1 := S.hdAt_ok f c 1 s1 HL1.out
  obtain ⟨H1, hH1⟩ : ∃ H, H = S.hdAt f c 1 s1 := ⟨_, rfl⟩
  obtain ⟨M1, hM1⟩ : ∃ M, M = S.sight f c 1 s1 := ⟨_, rfl⟩
  rw [← hH1] at hok1 ⊢
  rw [← hM1]
  have HH1 : Hid (H1 = S.hdAt f c 1 s1 ∧ M1 = S.sight f c 1 s1) := ⟨hH1, hM1⟩
  have HOK1 := hide hok1
  have A3 := HA2.out.below b3 (block_lt_of_row HA2.out)
  have R3 := HR2.out.below b3 (block_lt_of_row HR2.out)
  have B3 := HB2.out.trans (b3.mono HB2.out.size)
  have hal := alloc73 w3
  have hd4 : HdAt (w3.alloc (.cells (S.hc S.Hd.none).toArray 106)) w3.heap.size S.Hd.none := heap_alloc_new _ _
  obtain ⟨w5, hst5, hd5, c5⟩ := store73 (h := H1) hd4 (S.zeros_length _) hok1.sl
  have b34 : Below w3.heap.size w3 (w3.alloc (.cells (S.hc S.Hd.none).toArray 106)) := (Below.refl _ _).alloc (Nat.le_refl _) _
  have b5 : Below w3.heap.size w3 w5 := b34.trans (c5.base b34.size (Nat.le_refl _))
  have CU5 : Hid (CuIs w5 ga gr w3.heap.size o.ptr f c H0 H1) := ⟨A3.below b5 (block_lt_of_row A3), R3.below b5 (block_lt_of_row R3), hd5⟩
  have B5 : Hid (Below w.heap.size w w5) := B3.trans (b5.mono B3.size)
  have HGK : Hid (gr < w3.heap.size) := block_lt_of_row R3
  obtain ⟨gk, hgk⟩ : ∃ gk, gk = w3.heap.size := ⟨_, rfl⟩
  rw [← hgk] at CU5 hal hst5 HGK
  obtain ⟨HV1, hHV1⟩ : ∃ X, X = hdv H1 := ⟨_, rfl⟩
  rw [← hHV1] at hst5 ⊢
  have HHV1 : Hid (HV1 = hdv H1) := hHV1
  obtain ⟨HC0, hHC0⟩ : ∃ X, X = (S.hc S.Hd.none).toArray := ⟨_, rfl⟩
  rw [← hHC0] at hal hst5
  have l1 := CU5.out.back.load HOK1.out.sl
  have l0 := CU5.out.res.load HOK0.out.sl
  rw [← HHV1.out] at l1
  rw [← HHV0.out] at l0
  clear hst a0 a1 a2 A3 R3 B3 hd4 hd5 c5 b34 b5 hgk hHV1 hHC0 hok1 hH1 hM1 b3 HD2 HA2 HR2 HB2
  go_wp2_with (first | (with_reducible refine at_op ⟨some 6, .alloc 106, 0, "head.go:96", #[], none⟩ ?_; refine wpList_alloc_known rfl 106 rfl (.pointer (some ⟨gk, 0, none⟩)) (w3.alloc (.cells HC0 106)) hal ?_) | (with_reducible refine at_op ⟨none, .store 106 (.tmp 6) (.tmp 16), 0, "head.go:96", #[⟨5, .data⟩, ⟨3, .data⟩, ⟨1, .chain⟩, ⟨0, .phase⟩, ⟨1, .phase⟩, ⟨2, .phase⟩, ⟨3, .phase⟩, ⟨4, .textOnly .lateStores⟩, ⟨5, .phase⟩], none⟩ ?_; refine wpList_store_as rfl 106 (.tmp 6) (.tmp 16) rfl (.pointer (some ⟨gk, 0, none⟩)) HV1 rfl rfl w5 hst5 ?_) | (with_reducible refine at_op ⟨some 19, .load 106 (.tmp 6), 106, "head.go:99", #[], none⟩ ?_; refine wpList_load_as rfl 106 (.tmp 6) rfl (.pointer (some ⟨gk, 0, none⟩)) rfl HV1 l1 ?_) | (with_reducible refine at_op ⟨some 21, .load 106 (.tmp 2), 106, "head.go:99", #[], none⟩ ?_; refine wpList_load_as rfl 106 (.tmp 2) rfl (.pointer (some ⟨gr, 0, none⟩)) rfl HV0 l0 ?_))
  rw [HHV0.out, HHV1.out]
  refine (holds_any H1 H0 M1 M0 w5 HOK1.out HOK0.out).mono ?_
  rintro e w6 ⟨rfl, b6⟩
  rw [← HHV0.out, ← HHV1.out]
  have CU6 := hide (CU5.out.below b6)
  have B6 := hide (B5.out.trans (b6.mono B5.out.size))
  clear hal hst5 l1 l0 b6 CU5 B5
  have ECU : Hid (S.cur f c s0 s1 = if S.holds H1 M1 H0 M0 = true then some (H1, 1) else if S.holds H0 M0 H1 M1 = true then some (H0, 0) else none) := by rw [HH0.out.1, HH0.out.2, HH1.out.1, HH1.out.2]; rfl
  cases hh1 : S.holds H1 M1 H0 M0 with
  | true =>
    have EC : Hid (S.cur f c s0 s1 = some (H1, 1)) := by rw [ECU.out, if_pos hh1]; rfl
    have l1 := CU6.out.back.load HOK1.out.sl
    obtain ⟨w7, hst7, r7, c7⟩ := store73 (h := H1) CU6.out.res HOK0.out.sl HOK1.out.sl
    have l7 := r7.load HOK1.out.sl
    obtain ⟨w8, hst8, r8, c8⟩ := store73 (h := H1) r7 HOK1.out.sl HOK1.out.sl
    have R8 := hide r8
    have B8 : Hid (Below w.heap.size w w8) := by
      have b7 := B6.out.trans (c7.base B6.out.size (by have := HGA.out; omega))
      exact b7.trans (c8.base b7.size (by have := HGA.out; omega))
    rw [← HHV1.out] at l1 hst7 l7 hst8
    clear hh1 r7 r8 c7 c8
    go_wp2_with (first | (with_reducible refine at_op ⟨some 30, .load 106 (.tmp 6), 106, "head.go:100", #[], none⟩ ?_; refine wpList_load_as rfl 106 (.tmp 6) rfl (.pointer (some ⟨gk, 0, none⟩)) rfl HV1 l1 ?_) | (with_reducible refine at_op ⟨none, .store 106 (.tmp 2) (.tmp 30), 0, "head.go:100", #[⟨0, .data⟩, ⟨0, .phase⟩], none⟩ ?_; refine wpList_store_as rfl 106 (.tmp 2) (.tmp 30) rfl (.pointer (some ⟨gr, 0, none⟩)) HV1 rfl rfl w7 hst7 ?_) | (with_reducible refine at_op ⟨some 31, .load 106 (.tmp 2), 106, "head.go:103", #[], none⟩ ?_; refine wpList_load_as rfl 106 (.tmp 2) rfl (.pointer (some ⟨gr, 0, none⟩)) rfl HV1 l7 ?_) | (with_reducible refine at_op ⟨none, .store 106 (.tmp 2) (.tmp 31), 0, "head.go:103", #[⟨0, .data⟩, ⟨0, .phase⟩, ⟨1, .textOnly .lateStores⟩], none⟩ ?_; refine wpList_store_as rfl 106 (.tmp 2) (.tmp 31) rfl (.pointer (some ⟨gr, 0, none⟩)) HV1 rfl rfl w8 hst8 ?_))
    refine bodyPost_ret (results_row_tmp2 Tryz.results66 _ _ gr (hdv H1) rfl (R8.out.loadVar HOK1.out.sl)) rfl ⟨?_, B8.out⟩
    rw [EC.out]
    rfl
  | false =>
    have l1 := CU6.out.back.load HOK1.out.sl
    have l0 := CU6.out.res.load HOK0.out.sl
    rw [← HHV1.out] at l1
    rw [← HHV0.out] at l0
    have HH1F := hide hh1
    clear hh1
    go_wp2_with (first | (with_reducible refine at_op ⟨some 25, .load 106 (.tmp 2), 106, "head.go:102", #[], none⟩ ?_; refine wpList_load_as rfl 106 (.tmp 2) rfl (.pointer (some ⟨gr, 0, none⟩)) rfl HV0 l0 ?_) | (with_reducible refine at_op ⟨some 27, .load 106 (.tmp 6), 106, "head.go:102", #[], none⟩ ?_; refine wpList_load_as rfl 106 (.tmp 6) rfl (.pointer (some ⟨gk, 0, none⟩)) rfl HV1 l1 ?_))
    rw [HHV0.out, HHV1.out]
    refine (holds_any H0 H1 M0 M1 w6 HOK0.out HOK1.out).mono ?_
    rintro e w7 ⟨rfl, b7⟩
    rw [← HHV0.out, ← HHV1.out]
    have CU7 := hide (CU6.out.below b7)
    have B7 := hide (B6.out.trans (b7.mono B6.out.size))
    clear l1 l0 b7
    cases hh0 : S.holds H0 M0 H1 M1 with
    | true =>
      have EC : Hid (S.cur f c s0 s1 = some (H0, 0)) := by rw [ECU.out, if_neg (by rw [HH1F.out]; decide), if_pos hh0]; rfl
      have l7 := CU7.out.res.load HOK0.out.sl
      obtain ⟨w8, hst8, r8, c8⟩ := store73 (h := H0) CU7.out.res HOK0.out.sl HOK0.out.sl
      have R8 := hide r8
      have B8 : Hid (Below w.heap.size w w8) := B7.out.trans (c8.base B7.out.size (by have := HGA.out; omega))
      rw [← HHV0.out] at l7 hst8
      clear hh0 r8 c8
      go_wp2_with (first | (with_reducible refine at_op ⟨some 31, .load 106 (.tmp 2), 106, "head.go:103", #[], none⟩ ?_; refine wpList_load_as rfl 106 (.tmp 2) rfl (.pointer (some ⟨gr, 0, none⟩)) rfl HV0 l7 ?_) | (with_reducible refine at_op ⟨none, .store 106 (.tmp 2) (.tmp 31), 0, "head.go:103", #[⟨0, .data⟩, ⟨0, .phase⟩, ⟨1, .textOnly .lateStores⟩], none⟩ ?_; refine wpList_store_as rfl 106 (.tmp 2) (.tmp 31) rfl (.pointer (some ⟨gr, 0, none⟩)) HV0 rfl rfl w8 hst8 ?_))
      refine bodyPost_ret (results_row_tmp2 Tryz.results66 _ _ gr (hdv H0) rfl (R8.out.loadVar HOK0.out.sl)) rfl ⟨?_, B8.out⟩
      rw [EC.out]
      rfl
    | false =>
      have EC : Hid (S.cur f c s0 s1 = none) := by rw [ECU.out, if_neg (by rw [HH1F.out]; decide), if_neg (by rw [hh0]; decide)]; rfl
      have hbd := build73e w7
      obtain ⟨w8, hst8, r8, c8⟩ := store73 (h := S.Hd.none) CU7.out.res HOK0.out.sl (S.zeros_length _)
      have R8 := hide r8
      have B8 : Hid (Below w.heap.size w w8) := B7.out.trans (c8.base B7.out.size (by have := HGA.out; omega))
      obtain ⟨HVN, hHVN⟩ : ∃ X, X = hdv S.Hd.none := ⟨_, rfl⟩
      rw [← hHVN] at hbd hst8
      clear hh0 r8 c8 hHVN
      go_wp2_with (first | (with_reducible refine at_op ⟨some 33, .build 106 #[], 106, "head.go:105", #[], none⟩ ?_; refine wpList_build_as rfl 106 [] rfl [] rfl HVN hbd ?_) | (with_reducible refine at_op ⟨none, .store 106 (.tmp 2) (.tmp 33), 0, "head.go:105", #[⟨0, .data⟩, ⟨0, .phase⟩], none⟩ ?_; refine wpList_store_as rfl 106 (.tmp 2) (.tmp 33) rfl (.pointer (some ⟨gr, 0, none⟩)) HVN rfl rfl w8 hst8 ?_))
      refine bodyPost_ret (results_row_tmp2 Tryz.results66 _ _ gr (hdv S.Hd.none) rfl (R8.out.loadVar (S.zeros_length _))) rfl ⟨?_, B8.out⟩
      rw [EC.out]
      rfl
end Go.Proofs.YthjlhngjpbmieaaGreatDoor
namespace Go.Proofs.YthjlhngjpbmieaaGreatDoor
open Go.RowKit

theorem alloc71 (w : World) : (Instr.alloc 104 true (.tuple #[])).run Tryz.prog w = .ok (.pointer (some ⟨w.heap.size, 0, none⟩)) (w.alloc (.cells (S.v8 (S.zeros 32)) 104)) := by
  have h1 : (Tryz.prog.info? 104).map (fun i => (i.size, i.bytes)) = some (32, 32) := by kernel_rfl
  have h2 : (Tryz.prog.info? 104).bind (·.zero) = some (.agg (S.v8 (S.zeros 32))) := by kernel_rfl
  obtain ⟨i, hi, hz, _, _⟩ := info_pair h1 h2
  simp [Instr.alloc, zeroValue, typeInfo, hi, hz, newVar, newRow, Value.cells]
theorem dig_row {w : World} {g : Nat} {xs : List UInt8} {t : TypeId} (h : w.heap[g]? = some (.cells (S.v8 xs) t (0, 0))) (hl : xs.length = 32) : SliceAt w (.slice (some ⟨g, 0, none⟩) 32 32) xs :=
  Or.inr (Or.inr ⟨g, 0, 32, by rw [hl], by omega, by omega, block_lt_of_row h, fun j hj => by rw [Nat.zero_add]; exact v8_cell h j hj⟩)
set_option maxHeartbeats 1600000 in
set_option maxRecDepth 10000 in
theorem sealed_any (sl : List UInt8) (v : Value) (bs : List UInt8) (w : World) (hl : sl.length = 32) (hv : SliceAt w v bs) (hb : bs.length ≤ 1000000000) (hK : KAt w) :
   Calls Tryz.prog 58 #[.agg (S.v8 sl), v] w fun e w' => e = .returned (.agg (S.v8 (S.sum (sl ++ bs)))) ∧ Below w.heap.size w w' := by
  obtain ⟨C, hC⟩ : ∃ C, C = S.v8 sl := ⟨_, rfl⟩
  obtain ⟨w0, hw0⟩ : ∃ w0, w0 = (w.alloc (.cells C 104)).alloc (.cells (S.v8 (S.zeros 32)) 104) := ⟨_, rfl⟩
  have HZ : Hid (w0.heap.size = w.heap.size + 2) := by show w0.heap.size = _; rw [hw0]; simp
  have HB : Hid (Below w.heap.size w w0) := by rw [hw0]; exact ((Below.refl _ _).alloc (Nat.le_refl _) _).alloc (by simp) _
  have r0 : w0.heap[w.heap.size]? = some (.cells (S.v8 sl) 104 (0, 0)) := by
    rw [hw0, heap_alloc_old _ _ (by simp), ← hC]
    exact heap_alloc_new _ _
  have r1 : w0.heap[w.heap.size + 1]? = some (.cells (S.v8 (S.zeros 32)) 104 (0, 0)) := by
    rw [hw0, show w.heap.size + 1 = (w.alloc (.cells C 104)).heap.size from by simp]
    exact heap_alloc_new _ _
  have hal := alloc71 (w.alloc (.cells C 104))
  have hz1 : (w.alloc (.cells C 104)).heap.size = w.heap.size + 1 := by simp
  rw [← hw0, hz1] at hal
  obtain ⟨ga, hga⟩ : ∃ ga, ga = w.heap.size := ⟨_, rfl⟩
  obtain ⟨gr, hgr⟩ : ∃ gr, gr = w.heap.size + 1 := ⟨_, rfl⟩
  rw [← hga] at r0
  rw [← hgr] at r1
  have HGA : Hid (ga = w.heap.size ∧ gr = w.heap.size + 1) := ⟨hga, hgr⟩
  have R1 := hide r1
  have hv0 := hv.below HB.out (Nat.le_refl _)
  have hd0 := dig_row r0 hl
  have K0 := hide (hK.below HB.out hK.pos)
  obtain ⟨ao, ln, cp, rfl, hln, hmx⟩ := hv.form
  obtain ⟨w2, hw2⟩ : ∃ w2, w2 = w0.alloc (.cells #[.slice (some ⟨ga, 0, none⟩) 32 32, .slice ao ln cp] 31) := ⟨_, rfl⟩
  have L2 : Hid (ListAt w2 w0.heap.size [sl, bs]) := by rw [hw2]; exact two_list _ _ _ _ _ hd0 hv0
  have B02 : Hid (Below w0.heap.size w0 w2) := by rw [hw2]; exact (Below.refl _ _).alloc (Nat.le_refl _) _
  have hfl : [sl, bs].flatten = sl ++ bs := by simp
  clear r0 r1 hv hv0 hd0 hK hz1 hln hmx
  rw [← hC]
  clear hC
  have HSZ : Hid (w0.heap.size = w.heap.size + 2) := HZ.out
  go_enter Tryz.func58, Tryz.ntmps58
  go_upto_region 1 with (with_reducible refine at_op ⟨some 4, .alloc 104, 0, "head.go:124", #[], none⟩ ?_; refine wpList_alloc_known rfl 104 rfl _ _ hal ?_)
  try rw [← hw0]
  rw [← hgr, ← hga]
  clear hw0 hal hga hgr
  go_wp2_with fail
  rw [← hw2]
  clear hw2
  refine (join_any w0.heap.size 2 2 _ w2 rfl (by omega) (by omega) L2.out (by rw [hfl, List.length_append, hl]; omega)).mono ?_
  rw [hfl]
  rintro e w3 ⟨gj, rfl, g3, r3, b3⟩
  have B3 : Hid (Below w.heap.size w w3) := HB.out.trans ((B02.out.trans (b3.mono B02.out.size)).mono (by have := HZ.out; omega))
  have B03 : Hid (Below w0.heap.size w0 w3) := B02.out.trans (b3.mono B02.out.size)
  have T3 := hide (slice_row (room_row r3 rfl) rfl (by rw [List.length_append, hl]; omega))
  have K3 := hide (K0.out.below B03.out K0.out.pos)
  obtain ⟨N, hN⟩ : ∃ N, N = (sl ++ bs).length := ⟨_, rfl⟩
  rw [← hN] at T3 ⊢
  clear r3 b3 g3 hN hfl
  go_wp2_with fail
  refine (Sum_any _ _ w3 T3.out K3.out).mono ?_
  rintro e w4 ⟨rfl, b4⟩
  have B04 : Below w0.heap.size w0 w4 := B03.out.trans (b4.mono B03.out.size)
  have B4 : Hid (Below w.heap.size w w4) := B3.out.trans (b4.mono B3.out.size)
  have R4 : Hid (w4.heap[gr]? = some (.cells (S.v8 (S.zeros 32)) 104 (0, 0))) := (B04.block gr (block_lt_of_row R1.out)).trans R1.out
  obtain ⟨X, hX⟩ : ∃ X, X = sl ++ bs := ⟨_, rfl⟩
  rw [← hX]
  have HX : Hid (X = sl ++ bs) := hX
  clear b4 B04 hX
  go_wp2_with (refine wpList_store_row rfl 104 _ _ rfl gr (S.v8 (S.sum X)) rfl rfl 104 _ R4.out (size_sum X) (zeros_sum X) (S.v8_one _) ?_)
  exact bodyPost_ret (v := .agg (S.v8 (S.sum X))) (results_cell_row (g := gr) (t := 104) (fr := (0, 0)) Tryz.results58 _ _ _ _ rfl (setRow_heap _ _ _ _ _ _ R4.out) Tryz.underlying104 rfl (size_sum X)) rfl ⟨by rw [HX.out], below_setRow B4.out (by have := HGA.out; omega) _⟩
set_option maxHeartbeats 1600000 in
set_option maxRecDepth 10000 in
theorem next_any (h : S.Hd) (u : Nat) (sl : List UInt8) (w : World) (ht : h.turn + 1 < 18446744073709551616) (hl : sl.length = 32) :
   Calls Tryz.prog 57 #[hdv h, .int .i64 (u : Int), .agg (S.v8 sl)] w fun e w' => e = .returned (hdv ⟨h.turn + 1, u, sl⟩) ∧ Below w.heap.size w w' := by
  obtain ⟨C, hC⟩ : ∃ C, C = (S.hc h).toArray := ⟨_, rfl⟩
  obtain ⟨D, hD⟩ : ∃ D, D = S.v8 sl := ⟨_, rfl⟩
  obtain ⟨w0, hw0⟩ : ∃ w0, w0 = ((w.alloc (.cells C 106)).alloc (.cells D 104)).alloc (.cells (S.hc S.Hd.none).toArray 106) := ⟨_, rfl⟩
  have HB : Hid (Below w.heap.size w w0) := by rw [hw0]; exact (((Below.refl _ _).alloc (Nat.le_refl _) _).alloc (by simp) _).alloc (by simp; omega) _
  have a0 : HdAt w0 w.heap.size h := by
    show w0.heap[w.heap.size]? = _
    rw [hw0, heap_alloc_old _ _ (by simp; omega), heap_alloc_old _ _ (by simp), ← hC]
    exact heap_alloc_new _ _
  have r1 : w0.heap[w.heap.size + 1]? = some (.cells (S.v8 sl) 104 (0, 0)) := by
    rw [hw0, heap_alloc_old _ _ (by simp), ← hD, show w.heap.size + 1 = (w.alloc (.cells C 106)).heap.size from by simp]
    exact heap_alloc_new _ _
  have a2 : HdAt w0 (w.heap.size + 2) S.Hd.none := by
    show w0.heap[w.heap.size + 2]? = _
    rw [hw0, show w.heap.size + 2 = ((w.alloc (.cells C 106)).alloc (.cells D 104)).heap.size from by simp]
    exact heap_alloc_new _ _
  have hal := alloc73 ((w.alloc (.cells C 106)).alloc (.cells D 104))
  have hz1 : ((w.alloc (.cells C 106)).alloc (.cells D 104)).heap.size = w.heap.size + 2 := by simp
  rw [← hw0, hz1] at hal
  have c0 := a0.turn
  have ld : (Instr.loadAt 104 (.pointer (some ⟨w.heap.size + 1, 0, none⟩))).run Tryz.prog w0 = .ok (.agg D) w0 := by
    rw [hD, S.v8_eq]
    exact run_loadAt_mid (P := Tryz.prog) w0 _ 0 104 _ _ (rangeAt_row r1) Tryz.underlying104 rfl (by rw [size71, S.v8l_length, hl])
  have hbd := build73 ⟨h.turn + 1, u, sl⟩ hl w0
  obtain ⟨w1, hst, hr, c1⟩ := store73 (h := ⟨h.turn + 1, u, sl⟩) a2 (S.zeros_length _) hl
  have HR := hide hr
  have HB1 : Hid (Below w.heap.size w w1) := HB.out.trans (c1.base HB.out.size (by omega))
  simp only at hbd
  rw [← hD] at hbd
  obtain ⟨HV, hHV⟩ : ∃ X, X = hdv ⟨h.turn + 1, u, sl⟩ := ⟨_, rfl⟩
  rw [← hHV] at hbd hst
  obtain ⟨T, hT⟩ : ∃ T, T = h.turn := ⟨_, rfl⟩
  rw [← hT] at c0 hbd ht
  have hwr : IntKind.u64.wrap ((T : Int) + 1) = ((T + 1 : Nat) : Int) := by rw [IntKind.wrap_u64]; omega
  obtain ⟨T1, hT1⟩ : ∃ T1 : Nat, T1 = T + 1 := ⟨_, rfl⟩
  rw [← hT1] at hwr hbd
  have HHV : Hid (HV = hdv ⟨h.turn + 1, u, sl⟩) := hHV
  obtain ⟨ga, hga⟩ : ∃ ga, ga = w.heap.size := ⟨_, rfl⟩
  obtain ⟨gd, hgd⟩ : ∃ gd, gd = w.heap.size + 1 := ⟨_, rfl⟩
  obtain ⟨gr, hgr⟩ : ∃ gr, gr = w.heap.size + 2 := ⟨_, rfl⟩
  rw [← hga] at c0
  rw [← hgd] at ld
  rw [← hgr] at hst HR
  clear a0 r1 a2 hz1 hr c1 hHV hT1 hT ht
  unfold hdv
  rw [← hC, ← hD]
  clear hC hD
  go_enter Tryz.func57, Tryz.ntmps57
  go_upto_region 1 with (with_reducible refine at_op ⟨some 6, .alloc 106, 0, "head.go:28", #[], none⟩ ?_; refine wpList_alloc_known rfl 106 rfl _ _ hal ?_)
  try rw [← hw0]
  rw [← hgr, ← hgd, ← hga]
  clear hw0 hal hga hgd hgr
  go_wp2_with (first | (with_reducible refine at_op ⟨some 11, .load 104 (.tmp 5), 104, "head.go:29", #[], none⟩ ?_; refine wpList_load_as rfl 104 (.tmp 5) rfl (.pointer (some ⟨gd, 0, none⟩)) rfl (.agg D) ld ?_) | (with_reducible refine at_op ⟨some 12, .build 106 #[(0, .tmp 9), (1, .tmp 10), (2, .tmp 11)], 106, "head.go:29", #[⟨2, .data⟩, ⟨3, .data⟩, ⟨4, .data⟩], none⟩ ?_; refine wpList_build_as rfl 106 [(0, Operand.tmp 9), (1, Operand.tmp 10), (2, Operand.tmp 11)] rfl [(0, .int .u64 (T1 : Int)), (1, .int .i64 (u : Int)), (2, .agg D)] rfl HV hbd ?_) | (with_reducible refine at_op ⟨none, .store 106 (.tmp 6) (.tmp 12), 0, "head.go:29", #[⟨5, .data⟩, ⟨0, .phase⟩, ⟨1, .phase⟩, ⟨2, .phase⟩, ⟨3, .phase⟩, ⟨4, .phase⟩, ⟨5, .phase⟩], none⟩ ?_; refine wpList_store_as rfl 106 (.tmp 6) (.tmp 12) rfl (.pointer (some ⟨gr, 0, none⟩)) HV rfl rfl w1 hst ?_))
  exact bodyPost_ret (results_row_one Tryz.results57 _ _ gr _ rfl (HR.out.loadVar hl)) rfl ⟨rfl, HB1.out⟩
end Go.Proofs.YthjlhngjpbmieaaGreatDoor
