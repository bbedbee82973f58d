/- What a key is, what is signed of a head. -/
import Derived.Test.YtllcnppcncegpaaDoorKa
import Derived.Lib.SlBytesConst
namespace Go.Proofs.YtllcnppcncegpaaDoor
open Go.RowKit

namespace S
/-- The bytes of a key's own text. -/
def keyText (tree epoch : Int) (draw : Nat) : List UInt8 := [107, 101, 121] ++ (num (u64 tree) 1 ++ num (u64 epoch) 4 ++ num draw 4)
def key (ks : List UInt8) (tree epoch : Int) (draw : Nat) : List UInt8 := mac ks (keyText tree epoch draw)
theorem key_length (ks : List UInt8) (tree epoch : Int) (draw : Nat) : (key ks tree epoch draw).length = 32 := mac_length _ _
theorem keyText_length (tree epoch : Int) (draw : Nat) : (keyText tree epoch draw).length = 12 := by simp [keyText, num_length]
/-- What is signed of a head. -/
def hb (h : Hd) : List UInt8 := [104, 101, 97, 100] ++ (num (u64 h.tree) 1 ++ num (u64 h.epoch) 4 ++ num h.size 8 ++ num h.clock 8 ++ h.root)
theorem hb_length (h : Hd) (hr : h.root.length = 32) : (hb h).length = 57 := by simp [hb, num_length, hr]
def sign (k : List UInt8) (h : Hd) : Sg := ⟨h, mac k (hb h)⟩
/-- Is it a tree? -/
def isT (t : Int) : Bool := decide (0 ≤ t ∧ t < 16)
end S
theorem isTree_any (t : Int) (w : World) : Calls Tryd.prog 30 #[.int .i64 t] w fun e w' => e = .returned (.bool (S.isT t)) ∧ w = w' := by
  by_cases h1 : 0 ≤ t
  · by_cases h2 : t < 16
    · have HE : Hid (S.isT t = true) := by show S.isT t = true; simp [S.isT, h1, h2]
      go_enter Tryd.func30, Tryd.ntmps30
      go_wp2
      go_ret
      exact ⟨by rw [HE.out]; rfl, rfl⟩
    · have HE : Hid (S.isT t = false) := by show S.isT t = false; simp [S.isT, h2]
      go_enter Tryd.func30, Tryd.ntmps30
      go_wp2
      go_ret
      exact ⟨by rw [HE.out]; rfl, rfl⟩
  · have HE : Hid (S.isT t = false) := by show S.isT t = false; simp [S.isT, h1]
    go_enter Tryd.func30, Tryd.ntmps30
    go_wp2
    go_ret
    exact ⟨by rw [HE.out]; rfl, rfl⟩
theorem wnumber_is {bs bs' : List UInt8} {n k : Int} (m g : Nat) (v : Value) (w : World) (hn : n = (m : Int)) (h : bs ++ S.num m (S.size k) = bs') (hw : WrIs w g v bs) (hb : bs.length + 8 ≤ 140737488355328) :
   Calls Tryd.prog 34 #[.pointer (some ⟨g, 0, none⟩), .int .u64 n, .int .i64 k] w fun e w' => e = .returned (.tuple #[]) ∧ ∃ v', WrIs w' g v' bs' ∧ WrTo g v w v' w' := by
  rw [← h, hn]
  exact wnumber_any g v bs m k w hw hb
theorem WrTo.base {g B : Nat} {v v' : Value} {w w' : World} (h : WrTo g v w v' w') (hB : B ≤ w.heap.size) (hg : B ≤ g) (hv : ∀ k, v.ownBlock = some k → B ≤ k) : Below B w w' ∧ ∀ k, v'.ownBlock = some k → B ≤ k :=
  ⟨h.chg.below B hB (fun k hk e => by rcases e with e | e; omega; have := hv k e; omega), fun k hk => by rcases h.own k hk with e | e; exact hv k e; omega⟩
theorem nil_base (B : Nat) : ∀ k, (Value.slice none 0 0).ownBlock = some k → B ≤ k := fun k h => by cases h
theorem size_1 : S.size 1 = 1 := by decide
theorem size_4 : S.size 4 = 4 := by decide
theorem size_8 : S.size 8 = 8 := by decide

/-- A constant text is laid, and reads so. -/
theorem lit_new (w : World) (l : List UInt8) (C : Array Value) (n : Nat) (hC : C = S.v8 l) (hn : n = l.length) (hl : l.length ≤ 1000) (r : Nat × Nat) : Below w.heap.size w (w.alloc (.cells C 5 r)) ∧ SliceAt (w.alloc (.cells C 5 r)) (.slice (some ⟨w.heap.size, 0, none⟩) n n) l := by
  subst hC hn
  refine ⟨(Below.refl _ _).alloc (Nat.le_refl _) _, Or.inr (Or.inr ⟨w.heap.size, 0, _, rfl, Nat.le_refl _, by omega, by simp, fun j hj => ?_⟩)⟩
  rw [Nat.zero_add, cell_of_row _ w.heap.size j (S.v8 l) 5 r (heap_alloc_new _ _)]
  simp [S.v8, hj]
theorem listAt2 {w : World} {g : Nat} {u v : Value} {a b : List UInt8} {t : TypeId} (h : w.heap[g]? = some (.cells #[u, v] t (0, 0))) (hu : SliceAt w u a) (hv : SliceAt w v b) : ListAt w g [a, b] :=
  ⟨block_lt_of_row h, fun j hj => by
    rcases (by simp at hj; omega : j = 0 ∨ j = 1) with rfl | rfl
    · exact ⟨_, (cell_of_row w _ 0 _ _ _ h).trans rfl, hu⟩
    · exact ⟨_, (cell_of_row w _ 1 _ _ _ h).trans rfl, hv⟩⟩
theorem convK (w : World) (C : Array Value) (n c : Nat) : (convert 41 41 (.slice (some ⟨w.heap.size, 0, none⟩) n c)).run Tryd.prog (w.alloc (.cells C 5)) = .ok (.slice (some ⟨w.heap.size, 0, none⟩) n c) (w.alloc (.cells C 5 (C.size, C.size + 1))) := Lib.run_convert_bytes_const w 41 5 C n c Tryd.underlying41 Tryd.underlying5

set_option maxHeartbeats 8000000 in
set_option maxRecDepth 10000 in
theorem key_any (sv : Value) (ks : List UInt8) (tree epoch : Int) (draw : Nat) (w : World) (hd : draw < 4294967296) (hs : SliceAt w sv ks) (hK : KAt w) :
   Calls Tryd.prog 16 #[sv, .int .i64 tree, .int .i64 epoch, .int .u32 (draw : Int)] w fun e w' => e = .returned (.agg (S.v8 (S.key ks tree epoch draw))) ∧ Below w.heap.size w w' := by
  have q1 := S.u64_wrap tree
  have q2 := S.u64_wrap epoch
  have q3 : IntKind.u64.wrap (draw : Int) = (draw : Int) := wrap_u64_lt draw (by omega)
  obtain ⟨so, sn, sc, rfl, hsn, hsm⟩ := hs.form
  have HS := hide hs
  have HK := hide hK
  have h0 := hK.pos
  clear hs hK hsn hsm hd
  go_enter Tryd.func16, Tryd.ntmps16
  go_upto_region 1 with fail
  generalize hW0 : w.alloc _ = w0
  have R0 : Hid (w0.heap[w.heap.size]? = some (.cells (S.v8 (S.zeros 32)) 30 (0, 0))) := by rw [← hW0]; exact heap_alloc_new _ _
  have B0 : Hid (Below w.heap.size w w0) := by rw [← hW0]; exact (Below.refl _ _).alloc (Nat.le_refl _) _
  have L0 := hide (block_lt_of_row R0.out)
  clear hW0
  go_wp2_with fail
  refine (newWriter_any w0).mono ?_
  rintro e w1 ⟨rfl, h1, h2⟩
  obtain ⟨gw, hgw⟩ : ∃ gw, gw = w0.heap.size := ⟨_, rfl⟩
  have HG : Hid (gw = w0.heap.size) := hgw
  rw [← hgw] at h1 ⊢
  have W1 := hide h1
  have H1 : Hid (Below w0.heap.size w0 w1) := h2
  have S1 : Hid (w0.heap.size ≤ w1.heap.size) := h2.size
  have N1 : Hid (∀ k, (Value.slice none 0 0).ownBlock = some k → w0.heap.size ≤ k) := nil_base _
  clear h1 h2 hgw
  go_wp2_with fail
  refine (wnumber_is (S.u64 tree) gw _ w1 rfl rfl W1.out (by simp)).mono ?_
  rintro e w2 ⟨rfl, v2, h3, h4⟩
  have W2 : Hid (WrIs w2 gw v2 (S.num (S.u64 tree) 1)) := h3
  have hb2 := h4.base S1.out (Nat.le_of_eq HG.out.symm) N1.out
  have N2 := hide hb2.2
  have H2 := hide (H1.out.trans hb2.1)
  have S2 : Hid (w0.heap.size ≤ w2.heap.size) := Nat.le_trans S1.out hb2.1.size
  clear h3 h4 hb2 H1 W1 N1 S1
  go_wp2_with fail
  refine (wnumber_is (S.u64 epoch) gw _ w2 rfl rfl W2.out (by simp [S.num_length])).mono ?_
  rintro e w3 ⟨rfl, v3, h3, h4⟩
  have W3 : Hid (WrIs w3 gw v3 (S.num (S.u64 tree) 1 ++ S.num (S.u64 epoch) 4)) := h3
  have hb3 := h4.base S2.out (Nat.le_of_eq HG.out.symm) N2.out
  have N3 := hide hb3.2
  have H3 := hide (H2.out.trans hb3.1)
  have S3 : Hid (w0.heap.size ≤ w3.heap.size) := Nat.le_trans S2.out hb3.1.size
  clear h3 h4 hb3 H2 W2 N2 S2
  go_wp2_with fail
  refine (wnumber_is draw gw _ w3 rfl rfl W3.out (by simp [S.num_length])).mono ?_
  rintro e w4 ⟨rfl, v4, h3, h4⟩
  have W4 : Hid (WrIs w4 gw v4 (S.num (S.u64 tree) 1 ++ S.num (S.u64 epoch) 4 ++ S.num draw 4)) := h3
  have hb4 := h4.base S3.out (Nat.le_of_eq HG.out.symm) N3.out
  have N4 := hide hb4.2
  have H4 := hide (H3.out.trans hb4.1)
  have S4 : Hid (w0.heap.size ≤ w4.heap.size) := Nat.le_trans S3.out hb4.1.size
  clear h3 h4 hb4 H3 W3 N3 S3
  go_upto_region 5 with fail
  generalize hT : S.num (S.u64 tree) 1 ++ S.num (S.u64 epoch) 4 ++ S.num draw 4 = T at W4
  have hTl : T.length = 9 := by rw [← hT]; simp [S.num_length]
  have HT : Hid (S.keyText tree epoch draw = [107, 101, 121] ++ T) := by rw [← hT]; rfl
  clear hT q1 q2 q3
  have kc := convK w4 #[.int .u8 107, .int .u8 101, .int .u8 121] 3 3
  obtain ⟨A, hA⟩ : ∃ A, A = w4.alloc (.cells #[.int .u8 107, .int .u8 101, .int .u8 121] 5 ((#[.int .u8 107, .int .u8 101, .int .u8 121] : Array Value).size, (#[.int .u8 107, .int .u8 101, .int .u8 121] : Array Value).size + 1)) := ⟨_, rfl⟩
  obtain ⟨bA, sA⟩ := lit_new w4 [107, 101, 121] #[.int .u8 107, .int .u8 101, .int .u8 121] 3 rfl rfl (by simp) ((#[.int .u8 107, .int .u8 101, .int .u8 121] : Array Value).size, (#[.int .u8 107, .int .u8 101, .int .u8 121] : Array Value).size + 1)
  rw [← hA] at kc bA sA
  obtain ⟨gk, hgk⟩ : ∃ g, g = w4.heap.size := ⟨_, rfl⟩
  have hbA := H4.out.trans (bA.mono S4.out)
  have WA := hide (W4.out.chg (p := fun _ => False) (Chg.ofBelow' bA) (fun e => e) (fun _ _ e => e))
  have HA := hide hbA
  have SA := hide sA
  clear hA bA hbA
  go_wp2_with fail
  refine (done_any gw v4 T A WA.out (by omega)).mono ?_
  rintro e D ⟨rfl, hr5, hb5⟩
  rw [hTl]
  have SA2 := hide (SA.out.below hb5 (Nat.le_refl _))
  have ST : Hid (SliceAt D (.slice (some ⟨A.heap.size, 0, none⟩) 9 9) T) := Or.inr (Or.inr ⟨A.heap.size, 0, 9, by rw [hTl], by omega, by omega, block_lt_of_row hr5, fun j hj => by rw [Nat.zero_add]; exact v8_cell hr5 j hj⟩)
  have HD := hide (HA.out.trans (hb5.mono HA.out.size))
  clear hr5 hb5 SA sA kc
  go_wp2_with fail
  generalize hE : D.alloc _ = E
  have hbE : Below D.heap.size D E := by rw [← hE]; exact (Below.refl _ _).alloc (Nat.le_refl _) _
  have rE : E.heap[D.heap.size]? = some (.cells #[.slice (some ⟨w4.heap.size, 0, none⟩) 3 3, .slice (some ⟨A.heap.size, 0, none⟩) 9 9] 41 (0, 0)) := by rw [← hE]; exact heap_alloc_new _ _
  have LE := hide (listAt2 rE (SA2.out.below hbE (Nat.le_refl _)) (ST.out.below hbE (Nat.le_refl _)))
  have HE := hide (HD.out.trans (hbE.mono HD.out.size))
  clear hE hbE rE SA2 ST WA
  refine (join_any D.heap.size 2 2 [[107, 101, 121], T] E rfl (by omega) (by omega) LE.out (by simp [hTl])).mono ?_
  rintro e F ⟨gj, rfl, hgj, hrj, hbj⟩
  have eJ : ([[107, 101, 121], T] : List (List UInt8)).flatten = S.keyText tree epoch draw := by rw [HT.out]; simp
  have lJ : (S.keyText tree epoch draw).length = 12 := by rw [HT.out]; simp [hTl]
  rw [eJ] at hrj ⊢
  rw [lJ] at hrj ⊢
  have SJ := hide (show SliceAt F (.slice (some ⟨gj, 0, none⟩) 12 12) (S.keyText tree epoch draw) by have := hrj.sliceAt (by rw [lJ]; omega); rw [lJ] at this; exact this)
  have RJ := hide hrj
  have HF := hide (HE.out.trans (hbj.mono HE.out.size))
  clear hrj hbj LE eJ HT
  have HSF := hide (HS.out.below (B0.out.trans (HF.out.mono (Nat.le_of_lt L0.out))) (Nat.le_refl _))
  have HKF := hide (HK.out.below (B0.out.trans (HF.out.mono (Nat.le_of_lt L0.out))) h0)
  have RF : Hid (F.heap[w.heap.size]? = some (.cells (S.v8 (S.zeros 32)) 30 (0, 0))) := (HF.out.block _ L0.out).trans R0.out
  go_wp2_with fail
  refine (Mac_any _ ks _ _ F HSF.out SJ.out HKF.out).mono ?_
  rintro e G ⟨rfl, hbG⟩
  rw [show S.mac ks (S.keyText tree epoch draw) = S.key ks tree epoch draw from rfl]
  obtain ⟨Dg, hDg⟩ : ∃ D, D = S.key ks tree epoch draw := ⟨_, rfl⟩
  have HL := hide (show Dg.length = 32 by rw [hDg, S.key_length])
  rw [← hDg]
  have HDg := hide hDg
  have B4 := hide ((B0.out.trans (HF.out.mono (Nat.le_of_lt L0.out))).trans (hbG.mono (B0.out.trans (HF.out.mono (Nat.le_of_lt L0.out))).size))
  have R4 : Hid (G.heap[w.heap.size]? = some (.cells (S.v8 (S.zeros 32)) 30 (0, 0))) := (hbG.block _ (block_lt_of_row RF.out)).trans RF.out
  clear hDg hbG RF R0
  go_wp2_with (refine wpList_store_row rfl 30 _ _ rfl w.heap.size (S.v8 Dg) rfl rfl 30 _ R4.out (size_dig Dg HL.out) (zeros_dig Dg HL.out) (S.v8_one _) ?_)
  exact bodyPost_ret (v := .agg (S.v8 Dg)) (results_cell_row (g := w.heap.size) (t := 30) (fr := (0, 0)) Tryd.results16 _ _ _ _ rfl (setRow_heap _ _ _ _ _ _ R4.out) Tryd.underlying30 rfl (size_dig Dg HL.out)) rfl ⟨by rw [HDg.out], below_setRow B4.out (Nat.le_refl _) _⟩


set_option maxHeartbeats 8000000 in
set_option maxRecDepth 10000 in
theorem bytes_any (h : S.Hd) (w : World) (hok : h.Ok) :
   Calls Tryd.prog 19 #[.agg (encH h).toArray] w fun e w' => ∃ g, e = .returned (.slice (some ⟨g, 0, none⟩) 57 57) ∧ w.heap.size ≤ g ∧ Room w' g 57 (S.hb h) ∧ Below w.heap.size w w' := by
  have q1 := S.u64_wrap h.tree
  have q2 := S.u64_wrap h.epoch
  have HR := hide hok.r
  clear hok
  go_enter Tryd.func19, Tryd.ntmps19
  go_upto_region 1 with fail
  generalize hW0 : w.alloc _ = w0
  have R0 : Hid (w0.heap[w.heap.size]? = some (.cells (encH h).toArray 32 (0, 0))) := by rw [← hW0]; exact heap_alloc_new _ _
  have B0 : Hid (Below w.heap.size w w0) := by rw [← hW0]; exact (Below.refl _ _).alloc (Nat.le_refl _) _
  have L0 := hide (block_lt_of_row R0.out)
  clear hW0
  go_wp2_with fail
  refine (newWriter_any w0).mono ?_
  rintro e w1 ⟨rfl, h1, h2⟩
  obtain ⟨gw, hgw⟩ : ∃ gw, gw = w0.heap.size := ⟨_, rfl⟩
  have HG : Hid (gw = w0.heap.size) := hgw
  rw [← hgw] at h1 ⊢
  have W1 := hide h1
  have H1 : Hid (Below w0.heap.size w0 w1) := h2
  have S1 : Hid (w0.heap.size ≤ w1.heap.size) := h2.size
  have N1 : Hid (∀ k, (Value.slice none 0 0).ownBlock = some k → w0.heap.size ≤ k) := nil_base _
  clear h1 h2 hgw
  obtain ⟨c0, c1, c2, c3⟩ := h_cells ((H1.out.block _ L0.out).trans R0.out)
  go_wp2_with fail
  refine (wnumber_is (S.u64 h.tree) gw _ w1 rfl rfl W1.out (by simp)).mono ?_
  rintro e w2 ⟨rfl, v2, h3, h4⟩
  have W2 : Hid (WrIs w2 gw v2 (S.num (S.u64 h.tree) 1)) := h3
  have hb2 := h4.base S1.out (Nat.le_of_eq HG.out.symm) N1.out
  have N2 := hide hb2.2
  have H2 := hide (H1.out.trans hb2.1)
  have S2 : Hid (w0.heap.size ≤ w2.heap.size) := Nat.le_trans S1.out hb2.1.size
  clear h3 h4 hb2 H1 W1 N1 S1
  clear c0 c1 c2 c3
  obtain ⟨c0, c1, c2, c3⟩ := h_cells ((H2.out.block _ L0.out).trans R0.out)
  go_wp2_with fail
  refine (wnumber_is (S.u64 h.epoch) gw _ w2 rfl rfl W2.out (by simp [S.num_length])).mono ?_
  rintro e w3 ⟨rfl, v3, h3, h4⟩
  have W3 : Hid (WrIs w3 gw v3 (S.num (S.u64 h.tree) 1 ++ S.num (S.u64 h.epoch) 4)) := h3
  have hb3 := h4.base S2.out (Nat.le_of_eq HG.out.symm) N2.out
  have N3 := hide hb3.2
  have H3 := hide (H2.out.trans hb3.1)
  have S3 : Hid (w0.heap.size ≤ w3.heap.size) := Nat.le_trans S2.out hb3.1.size
  clear h3 h4 hb3 H2 W2 N2 S2
  clear c0 c1 c2 c3
  obtain ⟨c0, c1, c2, c3⟩ := h_cells ((H3.out.block _ L0.out).trans R0.out)
  go_wp2_with fail
  refine (wnumber_is h.size gw _ w3 rfl rfl W3.out (by simp [S.num_length])).mono ?_
  rintro e w4 ⟨rfl, v4, h3, h4⟩
  have W4 : Hid (WrIs w4 gw v4 (S.num (S.u64 h.tree) 1 ++ S.num (S.u64 h.epoch) 4 ++ S.num h.size 8)) := h3
  have hb4 := h4.base S3.out (Nat.le_of_eq HG.out.symm) N3.out
  have N4 := hide hb4.2
  have H4 := hide (H3.out.trans hb4.1)
  have S4 : Hid (w0.heap.size ≤ w4.heap.size) := Nat.le_trans S3.out hb4.1.size
  clear h3 h4 hb4 H3 W3 N3 S3
  clear c0 c1 c2 c3
  obtain ⟨c0, c1, c2, c3⟩ := h_cells ((H4.out.block _ L0.out).trans R0.out)
  go_wp2_with fail
  refine (wnumber_is h.clock gw _ w4 rfl rfl W4.out (by simp [S.num_length])).mono ?_
  rintro e w5 ⟨rfl, v5, h3, h4⟩
  have W5 : Hid (WrIs w5 gw v5 (S.num (S.u64 h.tree) 1 ++ S.num (S.u64 h.epoch) 4 ++ S.num h.size 8 ++ S.num h.clock 8)) := h3
  have hb5 := h4.base S4.out (Nat.le_of_eq HG.out.symm) N4.out
  have N5 := hide hb5.2
  have H5 := hide (H4.out.trans hb5.1)
  have S5 : Hid (w0.heap.size ≤ w5.heap.size) := Nat.le_trans S4.out hb5.1.size
  clear h3 h4 hb5 H4 W4 N4 S4
  clear c0 c1 c2 c3
  have ld := load_hr ((H5.out.block _ L0.out).trans R0.out) HR.out
  go_upto_region 7 with (first | refine wpList_load_as rfl 30 (.tmp 24) rfl (.pointer (some ⟨w.heap.size, 4, none⟩)) rfl _ ld ?_ | (refine (wdigest_any gw v5 _ h.root w5 HR.out W5.out (by simp [S.num_length])).mono ?_; rintro e w6 ⟨rfl, v6, h3, h4⟩))
  have W6 : Hid (WrIs w6 gw v6 (S.num (S.u64 h.tree) 1 ++ S.num (S.u64 h.epoch) 4 ++ S.num h.size 8 ++ S.num h.clock 8 ++ h.root)) := h3
  have hb6 := h4.base S5.out (Nat.le_of_eq HG.out.symm) N5.out
  have H6 := hide (H5.out.trans hb6.1)
  have S6 : Hid (w0.heap.size ≤ w6.heap.size) := Nat.le_trans S5.out hb6.1.size
  clear h3 h4 hb6 H5 W5 N5 S5 ld
  generalize hT : S.num (S.u64 h.tree) 1 ++ S.num (S.u64 h.epoch) 4 ++ S.num h.size 8 ++ S.num h.clock 8 ++ h.root = T at W6
  have hTl : T.length = 53 := by rw [← hT]; simp [S.num_length, HR.out]
  have HT : Hid (S.hb h = [104, 101, 97, 100] ++ T) := by rw [← hT]; rfl
  clear hT q1 q2
  have kc := convK w6 #[.int .u8 104, .int .u8 101, .int .u8 97, .int .u8 100] 4 4
  obtain ⟨A, hA⟩ : ∃ A, A = w6.alloc (.cells #[.int .u8 104, .int .u8 101, .int .u8 97, .int .u8 100] 5 ((#[.int .u8 104, .int .u8 101, .int .u8 97, .int .u8 100] : Array Value).size, (#[.int .u8 104, .int .u8 101, .int .u8 97, .int .u8 100] : Array Value).size + 1)) := ⟨_, rfl⟩
  obtain ⟨bA, sA⟩ := lit_new w6 [104, 101, 97, 100] #[.int .u8 104, .int .u8 101, .int .u8 97, .int .u8 100] 4 rfl rfl (by simp) ((#[.int .u8 104, .int .u8 101, .int .u8 97, .int .u8 100] : Array Value).size, (#[.int .u8 104, .int .u8 101, .int .u8 97, .int .u8 100] : Array Value).size + 1)
  rw [← hA] at kc bA sA
  obtain ⟨gk, hgk⟩ : ∃ g, g = w6.heap.size := ⟨_, rfl⟩
  have hbA := H6.out.trans (bA.mono S6.out)
  have WA := hide (W6.out.chg (p := fun _ => False) (Chg.ofBelow' bA) (fun e => e) (fun _ _ e => e))
  have HA := hide hbA
  have SA := hide sA
  clear hA bA hbA
  go_wp2_with fail
  refine (done_any gw v6 T A WA.out (by omega)).mono ?_
  rintro e D ⟨rfl, hr5, hb5⟩
  rw [hTl]
  have SA2 := hide (SA.out.below hb5 (Nat.le_refl _))
  have ST : Hid (SliceAt D (.slice (some ⟨A.heap.size, 0, none⟩) 53 53) T) := Or.inr (Or.inr ⟨A.heap.size, 0, 53, by rw [hTl], by omega, by omega, block_lt_of_row hr5, fun j hj => by rw [Nat.zero_add]; exact v8_cell hr5 j hj⟩)
  have HD := hide (HA.out.trans (hb5.mono HA.out.size))
  clear hr5 hb5 SA sA kc
  go_wp2_with fail
  generalize hE : D.alloc _ = E
  have hbE : Below D.heap.size D E := by rw [← hE]; exact (Below.refl _ _).alloc (Nat.le_refl _) _
  have rE : E.heap[D.heap.size]? = some (.cells #[.slice (some ⟨w6.heap.size, 0, none⟩) 4 4, .slice (some ⟨A.heap.size, 0, none⟩) 53 53] 41 (0, 0)) := by rw [← hE]; exact heap_alloc_new _ _
  have LE := hide (listAt2 rE (SA2.out.below hbE (Nat.le_refl _)) (ST.out.below hbE (Nat.le_refl _)))
  have HE := hide (HD.out.trans (hbE.mono HD.out.size))
  clear hE hbE rE SA2 ST WA
  refine (join_any D.heap.size 2 2 [[104, 101, 97, 100], T] E rfl (by omega) (by omega) LE.out (by simp [hTl])).mono ?_
  rintro e F ⟨gj, rfl, hgj, hrj, hbj⟩
  have eJ : ([[104, 101, 97, 100], T] : List (List UInt8)).flatten = S.hb h := by rw [HT.out]; simp
  have lJ : (S.hb h).length = 57 := by rw [HT.out]; simp [hTl]
  rw [eJ] at hrj ⊢
  rw [lJ] at hrj ⊢
  have SJ := hide (show SliceAt F (.slice (some ⟨gj, 0, none⟩) 57 57) (S.hb h) by have := hrj.sliceAt (by rw [lJ]; omega); rw [lJ] at this; exact this)
  have RJ := hide hrj
  have HF := hide (HE.out.trans (hbj.mono HE.out.size))
  clear hrj hbj LE eJ HT
  have GJ := hide hgj
  have BF := hide (B0.out.trans (HF.out.mono (Nat.le_of_lt L0.out)))
  have GE := hide (show w.heap.size ≤ gj from Nat.le_trans (B0.out.trans (HE.out.mono (Nat.le_of_lt L0.out))).size hgj)
  clear hgj
  go_wp2_with fail
  go_ret
  exact ⟨gj, rfl, GE.out, RJ.out, BF.out⟩

end Go.Proofs.YtllcnppcncegpaaDoor
