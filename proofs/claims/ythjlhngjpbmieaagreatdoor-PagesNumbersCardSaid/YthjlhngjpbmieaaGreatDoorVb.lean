/- Refusals of Open, Read, Format and Put. -/
import Derived.Test.YthjlhngjpbmieaaGreatDoorVa
import Derived.Test.YthjlhngjpbmieaaGreatDoorJc
import Derived.Test.YthjlhngjpbmieaaGreatDoorUd
namespace Go.Proofs.YthjlhngjpbmieaaGreatDoor
open Go.RowKit

set_option maxRecDepth 10000 in
theorem pread_no (gs : Nat) (n : Int) (w : World) (h : ¬ (0 ≤ n ∧ n < 512)) : Calls Tryz.prog 11 #[.pointer (some ⟨gs, 0, none⟩), .int .i64 n] w fun e w' => e = .returned (.tuple #[.slice none 0 0, .int .i64 1]) ∧ w = w' := by
  go_enter Tryz.func11, Tryz.ntmps11
  go_wp2_with fail
  refine (isPage_no n h w).mono ?_
  rintro e w1 ⟨rfl, rfl⟩
  go_wp2_with fail
  go_ret2
  exact ⟨rfl, rfl⟩
set_option maxRecDepth 10000 in
theorem fits_no (o : Ow) (d : S.Dk) (w : World) (hd : DkIs w o d) (h : d.safe.length < 7680) : Calls Tryz.prog 21 #[o.ptr] w fun e w' => e = .returned (.bool false) ∧ w = w' := by
  have HD := hide hd
  have HL : Hid (d.safe.length < 7680) := h
  have hp : o.ptr = .pointer (some ⟨o.g, 0, none⟩) := rfl
  clear hd h
  rw [hp]
  go_enter Tryz.func21, Tryz.ntmps21
  go_wp2_with fail
  rw [← hp]
  refine (sectors_any o d w HD.out).mono ?_
  rintro e w1 ⟨rfl, rfl⟩
  obtain ⟨L, hL⟩ : ∃ L, L = d.safe.length := ⟨_, rfl⟩
  rw [← hL]
  have q : ¬ (7680 : Int) ≤ (L : Int) := by have := HL.out; omega
  have q2 : decide ((7680 : Int) ≤ (L : Int)) = false := decide_eq_false q
  clear hL
  go_wp2_with fail
  go_ret
  exact ⟨rfl, rfl⟩
set_option maxRecDepth 10000 in
theorem pformat_nil (w : World) : Calls Tryz.prog 14 #[.pointer none] w fun e w' => e = .returned (.int .i64 1) ∧ w = w' := by
  go_enter Tryz.func14, Tryz.ntmps14
  go_wp2_with fail
  refine (fits_nil w).mono ?_
  rintro e w1 ⟨rfl, rfl⟩
  go_wp2_with fail
  go_ret
  exact ⟨rfl, rfl⟩
set_option maxRecDepth 10000 in
theorem pformat_no (o : Ow) (d : S.Dk) (w : World) (hd : DkIs w o d) (h : d.safe.length < 7680) : Calls Tryz.prog 14 #[o.ptr] w fun e w' => e = .returned (.int .i64 1) ∧ w = w' := by
  go_enter Tryz.func14, Tryz.ntmps14
  go_wp2_with fail
  refine (fits_no o d w hd h).mono ?_
  rintro e w1 ⟨rfl, rfl⟩
  go_wp2_with fail
  go_ret
  exact ⟨rfl, rfl⟩
set_option maxHeartbeats 1000000 in
set_option maxRecDepth 10000 in
theorem look_bare (w : World) (o : Ow) (d : S.Dk) (hd : DkIs w o d) (hl : 1 ≤ d.safe.length) (hm : d.seen.getD 0 [] = S.zeros 128) :
   Calls Tryz.prog 23 #[o.ptr] w fun e w' => e = .returned (.tuple #[.pointer none, .agg (S.v8 (S.zeros 64)), .int .i64 13]) ∧ Below w.heap.size w w' := by
  have hal1 := alloc57 w
  obtain ⟨w1, hw1⟩ : ∃ w1, w1 = w.alloc (.cells (S.v8 (S.zeros 64)) 65) := ⟨_, rfl⟩
  have b1 : Below w.heap.size w w1 := by rw [hw1]; exact (Below.refl _ _).alloc (Nat.le_refl _) _
  have r1 : w1.heap[w.heap.size]? = some (.cells (S.v8 (S.zeros 64)) 65 (0, 0)) := by rw [hw1]; exact heap_alloc_new _ _
  rw [← hw1] at hal1
  obtain ⟨g3, hg3⟩ : ∃ g3, g3 = w.heap.size := ⟨_, rfl⟩
  rw [← hg3] at hal1 r1
  have R1 := hide r1
  have B1 := hide b1
  have D1 := hide (hd.below b1)
  have HL := hide hl
  have HM := hide hm
  have HG3 : Hid (w.heap.size ≤ g3) := by rw [hg3]; exact Nat.le_refl _
  clear b1 r1 hw1 hg3 hd hl hm
  go_enter Tryz.func23, Tryz.ntmps23
  go_wp2_with (with_reducible refine at_op { dst := some 3, op := Op.alloc 65, type := 0, pos := "place.go:70", after := #[], guard := none } ?_; refine wpList_alloc_known rfl 65 rfl (.pointer (some ⟨g3, 0, none⟩)) w1 hal1 ?_)
  clear hal1
  refine (read_yes o d 0 w1 D1.out (by have := HL.out; omega)).mono ?_
  rintro e w2 ⟨rfl, hr2, b2⟩
  rw [HM.out] at hr2
  obtain ⟨X, hX⟩ : ∃ X, X = S.zeros 128 := ⟨_, rfl⟩
  rw [← hX] at hr2
  have XL : X.length = 128 := by rw [hX]; exact S.zeros_length _
  have cv := conv_slice (slice_row (n := 128) hr2 XL.symm (by rw [XL]; omega))
  have R2 : w2.heap[g3]? = some (.cells (S.v8 (S.zeros 64)) 65 (0, 0)) := (b2.block g3 (block_lt_of_row R1.out)).trans R1.out
  have B2 := hide (B1.out.trans (b2.mono B1.out.size))
  have hq : ∀ y : UInt8, X.head? = some y → y = 0 := by rw [hX]; intro y h; exact (by simpa [S.zeros] using h.symm)
  have hbd := build57 w2
  obtain ⟨w3, hst, r3, c3⟩ := store57 (ys := S.zeros 64) R2 (S.zeros_length _) (S.zeros_length _)
  have RR := hide r3
  have BF : Hid (Below w.heap.size w w3) := B2.out.trans (c3.base B2.out.size HG3.out)
  obtain ⟨Z, hZ⟩ : ∃ Z, Z = S.v8 (S.zeros 64) := ⟨_, rfl⟩
  rw [← hZ] at hbd hst
  have HZ := hide hZ
  clear hr2 b2 R1 B1 D1 R2 r3 c3 hX hZ
  go_wp2_with (first | (with_reducible refine at_op { dst := some 19, op := Op.build 65 #[], type := 65, pos := "place.go:72", after := #[⟨1, .gcOnly .lateStores⟩], guard := none } ?_; refine wpList_build_as rfl 65 [] rfl [] rfl (.agg Z) hbd ?_) | (with_reducible refine at_op { dst := none, op := Op.store 65 (Operand.tmp 3) (Operand.tmp 19), type := 0, pos := "place.go:72", after := #[⟨0, .data⟩, ⟨1, .chain⟩, ⟨0, .phase⟩, ⟨1, .phase⟩], guard := none } ?_; refine wpList_store_as rfl 65 (.tmp 3) (.tmp 19) rfl (.pointer (some ⟨g3, 0, none⟩)) (.agg Z) rfl rfl w3 hst ?_))
  refine bodyPost_ret (results_mid Tryz.results23 _ _ g3 (.agg (S.v8 (S.zeros 64))) rfl (loadVar57 RR.out (S.zeros_length _))) rfl ⟨rfl, BF.out⟩
  exfalso
  have h9 := ‹(!(X == _)) = false›
  simp at h9
  exact absurd (hq 112 (by rw [h9]; rfl)) (by decide)
set_option maxRecDepth 10000 in
theorem popen_bare (w : World) (o : Ow) (d : S.Dk) (hd : DkIs w o d) (hp : d.pend = []) (hl : 7680 ≤ d.safe.length) (hm : d.seen.getD 0 [] = S.zeros 128) :
   Calls Tryz.prog 10 #[o.ptr] w fun e w' => e = .returned (.tuple #[.pointer none, .int .i64 13]) ∧ Below w.heap.size w w' := by
  have HD := hide hd
  have HP := hide hp
  have HL := hide hl
  have HM := hide hm
  clear hd hp hl hm
  go_enter Tryz.func10, Tryz.ntmps10
  go_wp2_with fail
  refine (fits_yes o d w HD.out HL.out).mono ?_
  rintro e w1 ⟨rfl, rfl⟩
  go_wp2_with fail
  refine (settle_none o d w HD.out HP.out).mono ?_
  rintro e w1 ⟨rfl, rfl⟩
  go_wp2_with fail
  refine (look_bare w o d HD.out (by have := HL.out; omega) HM.out).mono ?_
  rintro e w1 ⟨rfl, b1⟩
  have B1 := hide b1
  clear b1
  have hal := alloc57 w1
  obtain ⟨w3, hst, r3, b3⟩ := made57 w1 (S.zeros 64) (S.zeros_length _)
  have B3 := hide (B1.out.trans (b3.mono B1.out.size))
  obtain ⟨w2, hw2⟩ : ∃ w2, w2 = w1.alloc (.cells (S.v8 (S.zeros 64)) 65) := ⟨_, rfl⟩
  rw [← hw2] at hal hst
  obtain ⟨g2, hg2⟩ : ∃ g2, g2 = w1.heap.size := ⟨_, rfl⟩
  rw [← hg2] at hal hst
  obtain ⟨Z, hZ⟩ : ∃ Z, Z = S.v8 (S.zeros 64) := ⟨_, rfl⟩
  rw [← hZ] at hst ⊢
  clear r3 b3 hw2 hg2 hZ B1
  go_wp2_with (first | (with_reducible refine at_op { dst := some 6, op := Op.alloc 65, type := 0, pos := "pages.go:49", after := #[], guard := none } ?_; refine wpList_alloc_known rfl 65 rfl (.pointer (some ⟨g2, 0, none⟩)) w2 hal ?_) | (with_reducible refine at_op { dst := none, op := Op.store 65 (Operand.tmp 6) (Operand.tmp 20), type := 0, pos := "pages.go:49", after := #[⟨6, .data⟩, ⟨4, .data⟩, ⟨7, .chain⟩, ⟨0, .phase⟩, ⟨1, .phase⟩, ⟨2, .phase⟩, ⟨3, .phase⟩, ⟨4, .phase⟩, ⟨5, .textOnly .lateStores⟩, ⟨6, .phase⟩, ⟨7, .phase⟩], guard := none } ?_; refine wpList_store_as rfl 65 (.tmp 6) (.tmp 20) rfl (.pointer (some ⟨g2, 0, none⟩)) (.agg Z) rfl rfl w3 hst ?_))
  go_ret2
  exact ⟨rfl, B3.out⟩
set_option maxRecDepth 10000 in
theorem pput_no (gs b off cap : Nat) (d : List ShV) (w : World) (h0 : ∀ j u, (d.flatMap encSh)[j]? = some u → w.cell? ⟨b, off + j, none⟩ = some u) (hd : d ≠ []) (hl : d.length ≤ 256) (hbad : ¬ ((∀ x ∈ d, GoodSh x) ∧ (d.map (·.1)).Nodup)) :
   Calls Tryz.prog 12 #[.pointer (some ⟨gs, 0, none⟩), .slice (some ⟨b, off, none⟩) d.length cap] w fun e w' => e = .returned (.int .i64 1) ∧ Below w.heap.size w w' := by
  have IO := hide (inOrder_no b off cap d w h0 hd hl hbad)
  clear h0 hd hl hbad
  go_enter Tryz.func12, Tryz.ntmps12
  go_wp2_with fail
  refine IO.out.mono ?_
  rintro e w1 ⟨rfl, b1⟩
  have B1 := hide b1
  clear b1
  go_wp2_with fail
  go_ret
  exact ⟨rfl, B1.out⟩
set_option maxRecDepth 10000 in
theorem pput_many (gs : Nat) (ao : Option Addr) (n cap : Nat) (w : World) (h : 256 < n) : Calls Tryz.prog 12 #[.pointer (some ⟨gs, 0, none⟩), .slice ao n cap] w fun e w' => e = .returned (.int .i64 1) ∧ w = w' := by
  go_enter Tryz.func12, Tryz.ntmps12
  go_wp2_with fail
  refine (inOrder_many ao n cap w h).mono ?_
  rintro e w1 ⟨rfl, rfl⟩
  go_wp2_with fail
  go_ret
  exact ⟨rfl, rfl⟩
set_option maxRecDepth 10000 in
theorem insertion_zero (v f : Value) (w : World) : Calls Tryz.prog 95 #[v, .int .i64 0, .int .i64 0, f] w fun e w' => e = .returned (.tuple #[]) ∧ w = w' := by
  go_enter Tryz.func95, Tryz.ntmps95
  go_wp2_with fail
  go_loopw [8] (fun i wr => i = .int .i64 1 ∧ w = wr) (fun _ _ => 1)
  case atStart => exact ⟨rfl, rfl⟩
  case round =>
  obtain ⟨rfl, rfl⟩ := hrel
  go_wp2_with fail
  go_end0
  exact ⟨rfl, rfl⟩
set_option maxHeartbeats 4000000 in
set_option maxRecDepth 10000 in
theorem pdq_zero (v f : Value) (l : Int) (w : World) : Calls Tryz.prog 71 #[v, .int .i64 0, .int .i64 0, .int .i64 l, f] w fun e w' => e = .returned (.tuple #[]) ∧ w = w' := by
  go_enter Tryz.func71, Tryz.ntmps71
  go_wp2_with fail
  go_loopw [1, 2, 3, 10, 11] (fun a b _ _ _ wr => a = .int .i64 0 ∧ b = .int .i64 0 ∧ w = wr) (fun _ _ _ _ _ _ => 1)
  case atStart => exact ⟨rfl, rfl, rfl⟩
  case round =>
  obtain ⟨rfl, rfl, rfl⟩ := hrel
  go_wp2_with fail
  refine (insertion_zero v f w).mono ?_
  rintro e w1 ⟨rfl, rfl⟩
  go_wp2_with fail
  refine bodyPost_ret (results_none rfl _ _ _) rfl ⟨rfl, rfl⟩
set_option maxHeartbeats 4000000 in
set_option maxRecDepth 10000 in
theorem len64_zero (w : World) : Calls Tryz.prog 104 #[.int .u64 0] w fun e w' => ∃ l, e = .returned (.int .i64 l) ∧ w = w' := by
  go_enter Tryz.func104, Tryz.ntmps104
  go_wp2_with fail
  go_ret
  exact ⟨_, rfl, rfl⟩
set_option maxRecDepth 10000 in
theorem len_zero (w : World) : Calls Tryz.prog 72 #[.int .u64 0] w fun e w' => ∃ l, e = .returned (.int .i64 l) ∧ w = w' := by
  go_enter Tryz.func72, Tryz.ntmps72
  go_wp2_with fail
  refine (len64_zero w).mono ?_
  rintro e w1 ⟨l, rfl, rfl⟩
  go_wp2_with fail
  go_ret
  exact ⟨_, rfl, rfl⟩
set_option maxRecDepth 10000 in
theorem sort_zero (ao : Option Addr) (c : Nat) (f : Value) (w : World) : Calls Tryz.prog 50 #[.slice ao 0 c, f] w fun e w' => e = .returned (.tuple #[]) ∧ w = w' := by
  go_enter Tryz.func50, Tryz.ntmps50
  go_wp2_with fail
  refine (len_zero w).mono ?_
  rintro e w1 ⟨l, rfl, rfl⟩
  go_wp2_with fail
  refine (pdq_zero _ _ _ w).mono ?_
  rintro e w1 ⟨rfl, rfl⟩
  go_wp2_with fail
  go_end0
  exact ⟨rfl, rfl⟩
theorem eql_none38 (W : World) : (binOp .eql 38 (.slice none 0 0) (.slice none 0 0)).run Tryz.prog W = .ok (.bool true) W := by
  have h : ∀ d : Nat, (Op.equalIn (d + 1) 38 (.slice none 0 0) (.slice none 0 0)).run Tryz.prog W = .ok true W := fun d => by
    simp [Op.equalIn, run_underlying Tryz.underlying38]
  simp only [binOp]
  simp [Op.equal, Op.maxDepth, h 9999]
set_option maxRecDepth 10000 in
theorem pclone_none (w : World) : Calls Tryz.prog 49 #[.slice none 0 0] w fun e w' => e = .returned (.slice none 0 0) ∧ w = w' := by
  have hnil := eql_none38
  go_enter Tryz.func49, Tryz.ntmps49
  go_wp2_with fail
  go_ret
  exact ⟨rfl, rfl⟩
set_option maxRecDepth 10000 in
theorem inOrder_none (w : World) : Calls Tryz.prog 30 #[.slice none 0 0] w fun e w' => e = .returned (.tuple #[.slice none 0 0, .bool true]) ∧ w = w' := by
  go_enter Tryz.func30, Tryz.ntmps30
  go_wp2_with fail
  refine (pclone_none w).mono ?_
  rintro e w1 ⟨rfl, rfl⟩
  go_wp2_with fail
  refine (sort_zero _ _ _ w).mono ?_
  rintro e w1 ⟨rfl, rfl⟩
  go_wp2_with fail
  go_loopw [15] (fun i wr => i = .int .i64 0 ∧ w = wr) (fun _ _ => 1)
  case atStart => exact ⟨rfl, rfl⟩
  case round =>
  obtain ⟨rfl, rfl⟩ := hrel
  go_wp2_with fail
  go_ret2
  exact ⟨rfl, rfl⟩
set_option maxRecDepth 10000 in
theorem pput_none (gs : Nat) (w : World) : Calls Tryz.prog 12 #[.pointer (some ⟨gs, 0, none⟩), .slice none 0 0] w fun e w' => e = .returned (.int .i64 0) ∧ w = w' := by
  go_enter Tryz.func12, Tryz.ntmps12
  go_wp2_with fail
  refine (inOrder_none w).mono ?_
  rintro e w1 ⟨rfl, rfl⟩
  go_wp2_with fail
  go_ret
  exact ⟨rfl, rfl⟩

end Go.Proofs.YthjlhngjpbmieaaGreatDoor
