/- Format of a tree on a new disk. -/
import Derived.Test.YteealihknndclaaGreatDoorBr
import Derived.Test.YteealihknndclaaGreatDoorCd
import Derived.Test.YteealihknndclaaGreatDoorEa
import Derived.RangeFuncNested
import Derived.RangeFuncBound
import Derived.RangeFuncCalls
import Derived.RangeFuncLeaves
import Derived.Shelf.Abstract
import Derived.Shelf.RegionOpen
import Derived.OwnWalkIn
import Derived.TacticsInMore
import Derived.LoopNIn
import Derived.LoopIn
import Derived.Test.YteealihknndclaaGreatDoorBase
import Derived.Test.YteealihknndclaaGreatDoorBn
import Derived.WalkKit
import Derived.OneCell
import Derived.Test.YteealihknndclaaGreatDoorGk
import Derived.BigQuiet
namespace Go.Proofs.YteealihknndclaaGreatDoor
open Go.RowKit

theorem nodeOk_nil : S.NodeOk 0 [] := ⟨fun x hx => by simp at hx, List.Pairwise.nil, by omega, by decide, fun _ x hx => by simp at hx, fun h => absurd rfl h⟩
theorem bs97 (W : World) (n1 n2 : Int) (q1 q2 : Nat) : (Instr.buildSlice 97 2 #[(0, .agg #[.int .i64 n1, .slice (some ⟨q1, 0, none⟩) 1024 1024]), (1, .agg #[.int .i64 n2, .slice (some ⟨q2, 0, none⟩) 1024 1024])]).run Tryz.prog W = .ok (.slice (some ⟨W.heap.size, 0, none⟩) 2 2) (W.alloc (.cells #[.int .i64 n1, .slice (some ⟨q1, 0, none⟩) 1024 1024, .int .i64 n2, .slice (some ⟨q2, 0, none⟩) 1024 1024] 144)) := by
 go_simp
namespace S
def leafPg (es : List Ent) (m : Nat) : List UInt8 := if m = 0 then sheetB (headB es.length 1 0 u01) else sheetB (nodeB 0 es)
theorem leafPg_len {es : List Ent} (h : NodeOk 0 es) (m : Nat) : (leafPg es m).length = 1024 := by
 unfold leafPg
 split
 ·exact sheetB_length _ (by rw [headB_length _ _ _ _ u01_length]; omega)
 ·exact sheetB_length _ h.text
theorem leafPg_leaf {es : List Ent} (h : NodeOk 0 es) (pg : Nat → List UInt8) (a b : Nat) (hab : (a = 0 ∧ b = 1) ∨ (a = 1 ∧ b = 0)) : Leaf (fun m => if m = a ∨ m = b then leafPg es m else pg m) es := by
 refine ⟨?_, ?_, h⟩
 ·show (if 0 = a ∨ 0 = b then leafPg es 0 else pg 0) = _
  rw [if_pos (by omega)]
  rfl
 ·show (if 1 = a ∨ 1 = b then leafPg es 1 else pg 1) = _
  rw [if_pos (by omega)]
  rfl
end S
theorem leaf_made {w0 w' : World} {o' : Ow} {d' : S.Dk} {p t : Nat} {pg : Nat → List UInt8} {es : List S.Ent} (ho : S.NodeOk 0 es) (hz : ∀ n, n < 512 → (pg n).length = 1024) (a b : Nat) (hab : (a = 0 ∧ b = 1) ∨ (a = 1 ∧ b = 0)) (h : Pg w0 w' o' d' p t (fun m => if m = a ∨ m = b then S.leafPg es m else pg m)) : Bt1 w0 w' o' d' p t (fun m => if m = a ∨ m = b then S.leafPg es m else pg m) es :=
 ⟨h, fun n hn => by
  show (if n = a ∨ n = b then S.leafPg es n else pg n).length = 1024
  split
  ·exact S.leafPg_len ho n
  ·exact hz n hn, S.leafPg_leaf ho pg a b hab⟩
set_option maxHeartbeats 4000000 in
set_option maxRecDepth 10000 in
theorem format_new (w0 w : World) (o : Ow) (n : Nat) (hn : 7680 ≤ n) (hd : Dsk w o (S.Dk.new n)) (ho : ∀ k, o.has k → w0.heap.size ≤ k) (hb : Below w0.heap.size w0 w) (h0 : 1 < w0.heap.size) :
  Calls Tryz.prog 40 #[o.ptr] w fun e w' => e = .returned (.int .i64 0) ∧ ∃ o' d' pg, o'.g = o.g ∧ Bt1 w0 w' o' d' 0 2 pg [] := by
 have PF := hide (pformat_new w0 w o n hn hd ho hb h0)
 have hp : o.ptr = .pointer (some ⟨o.g, 0, none⟩) := rfl
 clear hn hd ho hb h0
 rw [hp] at PF ⊢
 go_enter Tryz.func40, Tryz.ntmps40
 go_wp2_with fail
 refine PF.out.mono ?_
 rintro e w1 ⟨rfl, o1, og, p1⟩
 have P1 := hide p1
 have OG := hide og
 clear p1 PF
 have hp1 : Value.pointer (some ⟨o.g, 0, none⟩) = o1.ptr := by unfold Ow.ptr; rw [og]
 have HP1 := hide hp1
 clear og hp1
 go_wp2_with fail
 rw [HP1.out]
 refine (popen_go w0 w1 o1 _ 0 0 _ P1.out).mono ?_
 rintro e w2 ⟨gs, rfl, s2, g2, p2, b2⟩
 have S2 := hide s2
 have P2 := hide p2
 have NG : Hid (¬ o1.has gs) := fun e => by have := P1.out.dk.dk.lt gs e; omega
 rw [← HP1.out]
 clear s2 g2 p2 b2 P1
 go_wp2_with fail
 refine (firstHead_any w2).mono ?_
 rintro e w3 ⟨rfl, b3⟩
 have hal := alloc105 w3
 obtain ⟨w4, hst, a4, b4⟩ := made105 w3 (S.lhd 0) rfl
 have B4 := hide (b3.trans (b4.mono b3.size))
 have A4 := hide a4
 obtain ⟨gh, hgh⟩ : ∃ gh, gh = w3.heap.size := ⟨_, rfl⟩
 rw [← hgh] at hal hst A4
 obtain ⟨HC0, hHC0⟩ : ∃ X, X = (S.hhc S.Hh.none).toArray := ⟨_, rfl⟩
 rw [← hHC0] at hal hst
 obtain ⟨HV, hHV⟩ : ∃ X, X = hhv (S.lhd 0) := ⟨_, rfl⟩
 have HHV := hide hHV
 rw [← hHV] at hst ⊢
 have P4 := hide (P2.out.then B4.out)
 have S4 : Hid (StAt w4 gs o1) := (B4.out.block gs (block_lt_of_row S2.out)).trans S2.out
 have NGH0 : Hid (¬ o1.has gh) := fun e => by have h1 := P2.out.dk.dk.lt gh e; have h2 := b3.size; omega
 clear b3 b4 a4 hgh hHC0 hHV P2 S2 B4
 go_wp2_with (first | (with_reducible refine at_op ⟨some 6, .alloc 105, 0, "btree.go:34", #[], none⟩ ?_; refine wpList_alloc_known rfl 105 rfl (.pointer (some ⟨gh, 0, none⟩)) (w3.alloc (.cells HC0 105)) hal ?_) | (with_reducible refine at_op ⟨none, .store 105 (.tmp 6) (.tmp 21), 0, "btree.go:34", #[{ on := 1, ground := Ground.data }, { on := 0, ground := Ground.data }, { on := 0, ground := Ground.chain }, { on := 0, ground := Ground.phase }, { on := 1, ground := Ground.phase }], none⟩ ?_; refine wpList_store_as rfl 105 (.tmp 6) (.tmp 21) rfl (.pointer (some ⟨gh, 0, none⟩)) HV rfl rfl w4 hst ?_))
 clear hal hst
 obtain ⟨w5, hw5⟩ : ∃ w5, w5 = w4.alloc (.cells #[.int .i64 0, .slice none 0 0] 124) := ⟨_, rfl⟩
 rw [← hw5]
 have b5 : Below w4.heap.size w4 w5 := by rw [hw5]; exact (Below.refl _ _).alloc (Nat.le_refl _) _
 have N5 : Hid (NodeIs w5 w4.heap.size 0 []) := ⟨_, [], by rw [hw5]; exact heap_alloc_new _ _, Or.inl ⟨rfl, rfl⟩, rfl, fun i x e hx => by simp at hx⟩
 obtain ⟨gn, hgn⟩ : ∃ gn, gn = w4.heap.size := ⟨_, rfl⟩
 rw [← hgn] at N5 ⊢
 have A5 := hide (A4.out.below b5)
 have P5 := hide (P4.out.then b5)
 have S5 : Hid (StAt w5 gs o1) := (b5.block gs (block_lt_of_row S4.out)).trans S4.out
 clear hw5 b5 hgn A4 P4 S4
 refine wp_region_noPanic ?_
 refine wp_region_held_drew (S := (fun W => HhAt W gh (S.lhd 0))) follows A5.out (fun hHeld => ?_)
 have N6 : Hid (NodeIs w5.drew gn 0 []) := N5.out.below (Below.refl _ _).drew
 have P6 : Hid (Pg w0 w5.drew o1 (S.madeDk n) 0 0 (fun _ => S.zeros 1024)) := P5.out.then (Below.refl _ _).drew
 have S6 : Hid (StAt w5.drew gs o1) := S5.out
 clear N5 P5 S5 A5
 generalize w5.drew = Z1 at N6 P6 S6 hHeld ⊢
 obtain ⟨V, hV⟩ : ∃ V, V = (S.hhc (S.lhd 0)).toArray := ⟨_, rfl⟩
 have HVV : Hid (.agg V = hhv (S.lhd 0)) := by rw [hV]; rfl
 refine tq 0 ?_
 simp only [Act.put, uB, uC, uD]
 refine wpAnyH_take (i := 1) (oi := ⟨_, _, _, _, _, _⟩) (v := .agg V) rfl (by kernel_rfl) (by kernel_rfl) (by kernel_rfl) (fun _ _ _ h => h) (by rw [hV]; exact yieldsIf_load_mid (by kernel_rfl) 105 (.tmp 6) rfl gh 0 rfl (S.hhc (S.lhd 0)) _ (fun W hW => rangeAt_row hW) Tryz.underlying105 rfl (by rw [size105, S.hhc_length rfl])) (by assumption) ?_
 simp only [Act.put, uB, uC, uD]
 refine tq 3 ?_
 simp only [Act.put, uB, uC, uD]
 refine tq 4 ?_
 simp only [Act.put, uB, uC, uD]
 refine tk 5 ?_ rfl (Or.inl ⟨by rfl, ?_⟩) ?_
 rotate_left
 ·intro w hSw
  have c4 : w.cell? ⟨gh, 1, none⟩ = some (.int .i64 1) := HhAt.root hSw
  clear hSw
  go_simp
  all_goals with_reducible rfl
 simp only [Act.put, uB, uC, uD]
 clear hV
 have NGH : Hid (¬ o1.has gh) := NGH0.out
 refine r1 2 fun K hK => ?_
 go_simp
 rw [HVV.out]
 refine (hsheet_any (S.lhd 0) Z1 (S.lhd_ok (by omega))).mono ?_
 rintro e Z2 ⟨q1, rfl, g1, r1, b1⟩
 have R1 : Hid (Z2.heap[q1]? = some (.cells (S.v8 (S.leafPg [] 0)) 5 (0, 0))) := r1
 have aZ2 := HhAt.below hHeld b1
 have NZ2 := hide (N6.out.below b1)
 have PZ2 := hide (P6.out.then b1)
 have SZ2 : Hid (StAt Z2 gs o1) := (b1.block gs (block_lt_of_row S6.out)).trans S6.out
 have Q1 : Hid (¬ o1.has q1) := fun e => by have := P6.out.dk.dk.lt q1 e; omega
 clear hHeld
 refine hK.out _ _ aZ2 (fun hHeld => ?_)
 clear hK K aZ2 r1 b1 g1 N6 P6 S6
 try simp only [Act.put, uB, uC, uD]
 refine r1 6 fun K hK => ?_
 go_simp
 refine (nsheet_0 gn 1 [] Z2 NZ2.out nodeOk_nil).mono ?_
 rintro e Z3 ⟨q2, rfl, g1, r1, b1⟩
 have R2 : Hid (Z3.heap[q2]? = some (.cells (S.v8 (S.leafPg [] 1)) 5 (0, 0))) := r1
 have aZ3 := HhAt.below hHeld b1
 have R1b : Hid (Z3.heap[q1]? = some (.cells (S.v8 (S.leafPg [] 0)) 5 (0, 0))) := (b1.block q1 (block_lt_of_row R1.out)).trans R1.out
 have PZ3 := hide (PZ2.out.then b1)
 have SZ3 : Hid (StAt Z3 gs o1) := (b1.block gs (block_lt_of_row SZ2.out)).trans SZ2.out
 have Q2 : Hid (¬ o1.has q2) := fun e => by have := PZ2.out.dk.dk.lt q2 e; omega
 clear hHeld
 refine hK.out _ _ aZ3 (fun hHeld => ?_)
 clear hK K aZ3 r1 b1 g1 PZ2 SZ2 R1 NZ2
 try simp only [Act.put, uB, uC, uD]
 refine rdy [7] ?_
 refine step_buildSlice (o := ⟨_, _, _, _, _, _⟩) rfl rfl 97 2 [(0, Operand.tmp 26), (1, Operand.tmp 30)] rfl _ _ (bs97 Z3 0 1 q1 q2) AllReadyH.nil ⟨HhAt.below hHeld ((Below.refl _ _).alloc (Nat.le_refl _) _), fun hHeld => ?_⟩
 try simp only [Act.put, uB, uC, uD]
 obtain ⟨Z4, hZ4⟩ : ∃ Z4, Z4 = Z3.alloc (.cells #[.int .i64 0, .slice (some ⟨q1, 0, none⟩) 1024 1024, .int .i64 1, .slice (some ⟨q2, 0, none⟩) 1024 1024] 144) := ⟨_, rfl⟩
 rw [← hZ4] at hHeld ⊢
 have b4 : Below Z3.heap.size Z3 Z4 := by rw [hZ4]; exact (Below.refl _ _).alloc (Nat.le_refl _) _
 have r4 : Z4.heap[Z3.heap.size]? = some (.cells #[.int .i64 ((0 : Nat) : Int), .slice (some ⟨q1, 0, none⟩) 1024 1024, .int .i64 ((1 : Nat) : Int), .slice (some ⟨q2, 0, none⟩) 1024 1024] 144 (0, 0)) := by rw [hZ4]; exact heap_alloc_new _ _
 have PT := hide (put2_any w0 Z4 o1 _ 0 0 gs Z3.heap.size 2 0 1 q1 q2 _ (S.leafPg []) (PZ3.out.then b4) ((b4.block gs (block_lt_of_row SZ3.out)).trans SZ3.out) r4 ((b4.block q1 (block_lt_of_row R1b.out)).trans R1b.out) ((b4.block q2 (block_lt_of_row R2.out)).trans R2.out) (S.leafPg_len nodeOk_nil 0) (S.leafPg_len nodeOk_nil 1) Q1.out Q2.out (by omega) (by omega) (by omega) NG.out (by omega))
 have GHN : Hid (¬ o1.has gh) := fun e => by
  have h1 := (PZ3.out.then b4).dk.dk
  exact NGH.out e
 clear b4 r4 hZ4 PZ3 SZ3 R1b R2
 refine r1 8 fun K hK => ?_
 go_simp
 refine PT.out.mono ?_
 rintro e Z5 ⟨rfl, o5, d5, e5, p5, s5, c5, h5⟩
 have a5 : HhAt Z5 gh (S.lhd 0) := c5.row hHeld GHN.out
 have BT := hide (leaf_made nodeOk_nil (fun n hn => S.zeros_length _) 0 1 (Or.inl ⟨rfl, rfl⟩) p5)
 have E5 : Hid (o5.g = o.g) := e5.trans OG.out
 clear hHeld
 refine hK.out _ _ a5 (fun hHeld => ?_)
 clear hK K a5 p5 s5 c5 h5 e5 PT GHN
 try simp only [Act.put, uB, uC, uD]
 refine tq 9 ?_
 simp only [Act.put, uB, uC, uD]
 refine wpAnyH_done (by kernel_rfl) ?_ _
 refine NoPanic.normal ?_
 clear hHeld
 go_wp2_with fail
 go_ret
 exact ⟨rfl, o5, d5, _, E5.out, BT.out⟩
theorem put2_row (w0 w : World) (o : Ow) (d : S.Dk) (p t gs B n1 n2 q1 q2 : Nat) (v : Value) (pg X : Nat → List UInt8) (h : Pg w0 w o d p t pg) (hs : StAt w gs o) (hrow : ShRow B w v [(n1, q1), (n2, q2)])
  (h1 : w.heap[q1]? = some (.cells (S.v8 (X n1)) 5 (0, 0))) (h2 : w.heap[q2]? = some (.cells (S.v8 (X n2)) 5 (0, 0))) (l1 : (X n1).length = 1024) (l2 : (X n2).length = 1024) (o1 : ¬ o.has q1) (o2 : ¬ o.has q2) (hn1 : n1 < 512) (hn2 : n2 < 512) (hne : n1 ≠ n2) (hgs : ¬ o.has gs) (ht : t + 2 < 18446744073709551616) :
  Calls Tryz.prog 45 #[.pointer (some ⟨gs, 0, none⟩), v] w fun e w' => e = .returned (.int .i64 0) ∧ ∃ o' d', o'.g = o.g ∧ Pg w0 w' o' d' p (t + 2) (fun m => if m = n1 ∨ m = n2 then X m else pg m) ∧ StAt w' gs o' ∧ Chg o.has w w' ∧ ∀ k, o'.has k → o.has k ∨ w.heap.size ≤ k := by
 rcases hrow.2 with ⟨rfl, h0⟩ | ⟨b, cap, cur, rfl, hB, hr, a1, a2, a3, a4⟩
 ·simp at h0
 refine (pput_go w0 w o d p t gs b 0 cap [((n1 : Int), some ⟨q1, 0, none⟩, 1024, 1024), ((n2 : Int), some ⟨q2, 0, none⟩, 1024, 1024)] pg X h hs ?_ (by simp) (by simp) ?_ ?_ hgs ht).mono ?_
 ·intro j u hu
  have hu2 : ([(n1, q1), (n2, q2)].flatMap encS)[j]? = some u := hu
  have hj : j < [(n1, q1), (n2, q2)].length * 2 := by have := (List.getElem?_eq_some_iff.1 hu2).1; simpa [encS] using this
  rw [Nat.zero_add, cell_of_row w b j _ _ _ hr]
  rw [← a4, List.getElem?_take, if_pos hj] at hu2
  simpa using hu2
 ·intro x hx
  simp only [List.mem_cons, List.mem_nil_iff, or_false] at hx
  rcases hx with rfl | rfl
  ·exact ⟨by show (0 : Int) ≤ (n1 : Int); omega, by show (n1 : Int) < 512; omega, rfl, ⟨q1, 0, rfl, o1, block_lt_of_row h1⟩, slice_row (xs := X n1) h1 l1.symm (by rw [l1]; omega)⟩
  ·exact ⟨by show (0 : Int) ≤ (n2 : Int); omega, by show (n2 : Int) < 512; omega, rfl, ⟨q2, 0, rfl, o2, block_lt_of_row h2⟩, slice_row (xs := X n2) h2 l2.symm (by rw [l2]; omega)⟩
 ·simp
  omega
 ·rintro e w' ⟨rfl, o', d', e1, h3, h4, h5, h6⟩
  refine ⟨rfl, o', d', e1, ?_, h4, h5, h6⟩
  have e : (fun m => if m ∈ S.pgs [((n1 : Int), some (⟨q1, 0, none⟩ : Addr), 1024, 1024), ((n2 : Int), some (⟨q2, 0, none⟩ : Addr), 1024, 1024)] then X m else pg m) = (fun m => if m = n1 ∨ m = n2 then X m else pg m) := by
   funext m
   simp [S.pgs]
  rw [e] at h3
  exact h3
def BtO (w0 w : World) (o : Ow) (gt gs n : Nat) (es : List S.Ent) : Prop :=
 ∃ d p t pg, Bt1 w0 w o d p t pg es ∧ TrAt w gt gs ∧ StAt w gs o ∧ ¬ o.has gt ∧ ¬ o.has gs ∧ t ≤ n
theorem BtO.then {w0 w W : World} {o : Ow} {gt gs n : Nat} {es : List S.Ent} (h : BtO w0 w o gt gs n es) (hb : Below w.heap.size w W) : BtO w0 W o gt gs n es := by
 obtain ⟨d, p, t, pg, h1, h2, h3, h4, h5, h6⟩ := h
 exact ⟨d, p, t, pg, h1.then hb, (hb.block gt (block_lt_of_row h2)).trans h2, (hb.block gs (block_lt_of_row h3)).trans h3, h4, h5, h6⟩
theorem BtO.rds {w0 w : World} {o : Ow} {gt gs n : Nat} {es : List S.Ent} (h : BtO w0 w o gt gs n es) : ∃ pg, Rds w.heap.size w gs pg ∧ TrAt w gt gs ∧ S.Leaf pg es := by
 obtain ⟨d, p, t, pg, h1, h2, h3, _⟩ := h
 exact ⟨pg, h1.rds h3, h2, h1.leaf⟩
theorem BtO.below {w0 w : World} {o : Ow} {gt gs n : Nat} {es : List S.Ent} (h : BtO w0 w o gt gs n es) : Below w0.heap.size w0 w := by
 obtain ⟨d, p, t, pg, h1, _⟩ := h
 exact h1.pgs.below
theorem do_no (gt : Nat) (v : Value) (dc : List ChV) (w : World) (hl : Els encCh w v dc) (hp : (dc.all ChV.good && decide (dc.length ≤ 80)) = false) :
  Calls Tryz.prog 12 #[.pointer (some ⟨gt, 0, none⟩), v] w fun e w' => e = .returned (.int .i64 1) ∧ Below w.heap.size w w' := by
 obtain ⟨ao, cap, rfl, _⟩ := hl.form
 have HL := hide hl
 have HP := hide hp
 generalize dc.length = n at hl ⊢ HL
 clear hl hp
 go_enter Tryz.func12, Tryz.ntmps12
 go_wp2_with fail
 refine (permitted_any _ dc w HL.out).mono ?_
 rintro e w1 ⟨rfl, hb⟩
 rw [HP.out]
 have HB := hide hb
 clear hb
 go_wp2_with fail
 go_ret
 exact ⟨rfl, HB.out⟩
theorem do_nil (gt : Nat) (w : World) :
  Calls Tryz.prog 12 #[.pointer (some ⟨gt, 0, none⟩), .slice none 0 0] w fun e w' => e = .returned (.int .i64 0) ∧ Below w.heap.size w w' := by
 go_enter Tryz.func12, Tryz.ntmps12
 go_wp2_with fail
 refine (permitted_any (.slice none 0 0) [] w (Or.inl ⟨rfl, rfl⟩)).mono ?_
 rintro e w1 ⟨rfl, hb⟩
 have HB := hide hb
 clear hb
 rw [show (([] : List ChV).all ChV.good && decide (([] : List ChV).length ≤ 80)) = true from rfl]
 go_wp2_with fail
 go_ret
 exact ⟨rfl, HB.out⟩
set_option maxHeartbeats 16000000 in
set_option maxRecDepth 10000 in
theorem do_ok (w0 : World) (o : Ow) (gt gs n b off cap : Nat) (dc : List ChV) (cs : List S.Cg) (es : List S.Ent) (w : World) (h : BtO w0 w o gt gs n es) (h0 : ∀ j u, (dc.flatMap encCh)[j]? = some u → w.cell? ⟨b, off + j, none⟩ = some u) (hne : dc ≠ []) (hl19 : dc.length ≤ 19) (hcap : dc.length ≤ cap) (hg : (dc.all ChV.good) = true) (hcs : ChsAre w dc cs) (hle : es.length ≤ 9000) (hmk : S.NodeOk 0 (S.mrg es (S.lasts cs))) (hn : n + 2 < 18446744073709551616) :
  Calls Tryz.prog 12 #[.pointer (some ⟨gt, 0, none⟩), .slice (some ⟨b, off, none⟩) dc.length cap] w fun e w' => e = .returned (.int .i64 0) ∧ ∃ o', o'.g = o.g ∧ BtO w0 w' o' gt gs (n + 2) (S.mrg es (S.lasts cs)) ∧ Chg o.has w w' ∧ ∀ k, o'.has k → o.has k ∨ w.heap.size ≤ k := by
 have hels : Els encCh w (.slice (some ⟨b, off, none⟩) dc.length cap) dc := Or.inr (Or.inr ⟨b, off, cap, rfl, hcap, by omega, by
  obtain ⟨x, r, rfl⟩ := List.exists_cons_of_ne_nil hne
  exact World.block_lt_of_cell? w _ (h0 0 (.slice x.ka x.kn x.kc) rfl), h0⟩)
 have HPM := hide (permitted_any _ dc w hels)
 have HGD : Hid ((dc.all ChV.good && decide (dc.length ≤ 80)) = true) := by show (dc.all ChV.good && decide (dc.length ≤ 80)) = true; rw [hg, Bool.true_and]; exact decide_eq_true (by omega)
 have HNE := hide hne
 have HL19 := hide hl19
 have HCL := hide (show cs.length = dc.length from hcs.1.symm)
 have HLE := hide hle
 have HMK := hide hmk
 have HNT := hide hn
 obtain ⟨m, hm⟩ : ∃ m, m = dc.length := ⟨_, rfl⟩
 have HPOS : 0 < m := by rw [hm]; exact List.length_pos_iff.2 hne
 have q0 : ¬ (m : Int) = 0 := by omega
 rw [← hm] at HPM HGD ⊢
 have HN := hide hm
 have HB := hide h
 have H00 := hide h0
 have HCS0 := hide hcs
 clear hels hg hne hl19 hcap hcs hle hmk hn hm h0 HPOS h
 go_enter Tryz.func12, Tryz.ntmps12
 go_wp2_with fail
 refine HPM.out.mono ?_
 rintro e w2 ⟨rfl, hb⟩
 rw [HGD.out]
 have HB2 := hide (HB.out.then hb)
 have HCS := hide (HCS0.out.below hb)
 have H0 : Hid (∀ j u, (dc.flatMap encCh)[j]? = some u → w2.cell? ⟨b, off + j, none⟩ = some u) := fun j u h => (hb.cell (p := ⟨b, off + j, none⟩) (World.block_lt_of_cell? _ _ (H00.out j u h))).trans (H00.out j u h)
 have HW2 := hide hb
 clear hb H00 HCS0 HPM
 go_upto_region 5 with fail
 obtain ⟨d, p, t, pg, hb1, htr, hst, ngt, ngs, htn⟩ := HB2.out
 have HB1 := hide hb1
 have HTR := hide htr
 have HST := hide hst
 have NGT := hide ngt
 have NGS := hide ngs
 have HTN := hide htn
 have HRD := hide (hb1.rds hst)
 have HLF := hide hb1.leaf
 clear hb1 htr hst ngt ngs htn HB HB2
 refine wp_region_noPanic ?_
 refine wp_region_held_drew (S := (fun W => Below w2.heap.size w2 W)) follows ((Below.refl _ _).drew) (fun hHeld => ?_)
 clear hHeld
 have hHeld : Below w2.heap.size w2 w2.drew := (Below.refl _ _).drew
 have CZ0 := hide hHeld
 generalize w2.drew = Z0 at CZ0 hHeld ⊢
 refine tq 0 ?_
 simp only [Act.put, uB, uC, uD]
 refine tq 1 ?_
 simp only [Act.put, uB, uC, uD]
 refine tq 2 ?_
 simp only [Act.put, uB, uC, uD]
 refine tk 3 ?_ rfl (Or.inl ⟨by rfl, ?_⟩) ?_
 rotate_left
 ·intro w hSw
  have ct := (hSw.cell (p := ⟨gt, 0, none⟩) (block_lt_of_row HTR.out)).trans (tr_cell HTR.out)
  clear hSw
  go_simp
  all_goals with_reducible rfl
 simp only [Act.put, uB, uC, uD]
 refine tq 4 ?_
 simp only [Act.put, uB, uC, uD]
 refine r1 5 fun K hK => ?_
 go_simp
 rw [HN.out]
 refine (lasts_any b off cap dc cs Z0 (fun j u h => (CZ0.out.cell (p := ⟨b, off + j, none⟩) (World.block_lt_of_cell? _ _ (H0.out j u h))).trans (H0.out j u h)) HNE.out HL19.out (HCS.out.below CZ0.out)).mono ?_
 rintro e Z1 ⟨⟨vl, dl, rfl, hel, hca, hone⟩, hbz⟩
 rw [← HN.out]
 have CZ1 := hide (CZ0.out.trans (hbz.mono CZ0.out.size))
 have HEL := hide hel
 have HCA := hide hca
 clear hel hca hbz hone CZ0 hHeld
 refine hK.out _ _ CZ1.out (fun hHeld => ?_)
 clear hK K
 try simp only [Act.put, uB, uC, uD]
 refine r1 6 fun K hK => ?_
 go_simp
 refine (edited_0 w2.heap.size gs pg es dl (S.lasts cs) vl Z1 (HRD.out.below CZ1.out) HLF.out HEL.out HCA.out (by have := HLE.out; have := HL19.out; have := S.lasts_length cs; have := HCL.out; omega) HMK.out).mono ?_
 rintro e Z2 ⟨vs, q1, q2, rfl, hsh, hr1, hr2, hq1, hq2, hbz⟩
 have CZ2 := hide (CZ1.out.trans (hbz.mono CZ1.out.size))
 have SH := hide hsh
 have R1 := hide hr1
 have R2 := hide hr2
 have Q12 := hide (show w2.heap.size ≤ q1 ∧ w2.heap.size ≤ q2 from ⟨Nat.le_trans CZ1.out.size hq1, Nat.le_trans CZ1.out.size hq2⟩)
 clear hsh hr1 hr2 hq1 hq2 hbz CZ1 hHeld HEL HCA
 refine hK.out _ _ CZ2.out (fun hHeld => ?_)
 clear hK K
 try simp only [Act.put, uB, uC, uD]
 refine tq 7 ?_
 simp only [Act.put, uB, uC, uD]
 refine tq 8 ?_
 simp only [Act.put, uB, uC, uD]
 refine tq 9 ?_
 simp only [Act.put, uB, uC, uD]
 refine tq 10 ?_
 simp only [Act.put, uB, uC, uD]
 refine tq 11 ?_
 simp only [Act.put, uB, uC, uD]
 refine wpAnyH_done (by kernel_rfl) ?_ _
 refine NoPanic.normal ?_
 clear hHeld
 have HTRZ := hide ((CZ2.out.block gt (block_lt_of_row HTR.out)).trans HTR.out)
 have HSTZ := hide (show StAt Z2 gs o from (CZ2.out.block gs (block_lt_of_row HST.out)).trans HST.out)
 have HBZ := hide (HB1.out.then CZ2.out)
 have ct := tr_cell HTRZ.out
 go_wp2_with fail
 have HP2 := put2_row w0 Z2 o d p t gs _ 1 0 q1 q2 vs pg (S.leafPg (S.mrg es (S.lasts cs))) HBZ.out.pgs HSTZ.out SH.out R1.out R2.out (S.leafPg_len HMK.out 1) (S.leafPg_len HMK.out 0)
  (fun e => by have h1 := HB1.out.pgs.dk.dk.lt q1 e; have := Q12.out; omega) (fun e => by have h1 := HB1.out.pgs.dk.dk.lt q2 e; have := Q12.out; omega) (by omega) (by omega) (by omega) NGS.out (by have := HTN.out; have := HNT.out; omega)
 refine HP2.mono ?_
 clear HP2
 rintro e w4 ⟨rfl, o', d', ho, hpg, hst4, hch, hhas⟩
 have HO' := hide ho
 have HPG := hide (leaf_made HMK.out HBZ.out.size 1 0 (Or.inr ⟨rfl, rfl⟩) hpg)
 have HS4 := hide hst4
 have HT4 := hide (show TrAt w4 gt gs from hch.row HTRZ.out NGT.out)
 have HCH := hide (show Chg o.has w w4 from (Chg.ofBelow' HW2.out).trans ((Chg.ofBelow' CZ2.out (p := o.has)).trans hch (fun _ _ e => e)) (fun _ _ e => e))
 have HHA : Hid (∀ k, o'.has k → o.has k ∨ w.heap.size ≤ k) := fun k hk => by
  rcases hhas k hk with e | e
  ·exact Or.inl e
  ·exact Or.inr (Nat.le_trans HW2.out.size (Nat.le_trans CZ2.out.size e))
 have NG4 : Hid (¬ o'.has gt ∧ ¬ o'.has gs) := ⟨fun e => by
  rcases hhas gt e with e | e
  ·exact NGT.out e
  ·have := block_lt_of_row HTRZ.out; omega, fun e => by
  rcases hhas gs e with e | e
  ·exact NGS.out e
  ·have := block_lt_of_row HSTZ.out; omega⟩
 clear ho hpg hst4 hch hhas ct
 go_wp2_with fail
 go_ret
 exact ⟨rfl, o', HO'.out, ⟨d', p, t + 2, _, HPG.out, HT4.out, HS4.out, NG4.out.1, NG4.out.2, by have := HTN.out; omega⟩, HCH.out, HHA.out⟩
end Go.Proofs.YteealihknndclaaGreatDoor
namespace Go.Proofs.YteealihknndclaaGreatDoor
open Go.RowKit Go.Shelf

def Grows {α : Type} (J : α → World → Prop) : Prop := ∀ s A B, J s A → Below A.heap.size A B → J s B
def Bare {α : Type} (B : Nat) (J : α → World → Prop) : Prop := ∀ s A l o o', J s A → B ≤ l → A.heap[l]? = some o → o.isCells = false → J s (A.putObj l o')
def SeqMem {α : Type} (n : Nat) (P : Program) (g : Nat) (lb : Array Value) (encs : α → Array Value) (q : Nat → Prop) (R : List α → α → World → Prop) (S Sp : List α → Prop) (w : World) : Prop :=
 ∀ (l : Nat) (J Jx : List α → World → Prop) (W : World), Below w.heap.size w W → Grows J → Grows Jx →
  (∀ pre x V, J pre V → R pre x V → YieldAt Fence.wide (n - 1) P l (encs x) V fun e V' => (e = .returned (.bool true) ∧ J (pre ++ [x]) V' ∧ Chg q V V') ∨ (e = .returned (.bool false) ∧ Jx (pre ++ [x]) V')) →
  J [] W → CallsIn Fence.wide n P g (#[.func (.yield l) #[] #[]] ++ lb) W fun e W' => (∃ v, e = .returned v) ∧ ((∃ xs, S xs ∧ J xs W') ∨ (∃ pre, Sp pre ∧ Jx pre W'))
def memPost {α : Type} (q : Nat → Prop) (I : List α → World → Prop) (Ix : Code → List α → World → Prop) (ys : List α) (W : World) : Exit → Act → World → Prop
 | .normal, _, W' => Chg q W W' ∧ I ys W'
 | .ret, _, W' => Chg q W W' ∧ Ix .ret ys W'
 | .exit id, _, W' => Chg q W W' ∧ Ix (.exit id) ys W'
 | .goto t, _, W' => Chg q W W' ∧ Ix (.goto t) ys W'
 | .panic _, _, _ => False
 | .outgrown, _, _ => False
theorem putObj_cases {W : World} {l k : Nat} {o : Obj} (hl : l < W.heap.size) : (W.putObj l o).heap[k]? = if k = l then some o else W.heap[k]? := by
 by_cases e : k = l
 ·rw [if_pos e, e]; exact World.putObj_heap_same hl
 ·rw [if_neg e]; exact World.putObj_heap_other e
theorem Chg.round {q : Nat → Prop} {W V : World} {l : Nat} {b f : Obj} (hl : l < W.heap.size) (hf : W.heap[l]? = some f) (h : Chg q (W.putObj l b) V) : Chg q W (V.putObj l f) := by
 have hs : (W.putObj l b).heap.size = W.heap.size := World.putObj_size
 have hV : l < V.heap.size := by have := h.size; omega
 refine ⟨h.os, h.tape, h.output, by have := h.size; rw [World.putObj_size]; omega, fun k hk hn => ?_⟩
 rw [putObj_cases hV]
 by_cases e : k = l
 ·rw [if_pos e, e, hf]
 ·rw [if_neg e, h.block k (by omega) hn, putObj_cases hl, if_neg e]
end Go.Proofs.YteealihknndclaaGreatDoor
namespace Go.Proofs.YteealihknndclaaGreatDoor
open Go.RowKit
open Go.Shelf
attribute [local go_sem] Oper.semAt_some

theorem S.rank_nil (ks : List (List UInt8)) : S.rank ks [] = 0 := by
 unfold S.rank
 rw [List.countP_eq_zero]
 intro a _
 cases a <;> simp [S.kcmp, Lib.compareBytes]
def encPr (x : EnV) : Array Value := #[.agg #[.slice x.ka x.kn x.kc, .slice x.va x.vn x.vc]]
theorem EnNew.past {p : Nat → Prop} {B : Nat} {w W : World} {x : EnV} {e : S.Ent} (h : EnNew B w x e) (hc : Chg p w W) (hp : ∀ k, p k → k < B) : EnNew B W x e := by
 obtain ⟨q, h1, h2, h3, h4, h5⟩ := h.key
 refine ⟨⟨q, h1, h2, h3, h4, hc.row h5 (fun e => by have := hp _ e; omega)⟩, ?_, h.page⟩
 rcases h.val with h6 | ⟨q2, h6, h7, h8, h9, h10, h11⟩
 ·exact Or.inl h6
 ·exact Or.inr ⟨q2, h6, h7, h8, h9, hc.row h10 (fun e => by have := hp _ e; omega), h11⟩
def PairAt (B : Nat) (es : List S.Ent) (pre : List EnV) (x : EnV) (V : World) : Prop := ∃ e, es[pre.length]? = some e ∧ EnNew B V x e
theorem PairAt.bare (B b : Nat) (es : List S.Ent) (pre : List EnV) : Bare b (PairAt B es pre) := by
 rintro x A l o o' ⟨e, h1, h2⟩ _ hl ho
 have kp : ∀ {k : Nat} {c : Array Value} {t : TypeId} {f : Nat × Nat}, A.heap[k]? = some (.cells c t f) → (A.putObj l o').heap[k]? = some (.cells c t f) := fun {k c t f} h => by
  have : k ≠ l := fun e => by rw [e, hl] at h; injection h with h; rw [h] at ho; cases ho
  exact (World.putObj_heap_other this).trans h
 obtain ⟨q, g1, g2, g3, g4, g5⟩ := h2.key
 refine ⟨e, h1, ⟨q, g1, g2, g3, g4, kp g5⟩, ?_, h2.page⟩
 rcases h2.val with h6 | ⟨q2, h6, h7, h8, h9, h10, h11⟩
 ·exact Or.inl h6
 ·exact Or.inr ⟨q2, h6, h7, h8, h9, kp h10, h11⟩
theorem els_all {w : World} {ao : Option Addr} {n cap : Nat} {d : List EnV} (h : Els encEn w (.slice ao n cap) d) :
  (∀ W, (Instr.slice 122 (.slice ao n cap) (some (.int .i64 0)) none none).run Tryz.prog W = .ok (.slice ao n cap) W) ∧ True := by
 have hn : n ≤ cap ∨ n = 0 := by
  rcases h with ⟨h, _⟩ | ⟨_, _, h, _⟩ | ⟨_, _, _, h, h1, _⟩ <;> injection h with _ h2 h3 <;> omega
 refine ⟨fun W => ?_, trivial⟩
 rw [show (0 : Int) = ((0 : Nat) : Int) from rfl, run_slice_l W 122 ao n cap under122 .i64 _ (by omega) (by omega), size122]
 cases ao <;> simp [sliced, Addr.add]
theorem ccell4 {w : World} {b off i : Nat} {x : EnV} (h : ∀ (r : Nat) u, (encEn x)[r]? = some u → w.cell? ⟨b, off + (i * 4 + r), none⟩ = some u) :
  w.cell? ⟨b, off + i * 4, none⟩ = some (.slice x.ka x.kn x.kc) ∧ w.cell? ⟨b, off + i * 4 + 1, none⟩ = some (.slice x.va x.vn x.vc) ∧ w.cell? ⟨b, off + i * 4 + 2, none⟩ = some (.int .i64 x.pg) ∧ w.cell? ⟨b, off + i * 4 + 3, none⟩ = some (.pointer x.nd) :=
 ⟨h 0 _ rfl, by rw [Nat.add_assoc]; exact h 1 _ rfl, by rw [Nat.add_assoc]; exact h 2 _ rfl, by rw [Nat.add_assoc]; exact h 3 _ rfl⟩
theorem cells1r {w : World} {g : Nat} {a : Value} {t : TypeId} (h : w.heap[g]? = some (.cells #[a] t (0, 0))) : w.cell? ⟨g, 0, none⟩ = some a := by
 rw [cell_of_row w g 0 _ t _ h]; rfl
set_option maxHeartbeats 16000000 in
set_option maxRecDepth 100000 in
theorem range_seq (n : Nat) (B gs gt g4 g5 g3 : Nat) (pg : Nat → List UInt8) (es : List S.Ent) (q : Nat → Prop) (w : World) (hr : Rds B w gs pg) (hl : S.Leaf pg es) (ht : TrAt w gt gs) (h4 : w.heap[g4]? = some (.cells #[.slice none 0 0] 32 (0, 0))) (h5 : w.heap[g5]? = some (.cells #[.slice none 0 0] 32 (0, 0))) (h3 : w.heap[g3]? = some (.cells #[.pointer (some ⟨gt, 0, none⟩)] 23 (0, 0)))
  (hq : ∀ k, q k → k < w.heap.size) (hq5 : ¬ q g5) :
  SeqMem n Tryz.prog 51 #[.pointer (some ⟨g4, 0, none⟩), .pointer (some ⟨g5, 0, none⟩), .pointer (some ⟨g3, 0, none⟩)] encPr q (PairAt w.heap.size es) (fun xs => xs.length = es.length) (fun _ => True) w := by
 intro l J Jx W hW hJ hJx hY h0
 have HR := hide (hr.below hW)
 have HL := hide hl
 have HT := hide (show TrAt W gt gs from (hW.block _ (block_lt_of_row ht)).trans ht)
 have R4 := hide ((hW.block _ (block_lt_of_row h4)).trans h4)
 have R5 := hide ((hW.block _ (block_lt_of_row h5)).trans h5)
 have R3 := hide ((hW.block _ (block_lt_of_row h3)).trans h3)
 have HY := hide hY
 have HWR := hide (show w.heap.size ≤ W.heap.size from hW.size)
 have HQ := hide (show (∀ k, q k → k < W.heap.size) from fun k hk => Nat.lt_of_lt_of_le (hq k hk) hW.size)
 have HQ5 := hide hq5
 obtain ⟨N, hN⟩ : ∃ N, N = es.length := ⟨_, rfl⟩
 have HN := hide hN
 have HNL := hide (show N ≤ 254 by rw [hN]; exact hl.ok.len)
 have c4 := cells1r R4.out
 have c3 := cells1r R3.out
 have ct := tr_cell HT.out
 clear hr hl ht h4 h5 h3 hY hq hN hW
 refine callsIn_of_wp Tryz.func51 rfl trivial ?_ rfl
 simp only [Tryz.ntmps51, List.size_toArray, List.length_cons, List.length_nil, Nat.reduceAdd, Nat.reduceSub, Array.replicate_succ, Array.replicate_zero, List.push_toArray, List.append_toArray, List.nil_append, List.cons_append]
 gi_wp2
 gi_loopw [5, 6] (fun s5 s6 wr => (s5 = .slice none 0 0 ∧ s6 = .bool true ∧ wr = W) ∨ (s6 = .bool false ∧ ∃ xs, xs.length = N ∧ J xs wr)) (fun _ s6 _ => match s6 with | .bool true => 1 | _ => 0)
 case atStart => exact Or.inl ⟨rfl, rfl, rfl⟩
 case round =>
  rcases hrel with ⟨rfl, rfl, rfl⟩ | ⟨rfl, xs, hxs, hJs⟩
  rotate_left
  ·gi_wp2
   go_end0
   exact ⟨⟨_, rfl⟩, .inl ⟨xs, by rw [hxs, HN.out], hJs⟩⟩
  ·gi_wp2
   refine ⟨trivial, by simp [Fence.wide], (callsIn_wide.2 (leafOf_0 B gs pg es _ wr HR.out HL.out ⟨_, _, _, rfl⟩)).mono ?_⟩
   rintro e w1 ⟨g, rfl, hn, hb⟩
   have NN := hide hn
   have HB1 := hide hb
   clear hn hb
   gi_wp2
   refine ⟨trivial, by simp [Fence.wide], (callsIn_wide.2 (find_any g 0 _ es [] w1 (NN.out.node HL.out.ok.ent (by have := HL.out.ok.len; omega)) (Or.inl ⟨rfl, rfl⟩) HL.out.ok.up)).mono ?_⟩
   rintro e w2 ⟨rfl, hb⟩
   rw [S.rank_nil]
   have N2 := hide (NN.out.below hb)
   have HB2 := hide (HB1.out.trans (hb.mono HB1.out.size))
   clear hb NN HB1
   obtain ⟨v, d, h1, h2, h3, h4⟩ := N2.out.is
   obtain ⟨ao, cap, rfl⟩ := h2.form
   obtain ⟨g0, g1⟩ := cells2 h1
   have hd : d.length = N := h3.trans HN.out.symm
   have OB := hide (show ∀ k, (Value.slice ao N cap).ownBlock = some k → ¬ q k from fun k hk hq => by rw [← hd] at hk; have := (h2.blk hk).1; have := HQ.out k hq; omega)
   have ELS := hide (h2.els (by have := HNL.out; omega))
   rw [hd] at g1 ELS
   have SL := (els_all ELS.out).1
   have R5q := hide (show w2.heap[g5]? = some (.cells #[.slice none 0 0] 32 (0, 0)) from (HB2.out.block _ (block_lt_of_row R5.out)).trans R5.out)
   have H4 := hide h4
   have HD := hide hd
   clear h1 h2 h3 h4 hd N2
   gi_wp2
   gi_loopw [49] (fun i wr => ∃ (k : Nat) (pre : List EnV), k ≤ N ∧ i = .int .i64 (k : Int) ∧ pre.length = k ∧ J pre wr ∧ Chg q w2 wr) (fun i _ => N - (intOf i).toNat)
   case atStart => exact ⟨0, [], Nat.zero_le _, rfl, rfl, hJ _ _ _ h0 HB2.out, Chg.refl _ _⟩
   case round =>
    obtain ⟨k, pre, hk, rfl, hpre, hJs, hc⟩ := hrel
    by_cases hlt : k < N
    ·have q0 : (0 : Int) ≤ (k : Int) := by omega
     have q1 : (k : Int) < (N : Int) := by omega
     have qw : IntKind.i64.wrap ((k : Int) + 1) = (k : Int) + 1 := by rw [IntKind.wrap_i64]; have := HNL.out; omega
     obtain ⟨x, hx⟩ : ∃ x, d[k]? = some x := ⟨_, List.getElem?_eq_getElem (by rw [HD.out]; exact hlt)⟩
     obtain ⟨en, hen⟩ : ∃ en, es[k]? = some en := ⟨_, List.getElem?_eq_getElem (by rw [← HN.out]; exact hlt)⟩
     have EN := hide ((H4.out k x en hx hen).1.past hc (fun k hq => HQ.out k hq))
     obtain ⟨b, off, cp, hs, hcp, hbl, hcl⟩ := (ELS.out.chg hc OB.out).at encEn_len k x hx
     rw [HD.out] at hs hcp
     simp only [Value.slice.injEq] at hs
     obtain ⟨rfl, -, rfl⟩ := hs
     obtain ⟨t0, t1, t2, t3⟩ := ccell4 hcl
     have c5 : wr.cell? ⟨g5, 0, none⟩ = some (.slice none 0 0) := cells1r (hc.row R5q.out HQ5.out)
     have hg5 : g5 < wr.heap.size := block_lt_of_row (hc.row R5q.out HQ5.out)
     obtain ⟨ka, kn, kc, va, vn, vc, px, nd⟩ := x
     obtain ⟨VN, hVN⟩ : ∃ V, V = wr.alloc (.cells #[.slice ka kn kc, .slice va vn vc, .int .i64 px, .pointer nd] 126 (0, 0)) := ⟨_, rfl⟩
     have bV : Below wr.heap.size wr VN := by rw [hVN]; exact (Below.refl _ wr).alloc (Nat.le_refl _) _
     obtain ⟨fn, tmps, assign, body, hy, hR⟩ := HY.out pre ⟨ka, kn, kc, va, vn, vc, px, nd⟩ VN (hJ _ _ _ hJs bV) ⟨en, by rw [hpre]; exact hen, (EN.out.below bV).mono HWR.out⟩
     simp only [encPr] at hy
     have HK := hide (And.intro hlt hpre)
     have HCV := hide (hc.trans (q := fun _ => False) (Chg.ofBelow' bV) (fun _ _ e => e.elim))
     subst hVN
     clear hx hen hcl hlt hk hJs hc bV
     gi_wp2
     refine ⟨trivial, by simp [Fence.wide], (callsIn_wide.2 (below_nil _ _ ⟨_, _, _, rfl⟩)).mono ?_⟩
     rintro e w3 ⟨rfl, rfl⟩
     gi_wp2
     refine ⟨by simp [Fence.wide], hR.mono ?_⟩
     rintro e W3 (⟨rfl, hJ3, hk3⟩ | ⟨rfl, hJx3⟩)
     ·gi_wp2
      go_roundw
      case rel => exact ⟨k + 1, _, by have := HK.out; omega, rfl, by simp [HK.out.2], hJ3, HCV.out.trans hk3 (fun _ _ e => e)⟩
      case measure => have := HK.out; simp only [intOf]; omega
     ·gi_wp2
      refine bodyPost_ret (results_none rfl _ _ _) rfl ?_
      exact ⟨⟨_, rfl⟩, .inr ⟨_, trivial, hJx3⟩⟩
    ·obtain rfl : k = N := by omega
     have q1 : ¬ (k : Int) < (k : Int) := by omega
     gi_wp2
     refine ⟨trivial, ?_⟩
     gi_wp2
     go_roundw
     case rel => exact Or.inr ⟨rfl, pre, hpre, hJs⟩
     case measure => simp
end Go.Proofs.YteealihknndclaaGreatDoor
namespace Go.Proofs.YteealihknndclaaGreatDoor
open Go.RowKit
theorem eql_none32 (W : World) : (binOp .eql 32 (.slice none 0 0) (.slice none 0 0)).run Tryz.prog W = .ok (.bool true) W := by
 have h : ∀ d : Nat, (Op.equalIn (d + 1) 32 (.slice none 0 0) (.slice none 0 0)).run Tryz.prog W = .ok true W := fun d => by
  simp [Op.equalIn, run_underlying Tryz.underlying32]
 simp only [binOp]
 simp [Op.equal, Op.maxDepth, h 9999]
set_option maxRecDepth 10000 in
theorem clone_nil (w : World) : Calls Tryz.prog 50 #[.slice none 0 0] w fun e w' => e = .returned (.slice none 0 0) ∧ w = w' := by
 have e := eql_none32
 go_enter Tryz.func50, Tryz.ntmps50
 go_wp2_with fail
 go_ret
 exact ⟨rfl, rfl⟩
set_option maxRecDepth 10000 in
theorem store32 {w : World} {g : Nat} {v : Value} (h : w.heap[g]? = some (.cells #[v] 32 (0, 0))) (ao : Option Addr) (n c : Nat) :
  (Instr.storeAt 32 (.pointer (some ⟨g, 0, none⟩)) (.slice ao n c)).run Tryz.prog w = .ok () (w.setCell ⟨g, 0, none⟩ (.slice ao n c)) := by
 have e := cells1r h
 have f := frozen_of_row w g 0 _ _ h
 go_simp
def RgS (w : World) (g3 g4 g5 gt : Nat) (W : World) : Prop :=
 Below w.heap.size w W ∧ W.heap[g3]? = some (.cells #[.pointer (some ⟨gt, 0, none⟩)] 23 (0, 0)) ∧ W.heap[g4]? = some (.cells #[.slice none 0 0] 32 (0, 0)) ∧ W.heap[g5]? = some (.cells #[.slice none 0 0] 32 (0, 0))
theorem RgS.set4 {w W : World} {g3 g4 g5 gt : Nat} (h : RgS w g3 g4 g5 gt W) (h4 : w.heap.size ≤ g4) (n3 : g3 ≠ g4) (n5 : g5 ≠ g4) : RgS w g3 g4 g5 gt (W.setCell ⟨g4, 0, none⟩ (.slice none 0 0)) :=
 ⟨h.1.setCell (p := ⟨g4, 0, none⟩) h4 _, (heap_setCell_other _ _ _ _ n3).trans h.2.1, one_setCell h.2.2.1, (heap_setCell_other _ _ _ _ n5).trans h.2.2.2⟩
theorem RgS.set5 {w W : World} {g3 g4 g5 gt : Nat} (h : RgS w g3 g4 g5 gt W) (h5 : w.heap.size ≤ g5) (n3 : g3 ≠ g5) (n4 : g4 ≠ g5) : RgS w g3 g4 g5 gt (W.setCell ⟨g5, 0, none⟩ (.slice none 0 0)) :=
 ⟨h.1.setCell (p := ⟨g5, 0, none⟩) h5 _, (heap_setCell_other _ _ _ _ n3).trans h.2.1, (heap_setCell_other _ _ _ _ n4).trans h.2.2.1, one_setCell h.2.2.2⟩
set_option maxHeartbeats 4000000 in
set_option maxRecDepth 10000 in
theorem range_nil (gt : Nat) (w : World) : Calls Tryz.prog 19 #[.pointer (some ⟨gt, 0, none⟩), .slice none 0 0, .slice none 0 0] w fun e w' =>
  ∃ g3 g4 g5, e = .returned (.func (.func 51) #[] #[.pointer (some ⟨g4, 0, none⟩), .pointer (some ⟨g5, 0, none⟩), .pointer (some ⟨g3, 0, none⟩)]) ∧ RgS w g3 g4 g5 gt w' ∧ w.heap.size ≤ g3 ∧ w.heap.size ≤ g4 ∧ w.heap.size ≤ g5 := by
 obtain ⟨g3, h3⟩ : ∃ g, g = w.heap.size := ⟨_, rfl⟩
 obtain ⟨g4, h4⟩ : ∃ g, g = w.heap.size + 1 := ⟨_, rfl⟩
 obtain ⟨g5, h5⟩ : ∃ g, g = w.heap.size + 1 + 1 := ⟨_, rfl⟩
 go_enter Tryz.func19, Tryz.ntmps19
 go_upto_region 1 with fail
 have s1 : ∀ (W : World) o, (W.alloc o).heap.size = W.heap.size + 1 := fun W o => World.size_alloc W o
 have r3 : ((w.alloc (.cells #[.pointer (some ⟨gt, 0, none⟩)] 23 (0, 0)))).heap[g3]? = some (.cells #[.pointer (some ⟨gt, 0, none⟩)] 23 (0, 0)) := by rw [h3]; exact heap_alloc_new _ _
 have b3 := (Below.refl w.heap.size w).alloc (Nat.le_refl _) (.cells #[.pointer (some ⟨gt, 0, none⟩)] 23 (0, 0))
 obtain ⟨W3, hW3⟩ : ∃ W, W = w.alloc (.cells #[.pointer (some ⟨gt, 0, none⟩)] 23 (0, 0)) := ⟨_, rfl⟩
 have z3 : W3.heap.size = w.heap.size + 1 := by rw [hW3, s1]
 have r4 : (W3.alloc (.cells #[.slice none 0 0] 32 (0, 0))).heap[g4]? = some (.cells #[.slice none 0 0] 32 (0, 0)) := by rw [h4, ← z3]; exact heap_alloc_new _ _
 obtain ⟨W4, hW4⟩ : ∃ W, W = W3.alloc (.cells #[.slice none 0 0] 32 (0, 0)) := ⟨_, rfl⟩
 have z4 : W4.heap.size = w.heap.size + 1 + 1 := by rw [hW4, s1, z3]
 have r5 : (W4.alloc (.cells #[.slice none 0 0] 32 (0, 0))).heap[g5]? = some (.cells #[.slice none 0 0] 32 (0, 0)) := by rw [h5, ← z4]; exact heap_alloc_new _ _
 obtain ⟨W5, hW5⟩ : ∃ W, W = W4.alloc (.cells #[.slice none 0 0] 32 (0, 0)) := ⟨_, rfl⟩
 rw [← hW3] at r3 b3
 rw [← hW4] at r4
 rw [← hW5] at r5
 have c4 : Below W3.heap.size W3 W4 := by rw [hW4]; exact (Below.refl _ _).alloc (Nat.le_refl _) _
 have c5 : Below W4.heap.size W4 W5 := by rw [hW5]; exact (Below.refl _ _).alloc (Nat.le_refl _) _
 have HR0 := hide (show RgS w g3 g4 g5 gt W5.drew from ⟨((b3.trans (c4.mono (by omega))).trans (c5.mono (by omega))).drew, (c5.block _ (by omega)).trans ((c4.block _ (by omega)).trans r3), (c5.block _ (by omega)).trans r4, r5⟩)
 rw [← h3, show g3 + 1 + 1 = g5 by omega, show g3 + 1 = g4 by omega, ← hW3, ← hW4, ← hW5]

 clear r3 r4 r5 b3 c4 c5 s1 hW3 hW4 hW5 z3 z4
 have G4 : w.heap.size ≤ g4 := by omega
 have G5 : w.heap.size ≤ g5 := by omega
 have G3 : w.heap.size ≤ g3 := by omega
 have NE : g3 ≠ g4 ∧ g3 ≠ g5 ∧ g4 ≠ g5 := by omega
 clear h3 h4 h5
 refine wp_region_noPanic ?_
 refine wp_region_held_drew (S := (fun W => RgS w g3 g4 g5 gt W)) follows HR0.out (fun hHeld => ?_)
 refine tk 0 ?_ rfl (Or.inl ⟨by rfl, ?_⟩) ?_
 rotate_left
 ·intro w hSw
  have e4 := cells1r hSw.2.2.1
  have e5 := cells1r hSw.2.2.2
  clear hSw
  go_simp
  all_goals with_reducible rfl
 simp only [Act.put, uB, uC, uD]
 refine tk 2 ?_ rfl (Or.inl ⟨by rfl, ?_⟩) ?_
 rotate_left
 ·intro w hSw
  have e4 := cells1r hSw.2.2.1
  have e5 := cells1r hSw.2.2.2
  clear hSw
  go_simp
  all_goals with_reducible rfl
 simp only [Act.put, uB, uC, uD]
 refine r1 1 fun K hK => ?_
 go_simp
 refine (clone_nil _).mono ?_
 rintro e Z1 ⟨rfl, rfl⟩
 refine hK.out _ _ hHeld (fun hHeld => ?_)
 clear hK K
 try simp only [Act.put, uB, uC, uD]
 refine r1 3 fun K hK => ?_
 go_simp
 refine (clone_nil _).mono ?_
 rintro e Z2 ⟨rfl, rfl⟩
 refine hK.out _ _ hHeld (fun hHeld => ?_)
 clear hK K
 try simp only [Act.put, uB, uC, uD]
 refine rdy [4] ?_
 refine step_store (o := ⟨_, _, _, _, _, _⟩) rfl rfl 32 (.tmp 4) (.tmp 8) rfl _ (store32 hHeld.2.2.1 none 0 0) AllReadyH.nil ⟨hHeld.set4 (by omega) (by omega) (by omega), fun hHeld' => ?_⟩
 clear hHeld
 have hHeld := hHeld'
 clear hHeld'
 simp only [Act.put]
 refine rdy [5] ?_
 refine step_store (o := ⟨_, _, _, _, _, _⟩) rfl rfl 32 (.tmp 5) (.tmp 10) rfl _ (store32 hHeld.2.2.2 none 0 0) AllReadyH.nil ⟨hHeld.set5 (by omega) (by omega) (by omega), fun hHeld' => ?_⟩
 clear hHeld
 have hHeld := hHeld'
 clear hHeld'
 simp only [Act.put]
 refine wpAnyH_done (by kernel_rfl) ?_ _
 refine NoPanic.normal ?_
 go_wp2_with fail
 go_ret
 exact ⟨g3, g4, g5, rfl, hHeld, G3, G4, G5⟩
end Go.Proofs.YteealihknndclaaGreatDoor
namespace Go.Proofs.YteealihknndclaaGreatDoor
open Go.RowKit Go.Shelf

theorem wpIn_rangeBox {α : Type} {n : Nat} {P : Program} {g : Operand} {ps : Array Tmp} {assign body : Code} {Q : Exit → Act → World → Prop} {a : Act} {w w0 : World} {gf : Nat} {lb : Array Value} {encs : α → Array Value} {q : Nat → Prop} {R : List α → α → World → Prop} {S Sp : List α → Prop}
  (hg : a.eval g = .func (.func gf) #[] lb) (eg : ∀ args w, (callFunc gf args).run P w = .ok (.enter gf args) w) (hseq : SeqMem (n - 1) P gf lb encs q R S Sp w0) (hb0 : Below w0.heap.size w0 w) (hps : ∀ x, (encs x).size = ps.size) (hq : ∀ k, q k → k < w.heap.size)
  (I : List α → World → Prop) (Ix : Code → List α → World → Prop) (gI : Grows I) (gIx : ∀ c, Grows (Ix c)) (bI : Bare w.heap.size I) (bIx : ∀ c, Bare w.heap.size (Ix c)) (bR : ∀ pre, Bare w.heap.size (R pre)) (gR : ∀ pre, Grows (R pre)) (h0 : I [] w) (Ax : α → Act → World → Prop) (bA : ∀ x, Bare w.heap.size (Ax x))
  (hassign : ∀ (l : Nat) (pre : List α) (x : α) (W : World) (K : Act → World → Prop), I pre W → R pre x W → (∀ a' W', Below W.heap.size W W' → Ax x a' W' → K a' W') → assign.wpIn (Fence.wide.inRound l) (n - 1 - 1) P (Exit.then K (fun _ _ _ => False)) { tmps := (ps.zip (encs x)).foldl (fun t (p, v) => t.setIfInBounds p v) a.tmps, defers := [] } W)
  (hbody : ∀ (l : Nat) (pre : List α) (x : α) (a' : Act) (W : World), I pre W → R pre x W → Ax x a' W → body.wpIn (Fence.wide.inRound l) (n - 1 - 1) P (memPost q I Ix (pre ++ [x]) W) a' W)
  (hdone : ∀ (D : Nat) (xs : List α) (W : World), w.heap.size ≤ D → S xs → I xs W → W.heap[D]? = some (.deferred (some [])) → Q .normal { a with defers := { target := .collected D, args := #[] } :: a.defers } W)
  (hstop : ∀ (D : Nat) (c : Code) (pre : List α) (W : World), w.heap.size ≤ D → Sp pre → Ix c pre W → W.heap[D]? = some (.deferred (some [])) → c.wpIn Fence.wide n P Q { a with defers := { target := .collected D, args := #[] } :: a.defers } W) :
  (Code.rangeFunc g ps assign body).wpIn Fence.wide n P Q a w := by
 refine wpIn_rangeFunc fun fn _ => ?_
 let rc : LoopState → Option Code → Obj := fun st pe => .loop { state := st, pending := pe, fn, tmps := a.tmps, params := ps, assign, body, defers := w.heap.size }
 obtain ⟨D, hD⟩ : ∃ D, D = w.heap.size := ⟨_, rfl⟩
 obtain ⟨l, hl⟩ : ∃ l, l = w.heap.size + 1 := ⟨_, rfl⟩
 obtain ⟨V, hV⟩ : ∃ V, V = (w.alloc (.deferred (some []))).alloc (rc .ready none) := ⟨_, rfl⟩
 have b1 : Below w.heap.size w (w.alloc (.deferred (some []))) := (Below.refl _ w).alloc (Nat.le_refl _) _
 have b2 : Below w.heap.size w V := by rw [hV]; exact b1.alloc b1.size _
 have rl : V.heap[l]? = some (rc .ready none) := by
  rw [hV, hl, ← World.size_alloc w (.deferred (some []))]
  exact World.alloc_heap_new _ _
 have rD : V.heap[D]? = some (.deferred (some [])) := by
  rw [hV, hD, Below.heap_alloc _ _ _ (by rw [World.size_alloc]; omega)]
  exact World.alloc_heap_new _ _
 have nq : ¬ q l := fun e => by have := hq l e; omega
 have nD : ¬ q D := fun e => by have := hq D e; omega
 have nlD : D ≠ l := by omega
 refine ⟨l, [{ target := .collected D, args := #[] }], V, { target := .fn (.func gf) lb, args := #[.func (.yield l) #[] #[]] }, V, gf, #[.func (.yield l) #[] #[]] ++ lb, V, ?_, ?_, fun _ _ => trivial, ?_, fun e => by simp [Fence.wide] at e, ?_⟩
 ·rw [hV, hl, hD]
  exact run_enterLoop_outer _ _ _ _ _
 ·simp only [resolve, hg]
  simp [go_sem]
 ·simp [invoke, go_sem, eg]
 ·let J : List α → World → Prop := fun pre W => I pre W ∧ W.heap[l]? = some (rc .ready none) ∧ W.heap[D]? = some (.deferred (some []))
  let Jx : List α → World → Prop := fun pre W => ∃ c, Ix c pre W ∧ W.heap[l]? = some (rc .done (some c)) ∧ W.heap[D]? = some (.deferred (some []))
  have kp : ∀ {A B : World} {k : Nat} {o : Obj}, A.heap[k]? = some o → Below A.heap.size A B → B.heap[k]? = some o := fun h b => (b.block _ (block_lt_of_row h)).trans h
  refine (hseq l J Jx V (hb0.trans (b2.mono hb0.size)) (fun s A B h b => ⟨gI s A B h.1 b, kp h.2.1 b, kp h.2.2 b⟩) (fun s A B h b => by obtain ⟨c, h1, h2, h3⟩ := h; exact ⟨c, gIx c s A B h1 b, kp h2 b, kp h3 b⟩) ?_ ⟨gI _ _ _ h0 b2, rl, rD⟩).mono ?_
  ·rintro pre x W0 ⟨hi0, hr0, hd0⟩ hR0
   have hy := run_yield (P := P) (args := encs x) hr0 (hps x)
   refine ⟨fn, _, assign, body, hy, roundIn_of_wpIn trivial (hassign l pre x W0 _ hi0 hR0 (fun a' W hbW hAx => ⟨_, run_beginRound (kp hr0 hbW) rfl, ?_⟩))⟩
   have hi := gI _ _ _ hi0 hbW
   have hr := kp hr0 hbW
   have hd := kp hd0 hbW
   have hR := gR pre _ _ _ hR0 hbW
   have lt := block_lt_of_row hr
   have cW : Chg q W0 W := (Chg.ofBelow' (p := fun _ => False) hbW).mono (fun _ _ e => e.elim)
   refine wpIn_mono (hbody l pre x a' _ (bI _ _ _ _ _ hi (by omega) hr rfl) (bR pre _ _ _ _ _ hR (by omega) hr rfl) (bA x _ _ _ _ _ hAx (by omega) hr rfl)) ?_
   have rb : (W.putObj l (rc .busy none)).heap[l]? = some (rc .busy none) := World.putObj_heap_same lt
   have rd : (W.putObj l (rc .busy none)).heap[D]? = some (.deferred (some [])) := (World.putObj_heap_other nlD).trans hd
   intro e a3 X hp
   cases e with
   | normal =>
    obtain ⟨c3, i3⟩ := hp
    have r3 := c3.row rb nq
    have d3 := c3.row rd nD
    exact ⟨_, _, run_endRound none r3, Or.inl ⟨rfl, ⟨bI _ _ _ _ _ i3 (by omega) r3 rfl, World.putObj_heap_same (block_lt_of_row r3), (World.putObj_heap_other nlD).trans d3⟩, cW.trans (Chg.round lt hr c3) (fun _ _ e => e)⟩⟩
   | ret =>
    obtain ⟨c3, i3⟩ := hp
    have r3 := c3.row rb nq
    exact ⟨_, _, run_endRound (some .ret) r3, Or.inr ⟨rfl, .ret, bIx _ _ _ _ _ _ i3 (by omega) r3 rfl, World.putObj_heap_same (block_lt_of_row r3), (World.putObj_heap_other nlD).trans (c3.row rd nD)⟩⟩
   | exit id =>
    obtain ⟨c3, i3⟩ := hp
    have r3 := c3.row rb nq
    exact ⟨_, _, run_endRound (some (.exit id)) r3, Or.inr ⟨rfl, .exit id, bIx _ _ _ _ _ _ i3 (by omega) r3 rfl, World.putObj_heap_same (block_lt_of_row r3), (World.putObj_heap_other nlD).trans (c3.row rd nD)⟩⟩
   | goto t =>
    obtain ⟨c3, i3⟩ := hp
    have r3 := c3.row rb nq
    exact ⟨_, _, run_endRound (some (.goto t)) r3, Or.inr ⟨rfl, .goto t, bIx _ _ _ _ _ _ i3 (by omega) r3 rfl, World.putObj_heap_same (block_lt_of_row r3), (World.putObj_heap_other nlD).trans (c3.row rd nD)⟩⟩
   | panic ch => exact hp.elim
   | outgrown => exact hp.elim
  ·rintro e X ⟨⟨v, rfl⟩, ⟨xs, hS, hi, hr, hd⟩ | ⟨pre, hSp, c, hi, hr, hd⟩⟩
   ·exact ⟨none, _, run_endLoop hr (by intro h; cases h), hdone D xs _ (by omega) hS (bI _ _ _ _ _ hi (by omega) hr rfl) ((World.putObj_heap_other nlD).trans hd)⟩
   ·exact ⟨some c, _, run_endLoop hr (by intro h; cases h), hstop D c pre _ (by omega) hSp (bIx _ _ _ _ _ _ hi (by omega) hr rfl) ((World.putObj_heap_other nlD).trans hd)⟩
end Go.Proofs.YteealihknndclaaGreatDoor
namespace Go.Proofs.YteealihknndclaaGreatDoor
open Go.RowKit
open Go.Shelf
attribute [local go_sem] Oper.semAt_some
theorem upon_in {l n : Nat} {o : Oper} {a : Act} {next next' : Act → World → Prop} {Q : Exit → Act → World → Prop} {r : Result Next} (hn : ∀ a w, next a w → next' a w) (h : o.upon Tryz.prog a next Q r) : o.uponIn (Fence.wide.inRound l) n Tryz.prog a next' Q r := by
 cases r with
 | ok x w' =>
  cases x with
  | value v => exact hn _ _ h
  | skip => exact hn _ _ h
  | defer d => exact hn _ _ h
  | enter f args =>
   refine ⟨fun e => by simp [Fence.wide, Fence.inRound] at e, (CallsIn.inRound l (callsIn_wide.2 h)).mono ?_⟩
   intro e w'' he
   cases e with
   | returned v => exact hn _ _ he
   | panicked c => exact he
   | outgrown => exact he
  | row row args =>
   refine ⟨fun e => by simp [Fence.wide, Fence.inRound] at e, fun c cs _ => ?_⟩
   obtain ⟨v, w'', hr, hs⟩ := h c cs
   exact ⟨v, w'', hn _ _ hr, stepsIn_wide.2 hs⟩
  | _ => exact h.elim
 | halt x w' =>
  cases x with
  | panic v => exact h
  | _ => exact h.elim
theorem inRound_any {l n : Nat} {md : Region.Mode} {ops : Array Oper} {Q : Exit → Act → World → Prop} (hQ : ¬ LetsOut Q) (hd : ∀ (i : Nat) (o : Oper), ops[i]? = some o → ∀ c, o.op ≠ .defer c) : ∀ (fuel : Nat) (listed : Array Bool) (a : Act) (w : World), wpAny Tryz.prog md ops Q fuel listed a w → wpAnyIn (Fence.wide.inRound l) n Tryz.prog md ops Q fuel listed a w := by
 intro fuel
 induction fuel with
 | zero => intro listed a w h; exact h
 | succ fuel ih =>
  intro listed a w h
  refine ⟨h.1, fun i hi => ?_⟩
  have h2 := h.2 i hi
  unfold wpOp at h2
  unfold wpOpIn
  split
  ·rename_i ho
   rw [ho] at h2
   exact ih _ _ _ h2
  ·rename_i o ho
   rw [ho] at h2
   simp only at h2
   split
   ·rename_i hw
    rw [if_pos hw] at h2
    rcases h2 with h2 | ⟨_, h2⟩
    ·refine ⟨fun _ _ => trivial, ?_⟩
     rw [show (Fence.wide.inRound l).round = some l from rfl, Oper.semAt_some l _ _ (hd i o ho)]
     exact upon_in (fun a w h => ih _ a w h) h2
    ·exact absurd h2 hQ
   ·rename_i hw
    rw [if_neg hw] at h2
    exact ⟨fun _ _ => trivial, ih _ _ _ h2⟩
theorem wpIn_quiet_round {l' n : Nat} {id : Nat} {Q : Exit → Act → World → Prop} {a : Act} {w : World} {l : List Oper} (hQ : ¬ LetsOut Q) (hd : ∀ (i : Nat) (o : Oper), l.toArray[i]? = some o → ∀ c, o.op ≠ .defer c) (hm : Tryz.prog.follows .mixedOrders = true) (hB : Region.lexB .any l.toArray = true)
  (h : wpQuiet Tryz.prog l.toArray (fun w' => ∃ n, w' = w.drewN n) (fun a' => ∀ w', (∃ n, w' = w.drewN n) → Q .normal a' w') l a) : (Code.region id l.toArray true).wpIn (Fence.wide.inRound l') n Tryz.prog Q a w := by
 simp only [Region.lexB, Bool.and_eq_true] at hB
 refine wpIn_region_any hm (inRound_any hQ hd _ _ _ _ (wpAny_of_quiet (C := fun w' => ∃ n, w' = w.drewN n) (Q := fun a' => ∀ w', (∃ n, w' = w.drewN n) → Q .normal a' w') (fun _ w' hw' h => h w' hw') _ _ _ _ ⟨1, rfl⟩ ?_))
 have := wpAnyQ_lex (C := fun w' => ∃ n, w' = w.drewN n) (md := .any) hB.1 l 0 (Array.replicate l.length false) a (by simp) (by simpa using hB.2) h
 simpa using this
def PrsAt (w : World) (v : Value) (es : List S.Ent) : Prop :=
 ∃ ao cap, v = .slice ao es.length cap ∧ ∀ (i : Nat) e, es[i]? = some e → ∃ b off ka kn kc va vn vc, ao = some ⟨b, off, none⟩ ∧ b < w.heap.size ∧ w.cell? ⟨b, off + i * 2, none⟩ = some (.slice ka kn kc) ∧ w.cell? ⟨b, off + i * 2 + 1, none⟩ = some (.slice va vn vc) ∧ SliceAt w (.slice ka kn kc) e.key ∧ SliceAt w (.slice va vn vc) e.val
theorem PrsAt.below {w W : World} {v : Value} {es : List S.Ent} (h : PrsAt w v es) (hb : Below w.heap.size w W) : PrsAt W v es := by
 obtain ⟨ao, cap, h1, h2⟩ := h
 refine ⟨ao, cap, h1, fun i e he => ?_⟩
 obtain ⟨b, off, ka, kn, kc, va, vn, vc, g1, g2, g3, g4, g5, g6⟩ := h2 i e he
 exact ⟨b, off, ka, kn, kc, va, vn, vc, g1, Nat.lt_of_lt_of_le g2 hb.size, (hb.cell (p := ⟨b, off + i * 2, none⟩) g2).trans g3, (hb.cell (p := ⟨b, off + i * 2 + 1, none⟩) g2).trans g4, g5.below hb (Nat.le_refl _), g6.below hb (Nat.le_refl _)⟩
end Go.Proofs.YteealihknndclaaGreatDoor
