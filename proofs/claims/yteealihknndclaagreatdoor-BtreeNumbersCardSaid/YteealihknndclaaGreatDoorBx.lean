/- An edit in memory; a leaf is taken off its page. -/
import Derived.Test.YteealihknndclaaGreatDoorBn
import Derived.Test.YteealihknndclaaGreatDoorUe
namespace Go.Proofs.YteealihknndclaaGreatDoor
open Go.RowKit

def edc (gs : Nat) (h : S.Hh) (vs : Value) : List Value := .pointer (some ⟨gs, 0, none⟩) :: (S.hhc h ++ [vs])
def EdAt (w : World) (g gs : Nat) (h : S.Hh) (vs : Value) : Prop := w.heap[g]? = some (.cells (edc gs h vs).toArray 156 (0, 0))
theorem EdAt.store {w : World} {g gs : Nat} {h : S.Hh} {vs : Value} (a : EdAt w g gs h vs) : w.cell? ⟨g, 0, none⟩ = some (.pointer (some ⟨gs, 0, none⟩)) := by rw [cell_of_row w g 0 _ _ _ a]; rfl
theorem EdAt.cnt {w : World} {g gs : Nat} {h : S.Hh} {vs : Value} (a : EdAt w g gs h vs) : w.cell? ⟨g, 1, none⟩ = some (.int .i64 (h.cnt : Int)) := by rw [cell_of_row w g 1 _ _ _ a]; rfl
theorem EdAt.root {w : World} {g gs : Nat} {h : S.Hh} {vs : Value} (a : EdAt w g gs h vs) : w.cell? ⟨g, 2, none⟩ = some (.int .i64 (h.root : Int)) := by rw [cell_of_row w g 2 _ _ _ a]; rfl
theorem EdAt.lv {w : World} {g gs : Nat} {h : S.Hh} {vs : Value} (a : EdAt w g gs h vs) : w.cell? ⟨g, 3, none⟩ = some (.int .i64 (h.lv : Int)) := by rw [cell_of_row w g 3 _ _ _ a]; rfl
theorem EdAt.sheets {w : World} {g gs : Nat} {h : S.Hh} {vs : Value} (a : EdAt w g gs h vs) (hl : h.used.length = 64) : w.cell? ⟨g, 68, none⟩ = some vs := by
 rw [cell_of_row w g 68 _ _ _ a]
 simp only [edc, List.getElem?_toArray, List.getElem?_cons_succ]
 rw [List.getElem?_append_right (by rw [S.hhc_length hl]; omega), S.hhc_length hl]
 rfl
theorem EdAt.byte {w : World} {g gs : Nat} {h : S.Hh} {vs : Value} (a : EdAt w g gs h vs) (j : Nat) (hj : j < h.used.length) : w.cell? ⟨g, 4 + j, none⟩ = some (.int .u8 ((h.used.getD j 0).toNat : Int)) := by
 rw [cell_of_row w g (4 + j) _ _ _ a, show 4 + j = (((j + 1) + 1) + 1) + 1 by omega]
 simp only [edc, S.hhc, List.getElem?_toArray, List.getElem?_cons_succ, List.cons_append]
 rw [List.getElem?_append_left (by rw [S.v8l_length]; exact hj)]
 simp [S.v8l, hj]
theorem EdAt.head {w : World} {g gs : Nat} {h : S.Hh} {vs : Value} (a : EdAt w g gs h vs) : w.rangeAt g 1 (S.hhc h) := fun j v hv => by
 rw [cell_of_row w g (1 + j) _ _ _ a, Nat.add_comm 1 j]
 simp only [edc, List.getElem?_toArray, List.getElem?_cons_succ]
 rw [List.getElem?_append_left (List.getElem?_eq_some_iff.1 hv).1]
 exact hv
theorem EdAt.setByte {w : World} {g gs : Nat} {h : S.Hh} {vs : Value} (a : EdAt w g gs h vs) (j : Nat) (hj : j < h.used.length) (x : UInt8) : EdAt (w.setCell ⟨g, 4 + j, none⟩ (.int .u8 (x.toNat : Int))) g gs { h with used := h.used.set j x } vs := by
 unfold EdAt
 rw [heap_setCell_same w g (4 + j) _ _ _ a]
 congr 2
 apply Array.ext'
 have e : 4 + j = (((j + 1) + 1) + 1) + 1 := by omega
 simp only [e, edc, S.hhc, List.setIfInBounds_toArray, List.set_cons_succ, List.cons_append, S.v8l]
 rw [List.set_append_left _ _ (by simpa using hj), ← List.map_set]
theorem EdAt.setCnt {w : World} {g gs : Nat} {h : S.Hh} {vs : Value} (a : EdAt w g gs h vs) (n : Nat) : EdAt (w.setCell ⟨g, 1, none⟩ (.int .i64 (n : Int))) g gs { h with cnt := n } vs := by
 unfold EdAt
 rw [heap_setCell_same w g 1 _ _ _ a]
 rfl
theorem EdAt.setRoot {w : World} {g gs : Nat} {h : S.Hh} {vs : Value} (a : EdAt w g gs h vs) (n : Nat) : EdAt (w.setCell ⟨g, 2, none⟩ (.int .i64 (n : Int))) g gs { h with root := n } vs := by
 unfold EdAt
 rw [heap_setCell_same w g 2 _ _ _ a]
 rfl
theorem EdAt.setLv {w : World} {g gs : Nat} {h : S.Hh} {vs : Value} (a : EdAt w g gs h vs) (n : Nat) : EdAt (w.setCell ⟨g, 3, none⟩ (.int .i64 (n : Int))) g gs { h with lv := n } vs := by
 unfold EdAt
 rw [heap_setCell_same w g 3 _ _ _ a]
 rfl
theorem EdAt.setSheets {w : World} {g gs : Nat} {h : S.Hh} {vs : Value} (a : EdAt w g gs h vs) (hl : h.used.length = 64) (v : Value) : EdAt (w.setCell ⟨g, 68, none⟩ v) g gs h v := by
 unfold EdAt
 rw [heap_setCell_same w g 68 _ _ _ a]
 congr 2
 apply Array.ext'
 simp only [edc, List.setIfInBounds_toArray, List.set_cons_succ]
 rw [List.set_append_right _ _ (by rw [S.hhc_length hl]; omega), S.hhc_length hl]
 rfl
theorem EdAt.dropped {w : World} {g gs : Nat} {h : S.Hh} {vs : Value} (a : EdAt w g gs h vs) (hu : h.used.length = 64) (n : Nat) (hn : n < 512) :
  Calls Tryz.prog 189 #[.pointer (some ⟨g, 4, none⟩), .int .i64 (n : Int)] w fun e w' => e = .returned (.tuple #[]) ∧ EdAt w' g gs { h with used := S.nandBit h.used n } vs ∧ Chg (fun k => k = g) w w' := by
 have hj : n / 8 < h.used.length := by omega
 refine (drop_any g 4 n (h.used.getD (n / 8) 0) w (a.byte _ hj) (frozen_of_row _ _ _ _ _ a) hn).mono ?_
 rintro e w' ⟨rfl, q, rfl⟩
 exact ⟨rfl, a.setByte (n / 8) hj _, ((Chg.refl (fun k => k = g) w).setCell g _ _ (fun _ => rfl)).drewN q⟩
theorem EdAt.added {w : World} {g gs : Nat} {h : S.Hh} {vs : Value} (a : EdAt w g gs h vs) (hu : h.used.length = 64) (n : Nat) (hn : n < 512) :
  Calls Tryz.prog 48 #[.pointer (some ⟨g, 4, none⟩), .int .i64 (n : Int)] w fun e w' => e = .returned (.tuple #[]) ∧ EdAt w' g gs { h with used := S.orBit h.used n } vs ∧ Chg (fun k => k = g) w w' := by
 have hj : n / 8 < h.used.length := by omega
 refine (add_any g 4 n (h.used.getD (n / 8) 0) w (a.byte _ hj) (frozen_of_row _ _ _ _ _ a) hn).mono ?_
 rintro e w' ⟨rfl, q, rfl⟩
 exact ⟨rfl, a.setByte (n / 8) hj _, ((Chg.refl (fun k => k = g) w).setCell g _ _ (fun _ => rfl)).drewN q⟩
theorem EnRow.mono {B B' : Nat} {w : World} {v : Value} {d : List EnV} (h : EnRow B w v d) (hB : B' ≤ B) : EnRow B' w v d := by
 refine ⟨h.1, ?_⟩
 rcases h.2 with h0 | ⟨g, cap, cur, h1, h2, h3⟩
 ·exact Or.inl h0
 ·exact Or.inr ⟨g, cap, cur, h1, Nat.le_trans hB h2, h3⟩
theorem NodeNew.mono {B B' : Nat} {w : World} {g lv : Nat} {es : List S.Ent} (h : NodeNew B w g lv es) (hB : B' ≤ B) : NodeNew B' w g lv es := by
 obtain ⟨⟨v, d, h1, h2, h3, h4⟩, h5⟩ := h
 exact ⟨⟨v, d, h1, h2.mono hB, h3, fun i x e hx he => ⟨(h4 i x e hx he).1.mono hB, (h4 i x e hx he).2⟩⟩, Nat.le_trans hB h5⟩
theorem stays_any (x : EnV) (w : World) : Calls Tryz.prog 120 #[.agg #[.slice x.ka x.kn x.kc, .slice x.va x.vn x.vc, .int .i64 x.pg, .pointer x.nd]] w fun e w' => e = .returned (.bool (decide (x.pg ≠ 0))) ∧ Below w.heap.size w w' := by
 obtain ⟨ka, kn, kc, va, vn, vc, pg, nd⟩ := x
 simp only
 go_enter Tryz.func120, Tryz.ntmps120
 go_wp2_with fail
 go_ret
 refine ⟨?_, (Below.refl _ _).alloc (Nat.le_refl _) _⟩
 by_cases h : pg = 0 <;> simp [h]
set_option maxHeartbeats 4000000 in
set_option maxRecDepth 10000 in
theorem leave_any (g gs n : Nat) (h : S.Hh) (vs : Value) (x : EnV) (w : World) (he : EdAt w g gs h vs) (hu : h.used.length = 64) (hx : x.pg = (n : Int)) (hn : 0 < n ∧ n < 512) :
  Calls Tryz.prog 161 #[.pointer (some ⟨g, 0, none⟩), .agg #[.slice x.ka x.kn x.kc, .slice x.va x.vn x.vc, .int .i64 x.pg, .pointer x.nd]] w fun e w' => e = .returned (.tuple #[]) ∧ EdAt w' g gs { h with used := S.nandBit h.used n } vs ∧ Chg (fun k => k = g) w w' := by
 obtain ⟨ka, kn, kc, va, vn, vc, pg, nd⟩ := x
 simp only at hx ⊢
 subst hx
 have HE := hide he
 have HU := hide hu
 have HN := hide hn
 clear he hu hn
 have SA := hide (fun W => stays_any ⟨ka, kn, kc, va, vn, vc, (n : Int), nd⟩ W)
 go_enter Tryz.func161, Tryz.ntmps161
 go_wp2_with fail
 obtain ⟨W, hW⟩ : ∃ W, W = w.alloc (.cells #[.slice ka kn kc, .slice va vn vc, .int .i64 (n : Int), .pointer nd] 126) := ⟨_, rfl⟩
 rw [← hW]
 have bW : Below w.heap.size w W := by rw [hW]; exact (Below.refl _ _).alloc (Nat.le_refl _) _
 have rW : W.heap[w.heap.size]? = some (.cells #[.slice ka kn kc, .slice va vn vc, .int .i64 (n : Int), .pointer nd] 126 (0, 0)) := by rw [hW]; exact heap_alloc_new _ _
 have EW : Hid (EdAt W g gs h vs) := (bW.block g (block_lt_of_row HE.out)).trans HE.out
 have RW := hide rW
 have BW := hide bW
 clear hW bW rW HE
 refine (SA.out W).mono ?_
 rintro e X ⟨rfl, b1⟩
 have q : decide ((n : Int) ≠ 0) = true := decide_eq_true (by have := HN.out; omega)
 simp only [q]
 have EX : Hid (EdAt X g gs h vs) := (b1.block g (block_lt_of_row EW.out)).trans EW.out
 have RX : Hid (X.heap[w.heap.size]? = some (.cells #[.slice ka kn kc, .slice va vn vc, .int .i64 (n : Int), .pointer nd] 126 (0, 0))) := (b1.block w.heap.size (block_lt_of_row RW.out)).trans RW.out
 have BX := hide (BW.out.trans (b1.mono BW.out.size))
 clear b1 EW RW BW q
 go_wp2_with fail
 refine wp_region_noPanic ?_
 refine wp_region_held_drew (S := (fun W => W.cell? ⟨w.heap.size, 2, none⟩ = some (.int .i64 (n : Int)))) follows ((cell_of_row X w.heap.size 2 _ _ _ RX.out).trans rfl) (fun hHeld => ?_)
 have EZ : Hid (EdAt X.drew g gs h vs) := EX.out
 have CZ : Hid (Chg (fun k => k = g) w X.drew) := (Chg.ofBelow' BX.out).drew
 have GX : Hid (w.heap.size < X.drew.heap.size) := block_lt_of_row (w := X) RX.out
 have NE : Hid (w.heap.size ≠ g) := ne_of_type RX.out EX.out (by decide)
 clear EX BX RX
 generalize X.drew = Z at EZ CZ GX hHeld ⊢
 refine tq 0 ?_
 simp only [Act.put, uB, uC, uD]
 refine tq 1 ?_
 simp only [Act.put, uB, uC, uD]
 refine tq 2 ?_
 simp only [Act.put, uB, uC, uD]
 refine tq 3 ?_
 simp only [Act.put, uB, uC, uD]
 refine tq 4 ?_
 simp only [Act.put, uB, uC, uD]
 refine tk 5 ?_ rfl (Or.inl ⟨by rfl, ?_⟩) ?_
 rotate_left
 ·intro w hSw
  have c4 := hSw
  clear hSw
  go_simp
  all_goals with_reducible rfl
 simp only [Act.put, uB, uC, uD]
 refine r1 6 fun K hK => ?_
 go_simp
 refine (EZ.out.dropped HU.out n HN.out.2).mono ?_
 rintro e Z2 ⟨rfl, e2, c2⟩
 have E2 := hide e2
 have C2 : Hid (Chg (fun k => k = g) w Z2) := CZ.out.trans c2 (fun _ _ e => e)
 have a2 : Z2.cell? ⟨w.heap.size, 2, none⟩ = some (.int .i64 (n : Int)) := (World.cell?_of_block (c2.block w.heap.size GX.out NE.out)).trans hHeld
 clear hHeld e2 c2 EZ CZ
 refine hK.out _ _ a2 (fun hHeld => ?_)
 clear hK K
 try simp only [Act.put, uB, uC, uD]
 refine wpAnyH_done (by kernel_rfl) ?_ _
 refine NoPanic.normal ?_
 clear hHeld
 go_wp2_with fail
 go_end0
 exact ⟨rfl, E2.out, C2.out⟩

set_option maxHeartbeats 4000000 in
set_option maxRecDepth 10000 in
theorem look_any (B g gs n lv : Nat) (h : S.Hh) (vs : Value) (x : EnV) (pg : Nat → List UInt8) (es : List S.Ent) (w : World) (hr : Rds B w gs pg) (he : EdAt w g gs h vs) (hx : x.pg = (n : Int)) (hn : 0 < n ∧ n < 512) (hp : pg n = S.sheetB (S.nodeB lv es)) (ho : S.NodeOk lv es) :
  Calls Tryz.prog 160 #[.pointer (some ⟨g, 0, none⟩), .agg #[.slice x.ka x.kn x.kc, .slice x.va x.vn x.vc, .int .i64 x.pg, .pointer x.nd], .int .i64 (lv : Int)] w fun e w' => ∃ gn, e = .returned (.tuple #[.pointer (some ⟨gn, 0, none⟩), .int .i64 0]) ∧ NodeNew w.heap.size w' gn lv es ∧ Below w.heap.size w w' := by
 obtain ⟨ka, kn, kc, va, vn, vc, pgx, nd⟩ := x
 simp only at hx ⊢
 subst hx
 have HE := hide he
 have HR := hide hr
 have HN := hide hn
 have HP := hide hp
 have HO := hide ho
 clear he hr hn hp ho
 have SA := hide (fun W => stays_any ⟨ka, kn, kc, va, vn, vc, (n : Int), nd⟩ W)
 go_enter Tryz.func160, Tryz.ntmps160
 go_wp2_with fail
 obtain ⟨W, hW⟩ : ∃ W, W = w.alloc (.cells #[.slice ka kn kc, .slice va vn vc, .int .i64 (n : Int), .pointer nd] 126) := ⟨_, rfl⟩
 rw [← hW]
 have bW : Below w.heap.size w W := by rw [hW]; exact (Below.refl _ _).alloc (Nat.le_refl _) _
 have rW : W.heap[w.heap.size]? = some (.cells #[.slice ka kn kc, .slice va vn vc, .int .i64 (n : Int), .pointer nd] 126 (0, 0)) := by rw [hW]; exact heap_alloc_new _ _
 have EW : Hid (EdAt W g gs h vs) := (bW.block g (block_lt_of_row HE.out)).trans HE.out
 have RDW := hide (HR.out.below bW)
 have RW := hide rW
 have BW := hide bW
 clear hW bW rW HE HR
 refine (SA.out W).mono ?_
 rintro e X ⟨rfl, b1⟩
 have q : decide ((n : Int) ≠ 0) = true := decide_eq_true (by have := HN.out; omega)
 simp only [q]
 have EX : Hid (EdAt X g gs h vs) := (b1.block g (block_lt_of_row EW.out)).trans EW.out
 have RDX := hide (RDW.out.below b1)
 have RX : Hid (X.heap[w.heap.size]? = some (.cells #[.slice ka kn kc, .slice va vn vc, .int .i64 (n : Int), .pointer nd] 126 (0, 0))) := (b1.block w.heap.size (block_lt_of_row RW.out)).trans RW.out
 have BX := hide (BW.out.trans (b1.mono BW.out.size))
 clear b1 EW RW BW q RDW
 go_wp2_with fail
 refine wp_region_noPanic ?_
 refine wp_region_held_drew (S := (fun W => W.cell? ⟨g, 0, none⟩ = some (.pointer (some ⟨gs, 0, none⟩)) ∧ W.cell? ⟨w.heap.size, 2, none⟩ = some (.int .i64 (n : Int)))) follows ⟨EX.out.store, (cell_of_row X w.heap.size 2 _ _ _ RX.out).trans rfl⟩ (fun hHeld => ?_)
 have RDZ : Hid (Rds B X.drew gs pg) := RDX.out.below (Below.refl _ _).drew
 have BZ : Hid (Below w.heap.size w X.drew) := BX.out.drew
 have GL : Hid (g < X.drew.heap.size ∧ w.heap.size < X.drew.heap.size) := ⟨block_lt_of_row (w := X) EX.out, block_lt_of_row (w := X) RX.out⟩
 clear EX BX RX RDX
 generalize X.drew = Z at RDZ BZ GL hHeld ⊢
 refine tq 0 ?_
 simp only [Act.put, uB, uC, uD]
 refine tq 1 ?_
 simp only [Act.put, uB, uC, uD]
 refine tq 2 ?_
 simp only [Act.put, uB, uC, uD]
 refine tk 3 ?_ rfl (Or.inl ⟨by rfl, ?_⟩) ?_
 rotate_left
 ·intro w hSw
  have c4 := hSw.1
  clear hSw
  go_simp
  all_goals with_reducible rfl
 simp only [Act.put, uB, uC, uD]
 refine tq 4 ?_
 simp only [Act.put, uB, uC, uD]
 refine tk 5 ?_ rfl (Or.inl ⟨by rfl, ?_⟩) ?_
 rotate_left
 ·intro w hSw
  have c4 := hSw.2
  clear hSw
  go_simp
  all_goals with_reducible rfl
 simp only [Act.put, uB, uC, uD]
 refine tq 6 ?_
 simp only [Act.put, uB, uC, uD]
 refine r1 7 fun K hK => ?_
 go_simp
 refine (readNode_any B gs n lv pg es Z RDZ.out HN.out.2 HP.out HO.out).mono ?_
 rintro e Z2 ⟨gn, rfl, n2, b2⟩
 have a2 : Z2.cell? ⟨g, 0, none⟩ = some (.pointer (some ⟨gs, 0, none⟩)) ∧ Z2.cell? ⟨w.heap.size, 2, none⟩ = some (.int .i64 (n : Int)) := ⟨(b2.cell (p := ⟨g, 0, none⟩) GL.out.1).trans hHeld.1, (b2.cell (p := ⟨w.heap.size, 2, none⟩) GL.out.2).trans hHeld.2⟩
 have N2 := hide (n2.mono BZ.out.size)
 have B2 := hide (BZ.out.trans (b2.mono BZ.out.size))
 clear hHeld n2 b2 RDZ BZ GL
 refine hK.out _ _ a2 (fun hHeld => ?_)
 clear hK K
 try simp only [Act.put, uB, uC, uD]
 clear a2
 refine tq 8 ?_
 simp only [Act.put, uB, uC, uD]
 refine tq 9 ?_
 simp only [Act.put, uB, uC, uD]
 refine tq 10 ?_
 simp only [Act.put, uB, uC, uD]
 refine tq 11 ?_
 simp only [Act.put, uB, uC, uD]
 refine wpAnyH_done (by kernel_rfl) ?_ _
 refine NoPanic.normal ?_
 clear hHeld
 go_wp2_with fail
 go_ret2
 exact ⟨gn, rfl, N2.out, B2.out⟩
theorem etake_any (B g gs n lv : Nat) (h : S.Hh) (vs : Value) (x : EnV) (pg : Nat → List UInt8) (es : List S.Ent) (w : World) (hr : Rds B w gs pg) (he : EdAt w g gs h vs) (hu : h.used.length = 64) (hx : x.pg = (n : Int)) (hn : 0 < n ∧ n < 512) (hp : pg n = S.sheetB (S.nodeB lv es)) (ho : S.NodeOk lv es) :
  Calls Tryz.prog 116 #[.pointer (some ⟨g, 0, none⟩), .agg #[.slice x.ka x.kn x.kc, .slice x.va x.vn x.vc, .int .i64 x.pg, .pointer x.nd], .int .i64 (lv : Int)] w fun e w' => ∃ gn, e = .returned (.tuple #[.pointer (some ⟨gn, 0, none⟩), .int .i64 0]) ∧ NodeNew w.heap.size w' gn lv es ∧ EdAt w' g gs { h with used := S.nandBit h.used n } vs ∧ Chg (fun k => k = g) w w' := by
 have LK := hide (fun W (hb : Below w.heap.size w W) => look_any B g gs n lv h vs x pg es W (hr.below hb) ((hb.block g (block_lt_of_row he)).trans he) hx hn hp ho)
 have LV := hide (fun W (hw : EdAt W g gs h vs) => leave_any g gs n h vs x W hw hu hx hn)
 obtain ⟨ka, kn, kc, va, vn, vc, pgx, nd⟩ := x
 simp only at hx LK LV ⊢
 have HE := hide he
 clear he hr hn hp ho hu hx
 go_enter Tryz.func116, Tryz.ntmps116
 go_wp2_with fail
 obtain ⟨W, hW⟩ : ∃ W, W = w.alloc (.cells #[.slice ka kn kc, .slice va vn vc, .int .i64 pgx, .pointer nd] 126) := ⟨_, rfl⟩
 rw [← hW]
 have bW : Below w.heap.size w W := by rw [hW]; exact (Below.refl _ _).alloc (Nat.le_refl _) _
 have rW : W.heap[w.heap.size]? = some (.cells #[.slice ka kn kc, .slice va vn vc, .int .i64 pgx, .pointer nd] 126 (0, 0)) := by rw [hW]; exact heap_alloc_new _ _
 have LK2 := hide (LK.out W bW)
 have EW : Hid (EdAt W g gs h vs) := (bW.block g (block_lt_of_row HE.out)).trans HE.out
 have RW := hide rW
 have BW := hide bW
 clear hW bW rW LK
 refine LK2.out.mono ?_
 rintro e X ⟨gn, rfl, n1, b1⟩
 have N1 := hide n1
 have EX : Hid (EdAt X g gs h vs) := (b1.block g (block_lt_of_row EW.out)).trans EW.out
 have RX : Hid (X.heap[w.heap.size]? = some (.cells #[.slice ka kn kc, .slice va vn vc, .int .i64 pgx, .pointer nd] 126 (0, 0))) := (b1.block w.heap.size (block_lt_of_row RW.out)).trans RW.out
 have BX := hide (BW.out.trans (b1.mono BW.out.size))
 have WS : Hid (w.heap.size ≤ W.heap.size) := BW.out.size
 have GNW : Hid (W.heap.size ≤ gn) := n1.at_
 have c0 : X.cell? ⟨w.heap.size, 0, none⟩ = some (.slice ka kn kc) := (cell_of_row X w.heap.size 0 _ _ _ RX.out).trans rfl
 have c1 : X.cell? ⟨w.heap.size, 1, none⟩ = some (.slice va vn vc) := (cell_of_row X w.heap.size 1 _ _ _ RX.out).trans rfl
 have c2 : X.cell? ⟨w.heap.size, 2, none⟩ = some (.int .i64 pgx) := (cell_of_row X w.heap.size 2 _ _ _ RX.out).trans rfl
 have c3 : X.cell? ⟨w.heap.size, 3, none⟩ = some (.pointer nd) := (cell_of_row X w.heap.size 3 _ _ _ RX.out).trans rfl
 clear b1 EW RW BW n1 LK2
 go_wp2_with fail
 refine (LV.out X EX.out).mono ?_
 rintro e Y ⟨rfl, e2, k2⟩
 have E2 := hide e2
 have C2 : Hid (Chg (fun k => k = g) w Y) := (Chg.ofBelow' BX.out).trans k2 (fun _ _ e => e)
 have N2 : Hid (NodeNew w.heap.size Y gn lv es) := by
  obtain ⟨⟨v, d, h1, h2, h3, h4⟩, h5⟩ := N1.out
  have hg : gn ≠ g := by have := block_lt_of_row HE.out; have := GNW.out; have := WS.out; omega
  exact ⟨⟨v, d, k2.row h1 hg, (h2.mono WS.out).chg k2 (fun k hk e => h2.apart EX.out (by decide) (by rw [← e]; exact hk)), h3, fun i x e hx he => ⟨((h4 i x e hx he).1.mono WS.out).chg k2 (fun k c hk e => ne_of_type hk EX.out (by decide) e), (h4 i x e hx he).2⟩⟩, Nat.le_trans WS.out h5⟩
 clear e2 k2 c0 c1 c2 c3 EX RX BX N1 LV
 go_wp2_with fail
 go_ret2
 exact ⟨gn, rfl, N2.out, E2.out, C2.out⟩
def vsz (d : List EnV) : Nat := (d.map fun x => 4 + x.kn + x.vn).sum
theorem vsz_take (d : List EnV) (k : Nat) (x : EnV) (h : d[k]? = some x) : vsz (d.take (k + 1)) = vsz (d.take k) + (4 + x.kn + x.vn) := by
 unfold vsz
 rw [List.take_add_one, h]
 simp [List.sum_append]
theorem vsz_le (d : List EnV) (k : Nat) : vsz (d.take k) ≤ vsz d := by
 conv => rhs; rw [← List.take_append_drop k d]
 unfold vsz
 rw [List.map_append, List.sum_append]
 omega
theorem vsz_len (d : List EnV) : 4 * d.length ≤ vsz d := by
 induction d with
 | nil => simp
 | cons x r ih =>
  have e : vsz (x :: r) = (4 + x.kn + x.vn) + vsz r := by simp [vsz]
  rw [e, List.length_cons]
  omega
structure Sp1 (w wr : World) (g1 g2 : Nat) (kv vo : Value) (k : Nat) (d : List EnV) : Prop where
 node : wr.heap[g1]? = some (.cells #[.int .i64 0, vo] 124 (0, 0))
 out : wr.heap[g2]? = some (.cells #[kv, .slice none 0 0, .int .i64 0, .pointer (some ⟨g1, 0, none⟩)] 126 (0, 0))
 row : EnRow (g2 + 1) wr vo (d.take k)
 base : Below w.heap.size w wr
set_option maxHeartbeats 4000000 in
set_option maxRecDepth 10000 in
theorem split_0 (gn : Nat) (kv v : Value) (d : List EnV) (w : World) (hk : ∃ ao n c, kv = .slice ao n c) (hg : w.heap[gn]? = some (.cells #[.int .i64 0, v] 124 (0, 0))) (hd : Els encEn w v d) (hs : vsz d ≤ 1019) :
  Calls Tryz.prog 119 #[kv, .pointer (some ⟨gn, 0, none⟩)] w fun e w' => ∃ g1 g2 vo, e = .returned (.slice (some ⟨g2, 0, none⟩) 1 1) ∧ Sp1 w w' g1 g2 kv vo d.length d ∧ w.heap.size ≤ g1 ∧ w.heap.size ≤ g2 := by
 obtain ⟨ko, kn, kc, rfl⟩ := hk
 have HG := hide hg
 have HD := hide hd
 have HS := hide hs
 obtain ⟨ao, cap, rfl, hbig⟩ := hd.form
 obtain ⟨n, hn⟩ : ∃ n, n = d.length := ⟨_, rfl⟩
 rw [← hn] at hbig
 have HN := hide hn
 obtain ⟨c0, c1⟩ := cells2 hg
 rw [← hn] at c1
 clear hg hd hs hn
 go_enter Tryz.func119, Tryz.ntmps119
 go_upto_region 2 with fail
 obtain ⟨g1, hg1⟩ : ∃ g1, g1 = w.heap.size := ⟨_, rfl⟩
 rw [← hg1]
 obtain ⟨g2, hg2⟩ : ∃ g2, g2 = g1 + 1 := ⟨_, rfl⟩
 rw [← hg2]
 obtain ⟨W, hW⟩ : ∃ W, W = (w.alloc (.cells #[.int .i64 0, .slice none 0 0] 124)).alloc (.cells #[.slice ko kn kc, .slice none 0 0, .int .i64 0, .pointer (some ⟨g1, 0, none⟩)] 126) := ⟨_, rfl⟩
 rw [← hW]
 have hsz : (w.alloc (.cells #[.int .i64 0, .slice none 0 0] 124)).heap.size = g2 := by rw [hg2, hg1]; simp
 have b1 : Below w.heap.size w (w.alloc (.cells #[.int .i64 0, .slice none 0 0] 124)) := (Below.refl _ _).alloc (Nat.le_refl _) _
 have bW : Below w.heap.size w W := by rw [hW]; exact b1.alloc b1.size _
 have r1 : W.heap[g1]? = some (.cells #[.int .i64 0, .slice none 0 0] 124 (0, 0)) := by rw [hW, heap_alloc_old _ _ (by omega), hg1]; exact heap_alloc_new _ _
 have r2 : W.heap[g2]? = some (.cells #[.slice ko kn kc, .slice none 0 0, .int .i64 0, .pointer (some ⟨g1, 0, none⟩)] 126 (0, 0)) := by rw [hW, ← hsz]; exact heap_alloc_new _ _
 have M0 : Hid (Sp1 w W g1 g2 (.slice ko kn kc) (.slice none 0 0) 0 d) := ⟨r1, r2, EnRow.nil _ _, bW⟩
 have GS : Hid (w.heap.size ≤ g1 ∧ g2 = g1 + 1) := ⟨by omega, hg2⟩
 have d0 := (bW.cell (p := ⟨gn, 0, none⟩) (block_lt_of_row HG.out)).trans c0
 have d1 := (bW.cell (p := ⟨gn, 1, none⟩) (block_lt_of_row HG.out)).trans c1
 clear hsz b1 bW r1 r2 hW hg1 hg2 c0 c1
 go_wp2_with fail
 go_loopw [5, 6, 24] (fun a b i wr => ∃ k : Nat, k ≤ n ∧ i = .int .i64 (k : Int) ∧ a = .slice (some ⟨g2, 0, none⟩) 1 1 ∧ b = .int .i64 (vsz (d.take k) : Int) ∧ ∃ vo, Hid (Sp1 w wr g1 g2 (.slice ko kn kc) vo k d)) (fun _ _ i _ => n - (intOf i).toNat)
 case atStart => exact ⟨0, by omega, rfl, rfl, rfl, _, M0⟩
 case round =>
 clear M0 d0 d1
 obtain ⟨k, hk, rfl, rfl, rfl, vo, M⟩ := hrel
 by_cases hlt : k < n
 ·have hkd : k < d.length := by have := HN.out; omega
  obtain ⟨b, off, cap', hv, hcap, hb, hcl⟩ := HD.out.at encEn_len k d[k] (List.getElem?_eq_getElem hkd)
  injection hv with hv1 hv2 hv3
  subst hv1 hv3
  obtain ⟨t0, t1, t2, t3⟩ := bcell hcl
  have BW := M.out.base
  have u0 := (BW.cell (p := ⟨b, off + k * 4, none⟩) hb).trans t0
  have u1 := (BW.cell (p := ⟨b, off + k * 4 + 1, none⟩) hb).trans t1
  have u2 := (BW.cell (p := ⟨b, off + k * 4 + 2, none⟩) hb).trans t2
  have u3 := (BW.cell (p := ⟨b, off + k * 4 + 3, none⟩) hb).trans t3
  have hkI : (k : Int) < (n : Int) := by omega
  have hk0 : (0 : Int) ≤ (k : Int) := by omega
  obtain ⟨x, hx⟩ : ∃ x, x = d[k] := ⟨_, rfl⟩
  have AT : Hid (d[k]? = some x) := by rw [hx]; exact List.getElem?_eq_getElem hkd
  rw [← hx] at u0 u1 u2 u3
  obtain ⟨ka, kn', kc', va, vn, vc, pg, nd⟩ := x
  simp only at u0 u1 u2 u3
  have VT := vsz_take d k _ AT.out
  have VL := vsz_le d (k + 1)
  have HSS := HS.out
  simp only at VT
  obtain ⟨sz, hszk⟩ : ∃ sz, sz = vsz (d.take k) := ⟨_, rfl⟩
  obtain ⟨sz2, hsz2⟩ : ∃ sz2, sz2 = vsz (d.take (k + 1)) := ⟨_, rfl⟩
  rw [← hszk] at VT ⊢
  rw [← hsz2] at VT VL
  have SZ2 := hide hsz2
  have hs2 : sz2 ≤ 1019 := by omega
  have hs3 : (sz : Int) + ((4 + kn' + vn : Nat) : Int) = (sz2 : Int) := by omega
  have hs4 : ¬ (1019 : Int) < (sz2 : Int) := by omega
  have hs5 : decide ((1019 : Int) < (sz2 : Int)) = false := decide_eq_false hs4
  have hkv : kn' ≤ 1000000 ∧ vn ≤ 1000000 := by omega
  have KV := hide hkv
  clear t0 t1 t2 t3 hcl hx hv2 hcap BW VL HSS hszk hsz2 VT hkv
  go_upto_region 6 with fail
  obtain ⟨W2, hW2⟩ : ∃ W2, W2 = wr.alloc (.cells #[.slice ka kn' kc', .slice va vn vc, .int .i64 pg, .pointer nd] 126) := ⟨_, rfl⟩
  rw [← hW2]
  have b2 : Below wr.heap.size wr W2 := by rw [hW2]; exact (Below.refl _ _).alloc (Nat.le_refl _) _
  have r2 : W2.heap[wr.heap.size]? = some (.cells #[.slice ka kn' kc', .slice va vn vc, .int .i64 pg, .pointer nd] 126 (0, 0)) := by rw [hW2]; exact heap_alloc_new _ _
  obtain ⟨gb, hgb⟩ : ∃ gb, gb = wr.heap.size := ⟨_, rfl⟩
  rw [← hgb] at r2 ⊢
  have M2 : Hid (Sp1 w W2 g1 g2 (.slice ko kn kc) vo k d) := ⟨(b2.block g1 (block_lt_of_row M.out.node)).trans M.out.node, (b2.block g2 (block_lt_of_row M.out.out)).trans M.out.out, M.out.row.below b2, M.out.base.trans (b2.mono M.out.base.size)⟩
  have NB : Hid (∀ j, vo.ownBlock = some j → j ≠ gb) := fun j hj e => by have := (M.out.row.blk hj).2.1; omega
  have RW := hide r2
  obtain ⟨x0, x1, x2, x3⟩ := cells4 r2
  clear hW2 b2 r2 hgb u0 u1 u2 u3 M
  go_wp2_with fail
  refine (esize_any ka va nd kn' kc' vn vc pg W2 KV.out.1 KV.out.2).mono ?_
  rintro e W3 ⟨rfl, b3⟩
  have M3 : Hid (Sp1 w W3 g1 g2 (.slice ko kn kc) vo k d) := ⟨(b3.block g1 (block_lt_of_row M2.out.node)).trans M2.out.node, (b3.block g2 (block_lt_of_row M2.out.out)).trans M2.out.out, M2.out.row.below b3, M2.out.base.trans (b3.mono M2.out.base.size)⟩
  have RW3 : Hid (W3.heap[gb]? = some (.cells #[.slice ka kn' kc', .slice va vn vc, .int .i64 pg, .pointer nd] 126 (0, 0))) := (b3.block gb (block_lt_of_row RW.out)).trans RW.out
  obtain ⟨y0, y1, y2, y3⟩ := cells4 M3.out.out
  clear b3 x0 x1 x2 x3 RW M2
  go_wp2_with fail
  refine wp_region_noPanic ?_
  refine wp_region_held_drew (S := (fun W => W.cell? ⟨gb, 0, none⟩ = some (.slice ka kn' kc') ∧ W.cell? ⟨gb, 1, none⟩ = some (.slice va vn vc) ∧ W.cell? ⟨gb, 2, none⟩ = some (.int .i64 pg) ∧ W.cell? ⟨gb, 3, none⟩ = some (.pointer nd))) follows (cells4 RW3.out) (fun hHeld => ?_)
  have MZ : Hid (Sp1 w W3.drew g1 g2 (.slice ko kn kc) vo k d) := ⟨M3.out.node, M3.out.out, M3.out.row, M3.out.base.drew⟩
  have RZ : Hid (W3.drew.heap[gb]? = some (.cells #[.slice ka kn' kc', .slice va vn vc, .int .i64 pg, .pointer nd] 126 (0, 0))) := RW3.out
  have NG : Hid (g1 ≠ gb) := ne_of_type M3.out.node RW3.out (by decide)
  obtain ⟨vao, vcap, hvo⟩ := M3.out.row.form
  obtain ⟨vnn, hvnn⟩ : ∃ vnn, vnn = (d.take k).length := ⟨_, rfl⟩
  rw [← hvnn] at hvo
  subst hvo
  clear hvnn
  clear M3 RW3 y0 y1 y2 y3
  generalize W3.drew = Z at MZ RZ hHeld ⊢
  refine tq 0 ?_
  simp only [Act.put, uB, uC, uD]
  refine tq 1 ?_
  simp only [Act.put, uB, uC, uD]
  refine tq 2 ?_
  simp only [Act.put, uB, uC, uD]
  refine tq 3 ?_
  simp only [Act.put, uB, uC, uD]
  refine tk 5 ?_ rfl (Or.inl ⟨by rfl, ?_⟩) ?_
  rotate_left
  ·intro w hSw
   obtain ⟨z0, z1, z2, z3⟩ := hSw
   go_simp
   all_goals with_reducible rfl
  simp only [Act.put, uB, uC, uD]
  refine rdy [4, 6] ?_
  refine AllReadyH.cons (o := ⟨_, _, _, _, _, _⟩) rfl (fun K hK => ?_) ?_
  focus
   have c1 := (cells2 MZ.out.node).2
   go_simp
   refine hK.out _ _ (by assumption) (fun hHeld => ?_)
   clear hK K c1
   try simp only [Act.put, uB, uC, uD]
   refine rdy [6] ?_
   refine step_buildSlice (o := ⟨_, _, _, _, _, _⟩) rfl rfl 122 1 [(0, Operand.tmp 66)] rfl _ _ (bs122 Z ⟨ka, kn', kc', va, vn, vc, pg, nd⟩) AllReadyH.nil ⟨cells4 ((heap_alloc_old _ _ (block_lt_of_row RZ.out)).trans RZ.out), fun hHeld => ?_⟩
   try simp only [Act.put, uB, uC, uD]
   obtain ⟨Y, hY⟩ : ∃ Y : EnV, Y = ⟨ka, kn', kc', va, vn, vc, pg, nd⟩ := ⟨_, rfl⟩
   rw [← hY] at hHeld ⊢
   have ATY : Hid (d[k]? = some Y) := by rw [hY]; exact AT.out
   obtain ⟨Z3, hZ3⟩ : ∃ Z3, Z3 = Z.alloc (.cells (encEn Y).toArray 126) := ⟨_, rfl⟩
   rw [← hZ3] at hHeld ⊢
   have b3 : Below Z.heap.size Z Z3 := by rw [hZ3]; exact (Below.refl _ _).alloc (Nat.le_refl _) _
   have r3 : Z3.heap[Z.heap.size]? = some (.cells (encEn Y).toArray 126 (0, 0)) := by rw [hZ3]; exact heap_alloc_new _ _
   have M4 : Hid (Sp1 w Z3 g1 g2 (.slice ko kn kc) (.slice vao vnn vcap) k d) := ⟨(b3.block g1 (block_lt_of_row MZ.out.node)).trans MZ.out.node, (b3.block g2 (block_lt_of_row MZ.out.out)).trans MZ.out.out, MZ.out.row.below b3, MZ.out.base.trans (b3.mono MZ.out.base.size)⟩
   have R4 : Hid (Z3.heap[gb]? = some (.cells #[.slice ka kn' kc', .slice va vn vc, .int .i64 pg, .pointer nd] 126 (0, 0))) := (b3.block gb (block_lt_of_row RZ.out)).trans RZ.out
   have APP := run_append_ens Z3 (g2 + 1) (.slice vao vnn vcap) (.slice (some ⟨Z.heap.size, 0, none⟩) 1 1) (d.take k) [Y] 122 M4.out.row (one_els r3) (by have := HN.out; have h1 := vsz_len d; have h2 := HS.out; rw [List.length_take]; simp; omega) (by have := block_lt_of_row M4.out.out; omega)
   clear b3 r3 hZ3 hY MZ RZ
  rotate_left
  focus
   refine step_buildSlice (o := ⟨_, _, _, _, _, _⟩) rfl rfl 122 1 [(0, Operand.tmp 66)] rfl _ _ (bs122 Z ⟨ka, kn', kc', va, vn, vc, pg, nd⟩) AllReadyH.nil ⟨cells4 ((heap_alloc_old _ _ (block_lt_of_row RZ.out)).trans RZ.out), fun hHeld => ?_⟩
   try simp only [Act.put, uB, uC, uD]
   obtain ⟨Y, hY⟩ : ∃ Y : EnV, Y = ⟨ka, kn', kc', va, vn, vc, pg, nd⟩ := ⟨_, rfl⟩
   rw [← hY] at hHeld ⊢
   have ATY : Hid (d[k]? = some Y) := by rw [hY]; exact AT.out
   obtain ⟨Z3, hZ3⟩ : ∃ Z3, Z3 = Z.alloc (.cells (encEn Y).toArray 126) := ⟨_, rfl⟩
   rw [← hZ3] at hHeld ⊢
   have b3 : Below Z.heap.size Z Z3 := by rw [hZ3]; exact (Below.refl _ _).alloc (Nat.le_refl _) _
   have r3 : Z3.heap[Z.heap.size]? = some (.cells (encEn Y).toArray 126 (0, 0)) := by rw [hZ3]; exact heap_alloc_new _ _
   have M4 : Hid (Sp1 w Z3 g1 g2 (.slice ko kn kc) (.slice vao vnn vcap) k d) := ⟨(b3.block g1 (block_lt_of_row MZ.out.node)).trans MZ.out.node, (b3.block g2 (block_lt_of_row MZ.out.out)).trans MZ.out.out, MZ.out.row.below b3, MZ.out.base.trans (b3.mono MZ.out.base.size)⟩
   have R4 : Hid (Z3.heap[gb]? = some (.cells #[.slice ka kn' kc', .slice va vn vc, .int .i64 pg, .pointer nd] 126 (0, 0))) := (b3.block gb (block_lt_of_row RZ.out)).trans RZ.out
   have APP := run_append_ens Z3 (g2 + 1) (.slice vao vnn vcap) (.slice (some ⟨Z.heap.size, 0, none⟩) 1 1) (d.take k) [Y] 122 M4.out.row (one_els r3) (by have := HN.out; have h1 := vsz_len d; have h2 := HS.out; rw [List.length_take]; simp; omega) (by have := block_lt_of_row M4.out.out; omega)
   clear b3 r3 hZ3 hY MZ RZ
   refine r1 4 fun K hK => ?_
   have c1 := (cells2 M4.out.node).2
   go_simp
   refine hK.out _ _ (by assumption) (fun hHeld => ?_)
   clear hK K c1
   try simp only [Act.put, uB, uC, uD]
  all_goals
   refine rdy [7] ?_
   refine step_append (o := ⟨_, _, _, _, _, _⟩) rfl rfl _ _ 122 122 rfl _ _ rfl rfl APP AllReadyH.nil ?_
   rintro v4 Z4 ⟨e4, c4⟩
   have N4 : Z4.heap[g1]? = some (.cells #[.int .i64 0, .slice vao vnn vcap] 124 (0, 0)) := c4.row M4.out.node (M4.out.row.apart M4.out.node (by decide))
   have O4 : Z4.heap[g2]? = some (.cells #[.slice ko kn kc, .slice none 0 0, .int .i64 0, .pointer (some ⟨g1, 0, none⟩)] 126 (0, 0)) := c4.row M4.out.out (fun e => by have := (M4.out.row.blk e).1; omega)
   have X4 : Z4.heap[gb]? = some (.cells #[.slice ka kn' kc', .slice va vn vc, .int .i64 pg, .pointer nd] 126 (0, 0)) := c4.row R4.out (fun e => NB.out _ e rfl)
   have E4 : Hid (EnRow (g2 + 1) Z4 v4 (d.take (k + 1))) := by show EnRow (g2 + 1) Z4 v4 (d.take (k + 1)); rw [List.take_add_one, ATY.out]; exact e4
   have B4 : Hid (Below w.heap.size w Z4) := M4.out.base.trans (c4.below _ M4.out.base.size (fun j hj e => by have := (M4.out.row.blk e).1; have := GS.out; omega))
   have N4H := hide N4
   have O4H := hide O4
   have X4H := hide X4
   refine ⟨cells4 X4, fun hHeld => ?_⟩
   clear e4 c4 N4 O4 X4 APP R4 M4
   try simp only [Act.put, uB, uC, uD]
   obtain ⟨o4, oc4, hv4⟩ := E4.out.form
   obtain ⟨n4, hn4⟩ : ∃ n4, n4 = (d.take (k + 1)).length := ⟨_, rfl⟩
   rw [← hn4] at hv4
   subst hv4
   clear hn4
   refine tq 8 ?_
   simp only [Act.put, uB, uC, uD]
   refine tq 9 ?_
   simp only [Act.put, uB, uC, uD]
   refine r1 10 fun K hK => ?_
   have c1 := (cells2 N4H.out).2
   have f1 := frozen_of_row _ _ 1 _ _ N4H.out
   go_simp
   have c5 : Chg (fun k => k = g1) Z4 (Z4.setCell ⟨g1, 1, none⟩ (.slice o4 n4 oc4)) := (Chg.refl (fun k => k = g1) _).setCell g1 1 _ (fun _ => rfl)
   have r5 : (Z4.setCell ⟨g1, 1, none⟩ (.slice o4 n4 oc4)).heap[g1]? = some (.cells #[.int .i64 0, .slice o4 n4 oc4] 124 (0, 0)) := by rw [heap_setCell_same Z4 g1 1 _ _ _ N4H.out]; rfl
   have MM : Hid (Sp1 w (Z4.setCell ⟨g1, 1, none⟩ (.slice o4 n4 oc4)) g1 g2 (.slice ko kn kc) (.slice o4 n4 oc4) (k + 1) d) := ⟨r5, c5.row O4H.out (by have := GS.out; omega), E4.out.chg c5 (fun j hj e => E4.out.apart N4H.out (by decide) (by rw [← e]; exact hj)), B4.out.trans (c5.base B4.out.size GS.out.1)⟩
   have a5 := cells4 (c5.row X4H.out (fun e => NG.out e.symm))
   clear hHeld
   refine hK.out _ _ a5 (fun hHeld => ?_)
   clear hK K c1 f1 c5 r5 a5 E4 N4H O4H X4H B4
   try simp only [Act.put, uB, uC, uD]
   refine wpAnyH_done (by kernel_rfl) ?_ _
   refine NoPanic.normal ?_
   clear hHeld
   go_wp2_with fail
   go_roundw
   case rel => exact ⟨k + 1, by omega, by go_num, rfl, by rw [← SZ2.out]; congr 1, _, MM⟩
   case measure => simp [intOf]; omega
 ·obtain rfl : k = n := by omega
  go_wp2_with fail
  go_ret
  exact ⟨g1, g2, vo, rfl, by rw [← HN.out]; exact M.out, GS.out.1, by have := GS.out; omega⟩
theorem size126' : (Tryz.prog.info? 126).map (·.size) = some 4 := by kernel_rfl
theorem store126 {w : World} {g : Nat} {c0 : Array Value} (a : w.heap[g]? = some (.cells c0 126 (0, 0))) (h0 : c0.size = 4) (x : EnV) :
  ∃ w', (Instr.storeAt 126 (.pointer (some ⟨g, 0, none⟩)) (.agg (encEn x).toArray)).run Tryz.prog w = .ok () w' ∧ w'.heap[g]? = some (.cells (encEn x).toArray 126 (0, 0)) ∧ Chg (fun k => k = g) w w' := by
 have hr := run_storeVar_row (P := Tryz.prog) w g 126 126 _ (encEn x).toArray a (by rw [size126', List.size_toArray, encEn_len]) (by exact h0) (all_oneCell_toArray (encEn_one x))
 refine ⟨w.setRow g (encEn x).toArray, ?_, setRow_heap w g _ _ _ _ a, Chg.setRow (p := fun k => k = g) g _ rfl⟩
 simp only [Instr.storeAt, Instr.sureAddr, Sem.run_bind, Sem.run_pure, Result.andThen_ok, hr]
set_option maxHeartbeats 4000000 in
set_option maxRecDepth 10000 in
theorem highest_1 (g2 : Nat) (ko : Option Addr) (kn kc : Nat) (nd : Option Addr) (w : World) (h : w.heap[g2]? = some (.cells #[.slice ko kn kc, .slice none 0 0, .int .i64 0, .pointer nd] 126 (0, 0))) :
  Calls Tryz.prog 74 #[.slice (some ⟨g2, 0, none⟩) 1 1] w fun e w' => e = .returned (.agg #[.slice ko kn kc, .slice none 0 0, .int .i64 0, .pointer nd]) ∧ Below w.heap.size w w' := by
 have H := hide h
 obtain ⟨c0, c1, c2, c3⟩ := cells4 h
 have GL := block_lt_of_row h
 clear h
 have b0 : Below w.heap.size w (w.alloc (.cells #[.slice none 0 0, .slice none 0 0, .int .i64 0, .pointer none] 126)) := (Below.refl _ _).alloc (Nat.le_refl _) _
 have d0 := (b0.cell (p := ⟨g2, 0, none⟩) GL).trans c0
 have d1 := (b0.cell (p := ⟨g2, 1, none⟩) GL).trans c1
 have d2 := (b0.cell (p := ⟨g2, 2, none⟩) GL).trans c2
 have d3 := (b0.cell (p := ⟨g2, 3, none⟩) GL).trans c3
 have r0 : (w.alloc (.cells #[.slice none 0 0, .slice none 0 0, .int .i64 0, .pointer none] 126)).heap[w.heap.size]? = some (.cells #[.slice none 0 0, .slice none 0 0, .int .i64 0, .pointer none] 126 (0, 0)) := heap_alloc_new _ _
 obtain ⟨W, hW⟩ : ∃ W, W = w.alloc (.cells #[.slice none 0 0, .slice none 0 0, .int .i64 0, .pointer none] 126) := ⟨_, rfl⟩
 rw [← hW] at b0 d0 d1 d2 d3 r0
 have HW := hide hW
 go_enter Tryz.func74, Tryz.ntmps74
 go_upto_region 1 with fail
 rw [← hW]
 have B0 := hide b0
 have R0 := hide r0
 have f0 : ∀ i, W.frozen? ⟨w.heap.size, i, none⟩ = false := fun i => frozen_of_row _ _ i _ _ R0.out
 clear b0 r0 hW c0 c1 c2 c3 HW
 go_loopw [0] (fun a wr => a = .slice (some ⟨g2, 0, none⟩) 1 1 ∧ wr = W) (fun _ _ => 0)
 case atStart => exact ⟨rfl, rfl⟩
 case round =>
 obtain ⟨rfl, rfl⟩ := hrel
 obtain ⟨W2, hst, r2, k2⟩ := store126 R0.out rfl ⟨ko, kn, kc, none, 0, 0, 0, nd⟩
 have hst2 : (Instr.storeAt 126 (.pointer (some ⟨w.heap.size, 0, none⟩)) (.agg #[.slice ko kn kc, .slice none 0 0, .int .i64 0, .pointer nd])).run Tryz.prog wr = .ok () W2 := hst
 have R2 := hide r2
 have B2 : Hid (Below w.heap.size w W2) := B0.out.trans (k2.base B0.out.size (Nat.le_refl _))
 clear hst r2 k2 f0
 go_wp2_with (with_reducible refine at_op ⟨none, .store 126 (.tmp 2) (.tmp 20), 0, "edit.go:224", #[{ on := 2, ground := Ground.data }, { on := 0, ground := Ground.phase }, { on := 1, ground := Ground.phase }, { on := 2, ground := Ground.phase }], none⟩ ?_; refine wpList_store_as rfl 126 (.tmp 2) (.tmp 20) rfl (.pointer (some ⟨w.heap.size, 0, none⟩)) (.agg #[.slice ko kn kc, .slice none 0 0, .int .i64 0, .pointer nd]) rfl rfl W2 hst2 ?_)
 exact bodyPost_ret (results_row_one Tryz.results74 _ _ w.heap.size _ rfl (loadVar126 R2.out)) rfl ⟨rfl, B2.out⟩
set_option maxHeartbeats 4000000 in
set_option maxRecDepth 10000 in
theorem lowest_0 (g g1 : Nat) (ko : Option Addr) (kn kc : Nat) (v : Value) (w : World) (h : w.heap[g1]? = some (.cells #[.int .i64 0, v] 124 (0, 0))) :
  Calls Tryz.prog 73 #[.pointer (some ⟨g, 0, none⟩), .agg #[.slice ko kn kc, .slice none 0 0, .int .i64 0, .pointer (some ⟨g1, 0, none⟩)]] w fun e w' => e = .returned (.tuple #[.agg #[.slice ko kn kc, .slice none 0 0, .int .i64 0, .pointer (some ⟨g1, 0, none⟩)], .int .i64 0]) ∧ Below w.heap.size w w' := by
 have c0 := (cells2 h).1
 have GL := block_lt_of_row h
 obtain ⟨W1, hW1⟩ : ∃ W, W = w.alloc (.cells #[.slice ko kn kc, .slice none 0 0, .int .i64 0, .pointer (some ⟨g1, 0, none⟩)] 126) := ⟨_, rfl⟩
 have hs1 : W1.heap.size = w.heap.size + 1 := by rw [hW1]; simp
 obtain ⟨W2, hW2⟩ : ∃ W, W = W1.alloc (.cells #[.slice none 0 0, .slice none 0 0, .int .i64 0, .pointer none] 126) := ⟨_, rfl⟩
 have b1 : Below w.heap.size w W1 := by rw [hW1]; exact (Below.refl _ _).alloc (Nat.le_refl _) _
 have b2 : Below w.heap.size w W2 := by rw [hW2]; exact b1.alloc b1.size _
 have r1 : W2.heap[w.heap.size]? = some (.cells #[.slice ko kn kc, .slice none 0 0, .int .i64 0, .pointer (some ⟨g1, 0, none⟩)] 126 (0, 0)) := by rw [hW2, heap_alloc_old _ _ (by omega), hW1]; exact heap_alloc_new _ _
 have r2 : W2.heap[w.heap.size + 1]? = some (.cells #[.slice none 0 0, .slice none 0 0, .int .i64 0, .pointer none] 126 (0, 0)) := by rw [hW2, ← hs1]; exact heap_alloc_new _ _
 have d0 := (b2.cell (p := ⟨g1, 0, none⟩) GL).trans c0
 obtain ⟨x0, x1, x2, x3⟩ := cells4 r1
 have R2 := hide r2
 have B2 := hide b2
 go_enter Tryz.func73, Tryz.ntmps73
 go_upto_region 1 with fail
 rw [← hW1, ← hW2]
 clear b1 b2 r1 r2 hW1 hW2 hs1 c0 h
 go_loopw [] (fun wr => wr = W2) (fun _ => 0)
 case atStart => rfl
 case round =>
 subst hrel
 obtain ⟨W3, hst, r3, k3⟩ := store126 R2.out rfl ⟨ko, kn, kc, none, 0, 0, 0, some ⟨g1, 0, none⟩⟩
 have hst2 : (Instr.storeAt 126 (.pointer (some ⟨w.heap.size + 1, 0, none⟩)) (.agg #[.slice ko kn kc, .slice none 0 0, .int .i64 0, .pointer (some ⟨g1, 0, none⟩)])).run Tryz.prog wr = .ok () W3 := hst
 have R3 := hide r3
 have B3 : Hid (Below w.heap.size w W3) := B2.out.trans (k3.base B2.out.size (by omega))
 clear hst r3 k3
 go_wp2_with (with_reducible refine at_op ⟨none, .store 126 (.tmp 4) (.tmp 57), 0, "edit.go:216", #[{ on := 0, ground := Ground.data }, { on := 0, ground := Ground.phase }], none⟩ ?_; refine wpList_store_as rfl 126 (.tmp 4) (.tmp 57) rfl (.pointer (some ⟨w.heap.size + 1, 0, none⟩)) (.agg #[.slice ko kn kc, .slice none 0 0, .int .i64 0, .pointer (some ⟨g1, 0, none⟩)]) rfl rfl W3 hst2 ?_)
 exact bodyPost_ret (results_row_tmp Tryz.results73 _ _ (w.heap.size + 1) _ rfl (loadVar126 R3.out)) rfl ⟨rfl, B3.out⟩
theorem sliceAt_len {w : World} {ao : Option Addr} {n c : Nat} {bs : List UInt8} (h : SliceAt w (.slice ao n c) bs) : n = bs.length := by
 obtain ⟨a, l, c', e, h1, _⟩ := h.form
 injection e with _ e _
 rw [e, h1]
theorem vsz_ess {w : World} {d : List EnV} {es : List S.Ent} (h : EnsAre w d es) : vsz d = S.essz es := by
 induction d generalizing es with
 | nil =>
  have := h.1
  cases es with
  | nil => rfl
  | cons a r => simp at this
 | cons x r ih =>
  cases es with
  | nil => have := h.1; simp at this
  | cons e l =>
   have h0 := h.2 0 x e rfl rfl
   have hr : EnsAre w r l := ⟨by have := h.1; simpa using this, fun i y f hy hf => h.2 (i + 1) y f (by simpa using hy) (by simpa using hf)⟩
   have e1 : vsz (x :: r) = (4 + x.kn + x.vn) + vsz r := by simp [vsz]
   have e2 : S.essz (e :: l) = S.esz e + S.essz l := by simp [S.essz]
   rw [e1, e2, ih hr, sliceAt_len h0.key, sliceAt_len h0.val]
   rfl
structure Chd (w w' : World) (g gs g1 g2 : Nat) (kv : Value) (h : S.Hh) (vs : Value) (es : List S.Ent) : Prop where
 node : ∃ vo d, w'.heap[g1]? = some (.cells #[.int .i64 0, vo] 124 (0, 0)) ∧ EnRow w.heap.size w' vo d ∧ ∀ W, Chg (fun k => k = g) w' W → EnsAre W d es
 out : w'.heap[g2]? = some (.cells #[kv, .slice none 0 0, .int .i64 0, .pointer (some ⟨g1, 0, none⟩)] 126 (0, 0))
 edit : EdAt w' g gs { h with used := S.nandBit h.used 1, cnt := es.length } vs
 chg : Chg (fun k => k = g) w w'
 up : w.heap.size ≤ g1 ∧ w.heap.size ≤ g2
set_option maxHeartbeats 4000000 in
set_option maxRecDepth 10000 in
theorem change_0 (B g gs : Nat) (h : S.Hh) (vs l : Value) (ko : Option Addr) (kn kc : Nat) (pg : Nat → List UInt8) (es : List S.Ent) (dc : List ChV) (cs : List S.Cg) (w0 w : World) (hr : Rds B w gs pg) (he : EdAt w g gs h vs) (hu : h.used.length = 64) (hcn : h.cnt = es.length)
  (hp : pg 1 = S.sheetB (S.nodeB 0 es)) (ho : S.NodeOk 0 es) (hl : Els encCh w0 l dc) (hc : ChsAre w0 dc cs) (hb : Below w0.heap.size w0 w) (hg : w0.heap.size ≤ g) (hlen : es.length + cs.length ≤ 10000) (hm : S.essz (S.mrg es cs) ≤ 1019) :
  Calls Tryz.prog 72 #[.pointer (some ⟨g, 0, none⟩), .agg #[.slice ko kn kc, .slice none 0 0, .int .i64 1, .pointer none], .int .i64 0, l] w fun e w' => ∃ g1 g2, e = .returned (.tuple #[.slice (some ⟨g2, 0, none⟩) 1 1, .int .i64 0]) ∧ Chd w w' g gs g1 g2 (.slice ko kn kc) h vs (S.mrg es cs) := by
 have TK := hide (fun W (hw : Below w.heap.size w W) => etake_any B g gs 1 0 h vs ⟨ko, kn, kc, none, 0, 0, 1, none⟩ pg es W (hr.below hw) ((hw.block g (block_lt_of_row he)).trans he) hu rfl (by omega) hp ho)
 simp only at TK
 have HE := hide he
 have HL := hide hl
 have HC := hide hc
 have HB := hide hb
 have HG := hide hg
 have HLEN := hide hlen
 have HM := hide hm
 have HU := hide hu
 have HCN := hide hcn
 have HO := hide ho
 obtain ⟨lo, lcap, rfl, _⟩ := hl.form
 clear he hr hu hcn hp ho hl hc hb hg hlen hm
 go_enter Tryz.func72, Tryz.ntmps72
 go_wp2_with fail
 obtain ⟨W, hW⟩ : ∃ W, W = w.alloc (.cells #[.slice ko kn kc, .slice none 0 0, .int .i64 1, .pointer none] 126) := ⟨_, rfl⟩
 rw [← hW]
 have bW : Below w.heap.size w W := by rw [hW]; exact (Below.refl _ _).alloc (Nat.le_refl _) _
 have rW : W.heap[w.heap.size]? = some (.cells #[.slice ko kn kc, .slice none 0 0, .int .i64 1, .pointer none] 126 (0, 0)) := by rw [hW]; exact heap_alloc_new _ _
 have TK2 := hide (TK.out W bW)
 have RW := hide rW
 have BW := hide bW
 clear hW bW rW TK
 refine TK2.out.mono ?_
 rintro e X ⟨gn, rfl, n1, e1, k1⟩
 have N1 := hide (n1.mono BW.out.size)
 have GNX : Hid (W.heap.size ≤ gn) := n1.at_
 have E1 := hide e1
 have GLT : Hid (g < w.heap.size) := block_lt_of_row HE.out
 have C1 : Hid (Chg (fun k => k = g) w X) := (Chg.ofBelow' BW.out).trans k1 (fun _ _ e => e)
 have RX : Hid (X.heap[w.heap.size]? = some (.cells #[.slice ko kn kc, .slice none 0 0, .int .i64 1, .pointer none] 126 (0, 0))) := k1.row RW.out (by have := GLT.out; omega)
 have BX : Hid (Below w0.heap.size w0 X) := HB.out.trans (C1.out.below _ HB.out.size (fun k hk e => by have := HG.out; omega))
 have WW : Hid (w.heap.size < W.heap.size) := block_lt_of_row RW.out
 clear n1 e1 k1 RW BW TK2
 obtain ⟨vx, d, h1, h2, h3, h4⟩ := N1.out.is
 obtain ⟨ao, cap, hv⟩ := h2.form
 subst hv
 obtain ⟨n, hn⟩ : ∃ n, n = d.length := ⟨_, rfl⟩
 rw [← hn] at h1
 obtain ⟨g0, g1⟩ := cells2 h1
 have R1 := hide h1
 have ER := hide h2
 have DL : Hid (d.length = es.length) := h3
 have EN := hide h4
 have HN := hide hn
 clear h1 h2 h3 h4 N1 hn
 go_wp2_with fail
 have EAX : Hid (EnsAre X d es) := ⟨DL.out, fun i x e hx hf => (EN.out i x e hx hf).1.is (by have := (HO.out.ent e (List.mem_of_getElem? hf)).key; omega) (by have := (HO.out.ent e (List.mem_of_getElem? hf)).val; omega)⟩
 have LX : Hid (Els encCh X (.slice lo dc.length lcap) dc) := HL.out.below BX.out
 have NDX : Hid (∀ x ∈ d, x.nd = none) := fun x hx => by
  obtain ⟨i, hi, rfl⟩ := List.getElem_of_mem hx
  have hi2 : i < es.length := by have := DL.out; omega
  exact (EN.out i d[i] es[i] (List.getElem?_eq_getElem hi) (List.getElem?_eq_getElem hi2)).2
 have ERX : Hid (EnRow w.heap.size X (.slice ao n cap) d) := by rw [HN.out]; exact ER.out
 have hn254 : n ≤ 254 := by have := HO.out.len; have := DL.out; have := HN.out; omega
 clear g0 g1
 refine (merged_any _ _ d es dc cs X (ERX.out.els (by have := HN.out; omega)) EAX.out NDX.out HO.out.up LX.out (HC.out.below BX.out) HLEN.out).mono ?_
 rintro e Y ⟨u, d', rfl, r2, eg, nd2, b2⟩
 have EG := hide eg
 have R2 := hide r2
 have E2 : Hid (EdAt Y g gs { h with used := S.nandBit h.used 1 } vs) := (b2.block g (block_lt_of_row E1.out)).trans E1.out
 have RN : Hid (Y.heap[gn]? = some (.cells #[.int .i64 0, .slice ao n cap] 124 (0, 0))) := (b2.block gn (block_lt_of_row R1.out)).trans R1.out
 have RY : Hid (Y.heap[w.heap.size]? = some (.cells #[.slice ko kn kc, .slice none 0 0, .int .i64 1, .pointer none] 126 (0, 0))) := (b2.block w.heap.size (block_lt_of_row RX.out)).trans RX.out
 have BY : Hid (Below w0.heap.size w0 Y) := BX.out.trans (b2.mono BX.out.size)
 have C2 : Hid (Chg (fun k => k = g) w Y) := C1.out.trans (Chg.ofBelow' (p := fun k => k = g) b2) (fun _ _ e => e)
 have ENY : Hid (∀ (i : Nat) x e, d[i]? = some x → es[i]? = some e → EnNew w.heap.size Y x e ∧ x.nd = none) := fun i x e hx hf => ⟨(EN.out i x e hx hf).1.below b2, (EN.out i x e hx hf).2⟩
 have SX : Hid (w.heap.size ≤ X.heap.size) := C1.out.size
 have R2w : Hid (EnRow w.heap.size Y u d') := R2.out.mono SX.out
 have EL : Hid (d'.length = (S.mrg es cs).length) := (eg X EAX.out (HC.out.below BX.out)).1
 have VZ : Hid (vsz d' ≤ 1019) := by
  show vsz d' ≤ 1019
  rw [vsz_ess (eg X EAX.out (HC.out.below BX.out))]; exact HM.out
 obtain ⟨uo, uc, hu'⟩ := r2.form
 subst hu'
 obtain ⟨m, hm⟩ : ∃ m, m = d'.length := ⟨_, rfl⟩
 have HMM := hide hm
 have hm254 : m ≤ 254 := by have := vsz_len d'; have := VZ.out; omega
 rw [← hm] at R2w ⊢
 clear eg r2 nd2 b2 hm E1 R1 RX BX C1 EN EAX LX NDX ERX ER R2
 obtain ⟨g0, g1⟩ := cells2 RN.out
 have f1 := frozen_of_row _ _ 1 _ _ RN.out
 go_upto_region 7 with fail
 obtain ⟨Y1, hY1⟩ : ∃ Y1, Y1 = Y.setCell ⟨gn, 1, none⟩ (.slice uo m uc) := ⟨_, rfl⟩
 rw [← hY1]
 have k3 : Chg (fun k => k = gn) Y Y1 := by rw [hY1]; exact (Chg.refl (fun k => k = gn) _).setCell gn 1 _ (fun _ => rfl)
 have r3 : Y1.heap[gn]? = some (.cells #[.int .i64 0, .slice uo m uc] 124 (0, 0)) := by rw [hY1, heap_setCell_same Y gn 1 _ _ _ RN.out]; rfl
 have GW : Hid (w.heap.size < gn ∧ g < gn) := by have := GNX.out; have := WW.out; have := GLT.out; exact ⟨by omega, by omega⟩
 have E3 : Hid (EdAt Y1 g gs { h with used := S.nandBit h.used 1 } vs) := k3.row E2.out (by have := GW.out; omega)
 have RY3 : Hid (Y1.heap[w.heap.size]? = some (.cells #[.slice ko kn kc, .slice none 0 0, .int .i64 1, .pointer none] 126 (0, 0))) := k3.row RY.out (by have := GW.out; omega)
 have BY3 : Hid (Below w0.heap.size w0 Y1) := BY.out.trans (k3.base BY.out.size (by have := GW.out; have := HB.out.size; omega))
 have C3 : Hid (Chg (fun k => k = g) w Y1) := C2.out.trans k3 (fun j hj e => by have := GW.out; omega)
 have EN3 : Hid (∀ (i : Nat) x e, d[i]? = some x → es[i]? = some e → EnNew w.heap.size Y1 x e ∧ x.nd = none) := fun i x e hx hf => ⟨(ENY.out i x e hx hf).1.chg k3 (fun k c hk e => ne_of_type hk RN.out (by decide) e), (ENY.out i x e hx hf).2⟩
 have R3w : Hid (EnRow w.heap.size Y1 (.slice uo m uc) d') := R2w.out.chg k3 (fun k hk e => R2w.out.apart RN.out (by decide) (by rw [← e]; exact hk))
 have R3 := hide r3
 obtain ⟨q0, q1⟩ := cells2 r3
 have cn : Y1.cell? ⟨g, 1, none⟩ = some (.int .i64 (n : Int)) := by
  have := E3.out.cnt
  rw [show n = h.cnt by have := HCN.out; have := HN.out; have := DL.out; omega]
  exact this
 have fn := frozen_of_row _ _ 1 _ _ E3.out
 clear hY1 k3 r3 g0 g1 f1 E2 RN RY BY C2 ENY R2w
 go_wp2_with fail
 go_region
 have ew : (n : Int) + ((m : Int) - (n : Int)) = (m : Int) := by omega
 rw [ew]
 obtain ⟨Y2, hY2⟩ : ∃ Y2, Y2 = (Y1.setCell ⟨g, 1, none⟩ (.int .i64 (m : Int))).drew := ⟨_, rfl⟩
 rw [← hY2]
 have k4 : Chg (fun k => k = g) Y1 Y2 := by rw [hY2]; exact ((Chg.refl (fun k => k = g) _).setCell g 1 _ (fun _ => rfl)).drew
 have E4 : Hid (EdAt Y2 g gs { h with used := S.nandBit h.used 1, cnt := m } vs) := by rw [hY2]; exact E3.out.setCnt m
 have R4 : Hid (Y2.heap[gn]? = some (.cells #[.int .i64 0, .slice uo m uc] 124 (0, 0))) := k4.row R3.out (by have := GW.out; omega)
 have RY4 : Y2.heap[w.heap.size]? = some (.cells #[.slice ko kn kc, .slice none 0 0, .int .i64 1, .pointer none] 126 (0, 0)) := k4.row RY3.out (by have := GLT.out; omega)
 have BY4 : Hid (Below w0.heap.size w0 Y2) := BY3.out.trans (k4.base BY3.out.size HG.out)
 have C4 : Hid (Chg (fun k => k = g) w Y2) := C3.out.trans k4 (fun j hj e => e)
 have EN4 : Hid (∀ W, Chg (fun k => k = g) Y2 W → EnsAre W d es) := fun W kw => ⟨DL.out, fun i x e hx hf => ((EN3.out i x e hx hf).1.chg (k4.trans kw (fun _ _ e => e)) (fun k c hk e => ne_of_type hk E3.out (by decide) e)).is (by have := (HO.out.ent e (List.mem_of_getElem? hf)).key; omega) (by have := (HO.out.ent e (List.mem_of_getElem? hf)).val; omega)⟩
 have R4w : Hid (EnRow w.heap.size Y2 (.slice uo m uc) d') := R3w.out.chg k4 (fun k hk e => R3w.out.apart E3.out (by decide) (by rw [← e]; exact hk))
 have EF : Hid (∀ W, Chg (fun k => k = g) Y2 W → EnsAre W d' (S.mrg es cs)) := fun W kw => EG.out W (EN4.out W kw) (HC.out.below (BY4.out.trans (kw.base BY4.out.size HG.out)))
 obtain ⟨z0, z1, z2, z3⟩ := cells4 RY4
 clear ew hY2 k4 E3 R3 RY3 RY4 BY3 C3 EN3 R3w cn fn q0 q1
 go_wp2_with fail
 refine (split_0 gn (.slice ko kn kc) _ d' Y2 ⟨_, _, _, rfl⟩ R4.out (R4w.out.els (by have := HMM.out; omega)) VZ.out).mono ?_
 rintro e Z ⟨g1, g2, vo, rfl, sp, hg1, hg2⟩
 have SZ : w.heap.size ≤ Y2.heap.size := C4.out.size
 have CH : Chd w Z g gs g1 g2 (.slice ko kn kc) h vs (S.mrg es cs) := by
  refine ⟨⟨vo, d', sp.node, ?_, fun W kw => EF.out W ((Chg.ofBelow' (p := fun k => k = g) sp.base).trans kw (fun _ _ e => e))⟩, sp.out, ?_, C4.out.trans (Chg.ofBelow' (p := fun k => k = g) sp.base) (fun _ _ e => e), by omega, by omega⟩
  ·have := sp.row
   rw [List.take_length] at this
   exact this.mono (by omega)
  ·have := (sp.base.block g (block_lt_of_row E4.out)).trans E4.out
   rw [← EL.out, ← HMM.out]
   exact this
 have CHH := hide CH
 clear CH sp hg1 hg2 SZ z0 z1 z2 z3
 go_wp2_with fail
 go_ret2
 exact ⟨g1, g2, rfl, CHH.out⟩
end Go.Proofs.YteealihknndclaaGreatDoor
