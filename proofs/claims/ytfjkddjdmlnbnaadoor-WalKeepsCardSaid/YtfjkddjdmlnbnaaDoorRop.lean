/- reopen: the log is found after a crash as it was, or as it would be. -/
import Derived.Test.YtfjkddjdmlnbnaaDoorKws
import Derived.Deep.DeepCutAuto
namespace Go.Proofs.YtfjkddjdmlnbnaaDoor
open Go.RowKit

theorem wc_cells {w : World} {gw : Nat} {o : Ow} {g : Nat} {lr kv : Value} {torn bytes again : Int} {armed : Bool} (h : w.heap[gw]? = some (.cells (wcells o g lr kv torn bytes again armed) 50 (0, 0))) :
    w.cell? ⟨gw, 0, none⟩ = some o.ptr ∧ w.cell? ⟨gw, 1, none⟩ = some (.pointer (some ⟨g, 0, none⟩)) ∧ w.cell? ⟨gw, 2, none⟩ = some lr ∧ w.cell? ⟨gw, 3, none⟩ = some kv ∧ w.cell? ⟨gw, 4, none⟩ = some (.int .i64 torn) ∧ w.cell? ⟨gw, 5, none⟩ = some (.int .i64 bytes) ∧ w.cell? ⟨gw, 6, none⟩ = some (.int .i64 again) ∧ w.cell? ⟨gw, 7, none⟩ = some (.bool armed) := by
  refine ⟨?_, ?_, ?_, ?_, ?_, ?_, ?_, ?_⟩ <;> (rw [cell_of_row w gw _ _ 50 (0, 0) h]; rfl)
theorem wc_set7 {w : World} {gw : Nat} {o : Ow} {g : Nat} {lr kv : Value} {torn bytes again : Int} {armed : Bool} (h : w.heap[gw]? = some (.cells (wcells o g lr kv torn bytes again armed) 50 (0, 0))) (b : Bool) : (w.setCell ⟨gw, 7, none⟩ (.bool b)).heap[gw]? = some (.cells (wcells o g lr kv torn bytes again b) 50 (0, 0)) := by
  rw [heap_setCell_same w gw 7 _ _ _ h]; rfl
theorem wc_set1 {w : World} {gw : Nat} {o : Ow} {g : Nat} {lr kv : Value} {torn bytes again : Int} {armed : Bool} (h : w.heap[gw]? = some (.cells (wcells o g lr kv torn bytes again armed) 50 (0, 0))) (g2 : Nat) : (w.setCell ⟨gw, 1, none⟩ (.pointer (some ⟨g2, 0, none⟩))).heap[gw]? = some (.cells (wcells o g2 lr kv torn bytes again armed) 50 (0, 0)) := by
  rw [heap_setCell_same w gw 1 _ _ _ h]; rfl
theorem wc_set2 {w : World} {gw : Nat} {o : Ow} {g : Nat} {lr kv : Value} {torn bytes again : Int} {armed : Bool} (h : w.heap[gw]? = some (.cells (wcells o g lr kv torn bytes again armed) 50 (0, 0))) (lr' : Value) : (w.setCell ⟨gw, 2, none⟩ lr').heap[gw]? = some (.cells (wcells o g lr' kv torn bytes again armed) 50 (0, 0)) := by
  rw [heap_setCell_same w gw 2 _ _ _ h]; rfl
theorem wc_set6 {w : World} {gw : Nat} {o : Ow} {g : Nat} {lr kv : Value} {torn bytes again : Int} {armed : Bool} (h : w.heap[gw]? = some (.cells (wcells o g lr kv torn bytes again armed) 50 (0, 0))) (a : Int) : (w.setCell ⟨gw, 6, none⟩ (.int .i64 a)).heap[gw]? = some (.cells (wcells o g lr kv torn bytes a armed) 50 (0, 0)) := by
  rw [heap_setCell_same w gw 6 _ _ _ h]; rfl
/-- The world object whose disk was crashed. -/
structure Ka (w0 w : World) (gw gk gd : Nat) (X : List UInt8) (o : Ow) (d : S.Dk) (g p t : Nat) (ss : List (List UInt8)) (rs rs' : List (List UInt8)) (lr kv : Value) (torn bytes again : Int) (ks : List Bool) : Prop where
  dk : Dsk w o d
  row : w.heap[gw]? = some (.cells (wcells o g lr kv torn bytes again true) 50 (0, 0))
  ob : ∀ k, o.has k → w0.heap.size ≤ k
  below : Below w0.heap.size w0 w
  pos : 0 < w0.heap.size
  gwb : w0.heap.size ≤ gw
  sep : ¬ o.has gw
  pend : d.pend = []
  may : S.May ss 3 50 p t rs rs' d.safe
  ne : ∀ r ∈ rs, r ≠ []
  ne' : ∀ r ∈ rs', r ≠ []
  cut : BoolsAt w0 kv ks
  ag : again ≤ 9223372036854775807
  len : ss.length = 60
  lo0 : ss.getD 0 [] = X
  hi0 : ss.getD 59 [] = X
  bk : w.heap[gk]? = some (.cells (S.v8 X) 5 (0, 0))
  bq : ¬ o.has gk ∧ gk ≠ gw
  pt : o.g = gd
theorem Kr.then {w0 w W : World} {gw gk gd : Nat} {X : List UInt8} {o : Ow} {d : S.Dk} {g p t : Nat} {ss rs rs' : List (List UInt8)} {lr kv : Value} {torn bytes again : Int} {ks : List Bool} (h : Kr w0 w gw gk gd X o d g p t ss rs rs' lr kv torn bytes again ks) (hb : Below w.heap.size w W) : Kr w0 W gw gk gd X o d g p t ss rs rs' lr kv torn bytes again ks :=
  ⟨h.dk.below hb, (hb.block gw (block_lt_of_row h.row)).trans h.row, h.ob, h.below.trans (hb.mono h.below.size), h.pos, h.gwb, h.sep, h.few, h.fate, h.ne, h.ne', h.cut, h.ag, h.len, h.lo0, h.hi0, (hb.block gk (block_lt_of_row h.bk)).trans h.bk, h.bq, h.pt⟩
theorem Ka.then {w0 w W : World} {gw gk gd : Nat} {X : List UInt8} {o : Ow} {d : S.Dk} {g p t : Nat} {ss rs rs' : List (List UInt8)} {lr kv : Value} {torn bytes again : Int} {ks : List Bool} (h : Ka w0 w gw gk gd X o d g p t ss rs rs' lr kv torn bytes again ks) (hb : Below w.heap.size w W) : Ka w0 W gw gk gd X o d g p t ss rs rs' lr kv torn bytes again ks :=
  ⟨h.dk.below hb, (hb.block gw (block_lt_of_row h.row)).trans h.row, h.ob, h.below.trans (hb.mono h.below.size), h.pos, h.gwb, h.sep, h.pend, h.may, h.ne, h.ne', h.cut, h.ag, h.len, h.lo0, h.hi0, (hb.block gk (block_lt_of_row h.bk)).trans h.bk, h.bq, h.pt⟩
theorem row_to {w w' : World} {gw : Nat} {o o' : Ow} {g : Nat} {lr kv : Value} {torn bytes again : Int} {armed : Bool} (h : w.heap[gw]? = some (.cells (wcells o g lr kv torn bytes again armed) 50 (0, 0))) (hm : DkTo o w o' w') (hs : ¬ o.has gw) : w'.heap[gw]? = some (.cells (wcells o' g lr kv torn bytes again armed) 50 (0, 0)) := by
  have hpt : o'.ptr = o.ptr := by unfold Ow.ptr; rw [hm.g]
  have := hm.chg.row h hs
  unfold wcells at this ⊢
  rw [hpt]
  exact this
theorem Kr.crashed {w0 w w' : World} {gw gk gd : Nat} {X : List UInt8} {o o' : Ow} {d : S.Dk} {g p t : Nat} {ss rs rs' : List (List UInt8)} {lr kv : Value} {torn bytes again : Int} {ks : List Bool} {c : S.Cut} (h : Kr w0 w gw gk gd X o d g p t ss rs rs' lr kv torn bytes again ks) (hd : DkIs w' o' (d.crash c)) (hm : DkTo o w o' w') : Ka w0 w' gw gk gd X o' (d.crash c) g p t ss rs rs' lr kv torn bytes again ks :=
  ⟨h.dk.to hd hm, row_to h.row hm h.sep, fun k e => by
    rcases hm.own k e with e | e
    · exact h.ob k e
    · exact Nat.le_trans h.below.size e, h.below.trans (hm.chg.below _ h.below.size (fun k hk e => by have := h.ob k e; omega)), h.pos, h.gwb, fun e => by
    rcases hm.own _ e with e | e
    · exact h.sep e
    · have := block_lt_of_row h.row; omega, rfl, h.fate c, h.ne, h.ne', h.cut, h.ag, h.len, h.lo0, h.hi0, hm.chg.row h.bk h.bq.1, ⟨fun e => by
    rcases hm.own _ e with e | e
    · exact h.bq.1 e
    · have := block_lt_of_row h.bk; omega, h.bq.2⟩, hm.g.trans h.pt⟩
theorem Ka.to {w0 w w' : World} {gw gk gd : Nat} {X : List UInt8} {o o' : Ow} {d d' : S.Dk} {g p t : Nat} {ss rs rs' : List (List UInt8)} {lr kv : Value} {torn bytes again : Int} {ks : List Bool} (h : Ka w0 w gw gk gd X o d g p t ss rs rs' lr kv torn bytes again ks) (hd : DkIs w' o' d') (hm : DkTo o w o' w') (hs : d'.safe = d.safe) (hp : d'.pend = []) : Ka w0 w' gw gk gd X o' d' g p t ss rs rs' lr kv torn bytes again ks :=
  ⟨h.dk.to hd hm, row_to h.row hm h.sep, fun k e => by
    rcases hm.own k e with e | e
    · exact h.ob k e
    · exact Nat.le_trans h.below.size e, h.below.trans (hm.chg.below _ h.below.size (fun k hk e => by have := h.ob k e; omega)), h.pos, h.gwb, fun e => by
    rcases hm.own _ e with e | e
    · exact h.sep e
    · have := block_lt_of_row h.row; omega, hp, by rw [hs]; exact h.may, h.ne, h.ne', h.cut, h.ag, h.len, h.lo0, h.hi0, hm.chg.row h.bk h.bq.1, ⟨fun e => by
    rcases hm.own _ e with e | e
    · exact h.bq.1 e
    · have := block_lt_of_row h.bk; omega, h.bq.2⟩, hm.g.trans h.pt⟩
theorem Ka.crashed {w0 w w' : World} {gw gk gd : Nat} {X : List UInt8} {o o' : Ow} {d : S.Dk} {g p t : Nat} {ss rs rs' : List (List UInt8)} {lr kv : Value} {torn bytes again : Int} {ks : List Bool} {c : S.Cut} (h : Ka w0 w gw gk gd X o d g p t ss rs rs' lr kv torn bytes again ks) (hd : DkIs w' o' (d.crash c)) (hm : DkTo o w o' w') : Ka w0 w' gw gk gd X o' (d.crash c) g p t ss rs rs' lr kv torn bytes again ks :=
  h.to hd hm (S.Dk.crash_flushed _ h.pend c) rfl
theorem LsOf.dk {w w' : World} {o o' : Ow} {gw : Nat} {lv : Value} {vs : List Value} {rs : List (List UInt8)} (h : LsOf w (fun k => o.has k ∨ k = gw) lv vs rs) (hm : DkTo o w o' w') : LsOf w' (fun k => o'.has k ∨ k = gw) lv vs rs :=
  h.chg (hm.chg.mono fun _ _ e => Or.inl e) (fun k e => by
    rcases e with e | e
    · rcases hm.own k e with e | e
      · exact Or.inl (Or.inl e)
      · exact Or.inr e
    · exact Or.inl (Or.inr e))
set_option maxHeartbeats 16000000 in
set_option maxRecDepth 10000 in
theorem reopen_any (w0 w : World) (gw gk gd : Nat) (X : List UInt8) (o : Ow) (d : S.Dk) (g p t : Nat) (ss rs rs' : List (List UInt8)) (lr kv wd : Value) (torn bytes again : Int) (ks : List Bool) (vs vs' : List Value) (hr : Kr w0 w gw gk gd X o d g p t ss rs rs' lr kv torn bytes again ks) (hl1 : LsOf w (fun k => o.has k ∨ k = gw) lr vs rs) (hl2 : LsOf w (fun k => o.has k ∨ k = gw) wd vs' rs') :
   Calls Tryd.prog 46 #[.pointer (some ⟨gw, 0, none⟩), wd] w fun e w' => e = .returned (.bool true) ∧ Kw w0 gw gk gd X (t + 1) w' := by
  obtain ⟨ao, cp, rfl, hKm, hKs⟩ := hr.cut
  obtain ⟨KL, hKL⟩ : ∃ KL, KL = ks.length := ⟨_, rfl⟩
  rw [← hKL] at hr
  clear hKm hKs hKL
  have KR := hide hr
  have L1 := hide hl1
  have L2 := hide hl2
  clear hr hl1 hl2
  go_enter Tryd.func46, Tryd.ntmps46
  go_upto_region 1 with fail
  refine wp_region_noPanic ?_
  refine wp_region_held_drew (S := (fun W => W.heap[gw]? = some (.cells (wcells o g lr (.slice ao KL cp) torn bytes again true) 50 (0, 0)))) follows KR.out.row (fun hHeld => ?_)
  have KD := hide (KR.out.then (Below.refl w.heap.size w).drew)
  have L1d := hide (L1.out.below (Below.refl w.heap.size w).drew)
  have L2d := hide (L2.out.below (Below.refl w.heap.size w).drew)
  clear KR L1 L2
  generalize w.drew = Z1 at KD L1d L2d hHeld ⊢
  refine wpAnyH_take (i := 0) (oi := { dst := some 9, op := Op.move (Operand.tmp 0), type := 48, pos := "law.go:92", after := #[], guard := none }) (v := ?_) rfl (by kernel_rfl) (by kernel_rfl) (by kernel_rfl) (fun _ _ _ h => h) (Or.inl ⟨by rfl, ?_⟩) (by assumption) ?_
  rotate_left
  · intro w hSw
    clear hSw
    go_simp
    all_goals with_reducible rfl
  simp only [Act.put, List.setIfInBounds_toArray, List.set_cons_zero, List.set_cons_succ]
  refine wpAnyH_take (i := 1) (oi := { dst := some 10, op := Op.nilCheck (Operand.tmp 9), type := 0, pos := "law.go:92", after := #[{ on := 0, ground := Ground.data }], guard := none }) (v := ?_) rfl (by kernel_rfl) (by kernel_rfl) (by kernel_rfl) (fun _ _ _ h => h) (Or.inl ⟨by rfl, ?_⟩) (by assumption) ?_
  rotate_left
  · intro w hSw
    clear hSw
    go_simp
    all_goals with_reducible rfl
  simp only [Act.put, List.setIfInBounds_toArray, List.set_cons_zero, List.set_cons_succ]
  refine wpAnyH_take (i := 2) (oi := { dst := some 11, op := Op.fieldAddr 50 (Operand.tmp 10) 0, type := 0, pos := "law.go:92", after := #[{ on := 1, ground := Ground.data }], guard := none }) (v := ?_) rfl (by kernel_rfl) (by kernel_rfl) (by kernel_rfl) (fun _ _ _ h => h) (Or.inl ⟨by rfl, ?_⟩) (by assumption) ?_
  rotate_left
  · intro w hSw
    clear hSw
    go_simp
    all_goals with_reducible rfl
  simp only [Act.put, List.setIfInBounds_toArray, List.set_cons_zero, List.set_cons_succ]
  refine wpAnyH_take (i := 3) (oi := { dst := some 12, op := Op.load 22 (Operand.tmp 11), type := 22, pos := "law.go:92", after := #[{ on := 2, ground := Ground.data }], guard := none }) (v := ?_) rfl (by kernel_rfl) (by kernel_rfl) (by kernel_rfl) (fun _ _ _ h => h) (Or.inl ⟨by rfl, ?_⟩) (by assumption) ?_
  rotate_left
  · intro w hSw
    have c0 := (wc_cells hSw).1
    clear hSw
    go_simp
    all_goals with_reducible rfl
  simp only [Act.put, List.setIfInBounds_toArray, List.set_cons_zero, List.set_cons_succ]
  refine wpAnyH_take (i := 4) (oi := { dst := some 13, op := Op.move (Operand.tmp 0), type := 48, pos := "law.go:92", after := #[], guard := none }) (v := ?_) rfl (by kernel_rfl) (by kernel_rfl) (by kernel_rfl) (fun _ _ _ h => h) (Or.inl ⟨by rfl, ?_⟩) (by assumption) ?_
  rotate_left
  · intro w hSw
    clear hSw
    go_simp
    all_goals with_reducible rfl
  simp only [Act.put, List.setIfInBounds_toArray, List.set_cons_zero, List.set_cons_succ]
  refine wpAnyH_take (i := 5) (oi := { dst := some 14, op := Op.nilCheck (Operand.tmp 13), type := 0, pos := "law.go:92", after := #[{ on := 4, ground := Ground.data }], guard := none }) (v := ?_) rfl (by kernel_rfl) (by kernel_rfl) (by kernel_rfl) (fun _ _ _ h => h) (Or.inl ⟨by rfl, ?_⟩) (by assumption) ?_
  rotate_left
  · intro w hSw
    clear hSw
    go_simp
    all_goals with_reducible rfl
  simp only [Act.put, List.setIfInBounds_toArray, List.set_cons_zero, List.set_cons_succ]
  refine wpAnyH_take (i := 6) (oi := { dst := some 15, op := Op.fieldAddr 50 (Operand.tmp 14) 3, type := 0, pos := "law.go:92", after := #[{ on := 5, ground := Ground.data }], guard := none }) (v := ?_) rfl (by kernel_rfl) (by kernel_rfl) (by kernel_rfl) (fun _ _ _ h => h) (Or.inl ⟨by rfl, ?_⟩) (by assumption) ?_
  rotate_left
  · intro w hSw
    clear hSw
    go_simp
    all_goals with_reducible rfl
  simp only [Act.put, List.setIfInBounds_toArray, List.set_cons_zero, List.set_cons_succ]
  refine wpAnyH_take (i := 7) (oi := { dst := some 16, op := Op.load 36 (Operand.tmp 15), type := 36, pos := "law.go:92", after := #[{ on := 6, ground := Ground.data }], guard := none }) (v := ?_) rfl (by kernel_rfl) (by kernel_rfl) (by kernel_rfl) (fun _ _ _ h => h) (Or.inl ⟨by rfl, ?_⟩) (by assumption) ?_
  rotate_left
  · intro w hSw
    obtain ⟨-, -, -, c3, c4, c5, -, -⟩ := wc_cells hSw
    clear hSw
    go_simp
    all_goals with_reducible rfl
  simp only [Act.put, List.setIfInBounds_toArray, List.set_cons_zero, List.set_cons_succ]
  refine wpAnyH_ready (rs := [8]) (by kernel_rfl) (by simp) ?_
  refine AllReadyH.cons (o := { dst := some 17, op := Op.call { callee := Callee.value (Operand.func 14), args := #[Operand.tmp 12, Operand.tmp 16], argTypes := #[22, 36] }, type := 0, pos := "law.go:92", after := #[{ on := 3, ground := Ground.data }, { on := 7, ground := Ground.data }], guard := none }) rfl (fun K hK => ?_) AllReadyH.nil
  go_simp
  refine (crash_any o d (.slice ao KL cp) ⟨ks, torn, bytes⟩ Z1 KD.out.dk.dk KD.out.few (fun W hW => KD.out.cut.below (KD.out.below.trans (hW.below _ KD.out.below.size (fun k hk e => by have := KD.out.ob k e; omega))) (Nat.le_refl _))).mono ?_
  rintro e Z2 ⟨rfl, o1, h2, h3⟩
  have KN := hide (KD.out.crashed h2 h3)
  have L1n := hide (L1d.out.dk h3)
  have L2n := hide (L2d.out.dk h3)
  have hpn : o1.ptr = o.ptr := by unfold Ow.ptr; rw [h3.g]
  have a2 : Z2.heap[gw]? = some (.cells (wcells o g lr (.slice ao KL cp) torn bytes again true) 50 (0, 0)) := by have := KN.out.row; unfold wcells at this ⊢; rw [← hpn]; exact this
  clear hHeld h2 h3 KD L1d L2d
  refine hK.out _ _ a2 (fun hHeld => ?_)
  clear hK K
  try simp only [Act.put, List.setIfInBounds_toArray, List.set_cons_zero, List.set_cons_succ]
  clear a2 hpn
  refine wpAnyH_done (by kernel_rfl) ?_ _
  refine NoPanic.normal ?_
  clear hHeld
  obtain ⟨d1, hd1⟩ : ∃ d1, d1 = d.crash ⟨ks, torn, bytes⟩ := ⟨_, rfl⟩
  have hd1l : d1.left = none := by rw [hd1]; rfl
  rw [← hd1] at KN
  clear hd1
  have c6 := (wc_cells KN.out.row).2.2.2.2.2.2.1
  go_upto_if 22 with fail
  go_cut [] (fun wx => ∃ o3 d3, d3.left = none ∧ Ka w0 wx gw gk gd X o3 d3 g p t ss rs rs' lr (.slice ao KL cp) torn bytes again ks ∧ LsOf wx (fun k => o3.has k ∨ k = gw) lr vs rs ∧ LsOf wx (fun k => o3.has k ∨ k = gw) wd vs' rs')
  case first =>
    by_cases hag : 0 ≤ again
    · go_upto_region 3 with fail
      clear c6
      refine wp_region_noPanic ?_
      refine wp_region_held_drew (S := (fun W => W.heap[gw]? = some (.cells (wcells o1 g lr (.slice ao KL cp) torn bytes again true) 50 (0, 0)))) follows KN.out.row (fun hHeld => ?_)
      have KD := hide (KN.out.then (Below.refl Z2.heap.size Z2).drew)
      have L1d := hide (L1n.out.below (Below.refl Z2.heap.size Z2).drew)
      have L2d := hide (L2n.out.below (Below.refl Z2.heap.size Z2).drew)
      clear KN L1n L2n
      generalize Z2.drew = Z3 at KD L1d L2d hHeld ⊢
      refine wpAnyH_take (i := 0) (oi := { dst := some 23, op := Op.move (Operand.tmp 0), type := 48, pos := "law.go:94", after := #[], guard := none }) (v := ?_) rfl (by kernel_rfl) (by kernel_rfl) (by kernel_rfl) (fun _ _ _ h => h) (Or.inl ⟨by rfl, ?_⟩) (by assumption) ?_
      rotate_left
      · intro w hSw
        clear hSw
        go_simp
        all_goals with_reducible rfl
      simp only [Act.put, List.setIfInBounds_toArray, List.set_cons_zero, List.set_cons_succ]
      refine wpAnyH_take (i := 1) (oi := { dst := some 24, op := Op.nilCheck (Operand.tmp 23), type := 0, pos := "law.go:94", after := #[{ on := 0, ground := Ground.data }], guard := none }) (v := ?_) rfl (by kernel_rfl) (by kernel_rfl) (by kernel_rfl) (fun _ _ _ h => h) (Or.inl ⟨by rfl, ?_⟩) (by assumption) ?_
      rotate_left
      · intro w hSw
        clear hSw
        go_simp
        all_goals with_reducible rfl
      simp only [Act.put, List.setIfInBounds_toArray, List.set_cons_zero, List.set_cons_succ]
      refine wpAnyH_take (i := 2) (oi := { dst := some 25, op := Op.fieldAddr 50 (Operand.tmp 24) 0, type := 0, pos := "law.go:94", after := #[{ on := 1, ground := Ground.data }], guard := none }) (v := ?_) rfl (by kernel_rfl) (by kernel_rfl) (by kernel_rfl) (fun _ _ _ h => h) (Or.inl ⟨by rfl, ?_⟩) (by assumption) ?_
      rotate_left
      · intro w hSw
        clear hSw
        go_simp
        all_goals with_reducible rfl
      simp only [Act.put, List.setIfInBounds_toArray, List.set_cons_zero, List.set_cons_succ]
      refine wpAnyH_take (i := 3) (oi := { dst := some 26, op := Op.load 22 (Operand.tmp 25), type := 22, pos := "law.go:94", after := #[{ on := 2, ground := Ground.data }], guard := none }) (v := ?_) rfl (by kernel_rfl) (by kernel_rfl) (by kernel_rfl) (fun _ _ _ h => h) (Or.inl ⟨by rfl, ?_⟩) (by assumption) ?_
      rotate_left
      · intro w hSw
        have c0 := (wc_cells hSw).1
        clear hSw
        go_simp
        all_goals with_reducible rfl
      simp only [Act.put, List.setIfInBounds_toArray, List.set_cons_zero, List.set_cons_succ]
      refine wpAnyH_take (i := 4) (oi := { dst := some 27, op := Op.move (Operand.tmp 0), type := 48, pos := "law.go:94", after := #[], guard := none }) (v := ?_) rfl (by kernel_rfl) (by kernel_rfl) (by kernel_rfl) (fun _ _ _ h => h) (Or.inl ⟨by rfl, ?_⟩) (by assumption) ?_
      rotate_left
      · intro w hSw
        clear hSw
        go_simp
        all_goals with_reducible rfl
      simp only [Act.put, List.setIfInBounds_toArray, List.set_cons_zero, List.set_cons_succ]
      refine wpAnyH_take (i := 5) (oi := { dst := some 28, op := Op.nilCheck (Operand.tmp 27), type := 0, pos := "law.go:94", after := #[{ on := 4, ground := Ground.data }], guard := none }) (v := ?_) rfl (by kernel_rfl) (by kernel_rfl) (by kernel_rfl) (fun _ _ _ h => h) (Or.inl ⟨by rfl, ?_⟩) (by assumption) ?_
      rotate_left
      · intro w hSw
        clear hSw
        go_simp
        all_goals with_reducible rfl
      simp only [Act.put, List.setIfInBounds_toArray, List.set_cons_zero, List.set_cons_succ]
      refine wpAnyH_take (i := 6) (oi := { dst := some 29, op := Op.fieldAddr 50 (Operand.tmp 28) 4, type := 0, pos := "law.go:94", after := #[{ on := 5, ground := Ground.data }], guard := none }) (v := ?_) rfl (by kernel_rfl) (by kernel_rfl) (by kernel_rfl) (fun _ _ _ h => h) (Or.inl ⟨by rfl, ?_⟩) (by assumption) ?_
      rotate_left
      · intro w hSw
        clear hSw
        go_simp
        all_goals with_reducible rfl
      simp only [Act.put, List.setIfInBounds_toArray, List.set_cons_zero, List.set_cons_succ]
      refine wpAnyH_take (i := 7) (oi := { dst := some 30, op := Op.load 3 (Operand.tmp 29), type := 3, pos := "law.go:94", after := #[{ on := 6, ground := Ground.data }], guard := none }) (v := ?_) rfl (by kernel_rfl) (by kernel_rfl) (by kernel_rfl) (fun _ _ _ h => h) (Or.inl ⟨by rfl, ?_⟩) (by assumption) ?_
      rotate_left
      · intro w hSw
        obtain ⟨-, -, -, -, -, -, c6, -⟩ := wc_cells hSw
        clear hSw
        go_simp
        all_goals with_reducible rfl
      simp only [Act.put, List.setIfInBounds_toArray, List.set_cons_zero, List.set_cons_succ]
      refine wpAnyH_ready (rs := [8]) (by kernel_rfl) (by simp) ?_
      refine AllReadyH.cons (o := { dst := some 31, op := Op.call { callee := Callee.value (Operand.func 12), args := #[Operand.tmp 26, Operand.tmp 30], argTypes := #[22, 3] }, type := 0, pos := "law.go:94", after := #[{ on := 3, ground := Ground.data }, { on := 7, ground := Ground.data }], guard := none }) rfl (fun K hK => ?_) AllReadyH.nil
      go_simp
      refine (stop_any o1 d1 again Z3 KD.out.dk.dk KD.out.ag).mono ?_
      rintro e Z4 ⟨rfl, o2, h2, h3⟩
      have KS := hide (KD.out.to h2 h3 rfl KD.out.pend)
      have L1 := hide (L1d.out.dk h3)
      have L2 := hide (L2d.out.dk h3)
      have hpn : o2.ptr = o1.ptr := by unfold Ow.ptr; rw [h3.g]
      have a2 : Z4.heap[gw]? = some (.cells (wcells o1 g lr (.slice ao KL cp) torn bytes again true) 50 (0, 0)) := by have := KS.out.row; unfold wcells at this ⊢; rw [← hpn]; exact this
      clear hHeld h2 h3 KD L1d L2d
      refine hK.out _ _ a2 (fun hHeld => ?_)
      clear hK K
      try simp only [Act.put, List.setIfInBounds_toArray, List.set_cons_zero, List.set_cons_succ]
      clear a2 hpn
      refine wpAnyH_done (by kernel_rfl) ?_ _
      refine NoPanic.normal ?_
      clear hHeld
      have c0 := (wc_cells KS.out.row).1
      obtain ⟨p2, t2, rs2, hg2⟩ : ∃ p2 t2 rs2, S.Good (d1.stop again).safe 3 50 p2 t2 rs2 := by
        rcases KS.out.may.log with h | h
        · exact ⟨_, _, _, h⟩
        · exact ⟨_, _, _, h⟩
      have HG2 := hide hg2
      clear hg2
      go_wp2_with fail
      refine (open_go w0 Z4 o2 (d1.stop again) 3 50 p2 t2 rs2 KS.out.dk KS.out.pend HG2.out KS.out.ob KS.out.below KS.out.pos).mono ?_
      rintro e w3 ⟨g3, tv3, rfl, hlo3, hg3, ht3, b3⟩
      have KS3 := hide (KS.out.then b3)
      have L13 := hide (L1.out.below b3)
      have L23 := hide (L2.out.below b3)
      clear hlo3 hg3 ht3 b3 c0 KS L1 L2
      have KS := KS3
      have L1 := L13
      have L2 := L23
      clear KS3 L13 L23
      go_upto_region 7 with fail
      refine wp_region_noPanic ?_
      refine wp_region_held_drew (S := (fun W => W.heap[gw]? = some (.cells (wcells o2 g lr (.slice ao KL cp) torn bytes again true) 50 (0, 0)))) follows KS.out.row (fun hHeld => ?_)
      have KD := hide (KS.out.then (Below.refl w3.heap.size w3).drew)
      have L1d := hide (L1.out.below (Below.refl w3.heap.size w3).drew)
      have L2d := hide (L2.out.below (Below.refl w3.heap.size w3).drew)
      clear KS L1 L2
      generalize w3.drew = Z1 at KD L1d L2d hHeld ⊢
      refine wpAnyH_take (i := 0) (oi := { dst := some 46, op := Op.move (Operand.tmp 0), type := 48, pos := "law.go:99", after := #[], guard := none }) (v := ?_) rfl (by kernel_rfl) (by kernel_rfl) (by kernel_rfl) (fun _ _ _ h => h) (Or.inl ⟨by rfl, ?_⟩) (by assumption) ?_
      rotate_left
      · intro w hSw
        clear hSw
        go_simp
        all_goals with_reducible rfl
      simp only [Act.put, List.setIfInBounds_toArray, List.set_cons_zero, List.set_cons_succ]
      refine wpAnyH_take (i := 1) (oi := { dst := some 47, op := Op.nilCheck (Operand.tmp 46), type := 0, pos := "law.go:99", after := #[{ on := 0, ground := Ground.data }], guard := none }) (v := ?_) rfl (by kernel_rfl) (by kernel_rfl) (by kernel_rfl) (fun _ _ _ h => h) (Or.inl ⟨by rfl, ?_⟩) (by assumption) ?_
      rotate_left
      · intro w hSw
        clear hSw
        go_simp
        all_goals with_reducible rfl
      simp only [Act.put, List.setIfInBounds_toArray, List.set_cons_zero, List.set_cons_succ]
      refine wpAnyH_take (i := 2) (oi := { dst := some 48, op := Op.fieldAddr 50 (Operand.tmp 47) 0, type := 0, pos := "law.go:99", after := #[{ on := 1, ground := Ground.data }], guard := none }) (v := ?_) rfl (by kernel_rfl) (by kernel_rfl) (by kernel_rfl) (fun _ _ _ h => h) (Or.inl ⟨by rfl, ?_⟩) (by assumption) ?_
      rotate_left
      · intro w hSw
        clear hSw
        go_simp
        all_goals with_reducible rfl
      simp only [Act.put, List.setIfInBounds_toArray, List.set_cons_zero, List.set_cons_succ]
      refine wpAnyH_take (i := 3) (oi := { dst := some 49, op := Op.load 22 (Operand.tmp 48), type := 22, pos := "law.go:99", after := #[{ on := 2, ground := Ground.data }], guard := none }) (v := ?_) rfl (by kernel_rfl) (by kernel_rfl) (by kernel_rfl) (fun _ _ _ h => h) (Or.inl ⟨by rfl, ?_⟩) (by assumption) ?_
      rotate_left
      · intro w hSw
        have c0 := (wc_cells hSw).1
        clear hSw
        go_simp
        all_goals with_reducible rfl
      simp only [Act.put, List.setIfInBounds_toArray, List.set_cons_zero, List.set_cons_succ]
      refine wpAnyH_take (i := 4) (oi := { dst := some 50, op := Op.move (Operand.tmp 0), type := 48, pos := "law.go:99", after := #[], guard := none }) (v := ?_) rfl (by kernel_rfl) (by kernel_rfl) (by kernel_rfl) (fun _ _ _ h => h) (Or.inl ⟨by rfl, ?_⟩) (by assumption) ?_
      rotate_left
      · intro w hSw
        clear hSw
        go_simp
        all_goals with_reducible rfl
      simp only [Act.put, List.setIfInBounds_toArray, List.set_cons_zero, List.set_cons_succ]
      refine wpAnyH_take (i := 5) (oi := { dst := some 51, op := Op.nilCheck (Operand.tmp 50), type := 0, pos := "law.go:99", after := #[{ on := 4, ground := Ground.data }], guard := none }) (v := ?_) rfl (by kernel_rfl) (by kernel_rfl) (by kernel_rfl) (fun _ _ _ h => h) (Or.inl ⟨by rfl, ?_⟩) (by assumption) ?_
      rotate_left
      · intro w hSw
        clear hSw
        go_simp
        all_goals with_reducible rfl
      simp only [Act.put, List.setIfInBounds_toArray, List.set_cons_zero, List.set_cons_succ]
      refine wpAnyH_take (i := 6) (oi := { dst := some 52, op := Op.fieldAddr 50 (Operand.tmp 51) 3, type := 0, pos := "law.go:99", after := #[{ on := 5, ground := Ground.data }], guard := none }) (v := ?_) rfl (by kernel_rfl) (by kernel_rfl) (by kernel_rfl) (fun _ _ _ h => h) (Or.inl ⟨by rfl, ?_⟩) (by assumption) ?_
      rotate_left
      · intro w hSw
        clear hSw
        go_simp
        all_goals with_reducible rfl
      simp only [Act.put, List.setIfInBounds_toArray, List.set_cons_zero, List.set_cons_succ]
      refine wpAnyH_take (i := 7) (oi := { dst := some 53, op := Op.load 36 (Operand.tmp 52), type := 36, pos := "law.go:99", after := #[{ on := 6, ground := Ground.data }], guard := none }) (v := ?_) rfl (by kernel_rfl) (by kernel_rfl) (by kernel_rfl) (fun _ _ _ h => h) (Or.inl ⟨by rfl, ?_⟩) (by assumption) ?_
      rotate_left
      · intro w hSw
        obtain ⟨-, -, -, c3, c4, c5, -, -⟩ := wc_cells hSw
        clear hSw
        go_simp
        all_goals with_reducible rfl
      simp only [Act.put, List.setIfInBounds_toArray, List.set_cons_zero, List.set_cons_succ]
      refine wpAnyH_ready (rs := [8]) (by kernel_rfl) (by simp) ?_
      refine AllReadyH.cons (o := { dst := some 54, op := Op.call { callee := Callee.value (Operand.func 14), args := #[Operand.tmp 49, Operand.tmp 53], argTypes := #[22, 36] }, type := 0, pos := "law.go:99", after := #[{ on := 3, ground := Ground.data }, { on := 7, ground := Ground.data }], guard := none }) rfl (fun K hK => ?_) AllReadyH.nil
      go_simp
      refine (crash_any o2 (d1.stop again) (.slice ao KL cp) ⟨ks, torn, bytes⟩ Z1 KD.out.dk.dk (by have := KD.out.pend; rw [this]; simp) (fun W hW => KD.out.cut.below (KD.out.below.trans (hW.below _ KD.out.below.size (fun k hk e => by have := KD.out.ob k e; omega))) (Nat.le_refl _))).mono ?_
      rintro e Z2 ⟨rfl, o3, h2, h3⟩
      have KN := hide (KD.out.crashed h2 h3)
      have L1n := hide (L1d.out.dk h3)
      have L2n := hide (L2d.out.dk h3)
      have hpn : o3.ptr = o2.ptr := by unfold Ow.ptr; rw [h3.g]
      have a2 : Z2.heap[gw]? = some (.cells (wcells o2 g lr (.slice ao KL cp) torn bytes again true) 50 (0, 0)) := by have := KN.out.row; unfold wcells at this ⊢; rw [← hpn]; exact this
      clear hHeld h2 h3 KD L1d L2d
      refine hK.out _ _ a2 (fun hHeld => ?_)
      clear hK K
      try simp only [Act.put, List.setIfInBounds_toArray, List.set_cons_zero, List.set_cons_succ]
      clear a2 hpn
      refine wpAnyH_done (by kernel_rfl) ?_ _
      refine NoPanic.normal ?_
      clear hHeld
      go_wp2_with fail
      go_meet
      exact ⟨o3, _, rfl, KN.out, L1n.out, L2n.out⟩
    · go_wp2_with fail
      go_meet
      exact ⟨o1, d1, hd1l, KN.out, L1n.out, L2n.out⟩
  case rest =>
  obtain ⟨o5, d5, hd5l, hka, hl1, hl2⟩ := hcut
  clear c6 KN L1n L2n hd1l
  have KA := hide hka
  have L1 := hide hl1
  have L2 := hide hl2
  clear hka hl1 hl2
  obtain ⟨p2, t2, rs2, hg2, hother, ht2⟩ : ∃ p2 t2 rs2, S.Good d5.safe 3 50 p2 t2 rs2 ∧ (rs2 = rs ∨ rs2 = rs') ∧ t2 ≤ t + 1 := by
    rcases KA.out.may.log with h | h
    · exact ⟨_, _, _, h, Or.inl rfl, by omega⟩
    · exact ⟨_, _, _, h, Or.inr rfl, by omega⟩
  have HG2 := hide hg2
  have HEN : Hid ((S.enc rs2).length ≤ 10000000) := by have h1 := hg2.room; have h2 := S.room_le hg2.most; show (S.enc rs2).length ≤ _; omega
  have HFEW : Hid (rs2.length ≤ 1000000) := by have h1 := hg2.room; have h2 := S.room_le hg2.most; have := len_lt rs2; show rs2.length ≤ _; omega
  have HNE2 : Hid (∀ r ∈ rs2, r ≠ []) := by
    rcases hother with e | e
    · rw [e]; exact KA.out.ne
    · rw [e]; exact KA.out.ne'
  clear hg2
  have c0 := (wc_cells KA.out.row).1
  go_wp2_with fail
  refine (open_go w0 wc o5 d5 3 50 p2 t2 rs2 KA.out.dk KA.out.pend HG2.out KA.out.ob KA.out.below KA.out.pos).mono ?_
  rintro e w5 ⟨g5, tv5, rfl, hlo5, hg5, ht5, b5⟩
  have LO5 := hide hlo5
  have KA5 := hide (KA.out.then b5)
  have L15 := hide (L1.out.below b5)
  have L25 := hide (L2.out.below b5)
  have hgwl := block_lt_of_row KA.out.row
  have hgkl := block_lt_of_row KA.out.bk
  have PT5 : Hid (o5.g = gd) := KA.out.pt
  have BQ5 : Hid (¬ (o5.has gk ∨ gk = g5 ∨ tv5.ownBlock = some gk) ∧ gk ≠ gw) := ⟨fun e => by
    rcases e with e | e | e
    · exact KA.out.bq.1 e
    · omega
    · have := ht5 _ e; omega, KA.out.bq.2⟩
  have G5 : Hid (gw ≠ g5 ∧ tv5.ownBlock ≠ some gw) := ⟨by omega, fun e => by have := ht5 _ e; omega⟩
  have Q5 : Hid (∀ k, Qk o5 g5 tv5 gw k → (o5.has k ∨ k = gw) ∨ wc.heap.size ≤ k) := fun k e => by
    rcases e with e | e | e | e
    · exact Or.inl (Or.inl e)
    · exact Or.inr (by omega)
    · exact Or.inr (ht5 k e)
    · exact Or.inl (Or.inr e)
  clear hlo5 hg5 ht5 b5 c0 KA L1 L2 hgwl hgkl
  have f7 := frozen_of_row _ _ 7 _ _ KA5.out.row
  have c7 := (wc_cells KA5.out.row).2.2.2.2.2.2.2
  obtain ⟨w6, hw6⟩ : ∃ w6, w6 = w5.setCell ⟨gw, 7, none⟩ (.bool false) := ⟨_, rfl⟩
  have C6 : Hid (Chg (fun k => k = gw) w5 w6) := by rw [hw6]; exact Chg.one gw 7 _ rfl
  have RW6 : Hid (w6.heap[gw]? = some (.cells (wcells o5 g lr (.slice ao KL cp) torn bytes again false) 50 (0, 0))) := by rw [hw6]; exact wc_set7 KA5.out.row false
  have NG : Hid (∀ k, (o5.has k ∨ k = g5 ∨ tv5.ownBlock = some k ∨ k < w0.heap.size) → ¬ k = gw) := fun k hk e => by
    subst e
    rcases hk with hk | hk | hk | hk
    · exact KA5.out.sep hk
    · exact G5.out.1 hk
    · exact G5.out.2 hk
    · have := KA5.out.gwb; omega
  have LO6 := hide (LO5.out.chg C6.out NG.out)
  have L16 : Hid (LsOf w6 (fun k => o5.has k ∨ k = gw) lr vs rs) := L15.out.chg (C6.out.mono fun _ _ e => Or.inr e) (fun _ e => Or.inl e)
  have L26 : Hid (LsOf w6 (fun k => o5.has k ∨ k = gw) wd vs' rs') := L25.out.chg (C6.out.mono fun _ _ e => Or.inr e) (fun _ e => Or.inl e)
  have FIX : Hid (d5.safe.length = 60 ∧ d5.safe.getD 0 [] = X ∧ d5.safe.getD 59 [] = X ∧ w0.heap.size ≤ gw ∧ BoolsAt w0 (.slice ao KL cp) ks ∧ again ≤ 9223372036854775807) := ⟨by rw [KA5.out.may.len]; exact KA5.out.len, by rw [KA5.out.may.stay 0 (Or.inl (by omega))]; exact KA5.out.lo0, by rw [KA5.out.may.stay 59 (Or.inr (by omega))]; exact KA5.out.hi0, KA5.out.gwb, KA5.out.cut, KA5.out.ag⟩
  have SEP : Hid (¬ (o5.has gw ∨ gw = g5 ∨ tv5.ownBlock = some gw)) := fun e => by
    rcases e with e | e | e
    · exact KA5.out.sep e
    · exact G5.out.1 e
    · exact G5.out.2 e
  have RWk := RW6
  have LOk := LO6
  have BK6 : Hid (w6.heap[gk]? = some (.cells (S.v8 X) 5 (0, 0))) := C6.out.row KA5.out.bk KA5.out.bq.2
  clear LO5 L15 L25 KA5 C6 G5 HG2 Q5
  go_upto_region 10 with fail
  rw [← hw6]
  clear hw6 f7 c7
  go_cut [88] (fun v wx => v = .bool false ∧ Below w6.heap.size w6 wx)
  case first =>
    by_cases hcase : rs2 = rs
    ·
      refine wp_region_noPanic ?_
      refine wp_region_held_drew (S := (fun W => W.heap[gw]? = some (.cells (wcells o5 g lr (.slice ao KL cp) torn bytes again false) 50 (0, 0)))) follows RW6.out (fun hHeld => ?_)
      have LOd := hide (LO6.out.then (Below.refl w6.heap.size w6).drew)
      have LA := hide (L16.out.below (Below.refl w6.heap.size w6).drew)
      have LB := hide (L26.out.below (Below.refl w6.heap.size w6).drew)
      have B0 : Hid (Below w6.heap.size w6 w6.drew) := (Below.refl _ _).drew
      clear LO6 L16 L26 RW6
      generalize w6.drew = Z1 at LOd LA LB B0 hHeld ⊢
      refine wpAnyH_take (i := 0) (oi := { dst := some 66, op := Op.move (Operand.tmp 8), type := 27, pos := "law.go:103", after := #[], guard := none }) (v := ?_) rfl (by kernel_rfl) (by kernel_rfl) (by kernel_rfl) (fun _ _ _ h => h) (Or.inl ⟨by rfl, ?_⟩) (by assumption) ?_
      rotate_left
      · intro w hSw
        clear hSw
        go_simp
        all_goals with_reducible rfl
      simp only [Act.put, List.setIfInBounds_toArray, List.set_cons_zero, List.set_cons_succ]
      refine wpAnyH_take (i := 1) (oi := { dst := some 67, op := Op.binOp BinOp.neq 27 (Operand.tmp 66) (Operand.const (Value.int IntKind.i64 0)) 27, type := 4, pos := "law.go:103", after := #[{ on := 0, ground := Ground.data }], guard := none }) (v := ?_) rfl (by kernel_rfl) (by kernel_rfl) (by kernel_rfl) (fun _ _ _ h => h) (Or.inl ⟨by rfl, ?_⟩) (by assumption) ?_
      rotate_left
      · intro w hSw
        clear hSw
        go_simp
        all_goals with_reducible rfl
      simp only [Act.put, List.setIfInBounds_toArray, List.set_cons_zero, List.set_cons_succ]
      refine wpAnyH_take (i := 2) (oi := { dst := some 68, op := Op.move (Operand.tmp 67), type := 4, pos := "law.go:103", after := #[{ on := 1, ground := Ground.data }], guard := none }) (v := ?_) rfl (by kernel_rfl) (by kernel_rfl) (by kernel_rfl) (fun _ _ _ h => h) (Or.inl ⟨by rfl, ?_⟩) (by assumption) ?_
      rotate_left
      · intro w hSw
        clear hSw
        go_simp
        all_goals with_reducible rfl
      simp only [Act.put, List.setIfInBounds_toArray, List.set_cons_zero, List.set_cons_succ]
      refine wpAnyH_take (i := 3) (oi := { dst := some 69, op := Op.move (Operand.tmp 7), type := 23, pos := "law.go:103", after := #[{ on := 2, ground := Ground.guard }], guard := some (2, false) }) (v := ?_) rfl (by kernel_rfl) (by kernel_rfl) (by kernel_rfl) (fun _ _ _ h => h) (Or.inl ⟨by rfl, ?_⟩) (by assumption) ?_
      rotate_left
      · intro w hSw
        clear hSw
        go_simp
        all_goals with_reducible rfl
      simp only [Act.put, List.setIfInBounds_toArray, List.set_cons_zero, List.set_cons_succ]
      refine wpAnyH_take (i := 4) (oi := { dst := some 70, op := Op.binOp BinOp.eql 23 (Operand.tmp 69) (Operand.const (Value.pointer none)) 23, type := 4, pos := "law.go:103", after := #[{ on := 3, ground := Ground.data }, { on := 2, ground := Ground.guard }], guard := some (2, false) }) (v := ?_) rfl (by kernel_rfl) (by kernel_rfl) (by kernel_rfl) (fun _ _ _ h => h) (Or.inl ⟨by rfl, ?_⟩) (by assumption) ?_
      rotate_left
      · intro w hSw
        clear hSw
        go_simp
        all_goals with_reducible rfl
      simp only [Act.put, List.setIfInBounds_toArray, List.set_cons_zero, List.set_cons_succ]
      refine wpAnyH_take (i := 5) (oi := { dst := some 71, op := Op.pick (Operand.tmp 68) (Operand.const (Value.bool true)) (Operand.tmp 70), type := 4, pos := "law.go:103", after := #[{ on := 2, ground := Ground.data }, { on := 4, ground := Ground.data }], guard := none }) (v := ?_) rfl (by kernel_rfl) (by kernel_rfl) (by kernel_rfl) (fun _ _ _ h => h) (Or.inl ⟨by rfl, ?_⟩) (by assumption) ?_
      rotate_left
      · intro w hSw
        clear hSw
        go_simp
        all_goals with_reducible rfl
      simp only [Act.put, List.setIfInBounds_toArray, List.set_cons_zero, List.set_cons_succ]
      refine wpAnyH_take (i := 6) (oi := { dst := some 72, op := Op.move (Operand.tmp 71), type := 4, pos := "law.go:103", after := #[{ on := 5, ground := Ground.data }, { on := 2, ground := Ground.chain }], guard := none }) (v := ?_) rfl (by kernel_rfl) (by kernel_rfl) (by kernel_rfl) (fun _ _ _ h => h) (Or.inl ⟨by rfl, ?_⟩) (by assumption) ?_
      rotate_left
      · intro w hSw
        clear hSw
        go_simp
        all_goals with_reducible rfl
      simp only [Act.put, List.setIfInBounds_toArray, List.set_cons_zero, List.set_cons_succ]
      refine wpAnyH_take (i := 7) (oi := { dst := some 73, op := Op.move (Operand.tmp 7), type := 23, pos := "law.go:103", after := #[{ on := 6, ground := Ground.guard }], guard := some (6, false) }) (v := ?_) rfl (by kernel_rfl) (by kernel_rfl) (by kernel_rfl) (fun _ _ _ h => h) (Or.inl ⟨by rfl, ?_⟩) (by assumption) ?_
      rotate_left
      · intro w hSw
        clear hSw
        go_simp
        all_goals with_reducible rfl
      simp only [Act.put, List.setIfInBounds_toArray, List.set_cons_zero, List.set_cons_succ]
      refine wpAnyH_take (i := 9) (oi := { dst := some 75, op := Op.move (Operand.tmp 0), type := 48, pos := "law.go:103", after := #[{ on := 6, ground := Ground.guard }], guard := some (6, false) }) (v := ?_) rfl (by kernel_rfl) (by kernel_rfl) (by kernel_rfl) (fun _ _ _ h => h) (Or.inl ⟨by rfl, ?_⟩) (by assumption) ?_
      rotate_left
      · intro w hSw
        clear hSw
        go_simp
        all_goals with_reducible rfl
      simp only [Act.put, List.setIfInBounds_toArray, List.set_cons_zero, List.set_cons_succ]
      refine wpAnyH_take (i := 10) (oi := { dst := some 76, op := Op.nilCheck (Operand.tmp 75), type := 0, pos := "law.go:103", after := #[{ on := 9, ground := Ground.data }, { on := 6, ground := Ground.guard }], guard := some (6, false) }) (v := ?_) rfl (by kernel_rfl) (by kernel_rfl) (by kernel_rfl) (fun _ _ _ h => h) (Or.inl ⟨by rfl, ?_⟩) (by assumption) ?_
      rotate_left
      · intro w hSw
        clear hSw
        go_simp
        all_goals with_reducible rfl
      simp only [Act.put, List.setIfInBounds_toArray, List.set_cons_zero, List.set_cons_succ]
      refine wpAnyH_take (i := 11) (oi := { dst := some 77, op := Op.fieldAddr 50 (Operand.tmp 76) 2, type := 0, pos := "law.go:103", after := #[{ on := 10, ground := Ground.data }, { on := 6, ground := Ground.guard }], guard := some (6, false) }) (v := ?_) rfl (by kernel_rfl) (by kernel_rfl) (by kernel_rfl) (fun _ _ _ h => h) (Or.inl ⟨by rfl, ?_⟩) (by assumption) ?_
      rotate_left
      · intro w hSw
        clear hSw
        go_simp
        all_goals with_reducible rfl
      simp only [Act.put, List.setIfInBounds_toArray, List.set_cons_zero, List.set_cons_succ]
      refine wpAnyH_take (i := 12) (oi := { dst := some 78, op := Op.load 31 (Operand.tmp 77), type := 31, pos := "law.go:103", after := #[{ on := 11, ground := Ground.data }, { on := 6, ground := Ground.guard }], guard := some (6, false) }) (v := ?_) rfl (by kernel_rfl) (by kernel_rfl) (by kernel_rfl) (fun _ _ _ h => h) (Or.inl ⟨by rfl, ?_⟩) (by assumption) ?_
      rotate_left
      · intro w hSw
        have c2 := (wc_cells hSw).2.2.1
        clear hSw
        go_simp
        all_goals with_reducible rfl
      simp only [Act.put, List.setIfInBounds_toArray, List.set_cons_zero, List.set_cons_succ]
      refine wpAnyH_ready (rs := [8]) (by kernel_rfl) (by simp) ?_
      refine AllReadyH.cons (o := { dst := some 74, op := Op.call { callee := Callee.value (Operand.func 13), args := #[Operand.tmp 73], argTypes := #[23] }, type := 31, pos := "law.go:103", after := #[{ on := 7, ground := Ground.data }, { on := 6, ground := Ground.chain }, { on := 6, ground := Ground.guard }], guard := some (6, false) }) rfl (fun K hK => ?_) AllReadyH.nil
      go_simp
      refine (records_go w0 Z1 o5 d5 g5 3 50 p2 t2 rs2 tv5 LOd.out HNE2.out).mono ?_
      rintro e Z2 ⟨lv, us, rfl, hrec, b2⟩
      have a2 : Z2.heap[gw]? = some (.cells (wcells o5 g lr (.slice ao KL cp) torn bytes again false) 50 (0, 0)) := (b2.block gw (block_lt_of_row hHeld)).trans hHeld
      have LR := hide (hrec.ls HEN.out)
      have LOe := hide (LOd.out.then b2)
      have LAe := hide (LA.out.below b2)
      have LBe := hide (LB.out.below b2)
      have B2 := hide (B0.out.trans (b2.mono B0.out.size))
      clear hHeld hrec b2 LOd LA LB B0
      refine hK.out _ _ a2 (fun hHeld => ?_)
      clear hK K
      try simp only [Act.put, List.setIfInBounds_toArray, List.set_cons_zero, List.set_cons_succ]
      clear a2
      refine wpAnyH_ready (rs := [13]) (by kernel_rfl) (by simp) ?_
      refine AllReadyH.cons (o := { dst := some 79, op := Op.call { callee := Callee.value (Operand.func 17), args := #[Operand.tmp 74, Operand.tmp 78], argTypes := #[31, 31] }, type := 4, pos := "law.go:103", after := #[{ on := 8, ground := Ground.data }, { on := 12, ground := Ground.data }, { on := 8, ground := Ground.chain }, { on := 6, ground := Ground.guard }], guard := some (6, false) }) rfl (fun K hK => ?_) AllReadyH.nil
      go_simp
      refine (sameL_any _ _ _ _ Z2 LR.out LAe.out.now HFEW.out).mono ?_
      rintro e Z3 ⟨rfl, st⟩
      rw [decide_eq_true hcase]
      have b3 := st.below Z2.heap.size
      have a3 : Z3.heap[gw]? = some (.cells (wcells o5 g lr (.slice ao KL cp) torn bytes again false) 50 (0, 0)) := (b3.block gw (block_lt_of_row hHeld)).trans hHeld
      have B3 := hide (B2.out.trans (b3.mono B2.out.size))
      clear hHeld st b3 LOe LAe LBe B2 LR
      refine hK.out _ _ a3 (fun hHeld => ?_)
      clear hK K
      try simp only [Act.put, List.setIfInBounds_toArray, List.set_cons_zero, List.set_cons_succ]
      clear a3
      refine wpAnyH_take (i := 14) (oi := { dst := some 80, op := Op.unOp UnOp.not 4 (Operand.tmp 79), type := 4, pos := "law.go:103", after := #[{ on := 13, ground := Ground.data }, { on := 6, ground := Ground.guard }], guard := some (6, false) }) (v := ?_) rfl (by kernel_rfl) (by kernel_rfl) (by kernel_rfl) (fun _ _ _ h => h) (Or.inl ⟨by rfl, ?_⟩) (by assumption) ?_
      rotate_left
      · intro w hSw
        clear hSw
        go_simp
        all_goals with_reducible rfl
      simp only [Act.put, List.setIfInBounds_toArray, List.set_cons_zero, List.set_cons_succ]
      refine wpAnyH_take (i := 15) (oi := { dst := some 81, op := Op.move (Operand.tmp 80), type := 4, pos := "law.go:103", after := #[{ on := 14, ground := Ground.data }, { on := 13, ground := Ground.chain }, { on := 6, ground := Ground.guard }], guard := some (6, false) }) (v := ?_) rfl (by kernel_rfl) (by kernel_rfl) (by kernel_rfl) (fun _ _ _ h => h) (Or.inl ⟨by rfl, ?_⟩) (by assumption) ?_
      rotate_left
      · intro w hSw
        clear hSw
        go_simp
        all_goals with_reducible rfl
      simp only [Act.put, List.setIfInBounds_toArray, List.set_cons_zero, List.set_cons_succ]
      refine wpAnyH_take (i := 16) (oi := { dst := some 82, op := Op.move (Operand.tmp 7), type := 23, pos := "law.go:103", after := #[{ on := 15, ground := Ground.guard }], guard := some (15, true) }) (v := undef) rfl (by kernel_rfl) (by kernel_rfl) (by kernel_rfl) (fun _ _ _ h => h) (Or.inr ⟨by rfl, rfl⟩) (by assumption) ?_
      simp only [Act.put, List.setIfInBounds_toArray, List.set_cons_zero, List.set_cons_succ]
      refine wpAnyH_take (i := 17) (oi := { dst := some 83, op := Op.call { callee := Callee.value (Operand.func 13), args := #[Operand.tmp 82], argTypes := #[23] }, type := 31, pos := "law.go:103", after := #[{ on := 16, ground := Ground.data }, { on := 15, ground := Ground.chain }, { on := 15, ground := Ground.guard }], guard := some (15, true) }) (v := undef) rfl (by kernel_rfl) (by kernel_rfl) (by kernel_rfl) (fun _ _ _ h => h) (Or.inr ⟨by rfl, rfl⟩) (by assumption) ?_
      simp only [Act.put, List.setIfInBounds_toArray, List.set_cons_zero, List.set_cons_succ]
      refine wpAnyH_take (i := 18) (oi := { dst := some 84, op := Op.move (Operand.tmp 1), type := 31, pos := "law.go:103", after := #[{ on := 15, ground := Ground.guard }], guard := some (15, true) }) (v := undef) rfl (by kernel_rfl) (by kernel_rfl) (by kernel_rfl) (fun _ _ _ h => h) (Or.inr ⟨by rfl, rfl⟩) (by assumption) ?_
      simp only [Act.put, List.setIfInBounds_toArray, List.set_cons_zero, List.set_cons_succ]
      refine wpAnyH_take (i := 19) (oi := { dst := some 85, op := Op.call { callee := Callee.value (Operand.func 17), args := #[Operand.tmp 83, Operand.tmp 84], argTypes := #[31, 31] }, type := 4, pos := "law.go:103", after := #[{ on := 17, ground := Ground.data }, { on := 18, ground := Ground.data }, { on := 17, ground := Ground.chain }, { on := 15, ground := Ground.guard }], guard := some (15, true) }) (v := undef) rfl (by kernel_rfl) (by kernel_rfl) (by kernel_rfl) (fun _ _ _ h => h) (Or.inr ⟨by rfl, rfl⟩) (by assumption) ?_
      simp only [Act.put, List.setIfInBounds_toArray, List.set_cons_zero, List.set_cons_succ]
      refine wpAnyH_take (i := 20) (oi := { dst := some 86, op := Op.unOp UnOp.not 4 (Operand.tmp 85), type := 4, pos := "law.go:103", after := #[{ on := 19, ground := Ground.data }, { on := 15, ground := Ground.guard }], guard := some (15, true) }) (v := undef) rfl (by kernel_rfl) (by kernel_rfl) (by kernel_rfl) (fun _ _ _ h => h) (Or.inr ⟨by rfl, rfl⟩) (by assumption) ?_
      simp only [Act.put, List.setIfInBounds_toArray, List.set_cons_zero, List.set_cons_succ]
      refine wpAnyH_take (i := 21) (oi := { dst := some 87, op := Op.pick (Operand.tmp 81) (Operand.tmp 86) (Operand.const (Value.bool false)), type := 4, pos := "law.go:103", after := #[{ on := 15, ground := Ground.data }, { on := 20, ground := Ground.data }, { on := 6, ground := Ground.guard }], guard := some (6, false) }) (v := ?_) rfl (by kernel_rfl) (by kernel_rfl) (by kernel_rfl) (fun _ _ _ h => h) (Or.inl ⟨by rfl, ?_⟩) (by assumption) ?_
      rotate_left
      · intro w hSw
        clear hSw
        go_simp
        all_goals with_reducible rfl
      simp only [Act.put, List.setIfInBounds_toArray, List.set_cons_zero, List.set_cons_succ]
      refine wpAnyH_take (i := 22) (oi := { dst := some 88, op := Op.pick (Operand.tmp 72) (Operand.const (Value.bool true)) (Operand.tmp 87), type := 4, pos := "law.go:103", after := #[{ on := 6, ground := Ground.data }, { on := 21, ground := Ground.data }], guard := none }) (v := ?_) rfl (by kernel_rfl) (by kernel_rfl) (by kernel_rfl) (fun _ _ _ h => h) (Or.inl ⟨by rfl, ?_⟩) (by assumption) ?_
      rotate_left
      · intro w hSw
        clear hSw
        go_simp
        all_goals with_reducible rfl
      simp only [Act.put, List.setIfInBounds_toArray, List.set_cons_zero, List.set_cons_succ]
      refine wpAnyH_done (by kernel_rfl) ?_ _
      refine NoPanic.normal ?_
      clear hHeld
      go_wp2_with fail
      go_meet
      exact ⟨rfl, B3.out⟩
    ·
      refine wp_region_noPanic ?_
      refine wp_region_held_drew (S := (fun W => W.heap[gw]? = some (.cells (wcells o5 g lr (.slice ao KL cp) torn bytes again false) 50 (0, 0)))) follows RW6.out (fun hHeld => ?_)
      have LOd := hide (LO6.out.then (Below.refl w6.heap.size w6).drew)
      have LA := hide (L16.out.below (Below.refl w6.heap.size w6).drew)
      have LB := hide (L26.out.below (Below.refl w6.heap.size w6).drew)
      have B0 : Hid (Below w6.heap.size w6 w6.drew) := (Below.refl _ _).drew
      clear LO6 L16 L26 RW6
      generalize w6.drew = Z1 at LOd LA LB B0 hHeld ⊢
      refine wpAnyH_take (i := 0) (oi := { dst := some 66, op := Op.move (Operand.tmp 8), type := 27, pos := "law.go:103", after := #[], guard := none }) (v := ?_) rfl (by kernel_rfl) (by kernel_rfl) (by kernel_rfl) (fun _ _ _ h => h) (Or.inl ⟨by rfl, ?_⟩) (by assumption) ?_
      rotate_left
      · intro w hSw
        clear hSw
        go_simp
        all_goals with_reducible rfl
      simp only [Act.put, List.setIfInBounds_toArray, List.set_cons_zero, List.set_cons_succ]
      refine wpAnyH_take (i := 1) (oi := { dst := some 67, op := Op.binOp BinOp.neq 27 (Operand.tmp 66) (Operand.const (Value.int IntKind.i64 0)) 27, type := 4, pos := "law.go:103", after := #[{ on := 0, ground := Ground.data }], guard := none }) (v := ?_) rfl (by kernel_rfl) (by kernel_rfl) (by kernel_rfl) (fun _ _ _ h => h) (Or.inl ⟨by rfl, ?_⟩) (by assumption) ?_
      rotate_left
      · intro w hSw
        clear hSw
        go_simp
        all_goals with_reducible rfl
      simp only [Act.put, List.setIfInBounds_toArray, List.set_cons_zero, List.set_cons_succ]
      refine wpAnyH_take (i := 2) (oi := { dst := some 68, op := Op.move (Operand.tmp 67), type := 4, pos := "law.go:103", after := #[{ on := 1, ground := Ground.data }], guard := none }) (v := ?_) rfl (by kernel_rfl) (by kernel_rfl) (by kernel_rfl) (fun _ _ _ h => h) (Or.inl ⟨by rfl, ?_⟩) (by assumption) ?_
      rotate_left
      · intro w hSw
        clear hSw
        go_simp
        all_goals with_reducible rfl
      simp only [Act.put, List.setIfInBounds_toArray, List.set_cons_zero, List.set_cons_succ]
      refine wpAnyH_take (i := 3) (oi := { dst := some 69, op := Op.move (Operand.tmp 7), type := 23, pos := "law.go:103", after := #[{ on := 2, ground := Ground.guard }], guard := some (2, false) }) (v := ?_) rfl (by kernel_rfl) (by kernel_rfl) (by kernel_rfl) (fun _ _ _ h => h) (Or.inl ⟨by rfl, ?_⟩) (by assumption) ?_
      rotate_left
      · intro w hSw
        clear hSw
        go_simp
        all_goals with_reducible rfl
      simp only [Act.put, List.setIfInBounds_toArray, List.set_cons_zero, List.set_cons_succ]
      refine wpAnyH_take (i := 4) (oi := { dst := some 70, op := Op.binOp BinOp.eql 23 (Operand.tmp 69) (Operand.const (Value.pointer none)) 23, type := 4, pos := "law.go:103", after := #[{ on := 3, ground := Ground.data }, { on := 2, ground := Ground.guard }], guard := some (2, false) }) (v := ?_) rfl (by kernel_rfl) (by kernel_rfl) (by kernel_rfl) (fun _ _ _ h => h) (Or.inl ⟨by rfl, ?_⟩) (by assumption) ?_
      rotate_left
      · intro w hSw
        clear hSw
        go_simp
        all_goals with_reducible rfl
      simp only [Act.put, List.setIfInBounds_toArray, List.set_cons_zero, List.set_cons_succ]
      refine wpAnyH_take (i := 5) (oi := { dst := some 71, op := Op.pick (Operand.tmp 68) (Operand.const (Value.bool true)) (Operand.tmp 70), type := 4, pos := "law.go:103", after := #[{ on := 2, ground := Ground.data }, { on := 4, ground := Ground.data }], guard := none }) (v := ?_) rfl (by kernel_rfl) (by kernel_rfl) (by kernel_rfl) (fun _ _ _ h => h) (Or.inl ⟨by rfl, ?_⟩) (by assumption) ?_
      rotate_left
      · intro w hSw
        clear hSw
        go_simp
        all_goals with_reducible rfl
      simp only [Act.put, List.setIfInBounds_toArray, List.set_cons_zero, List.set_cons_succ]
      refine wpAnyH_take (i := 6) (oi := { dst := some 72, op := Op.move (Operand.tmp 71), type := 4, pos := "law.go:103", after := #[{ on := 5, ground := Ground.data }, { on := 2, ground := Ground.chain }], guard := none }) (v := ?_) rfl (by kernel_rfl) (by kernel_rfl) (by kernel_rfl) (fun _ _ _ h => h) (Or.inl ⟨by rfl, ?_⟩) (by assumption) ?_
      rotate_left
      · intro w hSw
        clear hSw
        go_simp
        all_goals with_reducible rfl
      simp only [Act.put, List.setIfInBounds_toArray, List.set_cons_zero, List.set_cons_succ]
      refine wpAnyH_take (i := 7) (oi := { dst := some 73, op := Op.move (Operand.tmp 7), type := 23, pos := "law.go:103", after := #[{ on := 6, ground := Ground.guard }], guard := some (6, false) }) (v := ?_) rfl (by kernel_rfl) (by kernel_rfl) (by kernel_rfl) (fun _ _ _ h => h) (Or.inl ⟨by rfl, ?_⟩) (by assumption) ?_
      rotate_left
      · intro w hSw
        clear hSw
        go_simp
        all_goals with_reducible rfl
      simp only [Act.put, List.setIfInBounds_toArray, List.set_cons_zero, List.set_cons_succ]
      refine wpAnyH_take (i := 9) (oi := { dst := some 75, op := Op.move (Operand.tmp 0), type := 48, pos := "law.go:103", after := #[{ on := 6, ground := Ground.guard }], guard := some (6, false) }) (v := ?_) rfl (by kernel_rfl) (by kernel_rfl) (by kernel_rfl) (fun _ _ _ h => h) (Or.inl ⟨by rfl, ?_⟩) (by assumption) ?_
      rotate_left
      · intro w hSw
        clear hSw
        go_simp
        all_goals with_reducible rfl
      simp only [Act.put, List.setIfInBounds_toArray, List.set_cons_zero, List.set_cons_succ]
      refine wpAnyH_take (i := 10) (oi := { dst := some 76, op := Op.nilCheck (Operand.tmp 75), type := 0, pos := "law.go:103", after := #[{ on := 9, ground := Ground.data }, { on := 6, ground := Ground.guard }], guard := some (6, false) }) (v := ?_) rfl (by kernel_rfl) (by kernel_rfl) (by kernel_rfl) (fun _ _ _ h => h) (Or.inl ⟨by rfl, ?_⟩) (by assumption) ?_
      rotate_left
      · intro w hSw
        clear hSw
        go_simp
        all_goals with_reducible rfl
      simp only [Act.put, List.setIfInBounds_toArray, List.set_cons_zero, List.set_cons_succ]
      refine wpAnyH_take (i := 11) (oi := { dst := some 77, op := Op.fieldAddr 50 (Operand.tmp 76) 2, type := 0, pos := "law.go:103", after := #[{ on := 10, ground := Ground.data }, { on := 6, ground := Ground.guard }], guard := some (6, false) }) (v := ?_) rfl (by kernel_rfl) (by kernel_rfl) (by kernel_rfl) (fun _ _ _ h => h) (Or.inl ⟨by rfl, ?_⟩) (by assumption) ?_
      rotate_left
      · intro w hSw
        clear hSw
        go_simp
        all_goals with_reducible rfl
      simp only [Act.put, List.setIfInBounds_toArray, List.set_cons_zero, List.set_cons_succ]
      refine wpAnyH_take (i := 12) (oi := { dst := some 78, op := Op.load 31 (Operand.tmp 77), type := 31, pos := "law.go:103", after := #[{ on := 11, ground := Ground.data }, { on := 6, ground := Ground.guard }], guard := some (6, false) }) (v := ?_) rfl (by kernel_rfl) (by kernel_rfl) (by kernel_rfl) (fun _ _ _ h => h) (Or.inl ⟨by rfl, ?_⟩) (by assumption) ?_
      rotate_left
      · intro w hSw
        have c2 := (wc_cells hSw).2.2.1
        clear hSw
        go_simp
        all_goals with_reducible rfl
      simp only [Act.put, List.setIfInBounds_toArray, List.set_cons_zero, List.set_cons_succ]
      refine wpAnyH_ready (rs := [8]) (by kernel_rfl) (by simp) ?_
      refine AllReadyH.cons (o := { dst := some 74, op := Op.call { callee := Callee.value (Operand.func 13), args := #[Operand.tmp 73], argTypes := #[23] }, type := 31, pos := "law.go:103", after := #[{ on := 7, ground := Ground.data }, { on := 6, ground := Ground.chain }, { on := 6, ground := Ground.guard }], guard := some (6, false) }) rfl (fun K hK => ?_) AllReadyH.nil
      go_simp
      refine (records_go w0 Z1 o5 d5 g5 3 50 p2 t2 rs2 tv5 LOd.out HNE2.out).mono ?_
      rintro e Z2 ⟨lv, us, rfl, hrec, b2⟩
      have a2 : Z2.heap[gw]? = some (.cells (wcells o5 g lr (.slice ao KL cp) torn bytes again false) 50 (0, 0)) := (b2.block gw (block_lt_of_row hHeld)).trans hHeld
      have LR := hide (hrec.ls HEN.out)
      have LOe := hide (LOd.out.then b2)
      have LAe := hide (LA.out.below b2)
      have LBe := hide (LB.out.below b2)
      have B2 := hide (B0.out.trans (b2.mono B0.out.size))
      clear hHeld hrec b2 LOd LA LB B0
      refine hK.out _ _ a2 (fun hHeld => ?_)
      clear hK K
      try simp only [Act.put, List.setIfInBounds_toArray, List.set_cons_zero, List.set_cons_succ]
      clear a2
      refine wpAnyH_ready (rs := [13]) (by kernel_rfl) (by simp) ?_
      refine AllReadyH.cons (o := { dst := some 79, op := Op.call { callee := Callee.value (Operand.func 17), args := #[Operand.tmp 74, Operand.tmp 78], argTypes := #[31, 31] }, type := 4, pos := "law.go:103", after := #[{ on := 8, ground := Ground.data }, { on := 12, ground := Ground.data }, { on := 8, ground := Ground.chain }, { on := 6, ground := Ground.guard }], guard := some (6, false) }) rfl (fun K hK => ?_) AllReadyH.nil
      go_simp
      refine (sameL_any _ _ _ _ Z2 LR.out LAe.out.now HFEW.out).mono ?_
      rintro e Z3 ⟨rfl, st⟩
      rw [decide_eq_false hcase]
      have b3 := st.below Z2.heap.size
      have a3 : Z3.heap[gw]? = some (.cells (wcells o5 g lr (.slice ao KL cp) torn bytes again false) 50 (0, 0)) := (b3.block gw (block_lt_of_row hHeld)).trans hHeld
      have LOf := hide (LOe.out.then b3)
      have LBf := hide (LBe.out.below b3)
      have B3 := hide (B2.out.trans (b3.mono B2.out.size))
      clear hHeld st b3 LOe LAe LBe B2 LR
      refine hK.out _ _ a3 (fun hHeld => ?_)
      clear hK K
      try simp only [Act.put, List.setIfInBounds_toArray, List.set_cons_zero, List.set_cons_succ]
      clear a3
      refine wpAnyH_take (i := 14) (oi := { dst := some 80, op := Op.unOp UnOp.not 4 (Operand.tmp 79), type := 4, pos := "law.go:103", after := #[{ on := 13, ground := Ground.data }, { on := 6, ground := Ground.guard }], guard := some (6, false) }) (v := ?_) rfl (by kernel_rfl) (by kernel_rfl) (by kernel_rfl) (fun _ _ _ h => h) (Or.inl ⟨by rfl, ?_⟩) (by assumption) ?_
      rotate_left
      · intro w hSw
        clear hSw
        go_simp
        all_goals with_reducible rfl
      simp only [Act.put, List.setIfInBounds_toArray, List.set_cons_zero, List.set_cons_succ]
      refine wpAnyH_take (i := 15) (oi := { dst := some 81, op := Op.move (Operand.tmp 80), type := 4, pos := "law.go:103", after := #[{ on := 14, ground := Ground.data }, { on := 13, ground := Ground.chain }, { on := 6, ground := Ground.guard }], guard := some (6, false) }) (v := ?_) rfl (by kernel_rfl) (by kernel_rfl) (by kernel_rfl) (fun _ _ _ h => h) (Or.inl ⟨by rfl, ?_⟩) (by assumption) ?_
      rotate_left
      · intro w hSw
        clear hSw
        go_simp
        all_goals with_reducible rfl
      simp only [Act.put, List.setIfInBounds_toArray, List.set_cons_zero, List.set_cons_succ]
      refine wpAnyH_take (i := 16) (oi := { dst := some 82, op := Op.move (Operand.tmp 7), type := 23, pos := "law.go:103", after := #[{ on := 15, ground := Ground.guard }], guard := some (15, true) }) (v := ?_) rfl (by kernel_rfl) (by kernel_rfl) (by kernel_rfl) (fun _ _ _ h => h) (Or.inl ⟨by rfl, ?_⟩) (by assumption) ?_
      rotate_left
      · intro w hSw
        clear hSw
        go_simp
        all_goals with_reducible rfl
      simp only [Act.put, List.setIfInBounds_toArray, List.set_cons_zero, List.set_cons_succ]
      refine wpAnyH_take (i := 18) (oi := { dst := some 84, op := Op.move (Operand.tmp 1), type := 31, pos := "law.go:103", after := #[{ on := 15, ground := Ground.guard }], guard := some (15, true) }) (v := ?_) rfl (by kernel_rfl) (by kernel_rfl) (by kernel_rfl) (fun _ _ _ h => h) (Or.inl ⟨by rfl, ?_⟩) (by assumption) ?_
      rotate_left
      · intro w hSw
        clear hSw
        go_simp
        all_goals with_reducible rfl
      simp only [Act.put, List.setIfInBounds_toArray, List.set_cons_zero, List.set_cons_succ]
      refine wpAnyH_ready (rs := [17]) (by kernel_rfl) (by simp) ?_
      refine AllReadyH.cons (o := { dst := some 83, op := Op.call { callee := Callee.value (Operand.func 13), args := #[Operand.tmp 82], argTypes := #[23] }, type := 31, pos := "law.go:103", after := #[{ on := 16, ground := Ground.data }, { on := 15, ground := Ground.chain }, { on := 15, ground := Ground.guard }], guard := some (15, true) }) rfl (fun K hK => ?_) AllReadyH.nil
      go_simp
      refine (records_go w0 Z3 o5 d5 g5 3 50 p2 t2 rs2 tv5 LOf.out HNE2.out).mono ?_
      rintro e Z4 ⟨lv4, us4, rfl, hrec, b4⟩
      have a4 : Z4.heap[gw]? = some (.cells (wcells o5 g lr (.slice ao KL cp) torn bytes again false) 50 (0, 0)) := (b4.block gw (block_lt_of_row hHeld)).trans hHeld
      have LR4 := hide (hrec.ls HEN.out)
      have LB4 := hide (LBf.out.below b4)
      have B4 := hide (B3.out.trans (b4.mono B3.out.size))
      clear hHeld hrec b4 LOf LBf B3
      refine hK.out _ _ a4 (fun hHeld => ?_)
      clear hK K
      try simp only [Act.put, List.setIfInBounds_toArray, List.set_cons_zero, List.set_cons_succ]
      clear a4
      refine wpAnyH_ready (rs := [19]) (by kernel_rfl) (by simp) ?_
      refine AllReadyH.cons (o := { dst := some 85, op := Op.call { callee := Callee.value (Operand.func 17), args := #[Operand.tmp 83, Operand.tmp 84], argTypes := #[31, 31] }, type := 4, pos := "law.go:103", after := #[{ on := 17, ground := Ground.data }, { on := 18, ground := Ground.data }, { on := 17, ground := Ground.chain }, { on := 15, ground := Ground.guard }], guard := some (15, true) }) rfl (fun K hK => ?_) AllReadyH.nil
      go_simp
      refine (sameL_any _ _ _ _ Z4 LR4.out LB4.out.now HFEW.out).mono ?_
      rintro e Z5 ⟨rfl, st⟩
      rw [decide_eq_true (hother.resolve_left hcase)]
      have b5 := st.below Z4.heap.size
      have a5 : Z5.heap[gw]? = some (.cells (wcells o5 g lr (.slice ao KL cp) torn bytes again false) 50 (0, 0)) := (b5.block gw (block_lt_of_row hHeld)).trans hHeld
      have B5 := hide (B4.out.trans (b5.mono B4.out.size))
      clear hHeld st b5 LB4 B4 LR4
      refine hK.out _ _ a5 (fun hHeld => ?_)
      clear hK K
      try simp only [Act.put, List.setIfInBounds_toArray, List.set_cons_zero, List.set_cons_succ]
      clear a5
      refine wpAnyH_take (i := 20) (oi := { dst := some 86, op := Op.unOp UnOp.not 4 (Operand.tmp 85), type := 4, pos := "law.go:103", after := #[{ on := 19, ground := Ground.data }, { on := 15, ground := Ground.guard }], guard := some (15, true) }) (v := ?_) rfl (by kernel_rfl) (by kernel_rfl) (by kernel_rfl) (fun _ _ _ h => h) (Or.inl ⟨by rfl, ?_⟩) (by assumption) ?_
      rotate_left
      · intro w hSw
        clear hSw
        go_simp
        all_goals with_reducible rfl
      simp only [Act.put, List.setIfInBounds_toArray, List.set_cons_zero, List.set_cons_succ]
      refine wpAnyH_take (i := 21) (oi := { dst := some 87, op := Op.pick (Operand.tmp 81) (Operand.tmp 86) (Operand.const (Value.bool false)), type := 4, pos := "law.go:103", after := #[{ on := 15, ground := Ground.data }, { on := 20, ground := Ground.data }, { on := 6, ground := Ground.guard }], guard := some (6, false) }) (v := ?_) rfl (by kernel_rfl) (by kernel_rfl) (by kernel_rfl) (fun _ _ _ h => h) (Or.inl ⟨by rfl, ?_⟩) (by assumption) ?_
      rotate_left
      · intro w hSw
        clear hSw
        go_simp
        all_goals with_reducible rfl
      simp only [Act.put, List.setIfInBounds_toArray, List.set_cons_zero, List.set_cons_succ]
      refine wpAnyH_take (i := 22) (oi := { dst := some 88, op := Op.pick (Operand.tmp 72) (Operand.const (Value.bool true)) (Operand.tmp 87), type := 4, pos := "law.go:103", after := #[{ on := 6, ground := Ground.data }, { on := 21, ground := Ground.data }], guard := none }) (v := ?_) rfl (by kernel_rfl) (by kernel_rfl) (by kernel_rfl) (fun _ _ _ h => h) (Or.inl ⟨by rfl, ?_⟩) (by assumption) ?_
      rotate_left
      · intro w hSw
        clear hSw
        go_simp
        all_goals with_reducible rfl
      simp only [Act.put, List.setIfInBounds_toArray, List.set_cons_zero, List.set_cons_succ]
      refine wpAnyH_done (by kernel_rfl) ?_ _
      refine NoPanic.normal ?_
      clear hHeld
      go_wp2_with fail
      go_meet
      exact ⟨rfl, B5.out⟩
  case rest =>
  obtain ⟨rfl, b7⟩ := hcut
  clear RW6 LO6 L16 L26
  have RW7 : Hid (wc.heap[gw]? = some (.cells (wcells o5 g lr (.slice ao KL cp) torn bytes again false) 50 (0, 0))) := (b7.block gw (block_lt_of_row RWk.out)).trans RWk.out
  have LO7 := hide (LOk.out.then b7)
  have BK7 : Hid (wc.heap[gk]? = some (.cells (S.v8 X) 5 (0, 0))) := (b7.block gk (block_lt_of_row BK6.out)).trans BK6.out
  clear RWk LOk b7 BK6
  have f1 := frozen_of_row _ _ 1 _ _ RW7.out
  have c1 := (wc_cells RW7.out).2.1
  obtain ⟨w8, hw8⟩ : ∃ w8, w8 = wc.setCell ⟨gw, 1, none⟩ (.pointer (some ⟨g5, 0, none⟩)) := ⟨_, rfl⟩
  have C8 : Chg (fun k => k = gw) wc w8 := by rw [hw8]; exact Chg.one gw 1 _ rfl
  have RW8 : Hid (w8.heap[gw]? = some (.cells (wcells o5 g5 lr (.slice ao KL cp) torn bytes again false) 50 (0, 0))) := by rw [hw8]; exact wc_set1 RW7.out g5
  have LO8 := hide (LO7.out.chg C8 NG.out)
  have BK8 : Hid (w8.heap[gk]? = some (.cells (S.v8 X) 5 (0, 0))) := C8.row BK7.out BQ5.out.2
  clear C8 LO7 RW7 BK7
  go_wp2_with fail
  rw [← hw8]
  clear hw8 f1 c1
  refine (records_go w0 w8 o5 d5 g5 3 50 p2 t2 rs2 tv5 LO8.out HNE2.out).mono ?_
  rintro e w9 ⟨lv, us, rfl, hrec, b9⟩
  obtain ⟨al, cl, hlv⟩ := hrec.lists.shape
  subst hlv
  have RW9 : Hid (w9.heap[gw]? = some (.cells (wcells o5 g5 lr (.slice ao KL cp) torn bytes again false) 50 (0, 0))) := (b9.block gw (block_lt_of_row RW8.out)).trans RW8.out
  have LO9 := hide (LO8.out.then b9)
  have LV : Hid (LsOf w9 (Qk o5 g5 tv5 gw) (.slice al us.length cl) us rs2) := hrec.of HEN.out (fun k hk e => by
    rcases e with e | e | e | e
    · have := LO8.out.log.dk.dk.lt k e; omega
    · have := block_lt_of_row LO8.out.log.lg.row; omega
    · have := LO8.out.log.lg.text.lt e; omega
    · have := block_lt_of_row RW8.out; omega)
  have f2 := frozen_of_row _ _ 2 _ _ RW9.out
  have c2 := (wc_cells RW9.out).2.2.1
  have BK9 : Hid (w9.heap[gk]? = some (.cells (S.v8 X) 5 (0, 0))) := (b9.block gk (block_lt_of_row BK8.out)).trans BK8.out
  clear hrec b9 LO8 RW8 BK8
  obtain ⟨w10, hw10⟩ : ∃ w10, w10 = w9.setCell ⟨gw, 2, none⟩ (.slice al us.length cl) := ⟨_, rfl⟩
  have C10 : Chg (fun k => k = gw) w9 w10 := by rw [hw10]; exact Chg.one gw 2 _ rfl
  have KF : Hid (Kw w0 gw gk gd X (t + 1) w10) := ⟨o5, d5, g5, p2, t2, rs2, tv5, .slice al us.length cl, .slice ao KL cp, torn, bytes, again, ks, false, us, ⟨LO9.out.chg C10 NG.out, by rw [hw10]; exact wc_set2 RW9.out _, FIX.out.2.2.2.1, SEP.out, HNE2.out, FIX.out.2.2.2.2.1, FIX.out.2.2.2.2.2, fun _ => hd5l, FIX.out.1, FIX.out.2.1, FIX.out.2.2.1, C10.row BK9.out BQ5.out.2, BQ5.out, PT5.out⟩, LV.out.chg (C10.mono fun _ _ e => Or.inr (Or.inr (Or.inr e))) (fun _ e => Or.inl e), ht2⟩
  clear C10 RW9 LO9 LV
  go_wp2_with fail
  rw [← hw10]
  go_ret
  exact ⟨rfl, KF.out⟩
end Go.Proofs.YtfjkddjdmlnbnaaDoor
