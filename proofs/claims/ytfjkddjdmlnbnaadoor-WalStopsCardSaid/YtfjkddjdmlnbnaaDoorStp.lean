/- WalStops: wherever a commit stops, and whatever a crash keeps of it, the log is found with its record or without, and goes on. -/
import Derived.Test.YtfjkddjdmlnbnaaDoorBo
namespace Go.Proofs.YtfjkddjdmlnbnaaDoor
open Go.RowKit

namespace S
def keeps (n k : Nat) : List Bool := (List.range k).map fun (j : Nat) => decide (j < n)
theorem keeps_length (n k : Nat) : (keeps n k).length = k := by simp [keeps]
theorem keeps_succ (n k : Nat) : keeps n (k + 1) = keeps n k ++ [decide (k < n)] := by simp [keeps, List.range_succ]
theorem commitActs_few (d : Dk) (f c p t : Nat) (rs rs' : List (List UInt8)) (h : (enc rs').length ≤ 100000) : (commitActs d f c p t rs rs').length ≤ 200000 := by
  have hw : (putWs f c (enc rs') (enc rs).length).length ≤ 100000 := by
    unfold putWs
    split
    · simp
    · rw [textWs_length]; omega
  have hs : (spareActs f c (1 - p) (d.safe.getD (f + (1 - p)) [])).length ≤ 2 := by unfold spareActs; split <;> simp
  have ht : (textActs (putWs f c (enc rs') (enc rs).length)).length ≤ (putWs f c (enc rs') (enc rs).length).length + 1 := by unfold textActs; split <;> simp [Ws.acts]
  have hu : (turnActs f c p (hdOf (t + 1) rs')).length = 4 := rfl
  unfold commitActs changeActs
  rw [List.length_append, List.length_append, hu]
  omega
end S
theorem BRow.shape {w : World} {B : Nat} {v : Value} {ks : List Bool} (h : BRow w B v ks) : ∃ ao c, v = .slice ao ks.length c := by
  rcases h.2 with ⟨rfl, h3⟩ | ⟨g, cap, cur, rfl, _⟩
  · exact ⟨none, 0, by rw [h3]⟩
  · exact ⟨_, _, rfl⟩
/-- A log found again, a row beside it, and its records. -/
structure SpSt (w0 w : World) (o : Ow) (d : S.Dk) (g p t : Nat) (rs : List (List UInt8)) (tv : Value) (gb : Nat) (X : List UInt8) (lv : Value) : Prop where
  lo : Lo w0 w o d g 0 30 p t rs tv
  row : w.heap[gb]? = some (.cells (S.v8 X) 5 (0, 0))
  ls : LsAt w lv rs
theorem SpSt.then {w0 w W : World} {o : Ow} {d : S.Dk} {g p t : Nat} {rs : List (List UInt8)} {tv : Value} {gb : Nat} {X : List UInt8} {lv : Value} (h : SpSt w0 w o d g p t rs tv gb X lv) (hb : Below w.heap.size w W) : SpSt w0 W o d g p t rs tv gb X lv := ⟨h.lo.then hb, (hb.block gb (block_lt_of_row h.row)).trans h.row, h.ls.below hb⟩
theorem pair_ls {w : World} {gy : Nat} {x y : Value} {xs ys : List UInt8} (h : w.heap[gy]? = some (.cells #[x, y] 29 (0, 0))) (hx : SliceAt w x xs) (hy : SliceAt w y ys) : LsAt w (.slice (some ⟨gy, 0, none⟩) 2 2) [xs, ys] := by
  refine ⟨[x, y], Or.inr ⟨gy, 0, 2, #[x, y], rfl, h, by simp, by simp, fun j z hz => ?_⟩, rfl, fun j hj => ?_⟩
  · rw [Nat.zero_add]
    simpa using hz
  · match j, hj with
    | 0, _ => exact hx
    | 1, _ => exact hy
/-- Behind a Commit on a disk that may stop. -/
structure Some' (w0 w w' : World) (o o' : Ow) (d d' : S.Dk) (b : Bool) (g f c p t : Nat) (rs rs' : List (List UInt8)) (tv tv' : Value) : Prop where
  plan : d.plan (S.commitActs d f c p t rs rs') = (d', b)
  dk : Dsk w' o' d'
  moved : LogTo o g tv w o' tv' w'
  ob : ∀ k, o'.has k → w0.heap.size ≤ k
  below : Below w0.heap.size w0 w'
theorem commit_some (w0 w : World) (o : Ow) (d : S.Dk) (g f c p t : Nat) (rs : List (List UInt8)) (tv : Value) (bo : Option Addr) (n bc : Nat) (b : List UInt8) (hL : Lo w0 w o d g f c p t rs tv) (ht : t + 1 < 18446744073709551616)
    (hv : ∀ W, Chg (fun k => k = g ∨ tv.ownBlock = some k) w W → SliceAt W (.slice bo n bc) b) (hb : b ≠ []) (hfit : b.length ≤ S.room c - (S.enc rs).length - 3) :
   Calls Tryd.prog 11 #[.pointer (some ⟨g, 0, none⟩), .slice bo n bc] w fun e w' => ∃ ok d' o' tv', e = .returned (.int .i64 (S.why ok)) ∧ Some' w0 w w' o o' d d' ok g f c p t rs (rs ++ [b]) tv tv' := by
  refine (commit_any o d g f c p t rs tv bo n bc b w hL.log ht hv hb hfit).mono ?_
  rintro e w' ⟨bb, d', o', tv', x⟩
  refine ⟨bb, d', o', tv', x.ret, x.plan, x.dk, x.moved, fun k hk => ?_, hL.below.trans (x.moved.chg.below _ hL.below.size (fun k hk e => ?_))⟩
  · rcases x.moved.own k hk with e | e
    · exact hL.ob k e
    · exact Nat.le_trans hL.below.size e
  · rcases e with e | e | e
    · have := hL.ob k e; omega
    · have := hL.gb; omega
    · have := hL.tb k e; omega
set_option maxHeartbeats 16000000 in
set_option maxRecDepth 10000 in
theorem walStops_walk (a : Int) (C : UInt8) (kk torn bytes : Int) (w : World) (ha1 : -9223372036854775808 ≤ a) (ha2 : a ≤ 9223372036854775807) (hk1 : -9223372036854775808 ≤ kk) (hk2 : kk ≤ 9223372036854775807) (hK : KAt w) :
   Calls Tryd.prog 5 #[.int .i64 a, .int .u8 (C.toNat : Int), .int .i64 kk, .int .i64 torn, .int .i64 bytes] w fun e w' => e = .returned (.bool true) ∧ Below w.heap.size w w' := by
  have HK := hide hK
  have HP : Hid (0 < w.heap.size) := hK.pos
  have HKK : Hid (-9223372036854775808 ≤ kk ∧ kk ≤ 9223372036854775807) := ⟨hk1, hk2⟩
  have kc := fun (w : World) (C : Array Value) (n c : Nat) => Lib.run_convert_bytes_const (P := Tryd.prog) w 29 5 C n c Tryd.underlying29 Tryd.underlying5
  clear hK hk1 hk2
  go_enter Tryd.func5, Tryd.ntmps5
  go_wp2_with fail
  refine (within_any a 700 w ha1 ha2 (by omega) (by omega)).mono ?_
  rintro e w0 ⟨rfl, rfl⟩
  have hle := S.within_le a 700 (by omega)
  obtain ⟨s, hs⟩ : ∃ s : Nat, s = S.within a 700 + 1 := ⟨_, rfl⟩
  have q0 : ((S.within a 700 : Nat) : Int) + 1 = (s : Int) := by omega
  have hs0 : 0 < s := by omega
  have hs7 : s ≤ 701 := by omega
  clear hs hle
  obtain ⟨n, hn⟩ : ∃ n : Nat, n = S.within kk 20 := ⟨_, rfl⟩
  have hn20 : n ≤ 20 := by have := S.within_le kk 20 (by omega); omega
  have HN := hide hn
  clear hn
  go_wp2_with fail
  go_loopw [11] (fun i wr => ∃ u : Nat, u ≤ 20 ∧ i = .int .i64 (u : Int) ∧ KAt wr ∧ Below w.heap.size w wr) (fun i _ => 20 - (intOf i).toNat)
  case atStart => exact ⟨0, by omega, rfl, HK.out, Below.refl _ _⟩
  case round =>
    obtain ⟨u, hu, rfl, hK1, hb1⟩ := hrel
    have HK1 := hide hK1
    have HB1 := hide hb1
    clear hK1 hb1
    by_cases hu2 : u < 20
    · have q1 : (u : Int) < 20 := by omega
      go_wp2_with fail
      refine (begun_any 30 0 30 w wr (by omega) (by omega) (by omega) HB1.out HP.out HK1.out).mono ?_
      rintro e w1 ⟨o, g, tv, rfl, hlo, hob, hgb, htb, b1⟩
      have LO1 := hide hlo
      clear hlo hob hgb htb b1
      go_wp2_with fail
      refine (record_any 200 1 w1 (by omega)).mono ?_
      rintro e w2 ⟨gr, rfl, hgr, hrr, b2⟩
      have LO2 := hide (LO1.out.then b2)
      have hgl : g < w1.heap.size := block_lt_of_row LO1.out.log.lg.row
      have htl : ∀ x, tv.ownBlock = some x → x < w1.heap.size := fun x hx => LO1.out.log.lg.text.lt hx
      obtain ⟨A, hA⟩ : ∃ A, A = S.rec 200 1 := ⟨_, rfl⟩
      have hAl : A.length = 200 := by rw [hA]; exact S.rec_length _ _
      rw [← hA] at hrr
      have KP := hide (keeps_row (g := g) (tv := tv) hrr (by omega) (fun e => by have := htl _ e; omega) (by omega))
      rw [hAl] at KP
      have HA := hide hA
      have HAL := hide hAl
      have HAN : Hid (A ≠ []) := fun e => by rw [e] at hAl; simp at hAl
      clear hgr hrr b2 hgl htl LO1 hA hAl
      go_wp2_with fail
      refine (commit_go w w2 o _ g 0 30 0 0 [] tv (some ⟨gr, 0, none⟩) 200 200 A LO2.out rfl (by omega) KP.out HAN.out (by rw [HAL.out]; decide)).mono ?_
      rintro e w3 ⟨rfl, o3, tv3, wt⟩
      obtain ⟨D, hlo⟩ : ∃ D : S.Dk, Lo w w3 o3 D g 0 30 1 1 [A] tv3 := ⟨_, wt.lo⟩
      have LO3 := hide hlo
      have hpt : o3.ptr = o.ptr := by unfold Ow.ptr; rw [wt.moved.ptr]
      rw [← hpt]
      clear wt hpt hlo LO2 KP
      go_wp2_with fail
      refine (stop_lo w w3 o3 D g 0 30 1 1 [A] tv3 (u : Int) (by omega) LO3.out).mono ?_
      rintro e w4 ⟨rfl, o4, hp4, hlo⟩
      obtain ⟨D4, hlo⟩ : ∃ D : S.Dk, Lo w w4 o4 D g 0 30 1 1 [A] tv3 := ⟨_, hlo⟩
      have LO4 := hide hlo
      have hpt : o4.ptr = o3.ptr := by unfold Ow.ptr; rw [hp4]
      rw [← hpt]
      clear hp4 hlo hpt LO3
      go_wp2_with fail
      refine (record_any s C w4 (by omega)).mono ?_
      rintro e w5 ⟨gb, rfl, hgr, hrr, b5⟩
      have LO5 := hide (LO4.out.then b5)
      have hgl : g < w4.heap.size := block_lt_of_row LO4.out.log.lg.row
      have htl : ∀ x, tv3.ownBlock = some x → x < w4.heap.size := fun x hx => LO4.out.log.lg.text.lt hx
      obtain ⟨X, hX⟩ : ∃ X, X = S.rec s C := ⟨_, rfl⟩
      have hXl : X.length = s := by rw [hX]; exact S.rec_length _ _
      rw [← hX] at hrr
      have KP := hide (keeps_row (g := g) (tv := tv3) hrr (by omega) (fun e => by have := htl _ e; omega) (by omega))
      rw [hXl] at KP
      have RX := hide hrr
      have HXL := hide hXl
      have HXN : Hid (X ≠ []) := fun e => by rw [e] at hXl; simp at hXl; omega
      have GX : Hid (gb ≠ g ∧ tv3.ownBlock ≠ some gb) := ⟨by omega, fun e => by have := htl _ e; omega⟩
      have FIT : Hid (X.length ≤ S.room 30 - (S.enc [A]).length - 3) := by
        show X.length ≤ _
        have e1 : (S.enc [A]).length = 203 := by have := S.enc_snoc_length [] A; rw [HAL.out] at this; simpa [S.enc] using this
        have e2 : S.room 30 = 3360 := rfl
        rw [e1, e2, hXl]
        omega
      clear hgr hrr b5 hgl htl LO4 hX hXl
      go_wp2_with fail
      refine (commit_some w w5 o4 D4 g 0 30 1 1 [A] tv3 (some ⟨gb, 0, none⟩) s s X LO5.out (by omega) KP.out HXN.out FIT.out).mono ?_
      rintro e w6 ⟨ok, D6, o6, tv6, rfl, x⟩
      have SM := hide x
      have RX6 : Hid (w6.heap[gb]? = some (.cells (S.v8 X) 5 (0, 0))) := x.moved.chg.row RX.out (fun e => by
        rcases e with e | e | e
        · exact LO5.out.log.dk.dk.bytes RX.out e
        · exact GX.out.1 e
        · exact GX.out.2 e)
      have hpt : o6.ptr = o4.ptr := by unfold Ow.ptr; rw [x.moved.ptr]
      rw [← hpt]
      have CALM := hide (S.commit_calm (b := X) LO5.out.log.pend LO5.out.log.good (by omega) (by rw [S.enc_snoc_length]; have := FIT.out; have := List.length_pos_iff.2 HXN.out; omega))
      obtain ⟨EV, hEV⟩ : ∃ z, z = S.why ok := ⟨_, rfl⟩
      rw [← hEV]
      have HEV := hide hEV
      clear x hpt KP RX GX hEV
      go_upto_region 11 with fail
      go_wp2_with fail
      generalize hW7 : w6.alloc _ = W7
      have r7 : W7.heap[w6.heap.size]? = some (.cells #[.slice none 0 0, .int .i64 torn, .int .i64 bytes] 36 (0, 0)) := by rw [← hW7]; exact heap_alloc_new _ _
      have b7 : Below w6.heap.size w6 W7 := by rw [← hW7]; exact (Below.refl _ _).alloc (Nat.le_refl _) _
      obtain ⟨gC, hgC⟩ : ∃ x, x = w6.heap.size := ⟨_, rfl⟩
      have HGC := hide hgC
      rw [← hgC] at r7 b7 ⊢
      have CU0 : Hid (CutIs W7 gC (.slice none 0 0) (S.keeps n 0) torn bytes) := ⟨r7, BRow.nil _ _⟩
      have BL0 := hide b7
      clear hW7 r7 b7 hgC
      go_loopw [18] (fun i wr => ∃ (k : Nat) (v : Value), k ≤ 20 ∧ i = .int .i64 (k : Int) ∧ CutIs wr gC v (S.keeps n k) torn bytes ∧ Below gC w6 wr) (fun i _ => 20 - (intOf i).toNat)
      case atStart => exact ⟨0, _, by omega, rfl, CU0.out, BL0.out⟩
      case round =>
        obtain ⟨k, v, hk, rfl, hcu, hbl⟩ := hrel
        have CU := hide hcu
        have BL := hide hbl
        clear hcu hbl CU0 BL0
        by_cases hk2 : k < 20
        · have q2 : (k : Int) < 20 := by omega
          have q3 : IntKind.i64.wrap ((k : Int) + 1) = (k : Int) + 1 := by rw [IntKind.wrap_i64]; omega
          go_upto_region 15 with fail
          refine wp_region_noPanic ?_
          refine wp_region_held_drew (S := (fun _ => True)) follows trivial (fun hHeld => ?_)
          have CU1 : Hid (CutIs wr.drew gC v (S.keeps n k) torn bytes) := ⟨CU.out.row, CU.out.keep.kept fun _ _ => rfl⟩
          have BL1 : Hid (Below gC w6 wr.drew) := BL.out.drew
          clear CU BL
          generalize wr.drew = Z1 at CU1 BL1 hHeld ⊢
          refine wpAnyH_take (i := 0) (oi := { dst := some 60, op := Op.fieldAddr 36 (Operand.tmp 17) 0, type := 0, pos := "law.go:190", after := #[], guard := none }) (v := ?_) rfl (by kernel_rfl) (by kernel_rfl) (by kernel_rfl) (fun _ _ _ h => h) (Or.inl ⟨by rfl, ?_⟩) (by assumption) ?_
          rotate_left
          · intro w hSw
            clear hSw
            go_simp
            all_goals with_reducible rfl
          simp only [Act.put, List.setIfInBounds_toArray, List.set_cons_zero, List.set_cons_succ]
          refine wpAnyH_take (i := 2) (oi := { dst := some 62, op := Op.move (Operand.tmp 18), type := 3, pos := "law.go:190", after := #[], guard := none }) (v := ?_) rfl (by kernel_rfl) (by kernel_rfl) (by kernel_rfl) (fun _ _ _ h => h) (Or.inl ⟨by rfl, ?_⟩) (by assumption) ?_
          rotate_left
          · intro w hSw
            clear hSw
            go_simp
            all_goals with_reducible rfl
          simp only [Act.put, List.setIfInBounds_toArray, List.set_cons_zero, List.set_cons_succ]
          refine wpAnyH_take (i := 3) (oi := { dst := some 63, op := Op.move (Operand.tmp 2), type := 3, pos := "law.go:190", after := #[], guard := none }) (v := ?_) rfl (by kernel_rfl) (by kernel_rfl) (by kernel_rfl) (fun _ _ _ h => h) (Or.inl ⟨by rfl, ?_⟩) (by assumption) ?_
          rotate_left
          · intro w hSw
            clear hSw
            go_simp
            all_goals with_reducible rfl
          simp only [Act.put, List.setIfInBounds_toArray, List.set_cons_zero, List.set_cons_succ]
          refine wpAnyH_ready (rs := [1, 4]) (by kernel_rfl) (by simp) ?_
          refine AllReadyH.cons (o := { dst := some 61, op := Op.load 34 (Operand.tmp 60), type := 34, pos := "law.go:190", after := #[{ on := 0, ground := Ground.data }], guard := none }) rfl (fun K hK => ?_) ?_
          · have c0 := (cells3 CU1.out.row).1
            have o0 := CU1.out.keep.one
            go_simp
            clear c0 o0
            refine hK.out _ _ trivial (fun hHeld => ?_)
            clear hK K
            try simp only [Act.put, List.setIfInBounds_toArray, List.set_cons_zero, List.set_cons_succ]
            refine wpAnyH_ready (rs := [4]) (by kernel_rfl) (by simp) ?_
            refine AllReadyH.cons (o := { dst := some 64, op := Op.call { callee := Callee.value (Operand.func 25), args := #[Operand.tmp 63, Operand.const (Value.int IntKind.i64 0), Operand.const (Value.int IntKind.i64 20)], argTypes := #[3, 3, 3] }, type := 3, pos := "law.go:190", after := #[{ on := 3, ground := Ground.data }], guard := none }) rfl (fun K hK => ?_) AllReadyH.nil
            go_simp
            refine (within_any kk 20 Z1 HKK.out.1 HKK.out.2 (by omega) (by omega)).mono ?_
            rintro e Z2 ⟨rfl, rfl⟩
            rw [← HN.out]
            refine hK.out _ _ trivial (fun hHeld => ?_)
            clear hK K
            try simp only [Act.put, List.setIfInBounds_toArray, List.set_cons_zero, List.set_cons_succ]
            refine wpAnyH_take (i := 5) (oi := { dst := some 65, op := Op.binOp BinOp.lss 3 (Operand.tmp 62) (Operand.tmp 64) 3, type := 4, pos := "law.go:190", after := #[{ on := 2, ground := Ground.data }, { on := 4, ground := Ground.data }], guard := none }) (v := ?_) rfl (by kernel_rfl) (by kernel_rfl) (by kernel_rfl) (fun _ _ _ h => h) (Or.inl ⟨by rfl, ?_⟩) (by assumption) ?_
            rotate_left
            · intro w hSw
              clear hSw
              go_simp
              all_goals with_reducible rfl
            simp only [Act.put, List.setIfInBounds_toArray, List.set_cons_zero, List.set_cons_succ]
            refine wpAnyH_ready (rs := [6]) (by kernel_rfl) (by simp) ?_
            refine AllReadyH.cons (o := { dst := some 66, op := Op.buildSlice 34 1 #[(0, Operand.tmp 65)], type := 34, pos := "law.go:190", after := #[{ on := 5, ground := Ground.data }], guard := none }) rfl (fun K hK => ?_) AllReadyH.nil
            go_simp
            refine hK.out _ _ trivial (fun hHeld => ?_)
            clear hK K
            try simp only [Act.put, List.setIfInBounds_toArray, List.set_cons_zero, List.set_cons_succ]
            generalize hZ3 : Z1.alloc _ = Z3
            have r3 : Z3.heap[Z1.heap.size]? = some (.cells #[.bool (decide (k < n))] 4 (0, 0)) := by rw [← hZ3]; exact heap_alloc_new _ _
            have b3 : Below Z1.heap.size Z1 Z3 := by rw [← hZ3]; exact (Below.refl _ _).alloc (Nat.le_refl _) _
            have CU3 := hide (CU1.out.below b3)
            have X3 : Hid (Z3.cell? ⟨Z1.heap.size, 0, none⟩ = some (.bool (decide (k < n)))) := by show Z3.cell? _ = _; rw [cell_of_row Z3 _ 0 _ 4 (0, 0) r3]; rfl
            have BL3 := hide (BL1.out.trans (b3.mono (Nat.le_of_lt (block_lt_of_row CU1.out.row))))
            have S3 : Hid (gC + 1 ≤ Z3.heap.size) := block_lt_of_row CU3.out.row
            obtain ⟨gy, hgy⟩ : ∃ x, x = Z1.heap.size := ⟨_, rfl⟩
            rw [← hgy] at X3 ⊢
            clear hZ3 r3 b3 hgy
            refine wpAnyH_ready (rs := [7]) (by kernel_rfl) (by simp) ?_
            refine step_append (o := { dst := some 67, op := Op.call { callee := Callee.builtin Builtin.append, args := #[Operand.tmp 61, Operand.tmp 66], argTypes := #[34, 34] }, type := 34, pos := "law.go:190", after := #[{ on := 1, ground := Ground.data }, { on := 6, ground := Ground.data }, { on := 4, ground := Ground.chain }], guard := none }) rfl rfl (.tmp 61) (.tmp 66) 34 34 rfl v (.slice (some ⟨gy, 0, none⟩) 1 1) rfl rfl (run_append_bool Z3 (gC + 1) v (S.keeps n k) (decide (k < n)) gy CU3.out.keep X3.out (by rw [S.keeps_length]; omega) S3.out) AllReadyH.nil (fun v' Z4 hR => ⟨trivial, fun hHeld => ?_⟩)
            obtain ⟨hr4, hg4⟩ := hR
            simp only [Act.put, List.setIfInBounds_toArray, List.set_cons_zero, List.set_cons_succ]
            rw [← S.keeps_succ] at hr4
            obtain ⟨ao4, cp4, hv4⟩ := hr4.shape
            subst hv4
            rw [S.keeps_length] at hr4 ⊢
            have CU4 := hide (CU3.out.grown hr4 hg4)
            have BL4 : Hid (Below gC w6 (Z4.setCell ⟨gC, 0, none⟩ (.slice ao4 (k + 1) cp4))) := by
              refine Below.setCell (BL3.out.trans ⟨hg4.os, hg4.tape, hg4.output, hg4.size, fun j hj => hg4.block j ?_ ?_⟩) (Nat.le_refl _) _
              · have := block_lt_of_row CU3.out.row; omega
              · intro e; have := (CU3.out.keep.lt e.symm).1; omega
            have hrow4 : Z4.heap[gC]? = some (.cells #[v, .int .i64 torn, .int .i64 bytes] 36 (0, 0)) := (hg4.block gC (block_lt_of_row CU3.out.row) (fun e => by have := (CU3.out.keep.lt e.symm).1; omega)).trans CU3.out.row
            refine wpAnyH_take (i := 8) (oi := { dst := some 68, op := Op.fieldAddr 36 (Operand.tmp 17) 0, type := 0, pos := "law.go:190", after := #[{ on := 0, ground := Ground.phase }, { on := 1, ground := Ground.phase }, { on := 2, ground := Ground.phase }, { on := 3, ground := Ground.phase }, { on := 4, ground := Ground.phase }, { on := 5, ground := Ground.phase }, { on := 6, ground := Ground.phase }, { on := 7, ground := Ground.phase }], guard := none }) (v := ?_) rfl (by kernel_rfl) (by kernel_rfl) (by kernel_rfl) (fun _ _ _ h => h) (Or.inl ⟨by rfl, ?_⟩) (by assumption) ?_
            rotate_left
            · intro w hSw
              clear hSw
              go_simp
              all_goals with_reducible rfl
            simp only [Act.put, List.setIfInBounds_toArray, List.set_cons_zero, List.set_cons_succ]
            have c0 := (cells3 hrow4).1
            have f0 := frozen_of_row _ _ 0 _ _ hrow4
            clear hr4 hg4 hrow4
            refine wpAnyH_ready (rs := [9]) (by kernel_rfl) (by simp) ?_
            refine AllReadyH.cons (o := { dst := none, op := Op.store 34 (Operand.tmp 68) (Operand.tmp 67), type := 0, pos := "law.go:190", after := #[{ on := 8, ground := Ground.data }, { on := 7, ground := Ground.data }, { on := 7, ground := Ground.chain }, { on := 0, ground := Ground.phase }, { on := 1, ground := Ground.phase }, { on := 2, ground := Ground.phase }, { on := 3, ground := Ground.phase }, { on := 4, ground := Ground.phase }, { on := 5, ground := Ground.phase }, { on := 6, ground := Ground.phase }, { on := 7, ground := Ground.phase }], guard := none }) rfl (fun K hK => ?_) AllReadyH.nil
            go_simp
            clear c0 f0
            refine hK.out _ _ trivial (fun hHeld => ?_)
            clear hK K
            try simp only [Act.put, List.setIfInBounds_toArray, List.set_cons_zero, List.set_cons_succ]
            refine wpAnyH_done (by kernel_rfl) ?_ _
            refine NoPanic.normal ?_
            go_wp2_with fail
            go_roundw
            case rel => exact ⟨k + 1, _, by omega, by go_num, CU4.out, BL4.out⟩
            case measure => simp [intOf]; omega
          · refine AllReadyH.cons (o := { dst := some 64, op := Op.call { callee := Callee.value (Operand.func 25), args := #[Operand.tmp 63, Operand.const (Value.int IntKind.i64 0), Operand.const (Value.int IntKind.i64 20)], argTypes := #[3, 3, 3] }, type := 3, pos := "law.go:190", after := #[{ on := 3, ground := Ground.data }], guard := none }) rfl (fun K hK => ?_) AllReadyH.nil
            go_simp
            refine (within_any kk 20 Z1 HKK.out.1 HKK.out.2 (by omega) (by omega)).mono ?_
            rintro e Z2 ⟨rfl, rfl⟩
            rw [← HN.out]
            refine hK.out _ _ trivial (fun hHeld => ?_)
            clear hK K
            try simp only [Act.put, List.setIfInBounds_toArray, List.set_cons_zero, List.set_cons_succ]
            refine wpAnyH_take (i := 5) (oi := { dst := some 65, op := Op.binOp BinOp.lss 3 (Operand.tmp 62) (Operand.tmp 64) 3, type := 4, pos := "law.go:190", after := #[{ on := 2, ground := Ground.data }, { on := 4, ground := Ground.data }], guard := none }) (v := ?_) rfl (by kernel_rfl) (by kernel_rfl) (by kernel_rfl) (fun _ _ _ h => h) (Or.inl ⟨by rfl, ?_⟩) (by assumption) ?_
            rotate_left
            · intro w hSw
              clear hSw
              go_simp
              all_goals with_reducible rfl
            simp only [Act.put, List.setIfInBounds_toArray, List.set_cons_zero, List.set_cons_succ]
            refine wpAnyH_ready (rs := [1, 6]) (by kernel_rfl) (by simp) ?_
            refine AllReadyH.cons (o := { dst := some 61, op := Op.load 34 (Operand.tmp 60), type := 34, pos := "law.go:190", after := #[{ on := 0, ground := Ground.data }], guard := none }) rfl (fun K hK => ?_) ?_
            · have c0 := (cells3 CU1.out.row).1
              have o0 := CU1.out.keep.one
              go_simp
              clear c0 o0
              refine hK.out _ _ trivial (fun hHeld => ?_)
              clear hK K
              try simp only [Act.put, List.setIfInBounds_toArray, List.set_cons_zero, List.set_cons_succ]
              refine wpAnyH_ready (rs := [6]) (by kernel_rfl) (by simp) ?_
              refine AllReadyH.cons (o := { dst := some 66, op := Op.buildSlice 34 1 #[(0, Operand.tmp 65)], type := 34, pos := "law.go:190", after := #[{ on := 5, ground := Ground.data }], guard := none }) rfl (fun K hK => ?_) AllReadyH.nil
              go_simp
              refine hK.out _ _ trivial (fun hHeld => ?_)
              clear hK K
              try simp only [Act.put, List.setIfInBounds_toArray, List.set_cons_zero, List.set_cons_succ]
              generalize hZ3 : Z1.alloc _ = Z3
              have r3 : Z3.heap[Z1.heap.size]? = some (.cells #[.bool (decide (k < n))] 4 (0, 0)) := by rw [← hZ3]; exact heap_alloc_new _ _
              have b3 : Below Z1.heap.size Z1 Z3 := by rw [← hZ3]; exact (Below.refl _ _).alloc (Nat.le_refl _) _
              have CU3 := hide (CU1.out.below b3)
              have X3 : Hid (Z3.cell? ⟨Z1.heap.size, 0, none⟩ = some (.bool (decide (k < n)))) := by show Z3.cell? _ = _; rw [cell_of_row Z3 _ 0 _ 4 (0, 0) r3]; rfl
              have BL3 := hide (BL1.out.trans (b3.mono (Nat.le_of_lt (block_lt_of_row CU1.out.row))))
              have S3 : Hid (gC + 1 ≤ Z3.heap.size) := block_lt_of_row CU3.out.row
              obtain ⟨gy, hgy⟩ : ∃ x, x = Z1.heap.size := ⟨_, rfl⟩
              rw [← hgy] at X3 ⊢
              clear hZ3 r3 b3 hgy
              refine wpAnyH_ready (rs := [7]) (by kernel_rfl) (by simp) ?_
              refine step_append (o := { dst := some 67, op := Op.call { callee := Callee.builtin Builtin.append, args := #[Operand.tmp 61, Operand.tmp 66], argTypes := #[34, 34] }, type := 34, pos := "law.go:190", after := #[{ on := 1, ground := Ground.data }, { on := 6, ground := Ground.data }, { on := 4, ground := Ground.chain }], guard := none }) rfl rfl (.tmp 61) (.tmp 66) 34 34 rfl v (.slice (some ⟨gy, 0, none⟩) 1 1) rfl rfl (run_append_bool Z3 (gC + 1) v (S.keeps n k) (decide (k < n)) gy CU3.out.keep X3.out (by rw [S.keeps_length]; omega) S3.out) AllReadyH.nil (fun v' Z4 hR => ⟨trivial, fun hHeld => ?_⟩)
              obtain ⟨hr4, hg4⟩ := hR
              simp only [Act.put, List.setIfInBounds_toArray, List.set_cons_zero, List.set_cons_succ]
              rw [← S.keeps_succ] at hr4
              obtain ⟨ao4, cp4, hv4⟩ := hr4.shape
              subst hv4
              rw [S.keeps_length] at hr4 ⊢
              have CU4 := hide (CU3.out.grown hr4 hg4)
              have BL4 : Hid (Below gC w6 (Z4.setCell ⟨gC, 0, none⟩ (.slice ao4 (k + 1) cp4))) := by
                refine Below.setCell (BL3.out.trans ⟨hg4.os, hg4.tape, hg4.output, hg4.size, fun j hj => hg4.block j ?_ ?_⟩) (Nat.le_refl _) _
                · have := block_lt_of_row CU3.out.row; omega
                · intro e; have := (CU3.out.keep.lt e.symm).1; omega
              have hrow4 : Z4.heap[gC]? = some (.cells #[v, .int .i64 torn, .int .i64 bytes] 36 (0, 0)) := (hg4.block gC (block_lt_of_row CU3.out.row) (fun e => by have := (CU3.out.keep.lt e.symm).1; omega)).trans CU3.out.row
              refine wpAnyH_take (i := 8) (oi := { dst := some 68, op := Op.fieldAddr 36 (Operand.tmp 17) 0, type := 0, pos := "law.go:190", after := #[{ on := 0, ground := Ground.phase }, { on := 1, ground := Ground.phase }, { on := 2, ground := Ground.phase }, { on := 3, ground := Ground.phase }, { on := 4, ground := Ground.phase }, { on := 5, ground := Ground.phase }, { on := 6, ground := Ground.phase }, { on := 7, ground := Ground.phase }], guard := none }) (v := ?_) rfl (by kernel_rfl) (by kernel_rfl) (by kernel_rfl) (fun _ _ _ h => h) (Or.inl ⟨by rfl, ?_⟩) (by assumption) ?_
              rotate_left
              · intro w hSw
                clear hSw
                go_simp
                all_goals with_reducible rfl
              simp only [Act.put, List.setIfInBounds_toArray, List.set_cons_zero, List.set_cons_succ]
              have c0 := (cells3 hrow4).1
              have f0 := frozen_of_row _ _ 0 _ _ hrow4
              clear hr4 hg4 hrow4
              refine wpAnyH_ready (rs := [9]) (by kernel_rfl) (by simp) ?_
              refine AllReadyH.cons (o := { dst := none, op := Op.store 34 (Operand.tmp 68) (Operand.tmp 67), type := 0, pos := "law.go:190", after := #[{ on := 8, ground := Ground.data }, { on := 7, ground := Ground.data }, { on := 7, ground := Ground.chain }, { on := 0, ground := Ground.phase }, { on := 1, ground := Ground.phase }, { on := 2, ground := Ground.phase }, { on := 3, ground := Ground.phase }, { on := 4, ground := Ground.phase }, { on := 5, ground := Ground.phase }, { on := 6, ground := Ground.phase }, { on := 7, ground := Ground.phase }], guard := none }) rfl (fun K hK => ?_) AllReadyH.nil
              go_simp
              clear c0 f0
              refine hK.out _ _ trivial (fun hHeld => ?_)
              clear hK K
              try simp only [Act.put, List.setIfInBounds_toArray, List.set_cons_zero, List.set_cons_succ]
              refine wpAnyH_done (by kernel_rfl) ?_ _
              refine NoPanic.normal ?_
              go_wp2_with fail
              go_roundw
              case rel => exact ⟨k + 1, _, by omega, by go_num, CU4.out, BL4.out⟩
              case measure => simp [intOf]; omega
            · refine AllReadyH.cons (o := { dst := some 66, op := Op.buildSlice 34 1 #[(0, Operand.tmp 65)], type := 34, pos := "law.go:190", after := #[{ on := 5, ground := Ground.data }], guard := none }) rfl (fun K hK => ?_) AllReadyH.nil
              go_simp
              refine hK.out _ _ trivial (fun hHeld => ?_)
              clear hK K
              try simp only [Act.put, List.setIfInBounds_toArray, List.set_cons_zero, List.set_cons_succ]
              generalize hZ3 : Z1.alloc _ = Z3
              have r3 : Z3.heap[Z1.heap.size]? = some (.cells #[.bool (decide (k < n))] 4 (0, 0)) := by rw [← hZ3]; exact heap_alloc_new _ _
              have b3 : Below Z1.heap.size Z1 Z3 := by rw [← hZ3]; exact (Below.refl _ _).alloc (Nat.le_refl _) _
              have CU3 := hide (CU1.out.below b3)
              have X3 : Hid (Z3.cell? ⟨Z1.heap.size, 0, none⟩ = some (.bool (decide (k < n)))) := by show Z3.cell? _ = _; rw [cell_of_row Z3 _ 0 _ 4 (0, 0) r3]; rfl
              have BL3 := hide (BL1.out.trans (b3.mono (Nat.le_of_lt (block_lt_of_row CU1.out.row))))
              have S3 : Hid (gC + 1 ≤ Z3.heap.size) := block_lt_of_row CU3.out.row
              obtain ⟨gy, hgy⟩ : ∃ x, x = Z1.heap.size := ⟨_, rfl⟩
              rw [← hgy] at X3 ⊢
              clear hZ3 r3 b3 hgy
              refine wpAnyH_ready (rs := [1]) (by kernel_rfl) (by simp) ?_
              refine AllReadyH.cons (o := { dst := some 61, op := Op.load 34 (Operand.tmp 60), type := 34, pos := "law.go:190", after := #[{ on := 0, ground := Ground.data }], guard := none }) rfl (fun K hK => ?_) AllReadyH.nil
              have c0 := (cells3 CU3.out.row).1
              have o0 := CU3.out.keep.one
              go_simp
              clear c0 o0
              refine hK.out _ _ trivial (fun hHeld => ?_)
              clear hK K
              try simp only [Act.put, List.setIfInBounds_toArray, List.set_cons_zero, List.set_cons_succ]
              refine wpAnyH_ready (rs := [7]) (by kernel_rfl) (by simp) ?_
              refine step_append (o := { dst := some 67, op := Op.call { callee := Callee.builtin Builtin.append, args := #[Operand.tmp 61, Operand.tmp 66], argTypes := #[34, 34] }, type := 34, pos := "law.go:190", after := #[{ on := 1, ground := Ground.data }, { on := 6, ground := Ground.data }, { on := 4, ground := Ground.chain }], guard := none }) rfl rfl (.tmp 61) (.tmp 66) 34 34 rfl v (.slice (some ⟨gy, 0, none⟩) 1 1) rfl rfl (run_append_bool Z3 (gC + 1) v (S.keeps n k) (decide (k < n)) gy CU3.out.keep X3.out (by rw [S.keeps_length]; omega) S3.out) AllReadyH.nil (fun v' Z4 hR => ⟨trivial, fun hHeld => ?_⟩)
              obtain ⟨hr4, hg4⟩ := hR
              simp only [Act.put, List.setIfInBounds_toArray, List.set_cons_zero, List.set_cons_succ]
              rw [← S.keeps_succ] at hr4
              obtain ⟨ao4, cp4, hv4⟩ := hr4.shape
              subst hv4
              rw [S.keeps_length] at hr4 ⊢
              have CU4 := hide (CU3.out.grown hr4 hg4)
              have BL4 : Hid (Below gC w6 (Z4.setCell ⟨gC, 0, none⟩ (.slice ao4 (k + 1) cp4))) := by
                refine Below.setCell (BL3.out.trans ⟨hg4.os, hg4.tape, hg4.output, hg4.size, fun j hj => hg4.block j ?_ ?_⟩) (Nat.le_refl _) _
                · have := block_lt_of_row CU3.out.row; omega
                · intro e; have := (CU3.out.keep.lt e.symm).1; omega
              have hrow4 : Z4.heap[gC]? = some (.cells #[v, .int .i64 torn, .int .i64 bytes] 36 (0, 0)) := (hg4.block gC (block_lt_of_row CU3.out.row) (fun e => by have := (CU3.out.keep.lt e.symm).1; omega)).trans CU3.out.row
              refine wpAnyH_take (i := 8) (oi := { dst := some 68, op := Op.fieldAddr 36 (Operand.tmp 17) 0, type := 0, pos := "law.go:190", after := #[{ on := 0, ground := Ground.phase }, { on := 1, ground := Ground.phase }, { on := 2, ground := Ground.phase }, { on := 3, ground := Ground.phase }, { on := 4, ground := Ground.phase }, { on := 5, ground := Ground.phase }, { on := 6, ground := Ground.phase }, { on := 7, ground := Ground.phase }], guard := none }) (v := ?_) rfl (by kernel_rfl) (by kernel_rfl) (by kernel_rfl) (fun _ _ _ h => h) (Or.inl ⟨by rfl, ?_⟩) (by assumption) ?_
              rotate_left
              · intro w hSw
                clear hSw
                go_simp
                all_goals with_reducible rfl
              simp only [Act.put, List.setIfInBounds_toArray, List.set_cons_zero, List.set_cons_succ]
              have c0 := (cells3 hrow4).1
              have f0 := frozen_of_row _ _ 0 _ _ hrow4
              clear hr4 hg4 hrow4
              refine wpAnyH_ready (rs := [9]) (by kernel_rfl) (by simp) ?_
              refine AllReadyH.cons (o := { dst := none, op := Op.store 34 (Operand.tmp 68) (Operand.tmp 67), type := 0, pos := "law.go:190", after := #[{ on := 8, ground := Ground.data }, { on := 7, ground := Ground.data }, { on := 7, ground := Ground.chain }, { on := 0, ground := Ground.phase }, { on := 1, ground := Ground.phase }, { on := 2, ground := Ground.phase }, { on := 3, ground := Ground.phase }, { on := 4, ground := Ground.phase }, { on := 5, ground := Ground.phase }, { on := 6, ground := Ground.phase }, { on := 7, ground := Ground.phase }], guard := none }) rfl (fun K hK => ?_) AllReadyH.nil
              go_simp
              clear c0 f0
              refine hK.out _ _ trivial (fun hHeld => ?_)
              clear hK K
              try simp only [Act.put, List.setIfInBounds_toArray, List.set_cons_zero, List.set_cons_succ]
              refine wpAnyH_done (by kernel_rfl) ?_ _
              refine NoPanic.normal ?_
              go_wp2_with fail
              go_roundw
              case rel => exact ⟨k + 1, _, by omega, by go_num, CU4.out, BL4.out⟩
              case measure => simp [intOf]; omega
        · have q2 : ¬ ((k : Int) < 20) := by omega
          obtain rfl : k = 20 := by omega
          have BLW : Hid (Below w6.heap.size w6 wr) := by rw [← HGC.out]; exact BL.out
          have DKW := hide (SM.out.dk.below BLW.out)
          obtain ⟨c0, c1, c2⟩ := cells3 CU.out.row
          have o0 := CU.out.keep.one
          have EA1 : Hid ((S.enc [A]).length = 203) := by
            show (S.enc [A]).length = 203
            have := S.enc_snoc_length [] A; rw [HAL.out] at this; simpa [S.enc] using this
          have FEW : Hid (D6.pend.length ≤ 1000000) := by
            show D6.pend.length ≤ 1000000
            have h1 := S.Dk.plan_pend (S.commitActs D4 0 30 1 1 [A] ([A] ++ [X])) D4
            rw [SM.out.plan, LO5.out.log.pend] at h1
            have h2 := S.commitActs_few D4 0 30 1 1 [A] ([A] ++ [X]) (by rw [S.enc_snoc_length, EA1.out, HXL.out]; omega)
            simp only [List.length_nil] at h1
            omega
          have KEEP : Hid (∀ W, Chg o6.has wr W → BoolsAt W v (S.keeps n 20)) := fun W hW => (CU.out.keep.kept (fun j hj => hW.block j (CU.out.keep.lt hj).2 (fun e => by have := SM.out.dk.dk.lt j e; have := (CU.out.keep.lt hj).1; have := HGC.out; omega))).bools (by rw [S.keeps_length]; omega)
          go_wp2_with fail
          clear c0 c1 c2 o0
          refine (crash_any o6 D6 v ⟨S.keeps n 20, torn, bytes⟩ wr DKW.out.dk FEW.out KEEP.out).mono ?_
          rintro e w8 ⟨rfl, o8, h8, m8⟩
          have CR := CALM.out.crash SM.out.plan ⟨S.keeps n 20, torn, bytes⟩
          have RX8 : Hid (w8.heap[gb]? = some (.cells (S.v8 X) 5 (0, 0))) := by
            have hw : wr.heap[gb]? = some (.cells (S.v8 X) 5 (0, 0)) := (BLW.out.block gb (block_lt_of_row RX6.out)).trans RX6.out
            exact m8.chg.row hw (fun e => DKW.out.dk.bytes hw e)
          have DK8 := hide (DKW.out.to h8 m8)
          have BW : Hid (Below w.heap.size w wr) := SM.out.below.trans (BLW.out.mono SM.out.below.size)
          have OB8 : Hid (∀ j, o8.has j → w.heap.size ≤ j) := fun j hj => by
            rcases m8.own j hj with e | e
            · exact SM.out.ob j e
            · exact Nat.le_trans BW.out.size e
          have BL8 := hide (BW.out.trans (m8.chg.below _ BW.out.size (fun j hj e => by have := SM.out.ob j e; omega)))
          have hpt : o8.ptr = o6.ptr := by unfold Ow.ptr; rw [m8.g]
          rw [← hpt]
          obtain ⟨p9, t9, rs9, hgood, ht9, hcs⟩ : ∃ p t rs, S.Good (D6.crash ⟨S.keeps n 20, torn, bytes⟩).safe 0 30 p t rs ∧ t ≤ 2 ∧ (rs = [A] ∧ ok = false ∨ rs = [A, X]) := by
            cases hok : ok with
            | true => exact ⟨_, _, _, by rw [CR.2 hok]; exact CALM.out.good, by omega, Or.inr rfl⟩
            | false =>
              rcases CR.1.log with h | h
              · exact ⟨_, _, _, h, by omega, Or.inl ⟨rfl, rfl⟩⟩
              · exact ⟨_, _, _, h, by omega, Or.inr rfl⟩
          have GD := hide hgood
          have CS := hide hcs
          have EA2 : Hid ((S.enc [A, X]).length = 206 + s) := by
            show (S.enc [A, X]).length = 206 + s
            have := S.enc_snoc_length [A] X; rw [EA1.out, HXL.out] at this; simp at this; omega
          have NE9 : Hid (∀ r ∈ rs9, r ≠ []) := fun r hr => by
            rcases CS.out with ⟨e, _⟩ | e
            · rw [e] at hr; simp only [List.mem_singleton] at hr; rw [hr]; exact HAN.out
            · rw [e] at hr; simp only [List.mem_cons, List.not_mem_nil, or_false] at hr; rcases hr with hr | hr <;> rw [hr]; exact HAN.out; exact HXN.out
          have EN9 : Hid ((S.enc rs9).length ≤ 10000 ∧ rs9.length ≤ 2) := by
            rcases CS.out with ⟨e, _⟩ | e
            · rw [e]; exact ⟨by rw [EA1.out]; omega, by simp⟩
            · rw [e]; exact ⟨by rw [EA2.out]; omega, by simp⟩
          clear h8 m8 CR hpt hgood hcs SM RX6 BL BLW CU DKW FEW KEEP CALM LO5 BW FIT
          go_wp2_with fail
          refine (open_go w w8 o8 _ 0 30 p9 t9 rs9 DK8.out rfl GD.out OB8.out BL8.out HP.out).mono ?_
          rintro e w9 ⟨g9, tv9, rfl, hlo, hg9, htv9, b9⟩
          have LO9 := hide hlo
          have RX9 := hide ((b9.block gb (block_lt_of_row RX8.out)).trans RX8.out)
          clear hlo hg9 htv9 b9 RX8 DK8 GD OB8 BL8
          go_wp2_with fail
          refine (records_go w w9 o8 _ g9 0 30 p9 t9 rs9 tv9 LO9.out NE9.out).mono ?_
          rintro e w10 ⟨lv, us, rfl, hrec, b10⟩
          obtain ⟨al, cl, hlv⟩ := hrec.lists.shape
          subst hlv
          have ULN := hide hrec.copies.len
          have ST10 : Hid (SpSt w w10 o8 (D6.crash ⟨S.keeps n 20, torn, bytes⟩) g9 p9 t9 rs9 tv9 gb X (.slice al us.length cl)) := ⟨LO9.out.then b10, (b10.block gb (block_lt_of_row RX9.out)).trans RX9.out, hrec.ls (by have := EN9.out; omega)⟩
          clear hrec b10 LO9 RX9
          go_wp2_with fail
          refine (record_any 200 1 w10 (by omega)).mono ?_
          rintro e w11 ⟨gr2, rfl, hgr, hrr, b11⟩
          rw [← HA.out] at hrr
          obtain ⟨w12, hw12⟩ : ∃ x, x = w11.alloc (.cells #[.slice (some ⟨gr2, 0, none⟩) 200 200] 29) := ⟨_, rfl⟩
          have b12 : Below w11.heap.size w11 w12 := by rw [hw12]; exact (Below.refl _ _).alloc (Nat.le_refl _) _
          have r12 : w12.heap[w11.heap.size]? = some (.cells #[.slice (some ⟨gr2, 0, none⟩) 200 200] 29 (0, 0)) := by rw [hw12]; exact heap_alloc_new _ _
          have LSB := hide (one_ls r12 (slice_row (xs := A) ((b12.block _ (block_lt_of_row hrr)).trans hrr) HAL.out.symm (by rw [HAL.out]; omega)))
          have ST12 := hide (ST10.out.then (b11.trans (b12.mono b11.size)))
          clear hgr hrr b11 b12 r12 ST10
          go_wp2_with fail
          rw [← hw12]
          clear hw12
          refine (sameL_any _ _ _ _ w12 ST12.out.ls LSB.out (by have := EN9.out; omega)).mono ?_
          rintro e w13 ⟨rfl, st⟩
          have ST13 := hide (ST12.out.then (st.below _))
          clear st LSB ST12
          obtain ⟨SH, hSH⟩ : ∃ x, x = decide (rs9 = [A]) := ⟨_, rfl⟩
          rw [← hSH]
          have HSH := hide hSH
          clear hSH
          go_wp2_with fail
          refine (record_any 200 1 w13 (by omega)).mono ?_
          rintro e w11 ⟨gr3, rfl, hgr, hrr, b11⟩
          rw [← HA.out] at hrr
          obtain ⟨w12, hw12⟩ : ∃ x, x = w11.alloc (.cells #[.slice (some ⟨gr3, 0, none⟩) 200 200, .slice (some ⟨gb, 0, none⟩) s s] 29) := ⟨_, rfl⟩
          have b12 : Below w11.heap.size w11 w12 := by rw [hw12]; exact (Below.refl _ _).alloc (Nat.le_refl _) _
          have r12 : w12.heap[w11.heap.size]? = some (.cells #[.slice (some ⟨gr3, 0, none⟩) 200 200, .slice (some ⟨gb, 0, none⟩) s s] 29 (0, 0)) := by rw [hw12]; exact heap_alloc_new _ _
          have ST12 := hide (ST13.out.then (b11.trans (b12.mono b11.size)))
          have LSB := hide (pair_ls r12 (slice_row (xs := A) ((b12.block _ (block_lt_of_row hrr)).trans hrr) HAL.out.symm (by rw [HAL.out]; omega)) (slice_row (xs := X) ST12.out.row HXL.out.symm (by rw [HXL.out]; omega)))
          clear hgr hrr b11 b12 r12 ST13
          go_wp2_with fail
          rw [← hw12]
          clear hw12
          refine (sameL_any _ _ _ _ w12 ST12.out.ls LSB.out (by have := EN9.out; omega)).mono ?_
          rintro e w14 ⟨rfl, st⟩
          have ST14 := hide (ST12.out.then (st.below _))
          clear st LSB ST12
          obtain ⟨WH, hWH⟩ : ∃ x, x = decide (rs9 = [A, X]) := ⟨_, rfl⟩
          rw [← hWH]
          have HWH := hide hWH
          clear hWH
          rcases CS.out with ⟨e1, e2⟩ | e1
          · subst e1
            obtain rfl : SH = true := by rw [HSH.out]; exact decide_eq_true rfl
            obtain rfl : WH = false := by rw [HWH.out]; exact decide_eq_false (by simp)
            obtain rfl : EV = 13 := by rw [HEV.out, e2]; rfl
            clear HSH HWH HEV CS e2
            have hul : us.length = 1 := ULN.out
            rw [hul]
            clear ULN
            obtain ⟨w15, hw15⟩ : ∃ x, x = w14.alloc (.cells #[.int .u8 111, .int .u8 110] 5 (2, 3)) := ⟨_, rfl⟩
            have b15 : Below w14.heap.size w14 w15 := by rw [hw15]; exact (Below.refl _ _).alloc (Nat.le_refl _) _
            have r15 : w15.heap[w14.heap.size]? = some (.cells (S.v8 [111, 110]) 5 (2, 3)) := by rw [hw15]; exact heap_alloc_new _ _
            have hgl : g9 < w14.heap.size := block_lt_of_row ST14.out.lo.log.lg.row
            have htl : ∀ k, tv9.ownBlock = some k → k < w14.heap.size := fun k hk => ST14.out.lo.log.lg.text.lt hk
            have LO15 := hide (ST14.out.lo.then b15)
            have KP15 := hide (keeps_row (g := g9) (tv := tv9) r15 (by omega) (fun e => by have := htl _ e; omega) (by simp))
            obtain ⟨gx, hgx⟩ : ∃ gx, gx = w14.heap.size := ⟨_, rfl⟩
            rw [← hgx] at KP15
            clear b15 r15 hgl htl ST14
            go_wp2_with fail
            rw [← hw15, ← hgx]
            clear hw15 hgx
            refine (commit_go w w15 o8 _ g9 0 30 p9 t9 [A] tv9 (some ⟨gx, 0, none⟩) 2 2 [111, 110] LO15.out rfl (by omega) KP15.out (by simp) (by rw [EA1.out]; decide)).mono ?_
            rintro e w16 ⟨rfl, o16, tv16, wt⟩
            have LO16 := hide wt.lo
            clear wt KP15 LO15
            go_wp2_with fail
            refine (records_go w w16 o16 _ g9 0 30 _ _ _ tv16 LO16.out (by intro r hr; simp only [List.mem_append, List.mem_cons, List.not_mem_nil, or_false] at hr; rcases hr with rfl | rfl; exact HAN.out; simp)).mono ?_
            rintro e w17 ⟨lv2, us2, rfl, hrec, b17⟩
            obtain ⟨al2, cl2, hlv⟩ := hrec.lists.shape
            subst hlv
            have hul2 : us2.length = 2 := hrec.copies.len
            rw [hul2]
            have LO17 := hide (LO16.out.then b17)
            clear hrec b17 hul2 hul
            go_wp2_with fail
            go_roundw
            case rel => exact ⟨u + 1, by omega, by go_num, LO17.out.log.dk.k, LO17.out.below⟩
            case measure => simp [intOf]; omega
          · subst e1
            obtain rfl : SH = false := by rw [HSH.out]; exact decide_eq_false (by simp)
            obtain rfl : WH = true := by rw [HWH.out]; exact decide_eq_true rfl
            clear HSH HWH CS
            rcases ok with _ | _
            · obtain rfl : EV = 13 := HEV.out
              clear HEV
              have hul : us.length = 2 := ULN.out
              rw [hul]
              clear ULN
              obtain ⟨w15, hw15⟩ : ∃ x, x = w14.alloc (.cells #[.int .u8 111, .int .u8 110] 5 (2, 3)) := ⟨_, rfl⟩
              have b15 : Below w14.heap.size w14 w15 := by rw [hw15]; exact (Below.refl _ _).alloc (Nat.le_refl _) _
              have r15 : w15.heap[w14.heap.size]? = some (.cells (S.v8 [111, 110]) 5 (2, 3)) := by rw [hw15]; exact heap_alloc_new _ _
              have hgl : g9 < w14.heap.size := block_lt_of_row ST14.out.lo.log.lg.row
              have htl : ∀ k, tv9.ownBlock = some k → k < w14.heap.size := fun k hk => ST14.out.lo.log.lg.text.lt hk
              have LO15 := hide (ST14.out.lo.then b15)
              have KP15 := hide (keeps_row (g := g9) (tv := tv9) r15 (by omega) (fun e => by have := htl _ e; omega) (by simp))
              obtain ⟨gx, hgx⟩ : ∃ gx, gx = w14.heap.size := ⟨_, rfl⟩
              rw [← hgx] at KP15
              clear b15 r15 hgl htl ST14
              go_wp2_with fail
              rw [← hw15, ← hgx]
              clear hw15 hgx
              refine (commit_go w w15 o8 _ g9 0 30 p9 t9 [A, X] tv9 (some ⟨gx, 0, none⟩) 2 2 [111, 110] LO15.out rfl (by omega) KP15.out (by simp) (by rw [EA2.out]; have e2 : S.room 30 = 3360 := rfl; rw [e2]; simp; omega)).mono ?_
              rintro e w16 ⟨rfl, o16, tv16, wt⟩
              have LO16 := hide wt.lo
              clear wt KP15 LO15
              go_wp2_with fail
              refine (records_go w w16 o16 _ g9 0 30 _ _ _ tv16 LO16.out (by intro r hr; simp only [List.mem_append, List.mem_cons, List.not_mem_nil, or_false] at hr; rcases hr with (rfl | rfl) | rfl; exact HAN.out; exact HXN.out; simp)).mono ?_
              rintro e w17 ⟨lv2, us2, rfl, hrec, b17⟩
              obtain ⟨al2, cl2, hlv⟩ := hrec.lists.shape
              subst hlv
              have hul2 : us2.length = 3 := hrec.copies.len
              rw [hul2]
              have LO17 := hide (LO16.out.then b17)
              clear hrec b17 hul2 hul
              go_wp2_with fail
              go_roundw
              case rel => exact ⟨u + 1, by omega, by go_num, LO17.out.log.dk.k, LO17.out.below⟩
              case measure => simp [intOf]; omega
            · obtain rfl : EV = 0 := HEV.out
              clear HEV
              have hul : us.length = 2 := ULN.out
              rw [hul]
              clear ULN
              obtain ⟨w15, hw15⟩ : ∃ x, x = w14.alloc (.cells #[.int .u8 111, .int .u8 110] 5 (2, 3)) := ⟨_, rfl⟩
              have b15 : Below w14.heap.size w14 w15 := by rw [hw15]; exact (Below.refl _ _).alloc (Nat.le_refl _) _
              have r15 : w15.heap[w14.heap.size]? = some (.cells (S.v8 [111, 110]) 5 (2, 3)) := by rw [hw15]; exact heap_alloc_new _ _
              have hgl : g9 < w14.heap.size := block_lt_of_row ST14.out.lo.log.lg.row
              have htl : ∀ k, tv9.ownBlock = some k → k < w14.heap.size := fun k hk => ST14.out.lo.log.lg.text.lt hk
              have LO15 := hide (ST14.out.lo.then b15)
              have KP15 := hide (keeps_row (g := g9) (tv := tv9) r15 (by omega) (fun e => by have := htl _ e; omega) (by simp))
              obtain ⟨gx, hgx⟩ : ∃ gx, gx = w14.heap.size := ⟨_, rfl⟩
              rw [← hgx] at KP15
              clear b15 r15 hgl htl ST14
              go_wp2_with fail
              rw [← hw15, ← hgx]
              clear hw15 hgx
              refine (commit_go w w15 o8 _ g9 0 30 p9 t9 [A, X] tv9 (some ⟨gx, 0, none⟩) 2 2 [111, 110] LO15.out rfl (by omega) KP15.out (by simp) (by rw [EA2.out]; have e2 : S.room 30 = 3360 := rfl; rw [e2]; simp; omega)).mono ?_
              rintro e w16 ⟨rfl, o16, tv16, wt⟩
              have LO16 := hide wt.lo
              clear wt KP15 LO15
              go_wp2_with fail
              refine (records_go w w16 o16 _ g9 0 30 _ _ _ tv16 LO16.out (by intro r hr; simp only [List.mem_append, List.mem_cons, List.not_mem_nil, or_false] at hr; rcases hr with (rfl | rfl) | rfl; exact HAN.out; exact HXN.out; simp)).mono ?_
              rintro e w17 ⟨lv2, us2, rfl, hrec, b17⟩
              obtain ⟨al2, cl2, hlv⟩ := hrec.lists.shape
              subst hlv
              have hul2 : us2.length = 3 := hrec.copies.len
              rw [hul2]
              have LO17 := hide (LO16.out.then b17)
              clear hrec b17 hul2 hul
              go_wp2_with fail
              go_roundw
              case rel => exact ⟨u + 1, by omega, by go_num, LO17.out.log.dk.k, LO17.out.below⟩
              case measure => simp [intOf]; omega

    · have q1 : ¬ ((u : Int) < 20) := by omega
      go_wp2_with fail
      refine (known_any wr HK1.out).mono ?_
      rintro e w10 ⟨rfl, b10⟩
      have BF := hide (HB1.out.trans (b10.mono HB1.out.size))
      clear b10
      go_wp2_with fail
      go_ret
      exact ⟨rfl, BF.out⟩
end Go.Proofs.YtfjkddjdmlnbnaaDoor
