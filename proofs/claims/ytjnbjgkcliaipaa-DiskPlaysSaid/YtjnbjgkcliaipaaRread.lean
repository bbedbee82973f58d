/- The document's Read: what was written last, in new memory. -/
import Derived.Test.YtjnbjgkcliaipaaRflush
namespace Go.Proofs.Ytjnbjgkcliaipaa
open Go.RowKit
theorem rread_no (r : Ro) (d : S.Dk) (n : Int) (w : World) (hd : RkIs w r d) (hn : ¬ (0 ≤ n ∧ n < d.safe.length)) :
   Calls Try.prog 43 #[.pointer (some ⟨r.g, 0, none⟩), .int .i64 n] w fun e w' => e = .returned (.tuple #[.slice none 0 0, .bool false]) ∧ w = w' := by
  obtain ⟨ao, c, hsv⟩ := ownsRow_form hd.safe
  have c0 := (cells3 hd.row).1
  rw [hsv, hd.sl] at c0
  obtain ⟨L, hL⟩ : ∃ L, L = d.safe.length := ⟨_, rfl⟩
  rw [← hL] at c0 hn
  clear hd hsv hL
  by_cases h0 : n < 0
  · go_enter Try.func43, Try.ntmps43
    go_wp2
    go_ret2
    exact ⟨rfl, rfl⟩
  · have h1 : (L : Int) ≤ n := by omega
    go_enter Try.func43, Try.ntmps43
    go_wp2
    go_ret2
    exact ⟨rfl, rfl⟩
theorem wpList_buildSlice_known {w : World} {ops : Array Oper} {rest : List Oper} {o : Oper} {a : Act} {Q : Exit → Act → World → Prop} (hgd : o.guard = none) (t : TypeId) (n : Nat) (parts : List (Nat × Operand)) (ho : o.op = .buildSlice t n parts.toArray) (v : Value) (w' : World)
    (hr : (Instr.buildSlice t n (parts.map fun p => (p.1, a.eval p.2)).toArray).run Try.prog w = .ok v w') (h : wpList Try.prog ops Q rest (a.put o.dst v) w') : wpList Try.prog ops Q (o :: rest) a w :=
  wpList_plain hgd fun _ hK => by
    unfold Oper.wp execOp
    simp only [ho, Sem.run_bind, List.map_toArray, hr, Result.andThen_ok]
    exact hK _ _ h
set_option maxHeartbeats 1600000 in
set_option maxRecDepth 100000 in
theorem rread_yes (r : Ro) (d : S.Dk) (n : Nat) (w : World) (hd : RkIs w r d) (hn : n < d.safe.length) (hb : d.pend.length ≤ 1000000) :
   Calls Try.prog 43 #[.pointer (some ⟨r.g, 0, none⟩), .int .i64 (n : Int)] w fun e w' => ∃ v, e = .returned (.tuple #[v, .bool true]) ∧ SliceAt w' v (d.seen.getD n []) ∧ Below w.heap.size w w' := by
  obtain ⟨gs, cs, hsv⟩ : ∃ gs cs, r.sv = .slice (some ⟨gs, 0, none⟩) r.ts.length cs := by
    rcases hd.safe.2 with ⟨_, h3⟩ | ⟨g, cap, cur, h1, _⟩
    · have := hd.sl; omega
    · exact ⟨g, cap, h1⟩
  have hnl : n < r.ts.length := by rw [hd.sl]; exact hn
  have c0 := (cells3 hd.row).1
  rw [hsv, hd.sl] at c0
  obtain ⟨ap, cp, hpf⟩ := ownsRow_form hd.pend
  have c1 := (cells3 hd.row).2.1
  rw [hpf, hd.pl] at c1
  have hu0 := hd.st n hnl
  obtain ⟨a0, e0, hf0⟩ := hu0.shape
  rw [hd.ok.len n hn] at hf0
  have cn : w.cell? ⟨gs, n, none⟩ = some (r.tn n) := by
    have h := hd.safe
    rw [hsv] at h
    have := h.cellAt n (by omega)
    rw [this, Ro.tn, List.getD_eq_getElem?_getD, List.getElem?_eq_getElem hnl]
    rfl
  rw [hf0] at cn
  obtain ⟨L, hL⟩ : ∃ L, L = d.safe.length := ⟨_, rfl⟩
  obtain ⟨N, hN⟩ : ∃ N, N = d.pend.length := ⟨_, rfl⟩
  rw [← hL] at c0
  rw [← hN] at c1 hb
  have q1 : (0 : Int) ≤ (n : Int) := by omega
  have q2 : ¬ ((n : Int) < 0) := by omega
  have q3 : ¬ ((L : Int) ≤ (n : Int)) := by omega
  have q4 : (n : Int) < (L : Int) := by omega
  have HD := hide hd
  have HU0 : Hid (URow w (.slice a0 128 e0) ((S.overTo d.safe d.pend 0).getD n [])) := by show URow _ _ _; rw [← hf0]; exact hu0
  have HN := hide hN
  have HNL : Hid (n < d.safe.length) := hn
  have HPF := hide hpf
  clear hd hn hsv hnl hu0 hf0 hpf hN hL
  go_enter Try.func43, Try.ntmps43
  go_wp2_with fail
  go_loopw [6, 7] (fun b i wr => ∃ (k : Nat) (ax : Option Addr) (cx : Nat), k ≤ N ∧ i = .int .i64 (k : Int) ∧ b = .slice ax 128 cx ∧ URow w (.slice ax 128 cx) ((S.overTo d.safe d.pend k).getD n []) ∧ w = wr) (fun _ i _ => N - (intOf i).toNat)
  case atStart => exact ⟨0, a0, e0, Nat.zero_le _, rfl, rfl, HU0.out, rfl⟩
  case round =>
    obtain ⟨k, ax, cx, hk, rfl, rfl, hux, rfl⟩ := hrel
    have HUX := hide hux
    clear HU0 hux
    by_cases hlt : k < N
    · have hkr : k < r.ws.length := by rw [HD.out.pl, ← HN.out]; exact hlt
      obtain ⟨gp, cq, hpv⟩ := HD.out.pform (by omega)
      obtain ⟨p0, p1⟩ := HD.out.wat hpv k hkr
      obtain ⟨e1, u1⟩ := HD.out.pt k hkr
      have hokk := HD.out.ok.pend k (by rw [← HN.out]; exact hlt)
      obtain ⟨gt, ct, curt, hu1, -, -, -, -, -⟩ := u1.lay (by omega)
      rw [hokk.2] at hu1
      have hap : ap = some ⟨gp, 0, none⟩ := by
        have := HPF.out
        rw [hpv] at this
        simp only [Value.slice.injEq] at this
        exact this.1.symm
      subst hap
      obtain ⟨x, hx⟩ : ∃ x, x = S.Ws.nth d.pend k := ⟨_, rfl⟩
      rw [← hx] at e1 u1 hokk
      rw [e1] at p0
      rw [hu1] at p1 u1
      have HX := hide hx
      have HU1 := hide u1
      have q5 : (0 : Int) ≤ (k : Int) := by omega
      have q6 : (k : Int) < (N : Int) := by omega
      have q7 : IntKind.i64.wrap ((k : Int) + 1) = (k : Int) + 1 := by rw [IntKind.wrap_i64]; omega
      have hol : (S.overTo d.safe d.pend k).length = d.safe.length := S.overTo_length _ _ _
      by_cases hxn : x.1 = n
      · have E : Hid ((S.overTo d.safe d.pend (k + 1)).getD n [] = x.2) := by
          show _ = _
          rw [S.overTo, ← HX.out, S.getD_set _ _ _ _ _ (by rw [hol]; exact hokk.1), if_pos hxn]
        have hxe : ((x.1 : Int) == (n : Int)) = true := by rw [beq_iff_eq]; omega
        clear hpv e1 u1 hu1 hx hkr hokk hxn
        go_wp2_with fail
        go_roundw
        case rel => exact ⟨k + 1, _, _, by omega, by go_num, rfl, by rw [E.out]; exact HU1.out, trivial⟩
        case measure => simp [intOf]; omega
      · have E : Hid ((S.overTo d.safe d.pend (k + 1)).getD n [] = (S.overTo d.safe d.pend k).getD n []) := by
          show _ = _
          rw [S.overTo, ← HX.out, S.getD_set _ _ _ _ _ (by rw [hol]; exact hokk.1), if_neg hxn]
        have hxe : ((x.1 : Int) == (n : Int)) = false := by rw [beq_eq_false_iff_ne]; omega
        clear hpv e1 u1 hu1 hx hkr hokk hxn
        go_wp2_with fail
        go_roundw
        case rel => exact ⟨k + 1, ax, cx, by omega, by go_num, rfl, by rw [E.out]; exact HUX.out, trivial⟩
        case measure => simp [intOf]; omega
    · obtain rfl : k = N := by omega
      have q6 : ¬ ((k : Int) < (k : Int)) := by omega
      have hbe := empty29
      have bX : Below w.heap.size w (w.alloc (.cells #[] 5)) := (Below.refl _ _).alloc (Nat.le_refl _) _
      have UE := hide (urow_empty w)
      have XX := hide (HUX.out.kept (w' := w.alloc (.cells #[] 5)) (fun j hj => bX.block j (HUX.out.lt hj)))
      have BX := hide bX
      have hsn : ((S.overTo d.safe d.pend k).getD n []).length = 128 := S.overTo_len128 HD.out.ok.len HD.out.ok.pend k (by rw [← HN.out]; exact Nat.le_refl _) n HNL.out
      have ES : Hid ((S.overTo d.safe d.pend k).getD n [] = d.seen.getD n []) := by show _ = _; rw [HN.out]; rfl
      have HSN := hide hsn
      clear bX hsn
      go_wp2_with (first | (refine wpList_buildSlice_known rfl 29 0 [] rfl _ _ (hbe _) ?_) | (at_builtin; refine wpList_append_known rfl (.tmp 53) (.tmp 54) 29 29 rfl _ _ rfl rfl (run_append_row (w.alloc (.cells #[] 5)) (.slice (some ⟨w.heap.size, 0, none⟩) 0 0) (.slice ax 128 cx) [] _ 29 UE.out (XX.out.sliceAt (by rw [HSN.out]; omega)) (by rw [HSN.out]; simp)) ?_; rintro v2 Y ⟨hu, hgr, ho⟩; have HU := hide hu; have HGR := hide hgr; clear hu hgr ho))
      go_ret2
      refine ⟨v2, rfl, ?_, ?_⟩
      · have h := HU.out
        rw [List.nil_append, ES.out] at h
        refine h.sliceAt ?_
        rw [← ES.out, HSN.out]
        omega
      · exact BX.out.trans (((Chg.refl (fun j => w.heap.size ≤ j) _).grown HGR.out (fun j _ e => by simp only [Value.ownBlock, Option.some.injEq] at e; omega)).below w.heap.size BX.out.size (fun j hj e => by omega))
end Go.Proofs.Ytjnbjgkcliaipaa
