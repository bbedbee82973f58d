/- The document's Genuine. CopyToken. -/
import Derived.Test.YtlcilclhaahopaaDoorTj
namespace Go.Proofs.YtlcilclhaahopaaDoor
open Go.RowKit

theorem S.makes_len {t m : S.Tk} {cs : List S.Cv} (h : S.makes t cs = some m) (hl : t.cs.length ≤ 4) : m.cs.length = t.cs.length + cs.length ∧ m.cs.length ≤ 4 := by
  induction cs generalizing t with
  | nil =>
    rw [S.makes] at h
    cases h
    exact ⟨rfl, hl⟩
  | cons c cs ih =>
    rw [S.makes] at h
    by_cases h0 : (S.narrow t c).2 = 0
    · rw [if_pos h0] at h
      obtain ⟨h1, h2⟩ := S.narrow_was h0
      have e : (S.narrow t c).1.cs.length = t.cs.length + 1 := by rw [S.narrow_yes t c h1 h2]; simp
      obtain ⟨h3, h4⟩ := ih h (by omega)
      exact ⟨by rw [h3, e]; simp; omega, h4⟩
    · rw [if_neg h0] at h; cases h
theorem S.genuine_many {r : List UInt8} {x : S.Tk} (h : 4 < x.cs.length) : S.genuine r x = false := by
  cases hm : S.makes (S.mint r x.id) x.cs with
  | none => exact S.genuine_none hm
  | some m =>
    obtain ⟨h1, h2⟩ := S.makes_len hm (by simp [S.mint])
    have : (S.mint r x.id).cs.length = 0 := by simp [S.mint]
    omega
set_option maxHeartbeats 16000000 in
set_option maxRecDepth 10000 in
theorem rgenuine_any (gT : Nat) (r : List UInt8) (x : S.Tk) (cv : Value) (w : World) (hT : w.heap[gT]? = some (.cells (S.v32 (S.K ++ S.H0)) 103 (0, 0))) (hr : r.length = 32) (hx : x.Ok) (hv : CvAt w cv x.cs) :
   Calls Tryd.prog 23 #[.pointer (some ⟨gT, 0, none⟩), .agg (S.v8 r), .agg (encT x.id cv x.tag).toArray] w fun e w' => e = .returned (.bool (S.genuine r x)) ∧ Below w.heap.size w w' := by
  obtain ⟨ao, n, cap, rfl, hn, hncap⟩ := hv.form
  obtain ⟨b, hb⟩ : ∃ b, b = S.genuine r x := ⟨_, rfl⟩
  rw [← hb]
  have HBB := hide hb
  have HN := hide hn
  have HV := hide hv
  have HX := hide hx
  have HT := hide hT
  have HR := hide hr
  have hnb : n ≤ 140737488355328 := by rw [hn]; exact hx.len
  clear hv hx hn hT hr hb
  go_enter Tryd.func23, Tryd.ntmps23
  go_upto_region 1 with fail
  generalize hW0 : w.alloc _ = W0
  generalize hW1 : W0.alloc _ = W1
  have B0 : Below w.heap.size w W0 := by rw [← hW0]; exact (Below.refl _ _).alloc (Nat.le_refl _) _
  have s0 : W0.heap.size = w.heap.size + 1 := by rw [← hW0]; simp
  have r0 : W0.heap[w.heap.size]? = some (.cells (S.v8 r) 25 (0, 0)) := by rw [← hW0]; exact heap_alloc_new _ _
  have B1 : Below W0.heap.size W0 W1 := by rw [← hW1]; exact (Below.refl _ _).alloc (Nat.le_refl _) _
  have s1 : W1.heap.size = w.heap.size + 2 := by rw [← hW1]; simp [s0]
  have r1 : W1.heap[w.heap.size + 1]? = some (.cells (encT x.id (.slice ao n cap) x.tag).toArray 27 (0, 0)) := by rw [← hW1, ← s0]; exact heap_alloc_new _ _
  have BB : Hid (Below w.heap.size w W1) := (B0.trans (B1.mono (by omega)))
  have Q0 : Hid (W1.heap[w.heap.size]? = some (.cells (S.v8 r) 25 (0, 0))) := ((B1.block _ (by omega)).trans r0)
  have Q1 : Hid (W1.heap[w.heap.size + 1]? = some (.cells (encT x.id (.slice ao n cap) x.tag).toArray 27 (0, 0))) := r1
  clear hW0 B0 s0 r0 hW1 B1 s1 r1
  obtain ⟨c0, c1⟩ := t_cells Q1.out
  by_cases h4 : 4 < n
  · have q1 : (n : Int) > 4 := by omega
    have q1' : (4 : Int) < (n : Int) := by omega
    have EB := hide (show b = false by rw [HBB.out]; exact S.genuine_many (by rw [← HN.out]; exact h4))
    go_wp2_with fail
    go_ret
    exact ⟨by rw [EB.out]; rfl, BB.out⟩
  have q1 : ¬ (n : Int) > 4 := by omega
  have q1' : ¬ (4 : Int) < (n : Int) := by omega
  have ld := load_digv Q0.out HR.out
  go_upto_region 3 with fail
  clear q1 q1'
  go_wp2_with (with_reducible refine at_op { dst := some 16, op := Op.load 25 (Operand.tmp 4), type := 25, pos := "ref.go:40", after := #[], guard := none } ?_; refine wpList_load_as rfl 25 (.tmp 4) rfl (.pointer (some ⟨w.heap.size, 0, none⟩)) rfl (.agg (S.v8 r)) ld ?_)
  refine (rmint_any gT r x.id W1 ((BB.out.block gT (block_lt_of_row HT.out)).trans HT.out) HR.out HX.out.id2).mono ?_
  rintro e w2 ⟨rfl, hb2⟩
  obtain ⟨D, hD⟩ : ∃ D, D = (S.mint r x.id).tag := ⟨_, rfl⟩
  rw [← hD]
  have LD := hide (show D.length = 32 by rw [hD]; exact S.mint_tag _ _)
  have EM := hide (show S.mint r x.id = ⟨x.id, [], D⟩ by rw [hD]; simp only [S.mint])
  obtain ⟨A3, w3, ha3, hs3, hr3, hb3, -⟩ := lay_t w2 x.id none 0 0 D LD.out
  obtain ⟨g7, hg7⟩ : ∃ g, g = w2.heap.size := ⟨_, rfl⟩
  rw [← hg7] at ha3 hs3 hr3
  have hb23 := hb2.trans (hb3.mono hb2.size)
  have B3 := hide (BB.out.trans (hb23.mono BB.out.size))
  have R7 := hide hr3
  have Q3 := hide ((hb23.block _ (block_lt_of_row Q1.out)).trans Q1.out)
  have G7 := hide (show w.heap.size + 1 < g7 by have := block_lt_of_row Q1.out; have := hb2.size; omega)
  clear hD hb2 hb3 hb23 hr3 hg7 ld c0 c1 Q0 Q1 BB
  go_upto_region 4 with (first | (with_reducible refine at_op { dst := some 7, op := Op.alloc 27, type := 0, pos := "ref.go:40", after := #[], guard := none } ?_; refine wpList_alloc_known rfl 27 rfl _ _ ha3 ?_) | (with_reducible refine at_op { dst := none, op := Op.store 27 (Operand.tmp 7) (Operand.tmp 19), type := 0, pos := "ref.go:40", after := #[{ on := 5, ground := Ground.data }, { on := 4, ground := Ground.data }, { on := 4, ground := Ground.chain }, { on := 0, ground := Ground.phase }, { on := 1, ground := Ground.phase }, { on := 2, ground := Ground.phase }, { on := 3, ground := Ground.phase }, { on := 4, ground := Ground.phase }, { on := 5, ground := Ground.phase }], guard := none } ?_; refine wpList_store_as rfl 27 (.tmp 7) (.tmp 19) rfl (.pointer (some ⟨g7, 0, none⟩)) (.agg (encT x.id (.slice none 0 0) D).toArray) rfl rfl w3 hs3 ?_))
  clear ha3 hs3 A3
  go_wp2_with fail
  go_loopg [8] n (fun gk s8 wr => ∃ (i : Nat) (t : S.Tk) (tp : Option Addr) (tn tc : Nat), i + gk = n ∧ s8 = .int .i64 (i : Int) ∧ Hid (S.makes (S.mint r x.id) x.cs = S.makes t (x.cs.drop i)) ∧ Hid t.Ok ∧ Hid (wr.heap[g7]? = some (.cells (encT t.id (.slice tp tn tc) t.tag).toArray 27 (0, 0))) ∧ Hid (CRow 0 wr (.slice tp tn tc) t.cs) ∧ Hid (wr.heap[w.heap.size + 1]? = some (.cells (encT x.id (.slice ao n cap) x.tag).toArray 27 (0, 0))) ∧ Hid (Below w.heap.size w wr))
  case atStart => exact ⟨0, ⟨x.id, [], D⟩, none, 0, 0, by omega, rfl, by show S.makes _ _ = _; rw [EM.out]; rfl, ⟨HX.out.id2, LD.out, by simp, by simp⟩, R7, Rw.nil _ _ _ _ _, Q3, B3⟩
  case round =>
    clear R7 Q3 B3 EM LD
    obtain ⟨i, t, tp, tn, tc, hi, rfl, HM, HTK, R7, CR, Q3, BW⟩ := hrel
    obtain ⟨c0, c1⟩ := t_cells Q3.out
    cases gk with
    | zero =>
      obtain rfl : i = n := by omega
      have q : ¬ (i : Int) < (i : Int) := by omega
      clear hi
      have hge : S.genuine r x = (t.tag == x.tag) := S.genuine_of (by
        have := HM.out
        rw [List.drop_of_length_le (by rw [← HN.out]; exact Nat.le_refl _)] at this
        rw [this]; rfl)
      obtain ⟨q2, hq⟩ : ∃ q, q = (t.tag == x.tag) := ⟨_, rfl⟩
      have EQ := fun W => equal_dig t.tag x.tag HTK.out.tl HX.out.tl q2 hq.symm W
      have EB := hide (show b = q2 by rw [HBB.out, hge, hq])
      clear hge hq HM
      have ld1 := load_tt R7.out HTK.out.tl
      have ld2 := load_tt Q3.out HX.out.tl
      go_wp2_with (first | (with_reducible refine at_op { dst := some 42, op := Op.load 25 (Operand.tmp 41), type := 25, pos := "ref.go:48", after := #[{ on := 0, ground := Ground.data }], guard := none } ?_; refine wpList_load_as rfl 25 (.tmp 41) rfl (.pointer (some ⟨g7, 2, none⟩)) rfl (.agg (S.v8 t.tag)) ld1 ?_) | (with_reducible refine at_op { dst := some 44, op := Op.load 25 (Operand.tmp 43), type := 25, pos := "ref.go:48", after := #[{ on := 2, ground := Ground.data }], guard := none } ?_; refine wpList_load_as rfl 25 (.tmp 43) rfl (.pointer (some ⟨w.heap.size + 1, 2, none⟩)) rfl (.agg (S.v8 x.tag)) ld2 ?_))
      go_ret
      exact ⟨by rw [EB.out]; rfl, BW.out⟩
    | succ gO =>
      have q : (i : Int) < (n : Int) := by omega
      have q0 : (0 : Int) ≤ (i : Int) := by omega
      have q1 : IntKind.i64.wrap ((i : Int) + 1) = (i : Int) + 1 := by rw [IntKind.wrap_i64]; omega
      have hlt : i < x.cs.length := by rw [← HN.out]; omega
      obtain ⟨c, hc⟩ : ∃ c, x.cs[i]? = some c := ⟨_, List.getElem?_eq_getElem hlt⟩
      have HC := hide hc
      obtain ⟨g, off, cap2, e, hle, hg, hra⟩ := (HV.out.below BW.out).cells i c hc
      simp only [Value.slice.injEq] at e
      obtain ⟨e1, -, -⟩ := e
      subst e1
      have HCO := hide (HX.out.cs c (List.mem_of_getElem? hc))
      have HRA := hide hra
      have HGL := hide hg
      have hok := S.narrow_ok t c HTK.out HCO.out
      have hmk : S.makes t (x.cs.drop i) = if (S.narrow t c).2 = 0 then S.makes (S.narrow t c).1 (x.cs.drop (i + 1)) else none := by rw [S.drop_one HC.out, S.makes]
      have h3 := S.narrow_e t c
      obtain ⟨u, hu⟩ : ∃ u, u = (S.narrow t c).1 := ⟨_, rfl⟩
      obtain ⟨er, her⟩ : ∃ er, er = (S.narrow t c).2 := ⟨_, rfl⟩
      rw [← hu] at hok hmk
      rw [← her] at h3 hmk
      have HU := hide hok
      have EU := hide hu
      have EER := hide her
      have HMK := hide hmk
      have H3 := hide h3
      clear hra hg hle hc hok hmk hu her h3
      go_upto_region 7 with fail
      clear c0 c1
      go_cut [9, 10] from 27 to 37 (fun s9 s10 wc => ∃ (g9 : Nat) (uo : Option Addr) (un uc : Nat), s9 = .pointer (some ⟨g9, 0, none⟩) ∧ s10 = .int .i64 er ∧ Hid (wc.heap[g9]? = some (.cells (encT u.id (.slice uo un uc) u.tag).toArray 27 (0, 0))) ∧ Hid (CRow 0 wc (.slice uo un uc) u.cs) ∧ Hid (Chg (fun _ => False) wr wc))
      case first =>
        refine wp_region_noPanic ?_
        refine wp_region_held_drew (S := (fun W => Chg (fun _ => False) wr W)) follows ((Chg.refl _ _).drew) (fun hHeld => ?_)
        clear hHeld
        have hHeld : Chg (fun _ => False) wr wr.drew := (Chg.refl _ _).drew
        have CZ0 := hide hHeld
        generalize wr.drew = Z0 at CZ0 hHeld ⊢
        refine wpAnyH_take (i := 0) (oi := { dst := some 28, op := Op.move (Operand.tmp 0), type := 50, pos := "ref.go:42", after := #[], guard := none }) (v := ?_) rfl (by kernel_rfl) (by kernel_rfl) (by kernel_rfl) (fun _ _ _ h => h) (Or.inl ⟨by rfl, ?_⟩) (by assumption) ?_
        rotate_left
        · intro w hSw
          clear hSw
          go_simp
          all_goals with_reducible rfl
        simp only [Act.put, List.setIfInBounds_toArray, List.set_cons_zero, List.set_cons_succ]
        refine wpAnyH_take (i := 1) (oi := { dst := some 29, op := Op.load 27 (Operand.tmp 7), type := 27, pos := "ref.go:42", after := #[], guard := none }) (v := .agg (encT t.id (.slice tp tn tc) t.tag).toArray) rfl (by kernel_rfl) (by kernel_rfl) (by kernel_rfl) (fun _ _ _ h => h) (yieldsIf_load_mid (by rfl) _ _ rfl g7 0 rfl (encT t.id (.slice tp tn tc) t.tag) _ (fun _ hSw => rangeAt_row (hSw.row R7.out (fun e => e))) Tryd.underlying27 rfl (by rw [size_t _ _ _ HTK.out.tl, List.size_toArray])) (by assumption) ?_
        simp only [Act.put, List.setIfInBounds_toArray, List.set_cons_zero, List.set_cons_succ]
        refine wpAnyH_take (i := 2) (oi := { dst := some 30, op := Op.fieldAddr 27 (Operand.tmp 5) 1, type := 0, pos := "ref.go:42", after := #[], guard := none }) (v := ?_) rfl (by kernel_rfl) (by kernel_rfl) (by kernel_rfl) (fun _ _ _ h => h) (Or.inl ⟨by rfl, ?_⟩) (by assumption) ?_
        rotate_left
        · intro w hSw
          clear hSw
          go_simp
          all_goals with_reducible rfl
        simp only [Act.put, List.setIfInBounds_toArray, List.set_cons_zero, List.set_cons_succ]
        refine wpAnyH_take (i := 3) (oi := { dst := some 31, op := Op.load 23 (Operand.tmp 30), type := 23, pos := "ref.go:42", after := #[{ on := 2, ground := Ground.data }], guard := none }) (v := ?_) rfl (by kernel_rfl) (by kernel_rfl) (by kernel_rfl) (fun _ _ _ h => h) (Or.inl ⟨by rfl, ?_⟩) (by assumption) ?_
        rotate_left
        · intro w hSw
          have c1 := (t_cells (hSw.row Q3.out (fun e => e))).2
          clear hSw
          go_simp
          all_goals with_reducible rfl
        simp only [Act.put, List.setIfInBounds_toArray, List.set_cons_zero, List.set_cons_succ]
        refine wpAnyH_take (i := 4) (oi := { dst := some 32, op := Op.move (Operand.tmp 8), type := 3, pos := "ref.go:42", after := #[], guard := none }) (v := ?_) rfl (by kernel_rfl) (by kernel_rfl) (by kernel_rfl) (fun _ _ _ h => h) (Or.inl ⟨by rfl, ?_⟩) (by assumption) ?_
        rotate_left
        · intro w hSw
          clear hSw
          go_simp
          all_goals with_reducible rfl
        simp only [Act.put, List.setIfInBounds_toArray, List.set_cons_zero, List.set_cons_succ]
        refine wpAnyH_take (i := 5) (oi := { dst := some 33, op := Op.indexAddr 23 (Operand.tmp 31) (Operand.tmp 32), type := 0, pos := "ref.go:42", after := #[{ on := 3, ground := Ground.data }, { on := 4, ground := Ground.data }], guard := none }) (v := ?_) rfl (by kernel_rfl) (by kernel_rfl) (by kernel_rfl) (fun _ _ _ h => h) (Or.inl ⟨by rfl, ?_⟩) (by assumption) ?_
        rotate_left
        · intro w hSw
          clear hSw
          go_simp
          all_goals with_reducible rfl
        simp only [Act.put, List.setIfInBounds_toArray, List.set_cons_zero, List.set_cons_succ]
        refine wpAnyH_take (i := 6) (oi := { dst := some 34, op := Op.load 42 (Operand.tmp 33), type := 42, pos := "ref.go:42", after := #[{ on := 5, ground := Ground.data }], guard := none }) (v := .agg (encC c).toArray) rfl (by kernel_rfl) (by kernel_rfl) (by kernel_rfl) (fun _ _ _ h => h) (yieldsIf_load_mid (by rfl) _ _ rfl g (off + i * 2) rfl (encC c) _ (fun _ hSw => (fun j v hv => (World.cell?_of_block (a := ⟨g, off + i * 2 + j, none⟩) (hSw.block g HGL.out (fun e => e))).trans (HRA.out j v hv))) Tryd.underlying42 rfl (by rw [size_c, List.size_toArray])) (by assumption) ?_
        simp only [Act.put, List.setIfInBounds_toArray, List.set_cons_zero, List.set_cons_succ]
        refine wpAnyH_ready (rs := [7, 11]) (by kernel_rfl) (by simp) ?_
        refine AllReadyH.cons (o := { dst := some 35, op := Op.call { callee := Callee.value (Operand.func 22), args := #[Operand.tmp 28, Operand.tmp 29, Operand.tmp 34], argTypes := #[50, 27, 42] }, type := 53, pos := "ref.go:42", after := #[{ on := 0, ground := Ground.data }, { on := 1, ground := Ground.data }, { on := 6, ground := Ground.data }], guard := none }) rfl (fun K hK => ?_) ?_
        · skip
          go_simp
          refine (rnarrow_any gT t (.slice tp tn tc) c Z0 (((BW.out.trans (CZ0.out.below w.heap.size BW.out.size (fun k hk e => by omega))).block gT (block_lt_of_row HT.out)).trans HT.out) HTK.out HCO.out ((CRow.at CR.out).below (CZ0.out.below _ (Nat.le_refl _) (fun _ _ e => e)))).mono ?_
          rintro e Z1 ⟨⟨nv, rfl, hcr⟩, hb2⟩
          rw [← EU.out] at hcr ⊢
          rw [← EER.out]
          obtain ⟨uo, uc, rfl⟩ := hcr.form
          obtain ⟨un, hun⟩ : ∃ un, un = u.cs.length := ⟨_, rfl⟩
          rw [← hun] at hcr ⊢
          have CRu : Hid (CRow 0 Z1 (.slice uo un uc) u.cs) := hcr.mono (Nat.zero_le _)
          clear hcr hun
          have CZ1 : Hid (Chg (fun _ => False) wr Z1) := CZ0.out.then hb2
          clear hb2 CZ0
          clear hHeld
          refine hK.out _ _ CZ1.out (fun hHeld => ?_)
          clear hK K
          try simp only [Act.put, List.setIfInBounds_toArray, List.set_cons_zero, List.set_cons_succ]
          refine wpAnyH_take (i := 8) (oi := { dst := some 27, op := Op.move (Operand.tmp 35), type := 53, pos := "ref.go:42", after := #[{ on := 7, ground := Ground.data }], guard := none }) (v := ?_) rfl (by kernel_rfl) (by kernel_rfl) (by kernel_rfl) (fun _ _ _ h => h) (Or.inl ⟨by rfl, ?_⟩) (by assumption) ?_
          rotate_left
          · intro w hSw
            clear hSw
            go_simp
            all_goals with_reducible rfl
          simp only [Act.put, List.setIfInBounds_toArray, List.set_cons_zero, List.set_cons_succ]
          refine wpAnyH_take (i := 9) (oi := { dst := some 36, op := Op.extract (Operand.tmp 27) 0, type := 27, pos := "ref.go:42", after := #[{ on := 8, ground := Ground.data }], guard := none }) (v := ?_) rfl (by kernel_rfl) (by kernel_rfl) (by kernel_rfl) (fun _ _ _ h => h) (Or.inl ⟨by rfl, ?_⟩) (by assumption) ?_
          rotate_left
          · intro w hSw
            clear hSw
            go_simp
            all_goals with_reducible rfl
          simp only [Act.put, List.setIfInBounds_toArray, List.set_cons_zero, List.set_cons_succ]
          refine wpAnyH_take (i := 10) (oi := { dst := some 37, op := Op.extract (Operand.tmp 27) 1, type := 3, pos := "ref.go:42", after := #[{ on := 8, ground := Ground.data }, { on := 12, ground := Ground.gcOnly Departure.lateStores }], guard := none }) (v := ?_) rfl (by kernel_rfl) (by kernel_rfl) (by kernel_rfl) (fun _ _ _ h => h) (Or.inl ⟨by rfl, ?_⟩) (by assumption) ?_
          rotate_left
          · intro w hSw
            clear hSw
            go_simp
            all_goals with_reducible rfl
          simp only [Act.put, List.setIfInBounds_toArray, List.set_cons_zero, List.set_cons_succ]
          refine wpAnyH_ready (rs := [11]) (by kernel_rfl) (by simp) ?_
          refine step_alloc_as (o := { dst := some 9, op := Op.alloc 27, type := 0, pos := "ref.go:42", after := #[], guard := none }) rfl rfl 27 rfl _ _ (alloc27 Z1) AllReadyH.nil ⟨CZ1.out.alloc _, fun hHeld => ?_⟩
          clear hHeld
          simp only [Act.put, List.setIfInBounds_toArray, List.set_cons_zero, List.set_cons_succ]
          obtain ⟨g9, hg9⟩ : ∃ gg, gg = Z1.heap.size := ⟨_, rfl⟩
          rw [← hg9]
          generalize hZ : Z1.alloc _ = Z2
          have hb2 : Below Z1.heap.size Z1 Z2 := by rw [← hZ]; exact (Below.refl _ _).alloc (Nat.le_refl _) _
          have Rg9 : Hid (Z2.heap[g9]? = some (.cells tk0 27 (0, 0))) := by rw [← hZ, hg9]; exact heap_alloc_new _ _
          have Gg9 := hide (show wr.heap.size ≤ g9 by rw [hg9]; exact CZ1.out.size)
          clear hZ hg9
          replace CRu : Hid (CRow 0 Z2 (.slice uo un uc) u.cs) := CRu.out.below hb2
          have CZ2 : Hid (Chg (fun _ => False) wr Z2) := CZ1.out.then hb2
          clear hb2 CZ1
          have hHeld := CZ2.out
          refine wpAnyH_ready (rs := [12]) (by kernel_rfl) (by simp) ?_
          obtain ⟨Z3, hst, r6, C6, s6⟩ := store_t (id := u.id) (ao := uo) (n := un) (m := uc) (tag := u.tag) Rg9.out tk0_size HU.out.tl
          refine step_store_as (o := { dst := none, op := Op.store 27 (Operand.tmp 9) (Operand.tmp 36), type := 0, pos := "ref.go:42", after := #[{ on := 11, ground := Ground.data }, { on := 9, ground := Ground.data }, { on := 7, ground := Ground.chain }, { on := 0, ground := Ground.phase }, { on := 1, ground := Ground.phase }, { on := 2, ground := Ground.phase }, { on := 3, ground := Ground.phase }, { on := 4, ground := Ground.phase }, { on := 5, ground := Ground.phase }, { on := 6, ground := Ground.phase }, { on := 7, ground := Ground.phase }, { on := 8, ground := Ground.phase }, { on := 9, ground := Ground.phase }, { on := 10, ground := Ground.textOnly Departure.lateStores }, { on := 11, ground := Ground.phase }], guard := none }) rfl rfl 27 (.tmp 9) (.tmp 36) rfl _ _ rfl rfl Z3 hst AllReadyH.nil ⟨CZ2.out.trans C6 (fun k hk e => by have := Gg9.out; omega), fun hHeld => ?_⟩
          have CZ3 : Hid (Chg (fun _ => False) wr Z3) := CZ2.out.trans C6 (fun k hk e => by have := Gg9.out; omega)
          replace CRu : Hid (CRow 0 Z3 (.slice uo un uc) u.cs) := CRu.out.chg C6 (fun j e e2 => CRu.out.apart Rg9.out (by decide) (e2 ▸ e))
          replace Rg9 : Hid (Z3.heap[g9]? = some (.cells (encT u.id (.slice uo un uc) u.tag).toArray 27 (0, 0))) := r6
          clear hst r6 C6 s6 CZ2
          simp only [Act.put]
          refine wpAnyH_take (i := 13) (oi := { dst := some 10, op := Op.assign (Operand.tmp 37), type := 3, pos := "ref.go:42", after := #[{ on := 10, ground := Ground.data }, { on := 12, ground := Ground.chain }, { on := 0, ground := Ground.phase }, { on := 1, ground := Ground.phase }, { on := 2, ground := Ground.phase }, { on := 3, ground := Ground.phase }, { on := 4, ground := Ground.phase }, { on := 5, ground := Ground.phase }, { on := 6, ground := Ground.phase }, { on := 7, ground := Ground.phase }, { on := 8, ground := Ground.phase }, { on := 9, ground := Ground.phase }, { on := 10, ground := Ground.phase }, { on := 11, ground := Ground.phase }, { on := 12, ground := Ground.phase }], guard := none }) (v := ?_) rfl (by kernel_rfl) (by kernel_rfl) (by kernel_rfl) (fun _ _ _ h => h) (Or.inl ⟨by rfl, ?_⟩) (by assumption) ?_
          rotate_left
          · intro w hSw
            clear hSw
            go_simp
            all_goals with_reducible rfl
          simp only [Act.put, List.setIfInBounds_toArray, List.set_cons_zero, List.set_cons_succ]
          refine wpAnyH_done (by kernel_rfl) ?_ _
          refine NoPanic.normal ?_
          clear hHeld
          try go_wp2_with fail
          go_meet
          exact ⟨g9, uo, un, uc, rfl, rfl, Rg9, CRu, CZ3⟩
        refine step_alloc_as (o := { dst := some 9, op := Op.alloc 27, type := 0, pos := "ref.go:42", after := #[], guard := none }) rfl rfl 27 rfl _ _ (alloc27 Z0) AllReadyH.nil ⟨CZ0.out.alloc _, fun hHeld => ?_⟩
        clear hHeld
        simp only [Act.put, List.setIfInBounds_toArray, List.set_cons_zero, List.set_cons_succ]
        obtain ⟨g9, hg9⟩ : ∃ gg, gg = Z0.heap.size := ⟨_, rfl⟩
        rw [← hg9]
        generalize hZ : Z0.alloc _ = Z1
        have hb2 : Below Z0.heap.size Z0 Z1 := by rw [← hZ]; exact (Below.refl _ _).alloc (Nat.le_refl _) _
        have Rg9 : Hid (Z1.heap[g9]? = some (.cells tk0 27 (0, 0))) := by rw [← hZ, hg9]; exact heap_alloc_new _ _
        have Gg9 := hide (show wr.heap.size ≤ g9 by rw [hg9]; exact CZ0.out.size)
        clear hZ hg9
        have CZ1 : Hid (Chg (fun _ => False) wr Z1) := CZ0.out.then hb2
        clear hb2 CZ0
        have hHeld := CZ1.out
        refine wpAnyH_ready (rs := [7]) (by kernel_rfl) (by simp) ?_
        refine AllReadyH.cons (o := { dst := some 35, op := Op.call { callee := Callee.value (Operand.func 22), args := #[Operand.tmp 28, Operand.tmp 29, Operand.tmp 34], argTypes := #[50, 27, 42] }, type := 53, pos := "ref.go:42", after := #[{ on := 0, ground := Ground.data }, { on := 1, ground := Ground.data }, { on := 6, ground := Ground.data }], guard := none }) rfl (fun K hK => ?_) AllReadyH.nil
        go_simp
        refine (rnarrow_any gT t (.slice tp tn tc) c Z1 (((BW.out.trans (CZ1.out.below w.heap.size BW.out.size (fun k hk e => by omega))).block gT (block_lt_of_row HT.out)).trans HT.out) HTK.out HCO.out ((CRow.at CR.out).below (CZ1.out.below _ (Nat.le_refl _) (fun _ _ e => e)))).mono ?_
        rintro e Z2 ⟨⟨nv, rfl, hcr⟩, hb2⟩
        rw [← EU.out] at hcr ⊢
        rw [← EER.out]
        obtain ⟨uo, uc, rfl⟩ := hcr.form
        obtain ⟨un, hun⟩ : ∃ un, un = u.cs.length := ⟨_, rfl⟩
        rw [← hun] at hcr ⊢
        have CRu : Hid (CRow 0 Z2 (.slice uo un uc) u.cs) := hcr.mono (Nat.zero_le _)
        clear hcr hun
        replace Rg9 : Hid (Z2.heap[g9]? = some (.cells tk0 27 (0, 0))) := (hb2.block _ (block_lt_of_row Rg9.out)).trans Rg9.out
        have CZ2 : Hid (Chg (fun _ => False) wr Z2) := CZ1.out.then hb2
        clear hb2 CZ1
        clear hHeld
        refine hK.out _ _ CZ2.out (fun hHeld => ?_)
        clear hK K
        try simp only [Act.put, List.setIfInBounds_toArray, List.set_cons_zero, List.set_cons_succ]
        refine wpAnyH_take (i := 8) (oi := { dst := some 27, op := Op.move (Operand.tmp 35), type := 53, pos := "ref.go:42", after := #[{ on := 7, ground := Ground.data }], guard := none }) (v := ?_) rfl (by kernel_rfl) (by kernel_rfl) (by kernel_rfl) (fun _ _ _ h => h) (Or.inl ⟨by rfl, ?_⟩) (by assumption) ?_
        rotate_left
        · intro w hSw
          clear hSw
          go_simp
          all_goals with_reducible rfl
        simp only [Act.put, List.setIfInBounds_toArray, List.set_cons_zero, List.set_cons_succ]
        refine wpAnyH_take (i := 9) (oi := { dst := some 36, op := Op.extract (Operand.tmp 27) 0, type := 27, pos := "ref.go:42", after := #[{ on := 8, ground := Ground.data }], guard := none }) (v := ?_) rfl (by kernel_rfl) (by kernel_rfl) (by kernel_rfl) (fun _ _ _ h => h) (Or.inl ⟨by rfl, ?_⟩) (by assumption) ?_
        rotate_left
        · intro w hSw
          clear hSw
          go_simp
          all_goals with_reducible rfl
        simp only [Act.put, List.setIfInBounds_toArray, List.set_cons_zero, List.set_cons_succ]
        refine wpAnyH_take (i := 10) (oi := { dst := some 37, op := Op.extract (Operand.tmp 27) 1, type := 3, pos := "ref.go:42", after := #[{ on := 8, ground := Ground.data }, { on := 12, ground := Ground.gcOnly Departure.lateStores }], guard := none }) (v := ?_) rfl (by kernel_rfl) (by kernel_rfl) (by kernel_rfl) (fun _ _ _ h => h) (Or.inl ⟨by rfl, ?_⟩) (by assumption) ?_
        rotate_left
        · intro w hSw
          clear hSw
          go_simp
          all_goals with_reducible rfl
        simp only [Act.put, List.setIfInBounds_toArray, List.set_cons_zero, List.set_cons_succ]
        refine wpAnyH_ready (rs := [12]) (by kernel_rfl) (by simp) ?_
        obtain ⟨Z3, hst, r6, C6, s6⟩ := store_t (id := u.id) (ao := uo) (n := un) (m := uc) (tag := u.tag) Rg9.out tk0_size HU.out.tl
        refine step_store_as (o := { dst := none, op := Op.store 27 (Operand.tmp 9) (Operand.tmp 36), type := 0, pos := "ref.go:42", after := #[{ on := 11, ground := Ground.data }, { on := 9, ground := Ground.data }, { on := 7, ground := Ground.chain }, { on := 0, ground := Ground.phase }, { on := 1, ground := Ground.phase }, { on := 2, ground := Ground.phase }, { on := 3, ground := Ground.phase }, { on := 4, ground := Ground.phase }, { on := 5, ground := Ground.phase }, { on := 6, ground := Ground.phase }, { on := 7, ground := Ground.phase }, { on := 8, ground := Ground.phase }, { on := 9, ground := Ground.phase }, { on := 10, ground := Ground.textOnly Departure.lateStores }, { on := 11, ground := Ground.phase }], guard := none }) rfl rfl 27 (.tmp 9) (.tmp 36) rfl _ _ rfl rfl Z3 hst AllReadyH.nil ⟨CZ2.out.trans C6 (fun k hk e => by have := Gg9.out; omega), fun hHeld => ?_⟩
        have CZ3 : Hid (Chg (fun _ => False) wr Z3) := CZ2.out.trans C6 (fun k hk e => by have := Gg9.out; omega)
        replace CRu : Hid (CRow 0 Z3 (.slice uo un uc) u.cs) := CRu.out.chg C6 (fun j e e2 => CRu.out.apart Rg9.out (by decide) (e2 ▸ e))
        replace Rg9 : Hid (Z3.heap[g9]? = some (.cells (encT u.id (.slice uo un uc) u.tag).toArray 27 (0, 0))) := r6
        clear hst r6 C6 s6 CZ2
        simp only [Act.put]
        refine wpAnyH_take (i := 13) (oi := { dst := some 10, op := Op.assign (Operand.tmp 37), type := 3, pos := "ref.go:42", after := #[{ on := 10, ground := Ground.data }, { on := 12, ground := Ground.chain }, { on := 0, ground := Ground.phase }, { on := 1, ground := Ground.phase }, { on := 2, ground := Ground.phase }, { on := 3, ground := Ground.phase }, { on := 4, ground := Ground.phase }, { on := 5, ground := Ground.phase }, { on := 6, ground := Ground.phase }, { on := 7, ground := Ground.phase }, { on := 8, ground := Ground.phase }, { on := 9, ground := Ground.phase }, { on := 10, ground := Ground.phase }, { on := 11, ground := Ground.phase }, { on := 12, ground := Ground.phase }], guard := none }) (v := ?_) rfl (by kernel_rfl) (by kernel_rfl) (by kernel_rfl) (fun _ _ _ h => h) (Or.inl ⟨by rfl, ?_⟩) (by assumption) ?_
        rotate_left
        · intro w hSw
          clear hSw
          go_simp
          all_goals with_reducible rfl
        simp only [Act.put, List.setIfInBounds_toArray, List.set_cons_zero, List.set_cons_succ]
        refine wpAnyH_done (by kernel_rfl) ?_ _
        refine NoPanic.normal ?_
        clear hHeld
        try go_wp2_with fail
        go_meet
        exact ⟨g9, uo, un, uc, rfl, rfl, Rg9, CRu, CZ3⟩
      case rest =>
        obtain ⟨g9, uo, un, uc, rfl, rfl, R9, CRc, CW⟩ := hcut
        have B3 := hide (BW.out.trans (CW.out.below w.heap.size BW.out.size (fun k hk e => e.elim)))
        have R7c := hide (CW.out.row R7.out (fun e => e))
        have Q3c := hide (CW.out.row Q3.out (fun e => e))
        have h3 := H3.out
        clear H3 CW R7 Q3 CR BW EU EER
        rcases h3 with rfl | rfl | rfl
        · obtain ⟨v4, hs4, hr4, hc4, -⟩ := store_t (id := u.id) (ao := uo) (n := un) (m := uc) (tag := u.tag) R7c.out (by rw [List.size_toArray, encT_length _ _ _ HTK.out.tl]) HU.out.tl
          have ld4 := load_t R9.out HU.out.tl
          have R7d := hide hr4
          have Q3d := hide (hc4.row Q3c.out (by have := G7.out; omega))
          have CRd := hide (CRc.out.chg hc4 (fun j e e2 => CRc.out.apart R7c.out (by decide) (e2 ▸ e)))
          have B4 := hide (B3.out.trans (hc4.below w.heap.size B3.out.size (fun k hk e => by have := G7.out; omega)))
          have HM2 := hide (show S.makes (S.mint r x.id) x.cs = S.makes u (x.cs.drop (i + 1)) by rw [HM.out, HMK.out, if_pos rfl])
          clear hr4 hc4 R9 R7c Q3c CRc B3 HM HMK
          go_wp2_with (first | (with_reducible refine at_op { dst := some 40, op := Op.load 27 (Operand.tmp 9), type := 27, pos := "ref.go:46", after := #[], guard := none } ?_; refine wpList_load_as rfl 27 (.tmp 9) rfl (.pointer (some ⟨g9, 0, none⟩)) rfl (.agg (encT u.id (.slice uo un uc) u.tag).toArray) ld4 ?_) | (with_reducible refine at_op { dst := none, op := Op.store 27 (Operand.tmp 7) (Operand.tmp 40), type := 0, pos := "ref.go:46", after := #[{ on := 0, ground := Ground.data }, { on := 0, ground := Ground.phase }], guard := none } ?_; refine wpList_store_as rfl 27 (.tmp 7) (.tmp 40) rfl (.pointer (some ⟨g7, 0, none⟩)) (.agg (encT u.id (.slice uo un uc) u.tag).toArray) rfl rfl v4 hs4 ?_))
          go_roundg gO
          case measure => omega
          case rel => exact ⟨i + 1, u, uo, un, uc, by omega, by first | rfl | simp, HM2, HU, R7d, CRd, Q3d, B4⟩
        · have EB := hide (show b = false by
            rw [HBB.out]
            exact S.genuine_none (by rw [HM.out, HMK.out]; rfl))
          clear HM HMK
          go_wp2_with fail
          go_ret
          exact ⟨by rw [EB.out]; rfl, B3.out⟩
        · have EB := hide (show b = false by
            rw [HBB.out]
            exact S.genuine_none (by rw [HM.out, HMK.out]; rfl))
          clear HM HMK
          go_wp2_with fail
          go_ret
          exact ⟨by rw [EB.out]; rfl, B3.out⟩
/-- CopyToken: the same token, its caveats in memory of their own. -/
theorem set_cv {w : World} {g id : Nat} {cv : Value} {tag : List UInt8} (v : Value) (hr : w.heap[g]? = some (.cells (encT id cv tag).toArray 27 (0, 0))) : (w.setCell ⟨g, 1, none⟩ v).heap[g]? = some (.cells (encT id v tag).toArray 27 (0, 0)) := by
  rw [heap_setCell_same _ _ _ _ _ _ hr]
  congr 2
theorem wpList_append_is {w : World} {ops : Array Oper} {rest : List Oper} {o : Oper} {a : Act} {Q : Exit → Act → World → Prop} (hgd : o.guard = none) (s x : Operand) (t tn : TypeId)
    (hop : o.op = .call { callee := .builtin .append, args := #[s, x], argTypes := #[t, tn] }) (vs vx : Value) (hs : a.eval s = vs) (hx : a.eval x = vx) (v' : Value) (w' : World) (hr : (Builtin.append_ #[t, tn] o.type #[vs, vx]).run Tryd.prog w = .ok v' w')
    (h : wpList Tryd.prog ops Q rest (a.put o.dst v') w') : wpList Tryd.prog ops Q (o :: rest) a w :=
  wpList_plain hgd fun _ hK => Lib.wp_append_run w s x t tn hop vs vx hs hx v' w' hr (hK _ _ h)
set_option maxHeartbeats 8000000 in
set_option maxRecDepth 10000 in
theorem copyToken_any (t : S.Tk) (cv : Value) (w : World) (ht : t.Ok) (h4 : t.cs.length ≤ 4) (hv : CvAt w cv t.cs) :
   Calls Tryd.prog 30 #[.agg (encT t.id cv t.tag).toArray] w fun e w' => (∃ v, e = .returned (.agg (encT t.id v t.tag).toArray) ∧ CRow w.heap.size w' v t.cs) ∧ Below w.heap.size w w' := by
  obtain ⟨ao, n, cap, rfl, hn, hncap⟩ := hv.form
  have HN := hide hn
  have HV := hide hv
  have HTL := hide ht.tl
  have H4 := hide h4
  clear hv ht hn hncap h4
  go_enter Tryd.func30, Tryd.ntmps30
  go_upto_region 1 with (refine wpList_alloc_known rfl 27 rfl _ _ (alloc27 _) ?_)
  generalize hW0 : w.alloc _ = W0
  generalize hW1 : W0.alloc _ = W1
  have B0 : Below w.heap.size w W0 := by rw [← hW0]; exact (Below.refl _ _).alloc (Nat.le_refl _) _
  have s0 : W0.heap.size = w.heap.size + 1 := by rw [← hW0]; simp
  have r0 : W0.heap[w.heap.size]? = some (.cells (encT t.id (.slice ao n cap) t.tag).toArray 27 (0, 0)) := by rw [← hW0]; exact heap_alloc_new _ _
  have B1 : Below W0.heap.size W0 W1 := by rw [← hW1]; exact (Below.refl _ _).alloc (Nat.le_refl _) _
  have s1 : W1.heap.size = w.heap.size + 2 := by rw [← hW1]; simp [s0]
  have r1 : W1.heap[w.heap.size + 1]? = some (.cells tk0 27 (0, 0)) := by rw [← hW1, ← s0]; exact heap_alloc_new _ _
  try rw [s0]
  have BB : Hid (Below w.heap.size w W1) := (B0.trans (B1.mono (by omega)))
  have Q0 : Hid (W1.heap[w.heap.size]? = some (.cells (encT t.id (.slice ao n cap) t.tag).toArray 27 (0, 0))) := ((B1.block _ (by omega)).trans r0)
  have Q1 : Hid (W1.heap[w.heap.size + 1]? = some (.cells tk0 27 (0, 0))) := r1
  clear hW0 B0 s0 r0 hW1 B1 s1 r1
  obtain ⟨c0, c1⟩ := t_cells Q0.out
  obtain ⟨A, hA⟩ : ∃ A, A = W1.alloc (.cells #[] 42) := ⟨_, rfl⟩
  have bA : Below W1.heap.size W1 A := by rw [hA]; exact (Below.refl _ _).alloc (Nat.le_refl _) _
  have rA : A.heap[W1.heap.size]? = some (.cells #[] 42 (0, 0)) := by rw [hA]; exact heap_alloc_new _ _
  have bs := bs23zero W1
  rw [← hA] at bs
  obtain ⟨ge, hge⟩ : ∃ g, g = W1.heap.size := ⟨_, rfl⟩
  rw [← hge] at bs rA
  obtain ⟨v', Y, hst, hR6, C6⟩ := Rw.append kdC 23 (B := W1.heap.size) (Rw.empty rA (by omega)) ((HV.out.below BB.out).below bA).src (fun y _ => encC_length y) (by have := H4.out; simp; omega) bA.size
  rw [List.nil_append] at hR6
  obtain ⟨vo, vc, rfl⟩ := hR6.form
  rw [← HN.out] at hR6 hst
  have L1 := hide (block_lt_of_row Q1.out)
  have KEY : Hid (∃ v' Y, (Builtin.append_ #[23, 23] 23 #[.slice (some ⟨ge, 0, none⟩) 0 0, .slice ao n cap]).run Tryd.prog A = .ok v' Y ∧ (v' = .slice vo n vc ∧ Y = Y)) := ⟨_, Y, hst, rfl, rfl⟩
  have P0 := hide (C6.row ((bA.block _ (block_lt_of_row Q0.out)).trans Q0.out) (fun e => by have h := Option.some.inj e; simp only at h; have := L1.out; omega))
  have P1 := hide (C6.row ((bA.block _ (block_lt_of_row Q1.out)).trans Q1.out) (fun e => by have h := Option.some.inj e; simp only at h; have := L1.out; omega))
  have BY := hide (BB.out.trans ((bA.trans (C6.below W1.heap.size bA.size (fun k hk e => by have h := Option.some.inj e; simp only at h; omega))).mono BB.out.size))
  have CR := hide (hR6.mono BB.out.size)
  have HST := hide hst
  have D1 := hide ((World.cell?_of_block (a := ⟨w.heap.size, 1, none⟩) (bA.block _ (block_lt_of_row Q0.out))).trans (t_cells Q0.out).2)
  clear C6 hR6 rA bA hge hA hst KEY
  have d1 : A.cell? ⟨w.heap.size, 1, none⟩ = some (.slice ao n cap) := D1.out
  have e1 := (t_cells P0.out).2
  have f1 := frozen_of_row _ _ 1 _ _ P0.out
  have NX := hide (set_cv (.slice vo n vc) P0.out)
  have NC : Hid (Chg (fun k => k = w.heap.size) Y (Y.setCell ⟨w.heap.size, 1, none⟩ (.slice vo n vc))) := (Chg.refl _ _).setCell _ _ _ (fun _ => rfl)
  have T1 : ∀ (ops : Array Oper) (rest : List Oper) (a : Act) (Q : Exit → Act → World → Prop), a.eval (.tmp 3) = .slice (some ⟨ge, 0, none⟩) 0 0 → a.eval (.tmp 5) = .slice ao n cap → wpList Tryd.prog ops Q rest (a.put (some 6) (.slice vo n vc)) Y → wpList Tryd.prog ops Q ({ dst := some 6, op := Op.call { callee := Callee.builtin Builtin.append, args := #[Operand.tmp 3, Operand.tmp 5], argTypes := #[23, 23] }, type := 23, pos := "keep.go:45", after := #[{ on := 0, ground := Ground.data }, { on := 2, ground := Ground.data }], guard := none } :: rest) a A := fun ops rest a Q h1 h2 h => wpList_append_is rfl (.tmp 3) (.tmp 5) 23 23 rfl _ _ h1 h2 _ Y HST.out h
  have HT1 := hide T1
  clear T1
  go_upto_region 2 with (first | (with_reducible refine at_op { dst := some 3, op := Op.buildSlice 23 0 #[], type := 23, pos := "keep.go:45", after := #[], guard := none } ?_; refine wpList_buildSlice_as rfl 23 0 [] rfl [] rfl _ _ bs ?_) | (with_reducible refine at_op { dst := some 6, op := Op.call { callee := Callee.builtin Builtin.append, args := #[Operand.tmp 3, Operand.tmp 5], argTypes := #[23, 23] }, type := 23, pos := "keep.go:45", after := #[{ on := 0, ground := Ground.data }, { on := 2, ground := Ground.data }], guard := none } ?_; refine HT1.out _ _ _ _ rfl rfl ?_))
  generalize Y.setCell ⟨w.heap.size, 1, none⟩ (.slice vo n vc) = Y2 at NX NC ⊢
  have P1b := hide (NC.out.row P1.out (by omega))
  have CRb := hide (CR.out.chg NC.out (fun j e e2 => CR.out.apart P0.out (by decide) (e2 ▸ e)))
  have BY2 := hide (BY.out.trans (NC.out.below w.heap.size BY.out.size (fun k hk e => by omega)))
  clear d1 e1 f1 c0 c1 bs P0 P1 CR BY NC HST
  obtain ⟨YF, hsf, rf, cf, -⟩ := store_t (id := t.id) (ao := vo) (n := n) (m := vc) (tag := t.tag) P1b.out tk0_size HTL.out
  have ld := load_t NX.out HTL.out
  have RF := hide rf
  have CF := hide (CRb.out.chg cf (fun j e e2 => CRb.out.apart P1b.out (by decide) (e2 ▸ e)))
  have BG := hide (BY2.out.trans (cf.below w.heap.size BY2.out.size (fun j hj e => by omega)))
  have HS := hide hsf
  clear rf cf hsf
  have T1 : ∀ (ops : Array Oper) (rest : List Oper) (a : Act) (Q : Exit → Act → World → Prop), a.eval (.tmp 2) = .pointer (some ⟨w.heap.size + 1, 0, none⟩) → a.eval (.tmp 8) = .agg (encT t.id (.slice vo n vc) t.tag).toArray → wpList Tryd.prog ops Q rest (a.put none undef) YF → wpList Tryd.prog ops Q ({ dst := none, op := Op.store 27 (Operand.tmp 2) (Operand.tmp 8), type := 0, pos := "keep.go:46", after := #[{ on := 0, ground := Ground.data }, { on := 0, ground := Ground.phase }], guard := none } :: rest) a Y2 := fun ops rest a Q h1 h2 h => wpList_store_as rfl 27 (.tmp 2) (.tmp 8) rfl _ _ h1 h2 YF HS.out h
  have HT2 := hide T1
  clear T1
  go_wp2_with (first | (with_reducible refine at_op { dst := some 8, op := Op.load 27 (Operand.tmp 1), type := 27, pos := "keep.go:46", after := #[], guard := none } ?_; refine wpList_load_as rfl 27 (.tmp 1) rfl (.pointer (some ⟨w.heap.size, 0, none⟩)) rfl (.agg (encT t.id (.slice vo n vc) t.tag).toArray) ld ?_) | (with_reducible refine at_op { dst := none, op := Op.store 27 (Operand.tmp 2) (Operand.tmp 8), type := 0, pos := "keep.go:46", after := #[{ on := 0, ground := Ground.data }, { on := 0, ground := Ground.phase }], guard := none } ?_; refine HT2.out _ _ _ _ rfl rfl ?_))
  exact bodyPost_ret (v := .agg (encT t.id (.slice vo n vc) t.tag).toArray) (results_cell_row (g := w.heap.size + 1) (t := 27) (fr := (0, 0)) Tryd.results30 _ _ _ _ rfl RF.out Tryd.underlying27 rfl (size_t t.id _ t.tag HTL.out)) rfl ⟨⟨.slice vo n vc, rfl, CF.out⟩, BG.out⟩
end Go.Proofs.YtlcilclhaahopaaDoor
