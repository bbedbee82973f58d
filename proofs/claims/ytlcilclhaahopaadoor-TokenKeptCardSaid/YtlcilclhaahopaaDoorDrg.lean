/- The document's own reader: Digest: what is read is the plain function's; only the reader's own block changes. -/
import Derived.Test.YtlcilclhaahopaaDoorDrt
namespace Go.Proofs.YtlcilclhaahopaaDoor
open Go.RowKit
set_option maxHeartbeats 1600000 in
set_option maxRecDepth 100000 in
theorem ddigest_any (g : Nat) (xo : Option Addr) (xlen xcap : Nat) (r : S.Rd) (w : World) (hr : DrIs w g xo xlen xcap r) :
   Calls Tryd.prog 60 #[.pointer (some ⟨g, 0, none⟩)] w fun e w' => e = .returned (.agg (S.v8 r.digest.2)) ∧ DrIs w' g xo xlen xcap r.digest.1 ∧ Chg (fun k => k = g) w w' := by
  have HR := hide hr
  have hg := hr.lt
  have ST3 : Hid (∀ W1, Chg (fun k => k = g) w W1 → Stays (fun k => k = g) W1 (.slice xo xlen xcap) r.digest.1.bs) := fun W1 h1 => by show Stays _ _ _ (r.take 32).1.bs; rw [S.Rd.take_bs]; exact hr.text.on h1 (fun _ _ h => h)
  clear hr
  go_enter Tryd.func60, Tryd.ntmps60
  go_wp2_with fail
  generalize hW : World.alloc (World.alloc w _) _ = W
  have ra : W.heap[w.heap.size]? = some (.cells (S.v8 (S.zeros 32)) 25 (0, 0)) := by rw [← hW]; exact heap_alloc2_old _ _ _
  have rb : W.heap[w.heap.size + 1]? = some (.cells (S.v8 (S.zeros 32)) 25 (0, 0)) := by rw [← hW]; exact heap_alloc2_new _ _ _
  have hc : Chg (fun k => k = g) w W := by rw [← hW]; exact ((Chg.refl _ _).alloc _).alloc _
  have hb : Below w.heap.size w W := by rw [← hW]; exact ((Below.refl _ _).alloc (Nat.le_refl _) _).alloc (by simp) _
  have RA := hide ra
  have RB := hide rb
  have CW := hide hc
  have RW := hide (HR.out.below hb)
  clear hW ra rb hc hb HR
  generalize hga : w.heap.size = ga at *
  refine wp_region_noPanic ?_
  refine wp_region_held_drew (S := (fun _ => True)) follows trivial (fun hHeld => ?_)
  refine wpAnyH_take (i := 0) (oi := { dst := some 4, op := Op.slice 25 (Operand.tmp 3) none none none, type := 30, pos := "ref.go:94", after := #[], guard := none }) (v := ?_) rfl (by kernel_rfl) (by kernel_rfl) (by kernel_rfl) (fun _ _ _ h => h) (Or.inl ⟨by rfl, ?_⟩) (by assumption) ?_
  rotate_left
  · intro w hSw
    clear hSw
    go_simp
    all_goals with_reducible rfl
  simp only [Act.put, List.setIfInBounds_toArray, List.set_cons_zero, List.set_cons_succ]
  refine wpAnyH_take (i := 1) (oi := { dst := some 5, op := Op.move (Operand.tmp 0), type := 109, pos := "ref.go:94", after := #[], guard := none }) (v := ?_) rfl (by kernel_rfl) (by kernel_rfl) (by kernel_rfl) (fun _ _ _ h => h) (Or.inl ⟨by rfl, ?_⟩) (by assumption) ?_
  rotate_left
  · intro w hSw
    clear hSw
    go_simp
    all_goals with_reducible rfl
  simp only [Act.put, List.setIfInBounds_toArray, List.set_cons_zero, List.set_cons_succ]
  refine wpAnyH_ready (rs := [2]) (by kernel_rfl) (by simp) ?_
  refine AllReadyH.cons (o := { dst := some 6, op := Op.call { callee := Callee.value (Operand.func 80), args := #[Operand.tmp 5, Operand.const (Value.int IntKind.i64 32)], argTypes := #[109, 3] }, type := 30, pos := "ref.go:94", after := #[{ on := 1, ground := Ground.data }], guard := none }) rfl (fun K hK => ?_) AllReadyH.nil
  go_simp
  refine (dtake_any g xo xlen xcap r 32 W.drew (by omega) (RW.out.below ((Below.refl _ _).drew))).mono ?_
  rintro e w3 ⟨v, rfl, hv, h1, h2⟩
  obtain ⟨xs, hxs⟩ : ∃ xs, xs = (r.take 32).2 := ⟨_, rfl⟩
  have hxl : xs.length ≤ 32 := by rw [hxs]; exact r.take_len 32
  rw [← hxs] at hv
  have FIN : Hid (splice (S.zeros 32) 0 xs = r.digest.2) := by rw [hxs]; exact rfl
  have R3 : Hid (DrIs w3 g xo xlen xcap r.digest.1) := h1
  have C3 := hide (CW.out.trans (((Chg.refl (fun k => k = g) W).drew).trans h2 (fun _ _ h => h)) (fun _ _ h => h))
  have RA3 := hide (h2.row (g := ga) RA.out (by omega))
  have RB3 := hide (h2.row (g := ga + 1) RB.out (by omega))
  obtain ⟨ao, len, cap, rfl, hlen, hmax, hsrc⟩ := hv.shape
  have HS := hide hsrc
  have HN : Hid ((S.v8l xs).length = Nat.min len 32) := by show (S.v8l xs).length = Nat.min len 32; rw [S.v8l_length]; show _ = min _ _; omega
  have HF : Hid (0 + (S.v8l xs).length ≤ (S.v8l (S.zeros 32)).length) := by show 0 + (S.v8l xs).length ≤ (S.v8l (S.zeros 32)).length; rw [S.v8l_length, S.v8l_length, S.zeros_length]; omega
  clear hv h1 h2 hxs hlen hsrc CW RA RB RW
  go_wp2_with fail
  refine hK.out _ _ trivial (fun hHeld => ?_)
  clear hK K 
  try simp only [Act.put, List.setIfInBounds_toArray, List.set_cons_zero, List.set_cons_succ]
  refine wpAnyH_ready (rs := [3]) (by kernel_rfl) (by simp) ?_
  refine AllReadyH.cons (o := { dst := some 7, op := Op.call { callee := Callee.builtin Builtin.copy, args := #[Operand.tmp 4, Operand.tmp 6], argTypes := #[30, 30] }, type := 3, pos := "ref.go:94", after := #[{ on := 0, ground := Ground.data }, { on := 2, ground := Ground.data }, { on := 2, ground := Ground.chain }], guard := none }) rfl (fun K hK => ?_) AllReadyH.nil
  refine step_copy_splice rfl (.tmp 4) (.tmp 6) 30 30 rfl 5 Tryd.underlying30 size5 _ _ _ _ _ _ rfl rfl (ga + 1) 0 (S.v8l (S.zeros 32)) 25 RB3.out (S.v8l xs) HN.out (copy_src _ HS.out (Below.refl _ _)) HF.out (S.v8l_one _) (ga + 1) w3 (Below.refl _ _) (Nat.le_refl _) ?_
  intro w4 HG4 hB4
  have RB4 := hide (spl_rowT HG4)
  rw [FIN.out] at RB4
  have RA4 := hide ((hB4.block ga (by omega)).trans RA3.out)
  have R4 := hide (R3.out.chg (p := fun k => ga + 1 ≤ k) (Chg.ofBelow hB4 (fun _ _ h => h)) (by omega) (ST3.out w4 (C3.out.trans (Chg.ofBelow (p := fun k => ga + 1 ≤ k) hB4 (fun _ _ h => h)) (fun k hk h => by omega))))
  have C4 := hide (C3.out.trans (Chg.ofBelow (p := fun k => ga + 1 ≤ k) hB4 (fun _ _ h => h)) (fun k hk h => by omega))
  clear HG4 hB4 R3 C3 RA3 RB3 HS HN HF FIN
  refine hK.out _ _ trivial (fun hHeld => ?_)
  clear hK K 
  try simp only [Act.put, List.setIfInBounds_toArray, List.set_cons_zero, List.set_cons_succ]
  refine wpAnyH_done (by kernel_rfl) ?_ _
  refine NoPanic.normal ?_
  clear hHeld
  go_wp2_with (first | refine wpList_load_row rfl 25 _ rfl (ga + 1) rfl 25 _ _ _ RB4.out Tryd.underlying25 rfl (size_dig _ r.digest_length) ?_ | refine wpList_store_row rfl 25 _ _ rfl ga (S.v8 r.digest.2) rfl rfl 25 _ RA4.out (size_dig _ r.digest_length) (zeros_dig _ r.digest_length) (S.v8_one _) ?_)
  refine bodyPost_ret (v := .agg (S.v8 r.digest.2)) (results_cell_row (g := ga) (t := 25) (fr := (0, 0)) Tryd.results60 _ _ _ _ rfl (setRow_heap _ _ _ _ _ _ RA4.out) Tryd.underlying25 rfl (size_dig _ r.digest_length)) rfl ⟨rfl, ?_, ?_⟩
  · exact R4.out.chg (p := fun k => ga ≤ k) (Chg.ofBelow (below_setRow (Below.refl ga w4) (Nat.le_refl _) _) (fun _ _ h => h)) (by omega) (ST3.out _ (C4.out.trans (Chg.ofBelow (p := fun k => ga ≤ k) (below_setRow (Below.refl ga w4) (Nat.le_refl _) _) (fun _ _ h => h)) (fun k hk h => by omega)))
  · exact C4.out.trans (Chg.ofBelow (p := fun k => ga ≤ k) (below_setRow (Below.refl ga w4) (Nat.le_refl _) _) (fun _ _ h => h)) (fun k hk h => by omega)
end Go.Proofs.YtlcilclhaahopaaDoor
