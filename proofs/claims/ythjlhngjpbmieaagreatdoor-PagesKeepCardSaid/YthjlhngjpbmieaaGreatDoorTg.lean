/- The pages of the set of ascending pages. -/
import Derived.Test.YthjlhngjpbmieaaGreatDoorTe
import Derived.Test.YthjlhngjpbmieaaGreatDoorJc
namespace Go.Proofs.YthjlhngjpbmieaaGreatDoor
namespace S
theorem bit_orBit (s : List UInt8) (hs : s.length = 64) (n m : Nat) (hn : n < 512) : bit (orBit s n) m = (bit s m || decide (m = n)) := by
  rw [bit_iff, bit_iff]
  unfold orBit
  have hr : n % 8 < 8 := Nat.mod_lt _ (by omega)
  have hr' : m % 8 < 8 := Nat.mod_lt _ (by omega)
  by_cases hq : m / 8 = n / 8
  · rw [hq, List.getD_eq_getElem?_getD, List.getElem?_set_self (by omega), Option.getD_some]
    have key : ∀ a b : Fin 8, (UInt8.ofNat (2 ^ a.val)).toNat.testBit b.val = decide (b.val = a.val) := by decide
    rw [← Nat.testBit_eq_decide_div_mod_eq, ← Nat.testBit_eq_decide_div_mod_eq, UInt8.toNat_or, Nat.testBit_or, key ⟨n % 8, hr⟩ ⟨m % 8, hr'⟩]
    congr 1
    apply decide_eq_decide.2
    constructor
    · intro h
      have h : m % 8 = n % 8 := h
      omega
    · rintro rfl
      rfl
  · rw [List.getD_eq_getElem?_getD, List.getElem?_set_ne (fun e => hq e.symm), ← List.getD_eq_getElem?_getD]
    have : ¬ m = n := fun e => hq (by rw [e])
    rw [decide_eq_false this, Bool.or_false]
theorem bit_foldl (ns : List Nat) (s : List UInt8) (hs : s.length = 64) (h : ∀ n ∈ ns, n < 512) (m : Nat) : bit (ns.foldl orBit s) m = (bit s m || decide (m ∈ ns)) := by
  induction ns generalizing s with
  | nil => simp
  | cons n r ih =>
    rw [List.foldl_cons, ih _ (by rw [orBit_length]; exact hs) (fun x hx => h x (List.mem_cons_of_mem _ hx)), bit_orBit s hs n m (h n List.mem_cons_self), Bool.or_assoc]
    congr 1
    simp [List.mem_cons]
theorem bit_setL (ns : List Nat) (h : ∀ n ∈ ns, n < 512) (m : Nat) : bit (setL ns) m = decide (m ∈ ns) := by
  unfold setL
  rw [bit_foldl ns _ (zeros_length _) h, bit_zeros, Bool.false_or]
theorem inSet_setL (ns : List Nat) (h : ∀ n ∈ ns, n < 512) (hp : ns.Pairwise (· < ·)) : inSet (setL ns) 512 = ns := by
  have h1 : (inSet (setL ns) 512).Pairwise (· < ·) := List.Pairwise.filter _ List.pairwise_lt_range
  have h2 : (inSet (setL ns) 512).Perm ns := by
    refine (List.perm_ext_iff_of_nodup (h1.imp (fun h => Nat.ne_of_lt h)) (hp.imp (fun h => Nat.ne_of_lt h))).2 (fun a => ?_)
    unfold inSet
    rw [List.mem_filter, List.mem_range, bit_setL ns h, decide_eq_true_eq]
    exact ⟨fun x => x.2, fun x => ⟨h a x, x⟩⟩
  exact h2.eq_of_pairwise (fun a b _ _ x y => absurd (Nat.lt_trans x y) (Nat.lt_irrefl _)) h1 hp
end S
end Go.Proofs.YthjlhngjpbmieaaGreatDoor
namespace Go.Proofs.YthjlhngjpbmieaaGreatDoor
open Go.RowKit

namespace S
/-- The writes of the first k sheets to their spares. -/
def spTo (xs : List (List UInt8)) (k : Nat) : List Act := (List.range k).flatMap (fun i => (pageWs (4101 + i * 8) (xs.getD i []) 8).acts)
theorem spTo_succ (xs : List (List UInt8)) (k : Nat) : spTo xs (k + 1) = spTo xs k ++ (pageWs (4101 + k * 8) (xs.getD k []) 8).acts := by
  unfold spTo
  rw [List.range_succ, List.flatMap_append, List.flatMap_singleton]
theorem spTo_length (xs : List (List UInt8)) (k : Nat) : (spTo xs k).length = k * 8 := by
  induction k with
  | zero => rfl
  | succ k ih => rw [spTo_succ, List.length_append, ih]; unfold Ws.acts; rw [List.length_map, pageWs_length]; omega
theorem spTo_split (xs : List (List UInt8)) (a j : Nat) : ∃ r, spTo xs (a + j) = spTo xs a ++ r := by
  induction j with
  | zero => exact ⟨[], (List.append_nil _).symm⟩
  | succ j ih =>
    obtain ⟨r, hr⟩ := ih
    exact ⟨_, by rw [← Nat.add_assoc, spTo_succ, hr, List.append_assoc]⟩
end S
set_option maxHeartbeats 4000000 in
set_option maxRecDepth 10000 in
theorem putSpares_any (o : Ow) (d : S.Dk) (g c : Nat) (l : List ShV) (xs : List (List UInt8)) (w : World) (hd : DkIs w o d) (hl : 7680 ≤ d.safe.length) (hs : ShR w g l) (hg : ¬ o.has g) (h256 : l.length ≤ 256)
   (hv : ∀ i y, l[i]? = some y → 0 ≤ y.1 ∧ ∃ bk off, y.2.1 = some ⟨bk, off, none⟩ ∧ y.2.2.1 = 1024 ∧ SliceAt w y.list (xs.getD i []) ∧ ¬ o.has bk ∧ bk < w.heap.size) (hpe : d.pend.length ≤ 1000) :
   Calls Tryz.prog 32 #[o.ptr, .slice (some ⟨g, 0, none⟩) l.length c] w (Does d (S.spTo xs l.length ++ [.flush]) o w) := by
  have HD := hide hd
  have HS := hide hs
  have HV := hide hv
  have HG := hide hg
  have HL := hide h256
  have HPE := hide hpe
  have HLEN := hide hl
  have hgt : (l.length : Int) ≤ 256 := by omega
  clear hd hs hv hg hl h256 hpe
  go_enter Tryz.func32, Tryz.ntmps32
  go_wp2_with fail
  go_loopw [10] (fun i wr => ∃ k : Nat, k ≤ l.length ∧ i = .int .i64 (k : Int) ∧ ∃ d1 o1, d.plan (S.spTo xs k) = (d1, true) ∧ DkIs wr o1 d1 ∧ DkTo o w o1 wr) (fun i _ => l.length - (intOf i).toNat)
  case atStart => exact ⟨0, Nat.zero_le _, rfl, d, o, rfl, HD.out, DkTo.refl _ _⟩
  case round =>
  obtain ⟨k, hk, rfl, d1, o1, hpl, hdk, hto⟩ := hrel
  have PL := hide hpl
  have DK := hide hdk
  have T1 := hide hto
  have HP1 : Hid (d1.pend.length ≤ 4000) := by have h9 := S.Dk.plan_pend (S.spTo xs k) d; rw [hpl, S.spTo_length] at h9; have := HPE.out; have := HL.out; exact Nat.le_trans h9 (by omega)
  have hpn : o1.ptr = o.ptr := by unfold Ow.ptr; rw [hto.g]
  have HLEN1 : Hid (7680 ≤ d1.safe.length) := by have h9 := S.Dk.plan_len (S.spTo xs k) d; rw [hpl] at h9; show 7680 ≤ d1.safe.length; exact Nat.le_trans HLEN.out (Nat.le_of_eq h9.symm)
  have KL := hide hk
  rw [← hpn]
  clear hpl hdk hto hpn HD hk
  by_cases hkl : k < l.length
  · obtain ⟨y, hy⟩ : ∃ y, l[k]? = some y := ⟨l[k], List.getElem?_eq_getElem hkl⟩
    obtain ⟨y0, bk, off, y1, y2, y3, y4, y5⟩ := HV.out k y hy
    have sr : ShR wr g l := by
      obtain ⟨cur, x1, x2⟩ := HS.out.row
      exact ⟨cur, T1.out.chg.row x1 HG.out, x2⟩
    obtain ⟨c0, c1⟩ := sr.cells k y hy
    obtain ⟨yn, ya, yl, cb⟩ := y
    simp only at y0 y1 y2
    subst y1 y2
    obtain ⟨n, rfl⟩ : ∃ n : Nat, yn = (n : Int) := ⟨yn.toNat, by omega⟩
    simp only [ShV.list] at c1 y3
    obtain ⟨x, hx⟩ : ∃ x, x = xs.getD k [] := ⟨_, rfl⟩
    rw [← hx] at y3
    have HX := hide hx
    have V1 := hide (y3.dk T1.out (fun a e => by cases e; exact y4))
    have FAR1 : Hid (¬ o1.has bk) := fun e => by
      rcases T1.out.own _ e with h | h
      · exact y4 h
      · omega
    have hkI : (k : Int) < (l.length : Int) := by omega
    have hk0 : (0 : Int) ≤ (k : Int) := by omega
    have KK := hide hkl
    have NG6 : Hid (¬ o1.has wr.heap.size) := fun e => by have := DK.out.lt _ e; omega
    obtain ⟨w5, hw5⟩ : ∃ w5, w5 = wr.alloc (.cells #[.int .i64 (n : Int), .slice (some ⟨bk, off, none⟩) 1024 cb] 37) := ⟨_, rfl⟩
    have b5 : Below wr.heap.size wr w5 := by rw [hw5]; exact (Below.refl _ _).alloc (Nat.le_refl _) _
    have R5 : Hid (w5.heap[wr.heap.size]? = some (.cells #[.int .i64 (n : Int), .slice (some ⟨bk, off, none⟩) 1024 cb] 37 (0, 0))) := by rw [hw5]; exact heap_alloc_new _ _
    have D5 := hide (DK.out.below b5)
    have B5 := hide b5
    have V5 := hide (V1.out.below b5 (Nat.le_refl _))
    obtain ⟨g6, hg6⟩ : ∃ g6, g6 = wr.heap.size := ⟨_, rfl⟩
    rw [← hg6] at R5 NG6
    clear b5 sr y0 y3 y4 y5 hy hx hkl V1 DK
    go_upto_region 4 with fail
    rw [← hw5, ← hg6]
    clear hw5 hg6 c0 c1
    refine wp_region_noPanic ?_
    refine wp_region_held_drew (S := (fun W => W.heap[g6]? = some (.cells #[.int .i64 (n : Int), .slice (some ⟨bk, off, none⟩) 1024 cb] 37 (0, 0)))) follows R5.out (fun hHeld => ?_)
    have D5d := hide (D5.out.below (Below.refl w5.heap.size w5).drew)
    have B5d : Hid (Below wr.heap.size wr w5.drew) := B5.out.drew
    have V5d := hide (V5.out.below (Below.refl w5.heap.size w5).drew (Nat.le_refl _))
    clear D5 B5 V5 R5
    generalize w5.drew = Z1 at D5d B5d V5d hHeld ⊢
    refine tk 0 ?_ rfl (Or.inl ⟨by rfl, ?_⟩) ?_
    rotate_left
    · intro w hSw
      clear hSw
      go_simp
      all_goals with_reducible rfl
    simp only [Act.put, List.setIfInBounds_toArray, List.set_cons_zero, List.set_cons_succ]
    refine tk 1 ?_ rfl (Or.inl ⟨by rfl, ?_⟩) ?_
    rotate_left
    · intro w hSw
      clear hSw
      go_simp
      all_goals with_reducible rfl
    simp only [Act.put, List.setIfInBounds_toArray, List.set_cons_zero, List.set_cons_succ]
    refine tk 3 ?_ rfl (Or.inl ⟨by rfl, ?_⟩) ?_
    rotate_left
    · intro w hSw
      clear hSw
      go_simp
      all_goals with_reducible rfl
    simp only [Act.put, List.setIfInBounds_toArray, List.set_cons_zero, List.set_cons_succ]
    refine tk 4 ?_ rfl (Or.inl ⟨by rfl, ?_⟩) ?_
    rotate_left
    · intro w hSw
      have c1 := (sh_cells hSw).2
      clear hSw
      go_simp
      all_goals with_reducible rfl
    simp only [Act.put, List.setIfInBounds_toArray, List.set_cons_zero, List.set_cons_succ]
    refine wpAnyH_ready (rs := [2]) (by kernel_rfl) (by simp) ?_
    refine AllReadyH.cons (o := { dst := some 17, op := Op.call { callee := Callee.value (Operand.func 27), args := #[Operand.tmp 16], argTypes := #[3] }, type := 3, pos := "place.go:88", after := #[⟨1, .data⟩], guard := none }) rfl (fun K hK => ?_) AllReadyH.nil
    go_simp
    refine (pspare_any k (by omega) Z1).mono ?_
    rintro e Z2 ⟨rfl, rfl⟩
    refine hK.out _ _ hHeld (fun hHeld => ?_)
    clear hK K
    try simp only [Act.put, List.setIfInBounds_toArray, List.set_cons_zero, List.set_cons_succ]
    refine wpAnyH_ready (rs := [5]) (by kernel_rfl) (by simp) ?_
    refine AllReadyH.cons (o := { dst := some 20, op := Op.call { callee := Callee.value (Operand.func 53), args := #[Operand.tmp 15, Operand.tmp 17, Operand.tmp 19], argTypes := #[22, 3, 31] }, type := 26, pos := "place.go:88", after := #[⟨0, .data⟩, ⟨2, .data⟩, ⟨4, .data⟩, ⟨2, .chain⟩], guard := none }) rfl (fun K hK => ?_) AllReadyH.nil
    go_simp
    refine (writePage_do o1 d1 (4101 + k * 8) bk off cb x Z1 D5d.out (by have := HLEN1.out; have := HL.out; have := KK.out; omega) V5d.out FAR1.out (by have := HP1.out; omega)).mono ?_
    intro e Z2 hdo
    obtain ⟨b, d2, o2, rfl, h1, h2, h3⟩ := hdo.start
    have a2 : Z2.heap[g6]? = some (.cells #[.int .i64 (n : Int), .slice (some ⟨bk, off, none⟩) 1024 cb] 37 (0, 0)) := h3.chg.row hHeld (fun e => NG6.out e)
    have H1 := hide h1
    have H2 := hide h2
    have H3 : Hid (DkTo o w o2 Z2) := T1.out.trans (h3.after B5d.out)
    have hpn : o2.ptr = o1.ptr := by unfold Ow.ptr; rw [h3.g]
    have HPN := hide hpn
    clear hdo h1 h2 h3 hHeld D5d B5d V5d hpn
    refine hK.out _ _ a2 (fun hHeld => ?_)
    clear hK K
    try simp only [Act.put, List.setIfInBounds_toArray, List.set_cons_zero, List.set_cons_succ]
    clear a2
    refine tk 6 ?_ rfl (Or.inl ⟨by rfl, ?_⟩) ?_
    rotate_left
    · intro w hSw
      clear hSw
      go_simp
      all_goals with_reducible rfl
    simp only [Act.put, List.setIfInBounds_toArray, List.set_cons_zero, List.set_cons_succ]
    refine wpAnyH_done (by kernel_rfl) ?_ _
    refine NoPanic.normal ?_
    clear hHeld
    cases b with
    | false =>
      have E : S.why false = 13 := rfl
      rw [E]
      go_wp2_with fail
      go_ret
      obtain ⟨rr, hrr⟩ := S.spTo_split xs (k + 1) (l.length - (k + 1))
      rw [show k + 1 + (l.length - (k + 1)) = l.length by have := KK.out; omega] at hrr
      rw [hrr, List.append_assoc]
      exact Does.stop (by rw [S.spTo_succ, ← HX.out, S.Dk.plan_app, PL.out, if_pos rfl]; exact H1.out) H2.out H3.out
    | true =>
      have E : S.why true = 0 := rfl
      rw [E]
      go_wp2_with fail
      go_roundw
      case rel => exact ⟨k + 1, KK.out, by go_num, d2, o2, by rw [S.spTo_succ, ← HX.out, S.Dk.plan_app, PL.out, if_pos rfl]; exact H1.out, H2.out, H3.out⟩
      case measure => have := KK.out; simp [intOf]; omega
  · have hkI : ¬ ((k : Int) < (l.length : Int)) := by omega
    obtain rfl : k = l.length := by have := KL.out; omega
    go_wp2_with fail
    refine (flush_do o1 d1 wr DK.out (Nat.le_trans HP1.out (by omega))).mono ?_
    intro e w2 hdo
    have h4 : Does d (S.spTo xs l.length ++ [.flush]) o w e w2 := Does.on PL.out T1.out hdo
    obtain ⟨b, d2, o2, rfl, h5, h6, h7⟩ := h4.start
    have H4 := hide h4
    clear h4 h5 h6 h7 hdo
    generalize S.why b = y at H4 ⊢
    go_wp2_with fail
    go_ret
    exact H4.out
end Go.Proofs.YthjlhngjpbmieaaGreatDoor
