/- FairRound's walk. -/
import Derived.Test.YtnplijgdklnipaaFm
namespace Go.Proofs.Ytnplijgdklnipaa
open Go.RowKit
namespace S
theorem At.of_w {l m : List Ln} (h : m.map (·.w) = l.map (·.w)) {t i a : Nat} (ha : At l t i a) : At m t i a := by
  have hl : m.length = l.length := by have := congrArg List.length h; simpa using this
  exact ⟨by rw [hl]; exact ha.1, by rw [rk_w h, all_w h]; exact ha.2⟩
/-- A turn. -/
theorem step {l l0' : List Ln} (h : l.map (·.w) = l0'.map (·.w)) {t i a : Nat} (ha : At l0' t i a) (hp : 0 < all l0') : ∃ k, find l a = some k ∧ on l0' k ∧ At l0' t (i + 1) ((k + 1) % l0'.length) ∧ rk l0' k = (t + i) % all l0' := by
  have hl : l.length = l0'.length := by have := congrArg List.length h; simpa using this
  obtain ⟨k, h1, h2, h3, h4⟩ := (ha.of_w h).turn (by rw [all_w h]; exact hp)
  refine ⟨k, h1, (on_w h k).1 h2, ?_, by rw [rk_w h, all_w h] at h4; exact h4⟩
  have := At.of_w h.symm h3
  rwa [hl] at this
theorem w_at {l m : List Ln} (h : m.map (·.w) = l.map (·.w)) (j : Nat) : (m.getD j l0).w = (l.getD j l0).w := by
  have h2 := congrArg (fun z : List Int => z[j]?) h
  simp only [List.getElem?_map] at h2
  rw [List.getD_eq_getElem?_getD, List.getD_eq_getElem?_getD]
  cases h3 : m[j]? with
  | none =>
    rw [h3] at h2
    cases h4 : l[j]? with
    | none => rfl
    | some y => rw [h4] at h2; simp at h2
  | some x =>
    rw [h3] at h2
    cases h4 : l[j]? with
    | none => rw [h4] at h2; simp at h2
    | some y => rw [h4] at h2; simpa using h2
end S
theorem make41 (n : Nat) (hn : n ≤ 100000) (w : World) : (Instr.makeSlice 41 (.int .i64 (n : Int)) (.int .i64 (n : Int))).run Try.prog w = .ok (.slice (some ⟨w.heap.size, 0, none⟩) n n) (w.alloc (.cells (S.v8 (S.zeros n)) 3)) := by
  obtain ⟨i, hi, hz, hs, hb⟩ := info_parts info5
  have h := run_make (P := Try.prog) w 41 3 i _ Try.underlying41 hi hz .i64 .i64 (n : Int) (n : Int) (by omega) (Int.le_refl _) (by rw [hb]; omega) (by omega)
  rw [hs, Int.toNat_natCast, Nat.mul_one] at h
  have e : madeCells (Value.int .i64 0).cells n = S.v8 (S.zeros n) := by
    apply Array.ext'
    have := toList_madeCells_one (.int .i64 0) n
    rw [show (Value.int .i64 0).cells = #[.int .i64 0] from rfl, this]
    simp [S.v8, S.zeros]
  rw [e] at h
  exact h
/-- The lanes in the midst of the turns. -/
structure Tn (w : World) (L : List S.Ln) (b : Int) (t k : Nat) (wr : World) (v : Value) (l : List S.Ln) (i a : Nat) : Prop where
  r : Rw 28 3 encL w.heap.size wr v l
  u : Below w.heap.size w wr
  ws : l.map (·.w) = L.map (·.w)
  fr : ∀ x ∈ l, S.Fr b x
  len : l.length = k
  at_ : S.At L t i a
theorem Tn.below {w wr W : World} {L l : List S.Ln} {b : Int} {t k i a : Nat} {v : Value} (h : Tn w L b t k wr v l i a) (hb : Below wr.heap.size wr W) : Tn w L b t k W v l i a :=
  ⟨h.r.below hb, h.u.trans (hb.mono h.u.size), h.ws, h.fr, h.len, h.at_⟩
theorem Tn.still {w wr W : World} {L l : List S.Ln} {b : Int} {t k i a : Nat} {v : Value} (h : Tn w L b t k wr v l i a) (hs : Still wr W) : Tn w L b t k W v l i a := h.below (Still.blw hs _)
/-- A turn, as Serve gives it. -/
theorem Tn.call {w wr : World} {L l : List S.Ln} {b at_ q : Int} {t k i a : Nat} {v : Value} (h : Tn w L b t k wr v l i a) (hL : L.length = k) (hk : k ≤ 1000) (hb : b ≤ 100000000) (hp : 0 < S.all L) (ha : S.pos at_ k = a) :
   Calls Try.prog 9 #[v, .int .i64 at_, .int .i64 q] wr fun e w' => ∃ (u : Value) (j nx : Nat) (m : List S.Ln), e = .returned (.tuple #[.agg #[.int .i64 (j : Int), .int .i64 (min (S.sh (L.getD j S.l0).w q) (l.getD j S.l0).b), .int .i64 (nx : Int)], u]) ∧
     j < k ∧ S.on L j ∧ S.rk L j = (t + i) % S.all L ∧ nx = (j + 1) % k ∧ nx < k ∧
     (∀ x, m.getD x S.l0 = if x = j then ⟨(L.getD j S.l0).w, (l.getD j S.l0).b - min (S.sh (L.getD j S.l0).w q) (l.getD j S.l0).b, 0⟩ else l.getD x S.l0) ∧ Tn w L b t k w' u m (i + 1) nx ∧ Below wr.heap.size wr w' := by
  obtain ⟨j, h1, h2, h3, h4⟩ := S.step h.ws h.at_ hp
  have hjk : j < k := by rw [← hL]; exact h2.1
  have hjl : j < l.length := by rw [h.len]; exact hjk
  have hF : S.Fr b (l.getD j S.l0) := by
    rw [List.getD_eq_getElem?_getD, List.getElem?_eq_getElem hjl]
    exact h.fr _ (List.getElem_mem hjl)
  have hw : (l.getD j S.l0).w = (L.getD j S.l0).w := S.w_at h.ws j
  refine (Serve_any v l at_ q wr h.r.lnAt (fun x hx => (h.fr x hx).mild hb) (by rw [h.len]; exact hk)).mono ?_
  rintro e W1 ⟨u, rfl, hu, hb1⟩
  rw [h.len, ha] at hu
  have e1 : S.lane l a = (j : Int) := by rw [S.lane, h1]; rfl
  have e2 : S.took l a q = min (S.sh (L.getD j S.l0).w q) (l.getD j S.l0).b := by
    have : S.took l a q = S.tk (l.getD j S.l0) q := by rw [S.took, h1]
    rw [this, hF.take, hw]
  have e3 : S.next l a = (j + 1) % k := by rw [S.next, h1, h.len]
  refine ⟨u, j, (j + 1) % k, S.after l a q, by rw [h.len, ha, e1, e2, e3], hjk, h2, h4, rfl, Nat.mod_lt _ (by omega), fun x => ?_, ⟨hu.mono h.u.size, h.u.trans (hb1.mono h.u.size), by rw [S.after_w]; exact h.ws, S.after_fr h.fr a q, by rw [S.after_length]; exact h.len, by rw [hL] at h3; exact h3⟩, hb1⟩
  rw [S.after_else h1]
  by_cases e : x = j
  · subst e
    rw [if_pos ⟨rfl, hjl⟩, if_pos rfl, hF.one, hw]
  · rw [if_neg (fun c => e c.1), if_neg e]
namespace S
/-- What has been met. -/
def Met (L : List Ln) (t k i : Nat) (ms : List Int) : Prop := ms.length = k ∧ ∀ j, j < k → ms.getD j 0 = if on L j ∧ plc L t j < i then 1 else 0
theorem Met.start (L : List Ln) (t k : Nat) : Met L t k 0 (zeros k) := by
  refine ⟨zeros_length k, fun j hj => ?_⟩
  rw [if_neg (fun c => by have := c.2; omega), List.getD_eq_getElem?_getD, zeros, List.getElem?_replicate, if_pos hj]
  rfl
theorem Met.turn {L : List Ln} {t k i j : Nat} {ms : List Int} (h : Met L t k i ms) (hj : on L j) (hjk : j < k) (hr : rk L j = (t + i) % all L) (hp : 0 < all L) (hi : i < all L) : ms.getD j 0 = 0 ∧ Met L t k (i + 1) (ms.set j 1) := by
  have hpj : plc L t j = i := by
    have := (plc_turn hj hj hr hp).2 rfl
    rw [this, Nat.mod_eq_of_lt hi]
  refine ⟨by rw [h.2 j hjk, if_neg (fun c => by omega)], by rw [List.length_set]; exact h.1, fun x hx => ?_⟩
  rw [List.getD_eq_getElem?_getD]
  by_cases e : j = x
  · subst e
    rw [List.getElem?_set_self (by rw [h.1]; exact hx), if_pos ⟨hj, by omega⟩]; rfl
  · rw [List.getElem?_set_ne e, ← List.getD_eq_getElem?_getD, h.2 x hx]
    by_cases c : on L x
    · have hne : plc L t x ≠ i := fun e2 => e (((plc_turn c hj hr hp).1 (by rw [e2, Nat.mod_eq_of_lt hi])).symm)
      by_cases c2 : plc L t x < i
      · rw [if_pos ⟨c, c2⟩, if_pos ⟨c, by omega⟩]
      · rw [if_neg (fun z => c2 z.2), if_neg (fun z => by have := z.2; omega)]
    · rw [if_neg (fun z => c z.1), if_neg (fun z => c z.1)]
/-- The last one, and how often one has begun anew. -/
def Last (L : List Ln) (t i : Nat) (last wraps : Int) : Prop := (i = 0 ∧ last = -1 ∨ 1 ≤ i ∧ ∃ j : Nat, last = (j : Int) ∧ on L j ∧ rk L j = (t + (i - 1)) % all L) ∧ wraps = if all L < t % all L + i then 1 else 0
theorem Last.start (L : List Ln) (t : Nat) (hp : 0 < all L) : Last L t 0 (-1) 0 := ⟨Or.inl ⟨rfl, rfl⟩, by rw [if_neg (by have := Nat.mod_lt t hp; omega)]⟩
theorem Last.turn {L : List Ln} {t i j : Nat} {last wraps : Int} (h : Last L t i last wraps) (hj : on L j) (hr : rk L j = (t + i) % all L) (hp : 0 < all L) (hi : i < all L) :
    ((j : Int) ≤ last → Last L t (i + 1) (j : Int) (wraps + 1)) ∧ (¬ (j : Int) ≤ last → Last L t (i + 1) (j : Int) wraps) := by
  obtain ⟨n, hn⟩ : ∃ n, n = all L := ⟨_, rfl⟩
  obtain ⟨s, hs⟩ : ∃ s, s = t % n := ⟨_, rfl⟩
  have hsn : s < n := by rw [hs]; exact Nat.mod_lt _ (by omega)
  have er : rk L j = (s + i) % n := by rw [hr, ← hn, hs, Nat.mod_add_mod]
  obtain ⟨h1, h2⟩ := h
  rw [← hn, ← hs] at h2
  have base : 1 ≤ i + 1 ∧ ∃ x : Nat, (j : Int) = (x : Int) ∧ on L x ∧ rk L x = (t + (i + 1 - 1)) % all L := ⟨by omega, j, rfl, hj, by rw [Nat.add_sub_cancel]; exact hr⟩
  have key : ((j : Int) ≤ last ↔ s + i = n) := by
    rcases h1 with ⟨h3, h4⟩ | ⟨h3, x, h4, h5, h6⟩
    · subst h3
      rw [h4]
      constructor
      · intro c; omega
      · intro c; omega
    · have ex : rk L x = (s + (i - 1)) % n := by rw [h6, ← hn, hs, Nat.mod_add_mod]
      rw [h4]
      constructor
      · intro c
        by_cases e : s + i = n
        · exact e
        · exfalso
          have hle : rk L j ≤ rk L x := rk_mono L j x (by omega)
          by_cases c2 : s + i < n
          · rw [er, ex, Nat.mod_eq_of_lt c2, Nat.mod_eq_of_lt (by omega)] at hle; omega
          · rw [er, ex, Nat.mod_eq_sub_mod (by omega), Nat.mod_eq_of_lt (by omega), Nat.mod_eq_sub_mod (by omega), Nat.mod_eq_of_lt (by omega)] at hle; omega
      · intro c
        have e0 : rk L j = 0 := by rw [er, c, Nat.mod_self]
        by_cases c2 : (j : Int) ≤ (x : Int)
        · exact c2
        · have := rk_lt h5 (show x < j by omega)
          omega
  refine ⟨fun c => ⟨Or.inr base, ?_⟩, fun c => ⟨Or.inr base, ?_⟩⟩
  · have := key.1 c
    rw [h2, ← hn, ← hs, if_neg (by omega), if_pos (by omega)]; rfl
  · have : s + i ≠ n := fun e => c (key.2 e)
    rw [h2, ← hn, ← hs]
    split <;> split <;> omega
theorem Last.few {L : List Ln} {t i : Nat} {last wraps : Int} (h : Last L t i last wraps) : 0 ≤ wraps ∧ wraps ≤ 1 := by
  have := h.2
  split at this <;> omega
end S
set_option maxHeartbeats 12800000 in
set_option maxRecDepth 100000 in
theorem fairRound_walk (a0 b0 : Option Addr) (n m ca cb : Nat) (f g : Nat → Int) (n2 n3 : Int) (w : World) (hf : InI w a0 n f) (hg : InI w b0 m g) :
   Calls Try.prog 8 #[.slice a0 n ca, .slice b0 m cb, .int .i64 n2, .int .i64 n3] w fun e w' => e = .returned (.bool true) ∧ Below w.heap.size w w' := by
  have HF := hide hf
  have HG := hide hg
  clear hf hg
  go_enter Try.func8, Try.ntmps8
  go_wp2_with fail
  go_at_call 18
  refine (fresh_any a0 b0 n m ca cb f g w HF.out HG.out).mono ?_
  rintro e W1 ⟨u, rfl, hu, hb⟩
  obtain ⟨k, hk⟩ : ∃ k, k = min n 12 := ⟨_, rfl⟩
  rw [← hk] at hu ⊢
  obtain ⟨L, hL⟩ : ∃ L, L = S.fr m f g k := ⟨_, rfl⟩
  have HFR : Hid ((∀ x ∈ L, S.Fr 60 x) ∧ L.length = k ∧ k ≤ 12) := by rw [hL]; exact ⟨S.fr_fr m f g k, S.fr_length m f g k, by omega⟩
  rw [← hL] at hu ⊢
  obtain ⟨c, hc⟩ : ∃ c, c = S.cnt L := ⟨_, rfl⟩
  rw [← hc]
  have HC : Hid (c = S.all L ∧ c ≤ k) := by
    rw [hc]
    exact ⟨(S.all_cnt L).symm, by have := S.cnt_le L; have := HFR.out.2.1; omega⟩
  have B1 := hide hb
  have U1 := hide hu
  clear hc hL hk hu hb HF HG
  by_cases h0 : c = 0
  · subst h0
    go_wp2_with fail
    go_at_call 11
    refine (known_any W1).mono ?_
    rintro e W2 ⟨rfl, hb⟩
    have B2 := hide (B1.out.trans (hb.mono B1.out.size))
    clear hb
    go_wp2
    go_ret
    exact ⟨rfl, B2.out⟩
  · have e0 : ((c : Int) == 0) = false := by simp; omega
    have HP : Hid (0 < S.all L) := by show 0 < S.all L; rw [← HC.out.1]; omega
    have hkp : 1 ≤ k := by have := HC.out.2; omega
    obtain ⟨au, cu, hf⟩ := U1.out.form
    rw [HFR.out.2.1] at hf
    subst hf
    obtain ⟨kp, hkp2⟩ : ∃ kp, k = kp + 1 := ⟨k - 1, by omega⟩
    have q1 : IntKind.i64.wrap ((k : Int) - 1) = (kp : Int) := by rw [hkp2]; rw [show (((kp + 1 : Nat) : Int) - 1) = (kp : Int) by omega]; exact wrap_small (by omega) (by have := HFR.out; omega)
    have hmk := make41 k (by have := HFR.out; omega)
    have HK := hide hkp2
    clear h0 hkp hkp2
    go_wp2_with fail
    go_at_call 19
    refine (within_any n2 (kp : Int) W1 (by omega) (by have := HK.out; have := HFR.out; omega)).mono ?_
    rintro e w1 ⟨rfl, rfl⟩
    obtain ⟨st, hst⟩ : ∃ st, st = S.within n2 (kp : Int) := ⟨_, rfl⟩
    have HST : Hid (st < k) := by show st < k; have := S.within_le n2 (kp : Int) (by omega); have := HK.out; omega
    rw [← hst]
    clear hst
    go_upto_region 6 with fail
    generalize hX : World.alloc _ _ = X
    obtain ⟨gm, hgm⟩ : ∃ gm, gm = W1.heap.size := ⟨_, rfl⟩
    rw [← hgm]
    obtain ⟨t, ht⟩ : ∃ t, t = S.rk L st := ⟨_, rfl⟩
    have X0 : Hid (Tn w L 60 t k X (.slice au k cu) L 0 st ∧ X.heap[gm]? = some (.cells (S.v8 (S.zeros k)) 3 (0, 0)) ∧ w.heap.size ≤ gm) := by
      have := B1.out.size
      show _ ∧ _ ∧ _
      rw [← hX, hgm]
      exact ⟨⟨U1.out.below (one_below _ _), B1.out.trans ((one_below _ _).mono this), rfl, HFR.out.1, HFR.out.2.1, by rw [ht]; exact S.At.start L st (by have := HST.out; have := HFR.out; omega)⟩, heap_alloc_new _ _, this⟩
    clear hX hgm U1 B1 hmk ht q1
    go_wp2_with fail
    go_loopw [2, 9, 12, 13, 14] (fun s2 s9 s12 s13 s14 wr => ∃ (i a : Nat) (l : List S.Ln) (last wraps : Int) (ms : List Int), i ≤ c ∧ s14 = .int .i64 (i : Int) ∧ s2 = .int .i64 (a : Int) ∧ a < k ∧ s12 = .int .i64 last ∧ s13 = .int .i64 wraps ∧ Hid (Tn w L 60 t k wr s9 l i a) ∧ Hid (S.Last L t i last wraps) ∧ Hid (S.Met L t k i ms) ∧ Hid (wr.heap[gm]? = some (.cells (S.v8 ms) 3 (0, 0)))) (fun _ _ _ _ s14 _ => c - (intOf s14).toNat)
    case atStart => exact ⟨0, st, L, -1, 0, S.zeros k, by omega, rfl, rfl, HST.out, rfl, rfl, X0.out.1, S.Last.start L t HP.out, S.Met.start L t k, X0.out.2.1⟩
    case round =>
      obtain ⟨i, a, l, last, wraps, ms, hi, rfl, rfl, hak, rfl, rfl, TN, LA, ME, RM⟩ := hrel
      obtain ⟨av, cv, hfv⟩ := TN.out.r.form
      rw [TN.out.len] at hfv
      subst hfv
      have GM : Hid (w.heap.size ≤ gm) := X0.out.2.2
      clear X0
      by_cases hic : i < c
      · have p1 : (i : Int) < (c : Int) := by omega
        have HI := hide (And.intro hi hic)
        have HAK := hide hak
        clear hi hic hak
        go_wp2_with fail
        go_at_call 9
        refine (TN.out.call (q := n3) (at_ := (a : Int)) HFR.out.2.1 (by have := HFR.out; omega) (by omega) HP.out (S.pos_nat HAK.out)).mono ?_
        rintro e W2 ⟨u2, j, nx, l2, rfl, hjk, hon, hrk, hnx, hnxk, -, htn, hb⟩
        obtain ⟨tkn, htkn⟩ : ∃ tkn, tkn = min (S.sh (L.getD j S.l0).w n3) (l.getD j S.l0).b := ⟨_, rfl⟩
        rw [← htkn]
        have T2 := hide (TN.out.below hb)
        have TN2 := hide htn
        obtain ⟨a2, c2, hf2⟩ := htn.r.form
        rw [htn.len] at hf2
        subst hf2
        have RM2 := hide (hb.block gm (block_lt_of_row RM.out) |>.trans RM.out)
        have ME2 := hide (ME.out.turn hon hjk hrk HP.out (by have := HI.out; have := HC.out; omega))
        have LA2 := hide (LA.out.turn hon hrk HP.out (by have := HI.out; have := HC.out; omega))
        have LF := hide LA.out.few
        have HJ := hide (And.intro hjk (And.intro hon (And.intro hnx hnxk)))
        clear htkn htn hb hjk hon hrk hnx hnxk TN RM ME LA
        go_upto_region 12 with fail
        generalize hX : World.alloc _ _ = X
        have bX : Below W2.heap.size W2 X := by rw [← hX]; exact one_below _ _
        have C3 : Hid (Cel X W2.heap.size 23 (.int .i64 (j : Int)) (.int .i64 tkn) (.int .i64 (nx : Int))) := by
          show Cel _ _ _ _ _ _
          rw [← hX]; exact Cel.new _ _ _ _ _
        have T3 := hide (T2.out.below bX)
        have TN3 := hide (TN2.out.below bX)
        have RM3 := hide (bX.block gm (block_lt_of_row RM2.out) |>.trans RM2.out)
        have GT : Hid (gm ≠ W2.heap.size ∧ w.heap.size ≤ W2.heap.size) := ⟨by have := block_lt_of_row RM2.out; omega, TN2.out.u.size⟩
        generalize W2.heap.size = gt at C3 GT ⊢
        clear hX bX T2 TN2 RM2
        have hjk := HJ.out.1
        have hnk := HJ.out.2.2.2
        have hk12 := HFR.out.2.2
        obtain ⟨c0, c1, c2'⟩ := C3.out.c
        have hjl : j < l.length := by rw [T3.out.len]; exact hjk
        obtain ⟨gl, rfl, -, -, -, hrl⟩ := T3.out.r.lane j hjl
        have hw0 := (lane_cells hrl).1
        obtain ⟨wj, hwj⟩ : ∃ wj, wj = (l.getD j S.l0).w := ⟨_, rfl⟩
        rw [← hwj] at hw0
        have hw1 : ¬ wj < 1 := by rw [hwj, S.w_at T3.out.ws j]; have := HJ.out.2.1.2; omega
        have p2 : ¬ (j : Int) < 0 := by omega
        have p3 : (0 : Int) ≤ (j : Int) := by omega
        have p4 : (j : Int) < (k : Int) := by omega
        have p5 : ¬ (j : Int) ≥ (k : Int) := by omega
        have p6 : IntKind.i64.wrap ((j : Int) + 1) = (j : Int) + 1 := wrap_small (by omega) (by omega)
        have p7 : Int.tmod ((j : Int) + 1) (k : Int) = (nx : Int) := by rw [Int.tmod_eq_emod_of_nonneg (by omega), HJ.out.2.2.1]; simp
        have p8 : ¬ (k : Int) = 0 := by omega
        have p9 : IntKind.i64.wrap (nx : Int) = (nx : Int) := wrap_small (by omega) (by omega)
        have q1 : IntKind.i64.wrap ((i : Int) + 1) = (i : Int) + 1 := wrap_small (by omega) (by have := HI.out; have := HC.out; omega)
        have q2 : IntKind.i64.wrap (wraps + 1) = wraps + 1 := wrap_small (by have := LF.out; omega) (by have := LF.out; omega)
        clear hrl hwj hjl
        go_quiet (fail)
        obtain ⟨Z, hZ⟩ : ∃ Z, Z = X.drewN nq := ⟨_, rfl⟩
        have sZ : Still X Z := by rw [hZ]; exact ⟨rfl, rfl, rfl, rfl⟩
        rw [← hZ]
        have CZ := hide (C3.out.below (Still.blw sZ _))
        have TNZ := hide (TN3.out.still sZ)
        have RM4 : Hid (Z.heap[gm]? = some (.cells (S.v8 ms) 3 (0, 0))) := by show _ = _; rw [sZ.1]; exact RM3.out
        clear hZ sZ C3 TN3 RM3 T3 c0 c1 c2' hw0 hw1
        obtain ⟨c0, c1, c2'⟩ := CZ.out.c
        have hml : j < ms.length := by rw [show ms.length = k by have := ME2.out.2.1; simpa using this]; exact hjk
        have m0 : Z.cell? ⟨gm, j, none⟩ = some (.int .i64 0) := by rw [v8_cell RM4.out j hml, ME2.out.1]
        have m1 := frozen_of_row _ _ j _ _ RM4.out
        have V1 := hide (v8_set RM4.out j 1)
        have CH := hide (Chg.setCell (p := fun z => z = gm) (Chg.refl _ Z) gm j (.int .i64 1) (fun _ => rfl))
        have TN4 : Hid (Tn w L 60 t k (Z.setCell ⟨gm, j, none⟩ (.int .i64 1)) (.slice a2 k c2) l2 (i + 1) nx) := by
          have h := TNZ.out
          exact ⟨h.r.chg CH.out (fun z hz e => h.r.apart RM4.out (by decide) (by rw [hz, e])), h.u.setCell (p := ⟨gm, j, none⟩) GM.out (.int .i64 1), h.ws, h.fr, h.len, h.at_⟩
        have C4 : Hid (Cel (Z.setCell ⟨gm, j, none⟩ (.int .i64 1)) gt 23 (.int .i64 (j : Int)) (.int .i64 tkn) (.int .i64 (nx : Int))) := ⟨(CH.out.block gt CZ.out.lt (fun e => GT.out.1 e.symm)).trans CZ.out.row⟩
        obtain ⟨d0, d1, d2⟩ := C4.out.c
        clear hml CH TNZ CZ
        by_cases hle : (j : Int) ≤ last
        · have LA3 := hide (LA2.out.1 hle)
          go_wp2_with fail
          go_roundw
          case rel => exact ⟨i + 1, nx, l2, _, _, ms.set j 1, by have := HI.out; omega, by simp, rfl, hnk, rfl, rfl, TN4, LA3, ME2.out.2, V1⟩
          case measure => simp [intOf]; have := HI.out; omega
        · have LA3 := hide (LA2.out.2 (by omega))
          go_wp2_with fail
          go_roundw
          case rel => exact ⟨i + 1, nx, l2, _, _, ms.set j 1, by have := HI.out; omega, by simp, rfl, hnk, rfl, rfl, TN4, LA3, ME2.out.2, V1⟩
          case measure => simp [intOf]; have := HI.out; omega
      · obtain rfl : c = i := by omega
        have FI : Hid (∀ x, x < k → ms.getD x 0 = if S.on L x then 1 else 0) := fun x hx => by
          rw [ME.out.2 x hx]
          by_cases h : S.on L x
          · rw [if_pos ⟨h, by have := S.plc_lt t x HP.out; have := HC.out.1; omega⟩, if_pos h]
          · rw [if_neg (fun z => h z.1), if_neg h]
        have LF := hide LA.out.few
        have hml : ms.length = k := ME.out.1
        have HML := hide hml
        clear hic hi hak ME LA hml
        go_wp2_with fail
        obtain ⟨wo, rfl⟩ : ∃ wo : World, wo = wr := ⟨_, rfl⟩
        go_loopg [17] k (fun gk s17 wr => ∃ x : Nat, x + gk = k ∧ s17 = .int .i64 (x : Int) ∧ Hid (Still wo wr))
        case atStart => exact ⟨0, by omega, rfl, Still.refl _⟩
        case round =>
          obtain ⟨x, hx, rfl, ST⟩ := hrel
          cases gk with
          | zero =>
            obtain rfl : x = k := by omega
            have q : ¬ (x : Int) < (x : Int) := by omega
            have q2 : wraps ≤ 1 := LF.out.2
            clear hx
            go_wp2_with fail
            go_at_call 11
            refine (known_any wr).mono ?_
            rintro e W9 ⟨rfl, hb⟩
            have B9 := hide ((TN.out.u.trans (Still.blw ST.out _)).trans (hb.mono (TN.out.u.trans (Still.blw ST.out _)).size))
            clear hb
            go_wp2
            go_ret
            exact ⟨rfl, B9.out⟩
          | succ gO =>
            have hxk : x < k := by omega
            have p1 : (x : Int) < (k : Int) := by omega
            have p0 : (0 : Int) ≤ (x : Int) := by omega
            have p2 : IntKind.i64.wrap ((x : Int) + 1) = (x : Int) + 1 := wrap_small (by omega) (by have := HFR.out; omega)
            have TN5 := hide (TN.out.still ST.out)
            have RM5 : Hid (wr.heap[gm]? = some (.cells (S.v8 ms) 3 (0, 0))) := by show _ = _; rw [ST.out.1]; exact RM.out
            obtain ⟨gl, rfl, -, -, -, hrl⟩ := TN5.out.r.lane x (by rw [TN5.out.len]; exact hxk)
            have hw0 := (lane_cells hrl).1
            have m0 : wr.cell? ⟨gm, x, none⟩ = some (.int .i64 (ms.getD x 0)) := v8_cell RM5.out x (by rw [HML.out]; exact hxk)
            have ew := S.w_at TN5.out.ws x
            obtain ⟨wx, hwx⟩ : ∃ wx, wx = (l.getD x S.l0).w := ⟨_, rfl⟩
            rw [← hwx] at hw0 ew
            have HX := hide hx
            by_cases hon : S.on L x
            · have e1 : ms.getD x 0 = 1 := by rw [FI.out x hxk, if_pos hon]
              have hw1 : ¬ wx < 1 := by have := hon.2; omega
              have hw2 : wx > 0 := by omega
              rw [e1] at m0
              clear hrl e1 ew hwx hx hon hxk TN5 RM5
              go_wp2_with fail
              go_roundg gO
              case rel => exact ⟨x + 1, by have := HX.out; omega, by simp, ST⟩
              case measure => omega
            · have e1 : ms.getD x 0 = 0 := by rw [FI.out x hxk, if_neg hon]
              have hw1 : wx < 1 := by
                have h2 : ¬ 1 ≤ (L.getD x S.l0).w := fun c => hon ⟨by rw [HFR.out.2.1]; exact hxk, c⟩
                omega
              have hw2 : ¬ wx > 0 := by omega
              rw [e1] at m0
              clear hrl e1 ew hwx hx hon hxk TN5 RM5
              go_wp2_with fail
              go_roundg gO
              case rel => exact ⟨x + 1, by have := HX.out; omega, by simp, ST⟩
              case measure => omega
end Go.Proofs.Ytnplijgdklnipaa
