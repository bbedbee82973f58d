/- QueuePlays' walk. -/
import Derived.Test.YtghcgkcojgmbkaaQf
import Derived.Deep.CutBlock
namespace Go.Proofs.Ytghcgkcojgmbkaa
open Go.RowKit
namespace S
variable {α : Type} [DecidableEq α]
theorem ahead_app {x : α} : ∀ (l m : List α), x ∈ l → ahead (l ++ m) x = ahead l x
  | [], m, h => by simp at h
  | y :: l, m, h => by
    by_cases e : y = x
    · simp [ahead, e]
    · have h' : x ∈ l := by
        rcases List.mem_cons.1 h with h | h
        · exact absurd h.symm e
        · exact h
      simp [ahead, e, ahead_app l m h']
theorem ahead_end {x : α} : ∀ (l : List α), ¬ x ∈ l → ahead (l ++ [x]) x = l.length
  | [], _ => by simp [ahead]
  | y :: l, h => by
    have e : ¬ y = x := fun e => h (by simp [e])
    have h' : ¬ x ∈ l := fun h2 => h (by simp [h2])
    simp [ahead, e, ahead_end l h']
omit [DecidableEq α] in
theorem take_more {l : List α} {k : Nat} {y : α} (h : l[k]? = some y) : l.take (k + 1) = l.take k ++ [y] := by
  rw [List.take_add_one, h]; rfl
omit [DecidableEq α] in
theorem not_before {l : List α} {k : Nat} {y : α} (hn : l.Nodup) (h : l[k]? = some y) : ¬ y ∈ l.take k := fun hm => by
  obtain ⟨i, hi, he⟩ := List.getElem_of_mem hm
  obtain ⟨hk, hke⟩ := List.getElem?_eq_some_iff.1 h
  rw [List.length_take] at hi
  rw [List.getElem_take, ← hke] at he
  have := (List.getElem_inj hn).1 he
  omega
theorem idx_here {l : List α} {k : Nat} {y : α} (hn : l.Nodup) (h : l[k]? = some y) : idx (l.take (k + 1)) y = (k : Int) := by
  have hk := (List.getElem?_eq_some_iff.1 h).1
  rw [take_more h, idx_yes (by simp), ahead_end _ (not_before hn h), List.length_take, Nat.min_eq_left (by omega)]
theorem idx_past {l : List α} {k : Nat} {x y : α} (h : l[k]? = some y) (hne : ¬ y = x) : idx (l.take (k + 1)) x = idx (l.take k) x := by
  rw [take_more h]
  by_cases hm : x ∈ l.take k
  · rw [idx_yes (by simp [hm]), idx_yes hm, ahead_app _ _ hm]
  · rw [idx_no (by simp [hm]; exact fun e => hne e.symm), idx_no hm]
omit [DecidableEq α] in
theorem push_nodup {l : List α} {x : α} (hn : l.Nodup) (h : ¬ x ∈ l) : (l ++ [x]).Nodup := by
  rw [List.nodup_append]
  exact ⟨hn, by simp, fun a ha b hb => by simp at hb; subst hb; exact fun e => h (e ▸ ha)⟩
omit [DecidableEq α] in
theorem drop_nodup {l : List α} (hn : l.Nodup) (k : Nat) : (l.drop k).Nodup := (List.drop_sublist k l).nodup hn
end S
/-- A queue, and beside it a list of one's own that reads the same. -/
structure Plq (w : World) (g : Nat) (wr : World) (v vn : Value) (xs : List Int) : Prop where
  q : QI wr g v xs
  l : Rw 3 1 encI g wr vn xs
  sep : ∀ j, vn.ownBlock = some j → v.ownBlock ≠ some j
  nd : xs.Nodup
  b : Below g w wr
theorem Plq.below {w wr W : World} {g : Nat} {v vn : Value} {xs : List Int} (h : Plq w g wr v vn xs) (hb : Below wr.heap.size wr W) : Plq w g W v vn xs :=
  ⟨h.q.below hb, h.l.below hb, h.sep, h.nd, h.b.trans (hb.mono (Nat.le_of_lt h.q.g_lt))⟩
theorem Plq.still {w wr W : World} {g : Nat} {v vn : Value} {xs : List Int} (h : Plq w g wr v vn xs) (hs : Still wr W) : Plq w g W v vn xs := h.below (Still.blw hs _)
theorem Plq.vn_ne {w wr : World} {g : Nat} {v vn : Value} {xs : List Int} (h : Plq w g wr v vn xs) : vn.ownBlock ≠ some g := h.l.apart h.q.row (by decide)
/-- Behind a call of the queue that leaves the other list alone. -/
theorem Plq.call {w wr W : World} {g : Nat} {v vn v' : Value} {xs ys : List Int} (h : Plq w g wr v vn xs) (_hq : QI W g v' ys) (ht : QTo wr g v W v') : Rw 3 1 encI g W vn xs ∧ (∀ j, vn.ownBlock = some j → v'.ownBlock ≠ some j) ∧ Below g w W :=
  ⟨h.l.chg ht.chg (fun j hj c => by
    rcases c with c | c
    · exact h.vn_ne (by rw [hj, c])
    · exact h.sep j hj c),
   fun j hj hc => by
    rcases ht.own j hc with e | e
    · exact h.sep j hj e
    · have := (h.l.blk hj).2.1; omega,
   h.b.trans (QI.run h.q ht)⟩
/-- The other list is changed alone. -/
theorem Plq.list {w wr W : World} {g : Nat} {v vn vm : Value} {ys : List Int} (hq : QI wr g v ys) (hb : Below g w wr) (hs : ∀ j, vn.ownBlock = some j → v.ownBlock ≠ some j) (hn : vn.ownBlock ≠ some g) (hg : ∀ j, vn.ownBlock = some j → g ≤ j) (hl : Rw 3 1 encI g W vm ys) (hc : Chg (fun j => vn.ownBlock = some j) wr W) (ho : ∀ j, vm.ownBlock = some j → vn.ownBlock = some j ∨ wr.heap.size ≤ j) (hd : ys.Nodup) : Plq w g W v vm ys :=
  ⟨hq.chg hc (fun e => hn e) (fun j hj e => hs j e hj), hl, fun j hj e => by
    rcases ho j hj with h | h
    · exact hs j h e
    · have := hq.v_lt e; omega, hd, hb.trans (hc.below g (Nat.le_of_lt hq.g_lt) (fun j hj e => by have := hg j e; omega))⟩
/-- The other list is a new one. -/
theorem Plq.fresh {w Z W2 W3 : World} {g : Nat} {v vm : Value} {ys : List Int} (hq : QI Z g v ys) (hb : Below g w Z) (h2 : Below Z.heap.size Z W2) (hl : Rw 3 1 encI Z.heap.size W3 vm ([] ++ ys)) (hc : Chg (fun j => (Value.slice (some ⟨Z.heap.size, 0, none⟩) 0 0).ownBlock = some j) W2 W3) (hd : ys.Nodup) : Plq w g W3 v vm ys := by
  have h3 : Below Z.heap.size Z W3 := h2.trans (hc.below Z.heap.size h2.size (fun j hj e => by simp [Value.ownBlock] at e; omega))
  rw [List.nil_append] at hl
  exact ⟨hq.below h3, hl.mono (Nat.le_of_lt hq.g_lt), fun j hj e => by have := (hl.blk hj).1; have := hq.v_lt e; omega, hd, hb.trans (h3.mono (Nat.le_of_lt hq.g_lt))⟩
theorem Plq.cap {w wr : World} {g : Nat} {v : Value} {an : Option Addr} {n cn : Nat} {xs : List Int} (h : Plq w g wr v (.slice an n cn) xs) (hn : n = xs.length) : n ≤ cn := by
  rcases h.l.2 with ⟨e, h0⟩ | ⟨g', cap', cur, e, _, _, q1, _⟩
  · omega
  · simp only [Value.slice.injEq] at e; omega
/-- What lies from place m on is put behind a row. -/
theorem Rw.rest {B : Nat} {w : World} {an : Option Addr} {n cn : Nat} {xs : List Int} (h : Rw 3 1 encI B w (.slice an n cn) xs) (m : Nat) (hm : m ≤ xs.length) (hn : n = xs.length) : Sce encI w (.slice (if cn = m then an else Option.map (fun x => x.add m) an) (n - m) (cn - m)) (xs.drop m) := by
  rcases h.2 with ⟨e, h0⟩ | ⟨g', cap', cur, e, _, hr, q1, q2, q3, q4⟩
  · simp only [Value.slice.injEq] at e
    obtain ⟨rfl, rfl, rfl⟩ := e
    obtain rfl : m = 0 := by omega
    have : xs = [] := List.length_eq_zero_iff.1 h0
    subst this
    exact Or.inl ⟨rfl, rfl⟩
  · simp only [Value.slice.injEq] at e
    obtain ⟨rfl, rfl, rfl⟩ := e
    by_cases hc : cn = m
    · have e0 : xs.drop m = [] := List.drop_eq_nil_of_le (by omega)
      rw [if_pos hc, e0]
      exact Or.inr ⟨⟨g', 0, none⟩, cn - m, by simp; omega, fun j y hj => by simp at hj⟩
    · rw [if_neg hc]
      refine Or.inr ⟨(⟨g', 0, none⟩ : Addr).add m, cn - m, by simp [List.length_drop], fun j y hj => ?_⟩
      rw [encI_flat] at hj q4
      have hj2 : (S.v8l xs)[m + j]? = some y := by
        rw [show S.v8l (xs.drop m) = (S.v8l xs).drop m by simp [S.v8l, List.map_drop], List.getElem?_drop] at hj
        exact hj
      have hlt := (List.getElem?_eq_some_iff.1 hj2).1
      rw [S.v8l_length] at hlt
      rw [Addr.add_lit, Addr.add_lit, cell_of_row w g' _ cur 3 (0, 0) hr]
      rw [← q4, List.getElem?_take, if_pos (by omega)] at hj2
      simpa using hj2
theorem Rw.cell1 {B : Nat} {w : World} {v : Value} {xs : List Int} (h : Rw 3 1 encI B w v xs) (j : Nat) (x : Int) (hx : xs[j]? = some x) : ∃ g cap, v = .slice (some ⟨g, 0, none⟩) xs.length cap ∧ g < w.heap.size ∧ B ≤ g ∧ w.cell? ⟨g, j, none⟩ = some (.int .i64 x) := by
  obtain ⟨g, cap, e, h1, h2, h3⟩ := h.at_ (lenI xs) j x hx
  refine ⟨g, cap, e, h1, h2, ?_⟩
  have := h3 0 (.int .i64 x) rfl
  simpa using this

set_option maxHeartbeats 16000000 in
set_option maxRecDepth 100000 in
theorem queuePlays_walk (a0 : Option Addr) (len cap : Nat) (ks ns : Nat → Int) (w : World) (hz : 0 < len → ∃ b off, a0 = some ⟨b, off, none⟩ ∧ b < w.heap.size ∧ ∀ i, i < len → w.cell? ⟨b, off + i * 2, none⟩ = some (.int .i64 (ks i)) ∧ w.cell? ⟨b, off + i * 2 + 1, none⟩ = some (.int .i64 (ns i))) :
   Calls Try.prog 4 #[.slice a0 len cap] w fun e w' => e = .returned (.bool true) ∧ Below w.heap.size w w' := by
  have HZ := hide hz
  clear hz
  obtain ⟨g, hg⟩ : ∃ g, g = w.heap.size := ⟨_, rfl⟩
  have HG := hide hg
  clear hg
  go_enter Try.func4, Try.ntmps4
  go_wp2_with fail
  go_at_call 7
  refine (newI_any w).mono ?_
  rintro e w1 ⟨rfl, hq, hb⟩
  rw [← HG.out] at hq hb ⊢
  have P0 : Hid (Plq w g w1 (.slice none 0 0) (.slice none 0 0) []) := ⟨hq, Rw.nil _ _ _ _ _, fun j hj => by simp [Value.ownBlock] at hj, by simp, hb⟩
  clear hq hb
  go_wp2_with fail
  go_loopw [4, 5] (fun s4 s5 wr => ∃ (i : Nat) (v : Value) (xs : List Int), i ≤ len ∧ s5 = .int .i64 (i : Int) ∧ Hid (i ≤ 200) ∧ Hid (Plq w g wr v s4 xs)) (fun _ s5 _ => 200 - (intOf s5).toNat)
  case atStart => exact ⟨0, _, _, by omega, rfl, by show (0 : Nat) ≤ 200; omega, P0⟩
  case round =>
    obtain ⟨i, v, xs, hi, rfl, H200, P1⟩ := hrel
    clear P0
    have HI := hide hi
    by_cases hin : i < len ∧ i < 200
    · obtain ⟨h1, h2⟩ := hin
      have HH := hide (And.intro h1 h2)
      obtain ⟨b, off, rfl, hbl, hcs⟩ := HZ.out (by omega)
      obtain ⟨hk0, hn0⟩ := hcs i h1
      obtain ⟨kd, hkd⟩ : ∃ kd, kd = ks i := ⟨_, rfl⟩
      obtain ⟨x, hx⟩ : ∃ x, x = ns i := ⟨_, rfl⟩
      rw [← hkd] at hk0
      rw [← hx] at hn0
      have BL : Hid (b < g) := by show b < g; rw [HG.out]; exact hbl
      have CK := hide hk0
      have CN := hide hn0
      clear hk0 hn0 hkd hx hcs hbl hi
      obtain ⟨an, cn, hvn⟩ := P1.out.l.form
      subst hvn
      obtain ⟨n, hn⟩ : ∃ n, n = xs.length := ⟨_, rfl⟩
      have HN := hide hn
      rw [← hn] at P1 ⊢
      clear hn
      have r1 : (i : Int) < (len : Int) := by omega
      have r2 : (i : Int) < 200 := by omega
      have r3 : (0 : Int) ≤ (i : Int) := by omega
      have c1 : wr.cell? ⟨b, off + i * 2, none⟩ = some (.int .i64 kd) := (P1.out.b.cell (p := ⟨b, off + i * 2, none⟩) BL.out).trans CK.out
      have c2 : wr.cell? ⟨b, off + i * 2 + 1, none⟩ = some (.int .i64 x) := (P1.out.b.cell (p := ⟨b, off + i * 2 + 1, none⟩) BL.out).trans CN.out
      go_wp2_with fail
      clear h1 h2 c1 c2
      obtain ⟨wo, rfl⟩ : ∃ wo : World, wo = wr := ⟨_, rfl⟩
      go_loopw [6, 7] (fun s6 s7 wr => ∃ k : Nat, k ≤ n ∧ s7 = .int .i64 (k : Int) ∧ s6 = .int .i64 (S.idx (xs.take k) x) ∧ Still wo wr) (fun _ s7 _ => n - (intOf s7).toNat)
      case atStart => exact ⟨0, by omega, rfl, rfl, Still.refl _⟩
      case round =>
        obtain ⟨k, hk, rfl, rfl, hst⟩ := hrel
        have ST := hide hst
        by_cases hlt : k < n
        · have hkx : k < xs.length := by rw [← HN.out]; exact hlt
          obtain ⟨y, hy⟩ : ∃ y, xs[k]? = some y := ⟨_, List.getElem?_eq_getElem hkx⟩
          have HY := hide hy
          obtain ⟨gn, cc, e, _, _, hc⟩ := P1.out.l.cell1 k y hy
          simp only [Value.slice.injEq] at e
          obtain ⟨rfl, -, rfl⟩ := e
          have d1 : wr.cell? ⟨gn, k, none⟩ = some (.int .i64 y) := (World.cell?_of_block (by rw [hst.1])).trans hc
          have d2 : wr.cell? ⟨b, off + i * 2 + 1, none⟩ = some (.int .i64 x) := (World.cell?_of_block (w := wo) (by rw [hst.1])).trans ((P1.out.b.cell (p := ⟨b, off + i * 2 + 1, none⟩) BL.out).trans CN.out)
          have s1 : (k : Int) < (n : Int) := by omega
          have s2 : (0 : Int) ≤ (k : Int) := by omega
          have s3 : IntKind.i64.wrap ((k : Int) + 1) = (k : Int) + 1 := by rw [IntKind.wrap_i64]; have := P1.out.q.few; have := HN.out; omega
          clear hy hc hst hkx
          by_cases hyx : y = x
          · have E := hide (show S.idx (xs.take (k + 1)) x = (k : Int) by rw [← hyx]; exact S.idx_here P1.out.nd HY.out)
            subst hyx
            go_wp2
            go_quiet (fail)
            go_wp2
            go_roundw
            case rel => exact ⟨k + 1, by omega, by simp, by rw [E.out], ST.out⟩
            case measure => simp [intOf]; omega
          · have E := hide (S.idx_past HY.out hyx)
            have eb : (y == x) = false := by simp [hyx]
            go_wp2
            go_quiet (fail)
            go_wp2
            go_roundw
            case rel => exact ⟨k + 1, by omega, by simp, by rw [E.out], ST.out⟩
            case measure => simp [intOf]; omega
        obtain rfl : n = k := by omega
        rw [show xs.take n = xs by rw [HN.out, List.take_length]]
        have P2 := hide (P1.out.still hst)
        have s1 : ¬ (n : Int) < (n : Int) := by omega
        have c1 : wr.cell? ⟨b, off + i * 2, none⟩ = some (.int .i64 kd) := (P2.out.b.cell (p := ⟨b, off + i * 2, none⟩) BL.out).trans CK.out
        clear hlt hk hst P1 ST
        go_upto_block 4 with fail
        clear c1 s1
        go_cut [4, 6] (fun s4 _ wc => ∃ (v' : Value) (ys : List Int), Hid (Plq w g wc v' s4 ys))
        case first =>
          have HCAP : Hid (n ≤ cn) := P2.out.cap HN.out
          by_cases hk1 : kd = 1
          · subst hk1
            by_cases hm : x ∈ xs
            · have A1 := hide (S.pushA_yes hm)
              have A2 := hide (S.pushL_yes hm)
              rw [S.idx_yes hm]
              obtain ⟨a, ha⟩ : ∃ a, a = S.ahead xs x := ⟨_, rfl⟩
              rw [← ha] at A1 ⊢
              have q1 : (0 : Int) ≤ (a : Int) := by omega
              clear ha
              have HM := hide hm
              clear hm
              have c2 : wr.cell? ⟨b, off + i * 2 + 1, none⟩ = some (.int .i64 x) := (P2.out.b.cell (p := ⟨b, off + i * 2 + 1, none⟩) BL.out).trans CN.out
              go_wp2_with fail
              go_at_call 8
              refine (pushI_any g wr g v xs x P2.out.q (Nat.le_of_lt P2.out.q.g_lt)).mono ?_
              rintro e w3 ⟨v3, rfl, hq, ht⟩
              rw [A1.out]
              rw [A2.out] at hq
              have HQ := hide hq
              obtain ⟨hl, hs, hb⟩ := P2.out.call hq ht
              have HL := hide hl
              have HS := hide hs
              have HB := hide hb
              have NE := hide P2.out.vn_ne
              have GE : Hid (∀ j, (Value.slice an n cn).ownBlock = some j → g ≤ j) := fun j hj => (P2.out.l.blk hj).1
              have ND := hide P2.out.nd
              clear hq ht hl hs hb c2
              have P3 : Hid (Plq w g w3 v3 (.slice an n cn) xs) := ⟨HQ.out, HL.out, HS.out, ND.out, HB.out⟩
              clear P2
              go_wp2_with fail
              go_meet
              exact ⟨_, _, P3⟩
            · by_cases hf : 64 ≤ xs.length
              · have A1 := hide (S.pushA_full hm hf)
                have A2 := hide (S.pushL_full hm hf)
                rw [S.idx_no hm]
                have q1 : (n : Int) ≥ 64 := by rw [HN.out]; omega
                have HF := hide hf
                clear hf
                have HM := hide hm
                clear hm
                have c2 : wr.cell? ⟨b, off + i * 2 + 1, none⟩ = some (.int .i64 x) := (P2.out.b.cell (p := ⟨b, off + i * 2 + 1, none⟩) BL.out).trans CN.out
                go_wp2_with fail
                go_at_call 8
                refine (pushI_any g wr g v xs x P2.out.q (Nat.le_of_lt P2.out.q.g_lt)).mono ?_
                rintro e w3 ⟨v3, rfl, hq, ht⟩
                rw [A1.out]
                rw [A2.out] at hq
                have HQ := hide hq
                obtain ⟨hl, hs, hb⟩ := P2.out.call hq ht
                have HL := hide hl
                have HS := hide hs
                have HB := hide hb
                have NE := hide P2.out.vn_ne
                have GE : Hid (∀ j, (Value.slice an n cn).ownBlock = some j → g ≤ j) := fun j hj => (P2.out.l.blk hj).1
                have ND := hide P2.out.nd
                clear hq ht hl hs hb c2
                have P3 : Hid (Plq w g w3 v3 (.slice an n cn) xs) := ⟨HQ.out, HL.out, HS.out, ND.out, HB.out⟩
                clear P2
                go_wp2_with fail
                go_meet
                exact ⟨_, _, P3⟩
              · have A1 := hide (S.pushA_new hm hf)
                have A2 := hide (S.pushL_new hm hf)
                rw [S.idx_no hm]
                have q1 : ¬ (n : Int) ≥ 64 := by rw [HN.out]; omega
                have HF := hide hf
                clear hf
                have HM := hide hm
                clear hm
                have c2 : wr.cell? ⟨b, off + i * 2 + 1, none⟩ = some (.int .i64 x) := (P2.out.b.cell (p := ⟨b, off + i * 2 + 1, none⟩) BL.out).trans CN.out
                go_wp2_with fail
                go_at_call 8
                refine (pushI_any g wr g v xs x P2.out.q (Nat.le_of_lt P2.out.q.g_lt)).mono ?_
                rintro e w3 ⟨v3, rfl, hq, ht⟩
                rw [A1.out]
                rw [A2.out] at hq
                have HQ := hide hq
                obtain ⟨hl, hs, hb⟩ := P2.out.call hq ht
                have HL := hide hl
                have HS := hide hs
                have HB := hide hb
                have NE := hide P2.out.vn_ne
                have GE : Hid (∀ j, (Value.slice an n cn).ownBlock = some j → g ≤ j) := fun j hj => (P2.out.l.blk hj).1
                have ND := hide P2.out.nd
                clear hq ht hl hs hb c2
                rw [← HN.out]
                have c2 : w3.cell? ⟨b, off + i * 2 + 1, none⟩ = some (.int .i64 x) := (HB.out.cell (p := ⟨b, off + i * 2 + 1, none⟩) BL.out).trans CN.out
                clear P2
                obtain ⟨W2, hW2⟩ : ∃ W2, W2 = w3.alloc (.cells #[.int .i64 x] 3) := ⟨_, rfl⟩
                have HW2 := hide hW2
                have r4 : Hid (W2.heap[w3.heap.size]? = some (.cells (encI x).toArray 3 (0, 0))) := by rw [hW2]; exact heap_alloc_new _ _
                have B2 : Hid (Below w3.heap.size w3 W2) := by rw [hW2]; exact (Below.refl _ _).alloc (Nat.le_refl _) _
                clear hW2
                have APP := hide (Rw.append2 kdI 27 (HL.out.below B2.out) (Sce.of_row (c := 1) r4.out) (lenI [x]) (by have := HF.out; simp; omega) (by have := B2.out.size; have := HQ.out.g_lt; omega))
                go_wp2_with (at_builtin; rw [← HW2.out]; refine wpList_append_known rfl (.tmp 98) (.tmp 104) 27 27 rfl _ _ rfl rfl APP.out ?_; rintro vm W3 ⟨hr3, _, hc3, ho3⟩; have P3 : Hid (Plq w g W3 v3 vm (xs ++ [x])) := (Plq.list (HQ.out.below B2.out) (HB.out.trans (B2.out.mono (Nat.le_of_lt HQ.out.g_lt))) HS.out NE.out GE.out hr3 hc3 ho3 (S.push_nodup ND.out HM.out)); clear hr3 hc3 ho3)
                go_meet
                exact ⟨_, _, P3⟩
          have e1 : (kd == 1) = false := by simp [hk1]
          clear hk1
          by_cases hk2 : kd = 2
          · subst hk2
            by_cases hx0 : x < 0
            · have HM : Hid (S.many xs x = 0) := by show S.many xs x = 0; unfold S.many; omega
              have q0 : ¬ (0 : Int) > (n : Int) := by omega
              have q2 : (0 : Int) ≤ (cn : Int) := by omega
              have q3 : (0 : Int) ≤ (n : Int) := by omega
              have HMN : Hid (0 ≤ xs.length) := by show 0 ≤ xs.length; have := HN.out; omega
              have c2 : wr.cell? ⟨b, off + i * 2 + 1, none⟩ = some (.int .i64 x) := (P2.out.b.cell (p := ⟨b, off + i * 2 + 1, none⟩) BL.out).trans CN.out
              go_upto_region 32 with fail
              clear c2
              refine wp_region_noPanic ?_
              refine wp_region_held_drew (S := (fun W => Below g w W)) follows (P2.out.b.drew) (fun hHeld => ?_)
              clear hHeld
              have PZ0 : Hid (Plq w g wr.drew v (.slice an n cn) xs) := P2.out.below ((Below.refl _ _).drew)
              have hHeld : Below g w wr.drew := PZ0.out.b
              generalize wr.drew = Z0 at PZ0 hHeld ⊢
              clear P2
              refine wpAnyH_take (i := 0) (oi := { dst := some 121, op := Op.move (Operand.tmp 3), type := 22, pos := "law.go:89", after := #[], guard := none }) (v := ?_) rfl (by kernel_rfl) (by kernel_rfl) (by kernel_rfl) (fun _ _ _ h => h) (Or.inl ⟨by rfl, ?_⟩) (by assumption) ?_
              rotate_left
              · intro w hSw
                clear hSw
                go_simp
                all_goals with_reducible rfl
              simp only [Act.put, List.setIfInBounds_toArray, List.set_cons_zero, List.set_cons_succ]
              refine wpAnyH_take (i := 1) (oi := { dst := some 122, op := Op.move (Operand.tmp 0), type := 34, pos := "law.go:89", after := #[], guard := none }) (v := ?_) rfl (by kernel_rfl) (by kernel_rfl) (by kernel_rfl) (fun _ _ _ h => h) (Or.inl ⟨by rfl, ?_⟩) (by assumption) ?_
              rotate_left
              · intro w hSw
                clear hSw
                go_simp
                all_goals with_reducible rfl
              simp only [Act.put, List.setIfInBounds_toArray, List.set_cons_zero, List.set_cons_succ]
              refine wpAnyH_take (i := 2) (oi := { dst := some 123, op := Op.move (Operand.tmp 5), type := 3, pos := "law.go:89", after := #[], guard := none }) (v := ?_) rfl (by kernel_rfl) (by kernel_rfl) (by kernel_rfl) (fun _ _ _ h => h) (Or.inl ⟨by rfl, ?_⟩) (by assumption) ?_
              rotate_left
              · intro w hSw
                clear hSw
                go_simp
                all_goals with_reducible rfl
              simp only [Act.put, List.setIfInBounds_toArray, List.set_cons_zero, List.set_cons_succ]
              refine wpAnyH_take (i := 3) (oi := { dst := some 124, op := Op.indexAddr 34 (Operand.tmp 122) (Operand.tmp 123), type := 0, pos := "law.go:89", after := #[{ on := 1, ground := Ground.data }, { on := 2, ground := Ground.data }], guard := none }) (v := ?_) rfl (by kernel_rfl) (by kernel_rfl) (by kernel_rfl) (fun _ _ _ h => h) (Or.inl ⟨by rfl, ?_⟩) (by assumption) ?_
              rotate_left
              · intro w hSw
                clear hSw
                go_simp
                all_goals with_reducible rfl
              simp only [Act.put, List.setIfInBounds_toArray, List.set_cons_zero, List.set_cons_succ]
              refine wpAnyH_take (i := 4) (oi := { dst := some 125, op := Op.fieldAddr 36 (Operand.tmp 124) 1, type := 0, pos := "law.go:89", after := #[{ on := 3, ground := Ground.data }], guard := none }) (v := ?_) rfl (by kernel_rfl) (by kernel_rfl) (by kernel_rfl) (fun _ _ _ h => h) (Or.inl ⟨by rfl, ?_⟩) (by assumption) ?_
              rotate_left
              · intro w hSw
                clear hSw
                go_simp
                all_goals with_reducible rfl
              simp only [Act.put, List.setIfInBounds_toArray, List.set_cons_zero, List.set_cons_succ]
              refine wpAnyH_take (i := 5) (oi := { dst := some 126, op := Op.load 3 (Operand.tmp 125), type := 3, pos := "law.go:89", after := #[{ on := 4, ground := Ground.data }], guard := none }) (v := ?_) rfl (by kernel_rfl) (by kernel_rfl) (by kernel_rfl) (fun _ _ _ h => h) (Or.inl ⟨by rfl, ?_⟩) (by assumption) ?_
              rotate_left
              · intro w hSw
                have c2 := (hSw.cell (p := ⟨b, off + i * 2 + 1, none⟩) BL.out).trans CN.out
                clear hSw
                go_simp
                all_goals with_reducible rfl
              simp only [Act.put, List.setIfInBounds_toArray, List.set_cons_zero, List.set_cons_succ]
              refine wpAnyH_take (i := 7) (oi := { dst := some 128, op := Op.move (Operand.tmp 4), type := 27, pos := "law.go:89", after := #[], guard := none }) (v := ?_) rfl (by kernel_rfl) (by kernel_rfl) (by kernel_rfl) (fun _ _ _ h => h) (Or.inl ⟨by rfl, ?_⟩) (by assumption) ?_
              rotate_left
              · intro w hSw
                clear hSw
                go_simp
                all_goals with_reducible rfl
              simp only [Act.put, List.setIfInBounds_toArray, List.set_cons_zero, List.set_cons_succ]
              refine wpAnyH_take (i := 8) (oi := { dst := some 129, op := Op.move (Operand.tmp 11), type := 3, pos := "law.go:89", after := #[], guard := none }) (v := ?_) rfl (by kernel_rfl) (by kernel_rfl) (by kernel_rfl) (fun _ _ _ h => h) (Or.inl ⟨by rfl, ?_⟩) (by assumption) ?_
              rotate_left
              · intro w hSw
                clear hSw
                go_simp
                all_goals with_reducible rfl
              simp only [Act.put, List.setIfInBounds_toArray, List.set_cons_zero, List.set_cons_succ]
              refine wpAnyH_take (i := 9) (oi := { dst := some 130, op := Op.slice 27 (Operand.tmp 128) none (some (Operand.tmp 129)) none, type := 27, pos := "law.go:89", after := #[{ on := 7, ground := Ground.data }, { on := 8, ground := Ground.data }], guard := none }) (v := ?_) rfl (by kernel_rfl) (by kernel_rfl) (by kernel_rfl) (fun _ _ _ h => h) (Or.inl ⟨by rfl, ?_⟩) (by assumption) ?_
              rotate_left
              · intro w hSw
                clear hSw
                go_simp
                all_goals with_reducible rfl
              simp only [Act.put, List.setIfInBounds_toArray, List.set_cons_zero, List.set_cons_succ]
              refine wpAnyH_ready (rs := [6]) (by kernel_rfl) (by simp) ?_
              refine AllReadyH.cons (o := { dst := some 127, op := Op.call { callee := Callee.value (Operand.func 9), args := #[Operand.tmp 121, Operand.tmp 126], argTypes := #[22, 3] }, type := 27, pos := "law.go:89", after := #[{ on := 0, ground := Ground.data }, { on := 5, ground := Ground.data }], guard := none }) rfl (fun K hK => ?_) AllReadyH.nil
              go_simp
              refine (takeI_any g Z0 g v xs x PZ0.out.q).mono ?_
              rintro e Z1 ⟨ut, v3, rfl, hu, hq, ht, -⟩
              rw [HM.out] at hu hq
              obtain ⟨hl, hs, hb⟩ := PZ0.out.call hq ht
              have HU := hide (hu.sliceAt (by have := PZ0.out.q.few; rw [List.length_take]; omega))
              have HQ := hide hq
              have HL := hide hl
              have HS := hide hs
              have HB := hide hb
              have ND := hide PZ0.out.nd
              have FEW := hide PZ0.out.q.few
              clear hu hq ht hl hs hb PZ0 hHeld
              refine hK.out _ _ HB.out (fun hHeld => ?_)
              clear hK K
              try simp only [Act.put, List.setIfInBounds_toArray, List.set_cons_zero, List.set_cons_succ]
              refine wpAnyH_ready (rs := [10]) (by kernel_rfl) (by simp) ?_
              refine AllReadyH.cons (o := { dst := some 131, op := Op.call { callee := Callee.value (Operand.func 11), args := #[Operand.tmp 127, Operand.tmp 130], argTypes := #[27, 27] }, type := 4, pos := "law.go:89", after := #[{ on := 6, ground := Ground.data }, { on := 9, ground := Ground.data }, { on := 6, ground := Ground.chain }], guard := none }) rfl (fun K hK => ?_) AllReadyH.nil
              go_simp
              refine (same_any _ _ (xs.take 0) Z1 HU.out ((HL.out.take (lenI xs) 0 HMN.out).sliceAt (by have := FEW.out; rw [List.length_take]; omega))).mono ?_
              rintro e Z2 ⟨rfl, hs⟩
              have HQ2 := hide (HQ.out.below (Still.blw hs _))
              have HL2 := hide (HL.out.below (Still.blw hs _))
              have HB2 := hide (HB.out.trans (Still.blw hs _))
              clear hs hHeld HQ HL HB HU
              refine hK.out _ _ HB2.out (fun hHeld => ?_)
              clear hK K
              try simp only [Act.put, List.setIfInBounds_toArray, List.set_cons_zero, List.set_cons_succ]
              refine wpAnyH_take (i := 11) (oi := { dst := some 132, op := Op.unOp UnOp.not 4 (Operand.tmp 131), type := 4, pos := "law.go:89", after := #[{ on := 10, ground := Ground.data }], guard := none }) (v := ?_) rfl (by kernel_rfl) (by kernel_rfl) (by kernel_rfl) (fun _ _ _ h => h) (Or.inl ⟨by rfl, ?_⟩) (by assumption) ?_
              rotate_left
              · intro w hSw
                clear hSw
                go_simp
                all_goals with_reducible rfl
              simp only [Act.put, List.setIfInBounds_toArray, List.set_cons_zero, List.set_cons_succ]
              refine wpAnyH_done (by kernel_rfl) ?_ _
              refine NoPanic.normal ?_
              clear hHeld
              obtain ⟨W2, hW2⟩ : ∃ W2, W2 = Z2.alloc (.cells #[] 3) := ⟨_, rfl⟩
              have HW2 := hide hW2
              have R4 : Hid (Rw 3 1 encI Z2.heap.size W2 (.slice (some ⟨Z2.heap.size, 0, none⟩) 0 0) []) := by rw [hW2]; exact ⟨rfl, Or.inr ⟨Z2.heap.size, 0, #[], rfl, Nat.le_refl _, heap_alloc_new _ _, Nat.le_refl _, by simp [maxLen], rfl, rfl⟩⟩
              have B2 : Hid (Below Z2.heap.size Z2 W2) := by rw [hW2]; exact (Below.refl _ _).alloc (Nat.le_refl _) _
              clear hW2
              have SRC : Hid (Sce encI W2 (.slice an n cn) (xs.drop 0)) := (HL2.out.below B2.out).src
              have APP := hide (Rw.append2 kdI 27 R4.out SRC.out (lenI _) (by have := FEW.out; rw [List.length_drop]; simp; omega) B2.out.size)
              go_wp2_with (at_builtin; rw [← HW2.out]; refine wpList_append_known rfl (.tmp 133) (.tmp 136) 27 27 rfl _ _ rfl rfl APP.out ?_; rintro vm W3 ⟨hr3, _, hc3, ho3⟩; have P3 : Hid (Plq w g W3 v3 vm (xs.drop 0)) := (Plq.fresh HQ2.out HB2.out B2.out hr3 hc3 (S.drop_nodup ND.out 0)); clear hr3 hc3 ho3)
              all_goals go_meet
              all_goals exact ⟨_, _, P3⟩
            · by_cases hxn : x ≤ (n : Int)
              · obtain ⟨m, rfl⟩ : ∃ m : Nat, x = (m : Int) := ⟨x.toNat, by omega⟩
                have HM : Hid (S.many xs (m : Int) = m) := by show S.many xs (m : Int) = m; unfold S.many; have := HN.out; omega
                have q0 : ¬ (m : Int) > (n : Int) := by omega
                have q1 : (0 : Int) ≤ (m : Int) := by omega
                have q2 : (m : Int) ≤ (cn : Int) := by have := HCAP.out; omega
                have q3 : (m : Int) ≤ (n : Int) := by omega
                have HMN : Hid (m ≤ xs.length) := by show m ≤ xs.length; have := HN.out; omega
                have c2 : wr.cell? ⟨b, off + i * 2 + 1, none⟩ = some (.int .i64 (m : Int)) := (P2.out.b.cell (p := ⟨b, off + i * 2 + 1, none⟩) BL.out).trans CN.out
                go_upto_region 32 with fail
                clear c2
                refine wp_region_noPanic ?_
                refine wp_region_held_drew (S := (fun W => Below g w W)) follows (P2.out.b.drew) (fun hHeld => ?_)
                clear hHeld
                have PZ0 : Hid (Plq w g wr.drew v (.slice an n cn) xs) := P2.out.below ((Below.refl _ _).drew)
                have hHeld : Below g w wr.drew := PZ0.out.b
                generalize wr.drew = Z0 at PZ0 hHeld ⊢
                clear P2
                refine wpAnyH_take (i := 0) (oi := { dst := some 121, op := Op.move (Operand.tmp 3), type := 22, pos := "law.go:89", after := #[], guard := none }) (v := ?_) rfl (by kernel_rfl) (by kernel_rfl) (by kernel_rfl) (fun _ _ _ h => h) (Or.inl ⟨by rfl, ?_⟩) (by assumption) ?_
                rotate_left
                · intro w hSw
                  clear hSw
                  go_simp
                  all_goals with_reducible rfl
                simp only [Act.put, List.setIfInBounds_toArray, List.set_cons_zero, List.set_cons_succ]
                refine wpAnyH_take (i := 1) (oi := { dst := some 122, op := Op.move (Operand.tmp 0), type := 34, pos := "law.go:89", after := #[], guard := none }) (v := ?_) rfl (by kernel_rfl) (by kernel_rfl) (by kernel_rfl) (fun _ _ _ h => h) (Or.inl ⟨by rfl, ?_⟩) (by assumption) ?_
                rotate_left
                · intro w hSw
                  clear hSw
                  go_simp
                  all_goals with_reducible rfl
                simp only [Act.put, List.setIfInBounds_toArray, List.set_cons_zero, List.set_cons_succ]
                refine wpAnyH_take (i := 2) (oi := { dst := some 123, op := Op.move (Operand.tmp 5), type := 3, pos := "law.go:89", after := #[], guard := none }) (v := ?_) rfl (by kernel_rfl) (by kernel_rfl) (by kernel_rfl) (fun _ _ _ h => h) (Or.inl ⟨by rfl, ?_⟩) (by assumption) ?_
                rotate_left
                · intro w hSw
                  clear hSw
                  go_simp
                  all_goals with_reducible rfl
                simp only [Act.put, List.setIfInBounds_toArray, List.set_cons_zero, List.set_cons_succ]
                refine wpAnyH_take (i := 3) (oi := { dst := some 124, op := Op.indexAddr 34 (Operand.tmp 122) (Operand.tmp 123), type := 0, pos := "law.go:89", after := #[{ on := 1, ground := Ground.data }, { on := 2, ground := Ground.data }], guard := none }) (v := ?_) rfl (by kernel_rfl) (by kernel_rfl) (by kernel_rfl) (fun _ _ _ h => h) (Or.inl ⟨by rfl, ?_⟩) (by assumption) ?_
                rotate_left
                · intro w hSw
                  clear hSw
                  go_simp
                  all_goals with_reducible rfl
                simp only [Act.put, List.setIfInBounds_toArray, List.set_cons_zero, List.set_cons_succ]
                refine wpAnyH_take (i := 4) (oi := { dst := some 125, op := Op.fieldAddr 36 (Operand.tmp 124) 1, type := 0, pos := "law.go:89", after := #[{ on := 3, ground := Ground.data }], guard := none }) (v := ?_) rfl (by kernel_rfl) (by kernel_rfl) (by kernel_rfl) (fun _ _ _ h => h) (Or.inl ⟨by rfl, ?_⟩) (by assumption) ?_
                rotate_left
                · intro w hSw
                  clear hSw
                  go_simp
                  all_goals with_reducible rfl
                simp only [Act.put, List.setIfInBounds_toArray, List.set_cons_zero, List.set_cons_succ]
                refine wpAnyH_take (i := 5) (oi := { dst := some 126, op := Op.load 3 (Operand.tmp 125), type := 3, pos := "law.go:89", after := #[{ on := 4, ground := Ground.data }], guard := none }) (v := ?_) rfl (by kernel_rfl) (by kernel_rfl) (by kernel_rfl) (fun _ _ _ h => h) (Or.inl ⟨by rfl, ?_⟩) (by assumption) ?_
                rotate_left
                · intro w hSw
                  have c2 := (hSw.cell (p := ⟨b, off + i * 2 + 1, none⟩) BL.out).trans CN.out
                  clear hSw
                  go_simp
                  all_goals with_reducible rfl
                simp only [Act.put, List.setIfInBounds_toArray, List.set_cons_zero, List.set_cons_succ]
                refine wpAnyH_take (i := 7) (oi := { dst := some 128, op := Op.move (Operand.tmp 4), type := 27, pos := "law.go:89", after := #[], guard := none }) (v := ?_) rfl (by kernel_rfl) (by kernel_rfl) (by kernel_rfl) (fun _ _ _ h => h) (Or.inl ⟨by rfl, ?_⟩) (by assumption) ?_
                rotate_left
                · intro w hSw
                  clear hSw
                  go_simp
                  all_goals with_reducible rfl
                simp only [Act.put, List.setIfInBounds_toArray, List.set_cons_zero, List.set_cons_succ]
                refine wpAnyH_take (i := 8) (oi := { dst := some 129, op := Op.move (Operand.tmp 11), type := 3, pos := "law.go:89", after := #[], guard := none }) (v := ?_) rfl (by kernel_rfl) (by kernel_rfl) (by kernel_rfl) (fun _ _ _ h => h) (Or.inl ⟨by rfl, ?_⟩) (by assumption) ?_
                rotate_left
                · intro w hSw
                  clear hSw
                  go_simp
                  all_goals with_reducible rfl
                simp only [Act.put, List.setIfInBounds_toArray, List.set_cons_zero, List.set_cons_succ]
                refine wpAnyH_take (i := 9) (oi := { dst := some 130, op := Op.slice 27 (Operand.tmp 128) none (some (Operand.tmp 129)) none, type := 27, pos := "law.go:89", after := #[{ on := 7, ground := Ground.data }, { on := 8, ground := Ground.data }], guard := none }) (v := ?_) rfl (by kernel_rfl) (by kernel_rfl) (by kernel_rfl) (fun _ _ _ h => h) (Or.inl ⟨by rfl, ?_⟩) (by assumption) ?_
                rotate_left
                · intro w hSw
                  clear hSw
                  go_simp
                  all_goals with_reducible rfl
                simp only [Act.put, List.setIfInBounds_toArray, List.set_cons_zero, List.set_cons_succ]
                refine wpAnyH_ready (rs := [6]) (by kernel_rfl) (by simp) ?_
                refine AllReadyH.cons (o := { dst := some 127, op := Op.call { callee := Callee.value (Operand.func 9), args := #[Operand.tmp 121, Operand.tmp 126], argTypes := #[22, 3] }, type := 27, pos := "law.go:89", after := #[{ on := 0, ground := Ground.data }, { on := 5, ground := Ground.data }], guard := none }) rfl (fun K hK => ?_) AllReadyH.nil
                go_simp
                refine (takeI_any g Z0 g v xs (m : Int) PZ0.out.q).mono ?_
                rintro e Z1 ⟨ut, v3, rfl, hu, hq, ht, -⟩
                rw [HM.out] at hu hq
                obtain ⟨hl, hs, hb⟩ := PZ0.out.call hq ht
                have HU := hide (hu.sliceAt (by have := PZ0.out.q.few; rw [List.length_take]; omega))
                have HQ := hide hq
                have HL := hide hl
                have HS := hide hs
                have HB := hide hb
                have ND := hide PZ0.out.nd
                have FEW := hide PZ0.out.q.few
                clear hu hq ht hl hs hb PZ0 hHeld
                refine hK.out _ _ HB.out (fun hHeld => ?_)
                clear hK K
                try simp only [Act.put, List.setIfInBounds_toArray, List.set_cons_zero, List.set_cons_succ]
                refine wpAnyH_ready (rs := [10]) (by kernel_rfl) (by simp) ?_
                refine AllReadyH.cons (o := { dst := some 131, op := Op.call { callee := Callee.value (Operand.func 11), args := #[Operand.tmp 127, Operand.tmp 130], argTypes := #[27, 27] }, type := 4, pos := "law.go:89", after := #[{ on := 6, ground := Ground.data }, { on := 9, ground := Ground.data }, { on := 6, ground := Ground.chain }], guard := none }) rfl (fun K hK => ?_) AllReadyH.nil
                go_simp
                refine (same_any _ _ (xs.take m) Z1 HU.out ((HL.out.take (lenI xs) m HMN.out).sliceAt (by have := FEW.out; rw [List.length_take]; omega))).mono ?_
                rintro e Z2 ⟨rfl, hs⟩
                have HQ2 := hide (HQ.out.below (Still.blw hs _))
                have HL2 := hide (HL.out.below (Still.blw hs _))
                have HB2 := hide (HB.out.trans (Still.blw hs _))
                clear hs hHeld HQ HL HB HU
                refine hK.out _ _ HB2.out (fun hHeld => ?_)
                clear hK K
                try simp only [Act.put, List.setIfInBounds_toArray, List.set_cons_zero, List.set_cons_succ]
                refine wpAnyH_take (i := 11) (oi := { dst := some 132, op := Op.unOp UnOp.not 4 (Operand.tmp 131), type := 4, pos := "law.go:89", after := #[{ on := 10, ground := Ground.data }], guard := none }) (v := ?_) rfl (by kernel_rfl) (by kernel_rfl) (by kernel_rfl) (fun _ _ _ h => h) (Or.inl ⟨by rfl, ?_⟩) (by assumption) ?_
                rotate_left
                · intro w hSw
                  clear hSw
                  go_simp
                  all_goals with_reducible rfl
                simp only [Act.put, List.setIfInBounds_toArray, List.set_cons_zero, List.set_cons_succ]
                refine wpAnyH_done (by kernel_rfl) ?_ _
                refine NoPanic.normal ?_
                clear hHeld
                obtain ⟨W2, hW2⟩ : ∃ W2, W2 = Z2.alloc (.cells #[] 3) := ⟨_, rfl⟩
                have HW2 := hide hW2
                have R4 : Hid (Rw 3 1 encI Z2.heap.size W2 (.slice (some ⟨Z2.heap.size, 0, none⟩) 0 0) []) := by rw [hW2]; exact ⟨rfl, Or.inr ⟨Z2.heap.size, 0, #[], rfl, Nat.le_refl _, heap_alloc_new _ _, Nat.le_refl _, by simp [maxLen], rfl, rfl⟩⟩
                have B2 : Hid (Below Z2.heap.size Z2 W2) := by rw [hW2]; exact (Below.refl _ _).alloc (Nat.le_refl _) _
                clear hW2
                have SRC := hide (Rw.rest (HL2.out.below B2.out) m HMN.out HN.out)
                have APP := hide (Rw.append2 kdI 27 R4.out SRC.out (lenI _) (by have := FEW.out; rw [List.length_drop]; simp; omega) B2.out.size)
                go_wp2_with (at_builtin; rw [← HW2.out]; refine wpList_append_known rfl (.tmp 133) (.tmp 136) 27 27 rfl _ _ rfl rfl APP.out ?_; rintro vm W3 ⟨hr3, _, hc3, ho3⟩; have P3 : Hid (Plq w g W3 v3 vm (xs.drop m)) := (Plq.fresh HQ2.out HB2.out B2.out hr3 hc3 (S.drop_nodup ND.out m)); clear hr3 hc3 ho3)
                all_goals go_meet
                all_goals exact ⟨_, _, P3⟩
              · have HM : Hid (S.many xs x = n) := by show S.many xs x = n; unfold S.many; have := HN.out; omega
                have q0 : x > (n : Int) := by omega
                have q1 : (0 : Int) ≤ (n : Int) := by omega
                have q2 : (n : Int) ≤ (cn : Int) := by have := HCAP.out; omega
                have HMN : Hid (n ≤ xs.length) := by show n ≤ xs.length; have := HN.out; omega
                have c2 : wr.cell? ⟨b, off + i * 2 + 1, none⟩ = some (.int .i64 x) := (P2.out.b.cell (p := ⟨b, off + i * 2 + 1, none⟩) BL.out).trans CN.out
                go_upto_region 32 with fail
                clear c2
                refine wp_region_noPanic ?_
                refine wp_region_held_drew (S := (fun W => Below g w W)) follows (P2.out.b.drew) (fun hHeld => ?_)
                clear hHeld
                have PZ0 : Hid (Plq w g wr.drew v (.slice an n cn) xs) := P2.out.below ((Below.refl _ _).drew)
                have hHeld : Below g w wr.drew := PZ0.out.b
                generalize wr.drew = Z0 at PZ0 hHeld ⊢
                clear P2
                refine wpAnyH_take (i := 0) (oi := { dst := some 121, op := Op.move (Operand.tmp 3), type := 22, pos := "law.go:89", after := #[], guard := none }) (v := ?_) rfl (by kernel_rfl) (by kernel_rfl) (by kernel_rfl) (fun _ _ _ h => h) (Or.inl ⟨by rfl, ?_⟩) (by assumption) ?_
                rotate_left
                · intro w hSw
                  clear hSw
                  go_simp
                  all_goals with_reducible rfl
                simp only [Act.put, List.setIfInBounds_toArray, List.set_cons_zero, List.set_cons_succ]
                refine wpAnyH_take (i := 1) (oi := { dst := some 122, op := Op.move (Operand.tmp 0), type := 34, pos := "law.go:89", after := #[], guard := none }) (v := ?_) rfl (by kernel_rfl) (by kernel_rfl) (by kernel_rfl) (fun _ _ _ h => h) (Or.inl ⟨by rfl, ?_⟩) (by assumption) ?_
                rotate_left
                · intro w hSw
                  clear hSw
                  go_simp
                  all_goals with_reducible rfl
                simp only [Act.put, List.setIfInBounds_toArray, List.set_cons_zero, List.set_cons_succ]
                refine wpAnyH_take (i := 2) (oi := { dst := some 123, op := Op.move (Operand.tmp 5), type := 3, pos := "law.go:89", after := #[], guard := none }) (v := ?_) rfl (by kernel_rfl) (by kernel_rfl) (by kernel_rfl) (fun _ _ _ h => h) (Or.inl ⟨by rfl, ?_⟩) (by assumption) ?_
                rotate_left
                · intro w hSw
                  clear hSw
                  go_simp
                  all_goals with_reducible rfl
                simp only [Act.put, List.setIfInBounds_toArray, List.set_cons_zero, List.set_cons_succ]
                refine wpAnyH_take (i := 3) (oi := { dst := some 124, op := Op.indexAddr 34 (Operand.tmp 122) (Operand.tmp 123), type := 0, pos := "law.go:89", after := #[{ on := 1, ground := Ground.data }, { on := 2, ground := Ground.data }], guard := none }) (v := ?_) rfl (by kernel_rfl) (by kernel_rfl) (by kernel_rfl) (fun _ _ _ h => h) (Or.inl ⟨by rfl, ?_⟩) (by assumption) ?_
                rotate_left
                · intro w hSw
                  clear hSw
                  go_simp
                  all_goals with_reducible rfl
                simp only [Act.put, List.setIfInBounds_toArray, List.set_cons_zero, List.set_cons_succ]
                refine wpAnyH_take (i := 4) (oi := { dst := some 125, op := Op.fieldAddr 36 (Operand.tmp 124) 1, type := 0, pos := "law.go:89", after := #[{ on := 3, ground := Ground.data }], guard := none }) (v := ?_) rfl (by kernel_rfl) (by kernel_rfl) (by kernel_rfl) (fun _ _ _ h => h) (Or.inl ⟨by rfl, ?_⟩) (by assumption) ?_
                rotate_left
                · intro w hSw
                  clear hSw
                  go_simp
                  all_goals with_reducible rfl
                simp only [Act.put, List.setIfInBounds_toArray, List.set_cons_zero, List.set_cons_succ]
                refine wpAnyH_take (i := 5) (oi := { dst := some 126, op := Op.load 3 (Operand.tmp 125), type := 3, pos := "law.go:89", after := #[{ on := 4, ground := Ground.data }], guard := none }) (v := ?_) rfl (by kernel_rfl) (by kernel_rfl) (by kernel_rfl) (fun _ _ _ h => h) (Or.inl ⟨by rfl, ?_⟩) (by assumption) ?_
                rotate_left
                · intro w hSw
                  have c2 := (hSw.cell (p := ⟨b, off + i * 2 + 1, none⟩) BL.out).trans CN.out
                  clear hSw
                  go_simp
                  all_goals with_reducible rfl
                simp only [Act.put, List.setIfInBounds_toArray, List.set_cons_zero, List.set_cons_succ]
                refine wpAnyH_take (i := 7) (oi := { dst := some 128, op := Op.move (Operand.tmp 4), type := 27, pos := "law.go:89", after := #[], guard := none }) (v := ?_) rfl (by kernel_rfl) (by kernel_rfl) (by kernel_rfl) (fun _ _ _ h => h) (Or.inl ⟨by rfl, ?_⟩) (by assumption) ?_
                rotate_left
                · intro w hSw
                  clear hSw
                  go_simp
                  all_goals with_reducible rfl
                simp only [Act.put, List.setIfInBounds_toArray, List.set_cons_zero, List.set_cons_succ]
                refine wpAnyH_take (i := 8) (oi := { dst := some 129, op := Op.move (Operand.tmp 11), type := 3, pos := "law.go:89", after := #[], guard := none }) (v := ?_) rfl (by kernel_rfl) (by kernel_rfl) (by kernel_rfl) (fun _ _ _ h => h) (Or.inl ⟨by rfl, ?_⟩) (by assumption) ?_
                rotate_left
                · intro w hSw
                  clear hSw
                  go_simp
                  all_goals with_reducible rfl
                simp only [Act.put, List.setIfInBounds_toArray, List.set_cons_zero, List.set_cons_succ]
                refine wpAnyH_take (i := 9) (oi := { dst := some 130, op := Op.slice 27 (Operand.tmp 128) none (some (Operand.tmp 129)) none, type := 27, pos := "law.go:89", after := #[{ on := 7, ground := Ground.data }, { on := 8, ground := Ground.data }], guard := none }) (v := ?_) rfl (by kernel_rfl) (by kernel_rfl) (by kernel_rfl) (fun _ _ _ h => h) (Or.inl ⟨by rfl, ?_⟩) (by assumption) ?_
                rotate_left
                · intro w hSw
                  clear hSw
                  go_simp
                  all_goals with_reducible rfl
                simp only [Act.put, List.setIfInBounds_toArray, List.set_cons_zero, List.set_cons_succ]
                refine wpAnyH_ready (rs := [6]) (by kernel_rfl) (by simp) ?_
                refine AllReadyH.cons (o := { dst := some 127, op := Op.call { callee := Callee.value (Operand.func 9), args := #[Operand.tmp 121, Operand.tmp 126], argTypes := #[22, 3] }, type := 27, pos := "law.go:89", after := #[{ on := 0, ground := Ground.data }, { on := 5, ground := Ground.data }], guard := none }) rfl (fun K hK => ?_) AllReadyH.nil
                go_simp
                refine (takeI_any g Z0 g v xs x PZ0.out.q).mono ?_
                rintro e Z1 ⟨ut, v3, rfl, hu, hq, ht, -⟩
                rw [HM.out] at hu hq
                obtain ⟨hl, hs, hb⟩ := PZ0.out.call hq ht
                have HU := hide (hu.sliceAt (by have := PZ0.out.q.few; rw [List.length_take]; omega))
                have HQ := hide hq
                have HL := hide hl
                have HS := hide hs
                have HB := hide hb
                have ND := hide PZ0.out.nd
                have FEW := hide PZ0.out.q.few
                clear hu hq ht hl hs hb PZ0 hHeld
                refine hK.out _ _ HB.out (fun hHeld => ?_)
                clear hK K
                try simp only [Act.put, List.setIfInBounds_toArray, List.set_cons_zero, List.set_cons_succ]
                refine wpAnyH_ready (rs := [10]) (by kernel_rfl) (by simp) ?_
                refine AllReadyH.cons (o := { dst := some 131, op := Op.call { callee := Callee.value (Operand.func 11), args := #[Operand.tmp 127, Operand.tmp 130], argTypes := #[27, 27] }, type := 4, pos := "law.go:89", after := #[{ on := 6, ground := Ground.data }, { on := 9, ground := Ground.data }, { on := 6, ground := Ground.chain }], guard := none }) rfl (fun K hK => ?_) AllReadyH.nil
                go_simp
                refine (same_any _ _ (xs.take n) Z1 HU.out ((HL.out.take (lenI xs) n HMN.out).sliceAt (by have := FEW.out; rw [List.length_take]; omega))).mono ?_
                rintro e Z2 ⟨rfl, hs⟩
                have HQ2 := hide (HQ.out.below (Still.blw hs _))
                have HL2 := hide (HL.out.below (Still.blw hs _))
                have HB2 := hide (HB.out.trans (Still.blw hs _))
                clear hs hHeld HQ HL HB HU
                refine hK.out _ _ HB2.out (fun hHeld => ?_)
                clear hK K
                try simp only [Act.put, List.setIfInBounds_toArray, List.set_cons_zero, List.set_cons_succ]
                refine wpAnyH_take (i := 11) (oi := { dst := some 132, op := Op.unOp UnOp.not 4 (Operand.tmp 131), type := 4, pos := "law.go:89", after := #[{ on := 10, ground := Ground.data }], guard := none }) (v := ?_) rfl (by kernel_rfl) (by kernel_rfl) (by kernel_rfl) (fun _ _ _ h => h) (Or.inl ⟨by rfl, ?_⟩) (by assumption) ?_
                rotate_left
                · intro w hSw
                  clear hSw
                  go_simp
                  all_goals with_reducible rfl
                simp only [Act.put, List.setIfInBounds_toArray, List.set_cons_zero, List.set_cons_succ]
                refine wpAnyH_done (by kernel_rfl) ?_ _
                refine NoPanic.normal ?_
                clear hHeld
                obtain ⟨W2, hW2⟩ : ∃ W2, W2 = Z2.alloc (.cells #[] 3) := ⟨_, rfl⟩
                have HW2 := hide hW2
                have R4 : Hid (Rw 3 1 encI Z2.heap.size W2 (.slice (some ⟨Z2.heap.size, 0, none⟩) 0 0) []) := by rw [hW2]; exact ⟨rfl, Or.inr ⟨Z2.heap.size, 0, #[], rfl, Nat.le_refl _, heap_alloc_new _ _, Nat.le_refl _, by simp [maxLen], rfl, rfl⟩⟩
                have B2 : Hid (Below Z2.heap.size Z2 W2) := by rw [hW2]; exact (Below.refl _ _).alloc (Nat.le_refl _) _
                clear hW2
                have SRC : Hid (Sce encI W2 (.slice (if cn = n then an else Option.map (fun x => x.add n) an) 0 (cn - n)) (xs.drop n)) := by have h := Rw.rest (HL2.out.below B2.out) n HMN.out HN.out; rw [Nat.sub_self] at h; exact h
                have APP := hide (Rw.append2 kdI 27 R4.out SRC.out (lenI _) (by have := FEW.out; rw [List.length_drop]; simp; omega) B2.out.size)
                go_wp2_with (at_builtin; rw [← HW2.out]; refine wpList_append_known rfl (.tmp 133) (.tmp 136) 27 27 rfl _ _ rfl rfl APP.out ?_; rintro vm W3 ⟨hr3, _, hc3, ho3⟩; have P3 : Hid (Plq w g W3 v3 vm (xs.drop n)) := (Plq.fresh HQ2.out HB2.out B2.out hr3 hc3 (S.drop_nodup ND.out n)); clear hr3 hc3 ho3)
                all_goals go_meet
                all_goals exact ⟨_, _, P3⟩
          have e2 : (kd == 2) = false := by simp [hk2]
          clear hk2
          by_cases hk3 : kd = 3
          · subst hk3
            by_cases hm : x ∈ xs
            · rw [S.idx_yes hm]
              have A1 := hide (S.placeA_yes hm)
              obtain ⟨a, ha⟩ : ∃ a, a = S.ahead xs x := ⟨_, rfl⟩
              rw [← ha] at A1 ⊢
              have q1 : (0 : Int) ≤ (a : Int) := by omega
              clear ha
              have c2 : wr.cell? ⟨b, off + i * 2 + 1, none⟩ = some (.int .i64 x) := (P2.out.b.cell (p := ⟨b, off + i * 2 + 1, none⟩) BL.out).trans CN.out
              go_wp2_with fail
              go_at_call 10
              refine (placeI_any g wr g v xs x P2.out.q).mono ?_
              rintro e w3 ⟨rfl, hb⟩
              rw [A1.out]
              have P3 := hide (P2.out.below hb)
              clear hb c2 P2
              go_wp2_with fail
              go_meet
              exact ⟨_, _, P3⟩
            · rw [S.idx_no hm]
              have A1 := hide (S.placeA_no hm)
              have c2 : wr.cell? ⟨b, off + i * 2 + 1, none⟩ = some (.int .i64 x) := (P2.out.b.cell (p := ⟨b, off + i * 2 + 1, none⟩) BL.out).trans CN.out
              go_wp2_with fail
              go_at_call 10
              refine (placeI_any g wr g v xs x P2.out.q).mono ?_
              rintro e w3 ⟨rfl, hb⟩
              rw [A1.out]
              have P3 := hide (P2.out.below hb)
              clear hb c2 P2
              go_wp2_with fail
              go_meet
              exact ⟨_, _, P3⟩
          have e3 : (kd == 3) = false := by simp [hk3]
          clear hk3
          go_wp2_with fail
          go_meet
          exact ⟨_, _, P2⟩
        case rest =>
          clear P2
          obtain ⟨v', ys, P3⟩ := hcut
          obtain ⟨a4, c4, h4⟩ := P3.out.l.form
          subst h4
          have s3 : IntKind.i64.wrap ((i : Int) + 1) = (i : Int) + 1 := by rw [IntKind.wrap_i64]; omega
          have FEW := hide P3.out.q.few
          go_wp2_with fail
          go_at_call 12
          refine (lenI_any g wc g v' ys P3.out.q).mono ?_
          rintro e w4 ⟨rfl, hs⟩
          have P4 := hide (P3.out.still hs)
          clear hs P3
          go_wp2_with fail
          go_at_call 14
          refine (allI_any g w4 g v' ys P4.out.q).mono ?_
          rintro e w5 ⟨ua, rfl, hu, hb⟩
          have P5 := hide (P4.out.below hb)
          have S1 := hide (hu.sliceAt (by have := FEW.out; omega))
          clear hb hu P4
          go_wp2_with fail
          go_at_call 11
          refine (same_any _ _ ys w5 S1.out (P5.out.l.sliceAt (by have := FEW.out; omega))).mono ?_
          rintro e w6 ⟨rfl, hs⟩
          have P6 := hide (P5.out.still hs)
          clear hs P5 S1
          go_wp2
          exact ⟨⟨i + 1, _, _, by have := HH.out.1; omega, by simp, by show i + 1 ≤ 200; have := HH.out.2; omega, P6⟩, by simp [intOf]; have := HH.out.2; omega⟩
    · have hq : ¬ ((i : Int) < (len : Int) ∧ (i : Int) < 200) := by omega
      by_cases hl : (i : Int) < (len : Int)
      · have hl2 : ¬ (i : Int) < 200 := by omega
        clear hin hq
        go_wp2_with fail
        go_at_call 13
        refine (known_any wr).mono ?_
        rintro e w9 ⟨rfl, hb⟩
        have B9 := hide (P1.out.b.trans (hb.mono (Nat.le_of_lt P1.out.q.g_lt)))
        clear hb
        go_wp2
        go_ret
        exact ⟨rfl, by rw [← HG.out]; exact B9.out⟩
      · clear hin hq
        go_wp2_with fail
        go_at_call 13
        refine (known_any wr).mono ?_
        rintro e w9 ⟨rfl, hb⟩
        have B9 := hide (P1.out.b.trans (hb.mono (Nat.le_of_lt P1.out.q.g_lt)))
        clear hb
        go_wp2
        go_ret
        exact ⟨rfl, by rw [← HG.out]; exact B9.out⟩
end Go.Proofs.Ytghcgkcojgmbkaa
