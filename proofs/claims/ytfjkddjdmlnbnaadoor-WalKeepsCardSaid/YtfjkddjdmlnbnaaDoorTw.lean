/- Two logs on one disk: what one call of one leaves of the other. -/
import Derived.Test.YtfjkddjdmlnbnaaDoorGw
namespace Go.Proofs.YtfjkddjdmlnbnaaDoor
open Go.RowKit

theorem Lo.beside {w0 w w2 : World} {o o2 : Ow} {d d2 : S.Dk} {g f c p t : Nat} {rs : List (List UInt8)} {tv : Value} (h : Lo w0 w o d g f c p t rs tv) (hd : DkIs w2 o2 d2) (hm : DkTo o w o2 w2) (hp : d2.pend = []) (hl : d2.safe.length = d.safe.length) (hs : ∀ j, f ≤ j → j < f + c → d2.safe.getD j [] = d.safe.getD j []) : Lo w0 w2 o2 d2 g f c p t rs tv := by
  have hg : g < w.heap.size := block_lt_of_row h.log.lg.row
  have ht : ∀ k, tv.ownBlock = some k → k < w.heap.size := fun k hk => h.log.lg.text.lt hk
  have hpt : o2.ptr = o.ptr := by unfold Ow.ptr; rw [hm.g]
  refine ⟨⟨h.log.dk.to hd hm, hp, h.log.good.stay hl hs, by rw [hpt]; exact h.log.lg.chg hm.chg h.log.no h.log.far, fun e => ?_, h.log.pos, fun k hk e => ?_, h.log.tpos⟩, fun k e => ?_, h.gb, h.tb, h.below.trans (hm.chg.below _ h.below.size (fun k hk e => by have := h.ob k e; omega)), h.pos⟩
  · rcases hm.own g e with e | e
    · exact h.log.no e
    · omega
  · rcases hm.own k e with e | e
    · exact h.log.far k hk e
    · have := ht k hk; omega
  · rcases hm.own k e with e | e
    · exact h.ob k e
    · exact Nat.le_trans h.below.size e
/-- Two logs on one disk. -/
structure Two (w0 w : World) (o : Ow) (d : S.Dk) (g f c p t : Nat) (rs : List (List UInt8)) (tv : Value) (g2 f2 c2 p2 t2 : Nat) (rs2 : List (List UInt8)) (tv2 : Value) : Prop where
  one : Lo w0 w o d g f c p t rs tv
  two : Lo w0 w o d g2 f2 c2 p2 t2 rs2 tv2
  gg : g ≠ g2
  tg : tv.ownBlock ≠ some g2
  gt : tv2.ownBlock ≠ some g
  tt : ∀ k, tv.ownBlock = some k → tv2.ownBlock ≠ some k
  dis : f + c ≤ f2 ∨ f2 + c2 ≤ f
theorem Two.swap {w0 w : World} {o : Ow} {d : S.Dk} {g f c p t : Nat} {rs : List (List UInt8)} {tv : Value} {g2 f2 c2 p2 t2 : Nat} {rs2 : List (List UInt8)} {tv2 : Value} (h : Two w0 w o d g f c p t rs tv g2 f2 c2 p2 t2 rs2 tv2) : Two w0 w o d g2 f2 c2 p2 t2 rs2 tv2 g f c p t rs tv := ⟨h.two, h.one, h.gg.symm, h.gt, h.tg, fun k e1 e2 => h.tt k e2 e1, h.dis.symm⟩
theorem Two.then {w0 w : World} {o : Ow} {d : S.Dk} {g f c p t : Nat} {rs : List (List UInt8)} {tv : Value} {g2 f2 c2 p2 t2 : Nat} {rs2 : List (List UInt8)} {tv2 : Value} {W : World} (h : Two w0 w o d g f c p t rs tv g2 f2 c2 p2 t2 rs2 tv2) (hb : Below w.heap.size w W) : Two w0 W o d g f c p t rs tv g2 f2 c2 p2 t2 rs2 tv2 := ⟨h.one.then hb, h.two.then hb, h.gg, h.tg, h.gt, h.tt, h.dis⟩
theorem Two.went {w0 w : World} {o : Ow} {d : S.Dk} {g f c p t : Nat} {rs : List (List UInt8)} {tv : Value} {g2 f2 c2 p2 t2 : Nat} {rs2 : List (List UInt8)} {tv2 : Value} {w' : World} {o' : Ow} {tv' : Value} {rs' : List (List UInt8)} (h : Two w0 w o d g f c p t rs tv g2 f2 c2 p2 t2 rs2 tv2) (m : S.May d.safe f c p t rs rs' (S.after d.safe f c p t rs rs')) (x : Went w0 w o d g f c p t rs rs' tv w' o' tv') :
    Two w0 w' o' { d with safe := S.after d.safe f c p t rs rs', pend := [] } g f c (1 - p) (t + 1) rs' tv' g2 f2 c2 p2 t2 rs2 tv2 := by
  have hg2 : g2 < w.heap.size := block_lt_of_row h.two.log.lg.row
  have ht2 : ∀ k, tv2.ownBlock = some k → k < w.heap.size := fun k hk => h.two.log.lg.text.lt hk
  have hpt : o'.ptr = o.ptr := by unfold Ow.ptr; rw [x.moved.ptr]
  have no2 : ¬ (o.has g2 ∨ g2 = g ∨ tv.ownBlock = some g2) := by
    rintro (e | e | e)
    · exact h.two.log.no e
    · exact h.gg e.symm
    · exact h.tg e
  have far2 : ∀ k, tv2.ownBlock = some k → ¬ (o.has k ∨ k = g ∨ tv.ownBlock = some k) := fun k hk e => by
    rcases e with e | e | e
    · exact h.two.log.far k hk e
    · exact h.gt (by rw [← e]; exact hk)
    · exact h.tt k e hk
  refine ⟨x.lo, ⟨⟨x.lo.log.dk, rfl, h.two.log.good.stay m.len (fun j h1 h2 => m.stay j (by rcases h.dis with e | e; right; omega; left; omega)), by rw [hpt]; exact h.two.log.lg.chg x.moved.chg no2 far2, fun e => ?_, h.two.log.pos, fun k hk e => ?_, h.two.log.tpos⟩, x.lo.ob, h.two.gb, h.two.tb, x.lo.below, x.lo.pos⟩, h.gg, fun e => ?_, h.gt, fun k e1 e2 => ?_, h.dis⟩
  · rcases x.moved.own g2 e with e | e
    · exact h.two.log.no e
    · omega
  · rcases x.moved.own k e with e | e
    · exact h.two.log.far k hk e
    · have := ht2 k hk; omega
  · rcases x.moved.text g2 e with e | e
    · exact h.tg e
    · omega
  · rcases x.moved.text k e1 with e | e
    · exact h.tt k e e2
    · have := ht2 k e2; omega
theorem put_two (w0 w : World) (o : Ow) (d : S.Dk) (g f c p t : Nat) (rs : List (List UInt8)) (tv : Value) (g2 f2 c2 p2 t2 : Nat) (rs2 : List (List UInt8)) (tv2 : Value) (bo : Option Addr) (n bc : Nat) (b : List UInt8) (h : Two w0 w o d g f c p t rs tv g2 f2 c2 p2 t2 rs2 tv2) (hl : d.left = none) (ht : t + 1 < 18446744073709551616) (hv : SliceAt w0 (.slice bo n bc) b) (hb : b ≠ []) (hfit : b.length ≤ S.room c - (S.enc rs).length - 3) :
   Calls Tryd.prog 11 #[.pointer (some ⟨g, 0, none⟩), .slice bo n bc] w fun e w' => e = .returned (.int .i64 0) ∧ ∃ o' d' tv', o'.g = o.g ∧ d'.left = none ∧ Two w0 w' o' d' g f c (1 - p) (t + 1) (rs ++ [b]) tv' g2 f2 c2 p2 t2 rs2 tv2 := by
  have hpos := List.length_pos_iff.2 hb
  have hr := S.enc_snoc_length rs b
  refine (commit_go w0 w o d g f c p t rs tv bo n bc b h.one hl ht (fun W hW => hv.below (h.one.below.trans (hW.below _ h.one.below.size (fun k hk e => ?_))) (Nat.le_refl _)) hb hfit).mono ?_
  · rcases e with e | e
    · have := h.one.gb; omega
    · have := h.one.tb k e; omega
  · rintro e w' ⟨rfl, o', tv', x⟩
    exact ⟨rfl, o', { d with safe := S.after d.safe f c p t rs (rs ++ [b]), pend := [] }, tv', x.moved.ptr, hl, h.went (S.commit_calm (b := b) h.one.log.pend h.one.log.good ht (by omega)).may x⟩
theorem clear_two (w0 w : World) (o : Ow) (d : S.Dk) (g f c p t : Nat) (rs : List (List UInt8)) (tv : Value) (g2 f2 c2 p2 t2 : Nat) (rs2 : List (List UInt8)) (tv2 : Value) (h : Two w0 w o d g f c p t rs tv g2 f2 c2 p2 t2 rs2 tv2) (hl : d.left = none) (ht : t + 1 < 18446744073709551616) :
   Calls Tryd.prog 26 #[.pointer (some ⟨g, 0, none⟩)] w fun e w' => e = .returned (.int .i64 0) ∧ ∃ o' d' tv', o'.g = o.g ∧ d'.left = none ∧ Two w0 w' o' d' g f c (1 - p) (t + 1) [] tv' g2 f2 c2 p2 t2 rs2 tv2 := by
  refine (clear_go w0 w o d g f c p t rs tv h.one hl ht).mono ?_
  rintro e w' ⟨rfl, o', tv', x⟩
  exact ⟨rfl, o', { d with safe := S.after d.safe f c p t rs [], pend := [] }, tv', x.moved.ptr, hl, h.went (S.clear_calm h.one.log.pend h.one.log.good ht).may x⟩
namespace S
def twoDk : Dk := { safe := formed (begunDk 40 0 20).safe 20 20, pend := [], left := none }
theorem two_len : (begunDk 40 0 20).safe.length = 40 := by
  show (formed (List.replicate 40 (zeros 128)) 0 20).length = 40
  rw [(formed_at (f := 0) (c := 20) (by simp) (by omega)).1, List.length_replicate]
theorem two_hz (k : Nat) (h1 : 2 ≤ k) (h2 : k < 20) : (begunDk 40 0 20).safe.getD (20 + k) [] = zeros 128 := by
  show (formed (List.replicate 40 (zeros 128)) 0 20).getD (20 + k) [] = _
  rw [(formed_at (f := 0) (c := 20) (by simp) (by omega)).2.2.2 (20 + k) (by omega) (by omega), List.getD_eq_getElem?_getD, List.getElem?_replicate, if_pos (by omega)]
  rfl
theorem two_good : Good twoDk.safe 20 20 0 0 [] := formed_good (by rw [two_len]; omega) (by omega) (by omega) two_hz
/-- So many times one record, or none if it is empty. -/
def times (k : Nat) (b : List UInt8) : List (List UInt8) := if b = [] then [] else List.replicate k b
theorem times_none (k : Nat) : times k [] = [] := rfl
theorem times_zero (b : List UInt8) : times 0 b = [] := by unfold times; split <;> rfl
theorem times_succ (k : Nat) (b : List UInt8) (h : b ≠ []) : times k b ++ [b] = times (k + 1) b := by
  unfold times
  rw [if_neg h, if_neg h, List.replicate_succ']
theorem times_enc (k : Nat) (b : List UInt8) : (enc (times k b)).length ≤ k * (3 + b.length) := by
  by_cases h : b = []
  · subst h
    rw [times_none]
    simp [enc]
  · induction k with
    | zero => rw [times_zero]; simp [enc]
    | succ k ih => rw [← times_succ k b h, enc_snoc_length, Nat.add_mul]; omega
theorem times_ne (k : Nat) (b : List UInt8) : ∀ r ∈ times k b, r ≠ [] := fun r hr => by
  unfold times at hr
  split at hr
  · cases hr
  · rename_i h
    rw [List.eq_of_mem_replicate hr]
    exact h
theorem times_two (b : List UInt8) (h : b ≠ []) : times 2 b = [b, b] := by unfold times; rw [if_neg h]; rfl
theorem times_fit (k : Nat) (b : List UInt8) (hk : k ≤ 2) (hb : b.length ≤ 200) : b.length ≤ room 20 - (enc (times k b)).length - 3 := by
  have h1 := times_enc k b
  have h2 : k * (3 + b.length) ≤ 2 * 203 := Nat.mul_le_mul hk (by omega)
  have h3 : room 20 = 2160 := rfl
  omega
end S
theorem format_two (w0 w : World) (o : Ow) (g : Nat) (tv : Value) (h : Lo w0 w o (S.begunDk 40 0 20) g 0 20 0 0 [] tv) :
   Calls Tryd.prog 18 #[o.ptr, .int .i64 20, .int .i64 20] w fun e w' => e = .returned (.int .i64 0) ∧ ∃ o', o'.g = o.g ∧ Lo w0 w' o' S.twoDk g 0 20 0 0 [] tv := by
  have hsn : (S.begunDk 40 0 20).seen = (S.begunDk 40 0 20).safe := S.Dk.seen_flushed _ rfl
  refine (format_yes o (S.begunDk 40 0 20) 20 20 w h.log.dk (by rw [S.two_len]; omega) (by omega) (Nat.zero_le _) (fun k h1 h2 => by rw [hsn]; exact S.two_hz k h1 h2)).mono ?_
  rintro e w2 ⟨rfl, o2, h2, h3⟩
  have pg := S.Dk.plan_goes (S.fmtActs 20 20) (S.begunDk 40 0 20) rfl
  have pa : (S.begunDk 40 0 20).acts (S.fmtActs 20 20) = S.twoDk := by rw [S.fmt_acts, hsn]; rfl
  have pd : (S.begunDk 40 0 20).plan (S.fmtActs 20 20) = (S.twoDk, true) := by rw [← pg.1, ← pa, ← pg.2]
  rw [pd] at h2 ⊢
  have hf := S.formed_at (ss := (S.begunDk 40 0 20).safe) (f := 20) (c := 20) (by rw [S.two_len]; omega) (by omega)
  exact ⟨rfl, o2, h3.g, h.beside h2 h3 rfl hf.1 (fun j _ hj => hf.2.2.2 j (by omega) (by omega))⟩
theorem open_two (w0 w : World) (o : Ow) (g : Nat) (tv : Value) (h : Lo w0 w o S.twoDk g 0 20 0 0 [] tv) :
   Calls Tryd.prog 15 #[o.ptr, .int .i64 20, .int .i64 20] w fun e w' => ∃ g2 tv2, e = .returned (.tuple #[.pointer (some ⟨g2, 0, none⟩), .int .i64 0]) ∧ Two w0 w' o S.twoDk g 0 20 0 0 [] tv g2 20 20 0 0 [] tv2 := by
  have hg : g < w.heap.size := block_lt_of_row h.log.lg.row
  have ht : ∀ k, tv.ownBlock = some k → k < w.heap.size := fun k hk => h.log.lg.text.lt hk
  refine (open_go w0 w o S.twoDk 20 20 0 0 [] h.log.dk rfl S.two_good h.ob h.below h.pos).mono ?_
  rintro e w' ⟨g2, tv2, rfl, hlo, hg2, ht2, b⟩
  exact ⟨g2, tv2, rfl, h.then b, hlo, by omega, fun e => by have := ht g2 e; omega, fun e => by have := ht2 g e; omega, fun k e1 e2 => by have := ht k e1; have := ht2 k e2; omega, Or.inl (by omega)⟩
theorem two_ls {w : World} {gy : Nat} {x y : Value} {xs ys : List UInt8} (h : w.heap[gy]? = some (.cells #[x, y] 29 (0, 0))) (hx : SliceAt w x xs) (hy : SliceAt w y ys) : LsAt w (.slice (some ⟨gy, 0, none⟩) 2 2) [xs, ys] := by
  refine ⟨[x, y], Or.inr ⟨gy, 0, 2, #[x, y], rfl, h, by simp, by simp, fun j z hz => ?_⟩, rfl, fun j hj => ?_⟩
  · rw [Nat.zero_add]
    simpa using hz
  · match j, hj with
    | 0, _ => exact hx
    | 1, _ => exact hy
theorem none_ls (w : World) : LsAt w (.slice none 0 0) [] := ⟨[], Or.inl ⟨rfl, rfl⟩, rfl, fun j hj => by cases hj⟩
end Go.Proofs.YtfjkddjdmlnbnaaDoor
