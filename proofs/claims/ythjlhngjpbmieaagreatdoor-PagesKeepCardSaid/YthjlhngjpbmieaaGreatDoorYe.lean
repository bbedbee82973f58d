/- What PagesKeep's walk carries, further: an ask in memory, a crash's state, the round's relation. -/
import Derived.Test.YthjlhngjpbmieaaGreatDoorYc
import Derived.Test.YthjlhngjpbmieaaGreatDoorVa
namespace Go.Proofs.YthjlhngjpbmieaaGreatDoor
open Go.RowKit

theorem ld45 {w : World} {g : Nat} {v : Value} {a b : Int} (h : w.heap[g]? = some (.cells #[v, .int .i64 a, .int .i64 b] 45 (0, 0))) : (Instr.loadAt 45 (.pointer (some ⟨g, 0, none⟩))).run Tryz.prog w = .ok (.agg #[v, .int .i64 a, .int .i64 b]) w :=
  run_loadAt_mid (P := Tryz.prog) w g 0 45 [v, .int .i64 a, .int .i64 b] _ (rangeAt_row h) Tryz.underlying45 rfl (by kernel_rfl)
/-- An ask at a place. -/
structure AskAt (w : World) (b off : Nat) (q : S.Ask) : Prop where
  ex : ∃ an cn ak ck, w.rangeAt b off [.int .i64 q.kind, .int .i64 q.after, .int .i64 q.again, .slice an q.ns.length cn, .int .u8 (q.fill.toNat : Int), .slice ak q.keep.length ck, .int .i64 q.torn, .int .i64 q.bytes] ∧ IntsAt w (.slice an q.ns.length cn) q.ns ∧ BoolsAt w (.slice ak q.keep.length ck) q.keep
  after : -9223372036854775808 ≤ q.after ∧ q.after ≤ 9223372036854775807
  again : q.again ≤ 9223372036854775807
def AsksAt (w : World) (ao : Option Addr) (L : Nat) (qs : List S.Ask) : Prop := L = qs.length ∧ (0 < L → ∃ b off, ao = some ⟨b, off, none⟩ ∧ b < w.heap.size ∧ ∀ i, i < L → AskAt w b (off + i * 8) (qs.getD i S.ask0))
theorem row8 {w : World} {g : Nat} {a0 a1 a2 a3 a4 a5 a6 a7 : Value} {t : TypeId} (h : w.heap[g]? = some (.cells #[a0, a1, a2, a3, a4, a5, a6, a7] t (0, 0))) : w.cell? ⟨g, 0, none⟩ = some a0 ∧ w.cell? ⟨g, 1, none⟩ = some a1 ∧ w.cell? ⟨g, 2, none⟩ = some a2 ∧ w.cell? ⟨g, 3, none⟩ = some a3 ∧ w.cell? ⟨g, 4, none⟩ = some a4 ∧ w.cell? ⟨g, 5, none⟩ = some a5 ∧ w.cell? ⟨g, 6, none⟩ = some a6 ∧ w.cell? ⟨g, 7, none⟩ = some a7 :=
  ⟨by rw [cell_of_row w g 0 _ t _ h]; rfl, by rw [cell_of_row w g 1 _ t _ h]; rfl, by rw [cell_of_row w g 2 _ t _ h]; rfl, by rw [cell_of_row w g 3 _ t _ h]; rfl, by rw [cell_of_row w g 4 _ t _ h]; rfl, by rw [cell_of_row w g 5 _ t _ h]; rfl, by rw [cell_of_row w g 6 _ t _ h]; rfl, by rw [cell_of_row w g 7 _ t _ h]; rfl⟩
/-- What the loop keeps. -/
def KR (w : World) (og gC L : Nat) (s m a g i : Value) (wr : World) : Prop :=
  ∃ (k gs b n : Nat) (o : Ow) (d : S.Dk) (p t : Nat) (ns : List Nat) (pg : Nat → List UInt8) (f : Nat → UInt8) (kv : Value) (c : S.Cut) (ar : Bool) (ag : Int), k ≤ 12 ∧ k ≤ L ∧ s = .pointer (some ⟨gs, 0, none⟩) ∧ m = .map (some b) ∧ a = .bool ar ∧ g = .int .i64 ag ∧ i = .int .i64 (k : Int) ∧ n ≤ 6 * k ∧ t ≤ 3 * k ∧ Ks w wr og gC gs b n o d p t ns pg f kv c ar ag
theorem KR.mk {w : World} {og gC L : Nat} {s m a g i : Value} {wr : World} (k gs b n : Nat) (o : Ow) (d : S.Dk) (p t : Nat) (ns : List Nat) (pg : Nat → List UInt8) (f : Nat → UInt8) (kv : Value) (c : S.Cut) (ar : Bool) (ag : Int) (h1 : k ≤ 12) (h2 : k ≤ L) (h3 : s = .pointer (some ⟨gs, 0, none⟩)) (h4 : m = .map (some b)) (h5 : a = .bool ar) (h6 : g = .int .i64 ag) (h7 : i = .int .i64 (k : Int)) (h8 : n ≤ 6 * k) (h9 : t ≤ 3 * k) (h10 : Ks w wr og gC gs b n o d p t ns pg f kv c ar ag) : KR w og gC L s m a g i wr :=
  ⟨k, gs, b, n, o, d, p, t, ns, pg, f, kv, c, ar, ag, h1, h2, h3, h4, h5, h6, h7, h8, h9, h10⟩
theorem stop_og {og : Nat} {o : Ow} (h : o.g = og) (d : S.Dk) (a : Int) (w : World) (hd : DkIs w o d) (ha : a ≤ 9223372036854775807) : Calls Tryz.prog 18 #[.pointer (some ⟨og, 0, none⟩), .int .i64 a] w fun e w' => e = .returned (.tuple #[]) ∧ ∃ o', DkIs w' o' (d.stop a) ∧ DkTo o w o' w' := by
  subst h
  exact stop_any o d a w hd ha
theorem crash_og {og : Nat} {o : Ow} (h : o.g = og) (d : S.Dk) (v : Value) (c : S.Cut) (w : World) (hd : DkIs w o d) (hb : d.pend.length ≤ 1000000) (hk : ∀ W, Chg o.has w W → BoolsAt W v c.keep) : Calls Tryz.prog 19 #[.pointer (some ⟨og, 0, none⟩), .agg #[v, .int .i64 c.torn, .int .i64 c.bytes]] w fun e w' => e = .returned (.tuple #[]) ∧ ∃ o', DkIs w' o' (d.crash c) ∧ DkTo o w o' w' := by
  subst h
  exact crash_any o d v c w hd hb hk
theorem popen_og {og : Nat} {o : Ow} (h : o.g = og) (w0 w : World) (d : S.Dk) (p t : Nat) (ns : List Nat) (pg : Nat → List UInt8) (hp : Pw w0 w o d p t ns pg) : Calls Tryz.prog 10 #[.pointer (some ⟨og, 0, none⟩)] w fun e w' => ∃ gs, e = .returned (.tuple #[.pointer (some ⟨gs, 0, none⟩), .int .i64 0]) ∧ StAt w' gs o ∧ w.heap.size ≤ gs ∧ Pw w0 w' o d p t ns pg ∧ Below w.heap.size w w' := by
  subst h
  exact popen_all w0 w o d p t ns pg hp
/-- The cut that is kept. -/
structure KCr (w5 : World) (gC : Nat) (kv : Value) (c : S.Cut) (w : World) : Prop where
  cr : w5.heap[gC]? = some (.cells #[kv, .int .i64 c.torn, .int .i64 c.bytes] 45 (0, 0))
  kb : BoolsAt w kv c.keep
/-- Behind a crash: two maps, the pages as one of them tells. -/
structure Kx (w W : World) (og gC b n b' n' : Nat) (o : Ow) (d : S.Dk) (p t : Nat) (ns : List Nat) (pg : Nat → List UInt8) (f f' : Nat → UInt8) (kv : Value) (c : S.Cut) : Prop where
  pw : Pw w W o d p t ns pg
  og : o.g = og
  mp : MpIs W b n f
  nb : ¬ o.has b
  mp' : MpIs W b' n' f'
  nb' : ¬ o.has b'
  cr : W.heap[gC]? = some (.cells #[kv, .int .i64 c.torn, .int .i64 c.bytes] 45 (0, 0))
  nc : ¬ o.has gC
  kb : BoolsAt w kv c.keep
  bb : w.heap.size ≤ b
  bb' : w.heap.size ≤ b'
  bc : w.heap.size ≤ gC
  so : (∀ m, m < 12 → pg m = S.cellPg (f m)) ∨ (∀ m, m < 12 → pg m = S.cellPg (f' m))
theorem Kx.then {w W V : World} {og gC b n b' n' : Nat} {o : Ow} {d : S.Dk} {p t : Nat} {ns : List Nat} {pg : Nat → List UInt8} {f f' : Nat → UInt8} {kv : Value} {c : S.Cut} (h : Kx w W og gC b n b' n' o d p t ns pg f f' kv c) (hb : Below W.heap.size W V) : Kx w V og gC b n b' n' o d p t ns pg f f' kv c :=
  ⟨h.pw.then hb, h.og, h.mp.below hb, h.nb, h.mp'.below hb, h.nb', (hb.block gC (block_lt_of_row h.cr)).trans h.cr, h.nc, h.kb, h.bb, h.bb', h.bc, h.so⟩
theorem Kx.disk {w W V : World} {og gC b n b' n' : Nat} {o o' : Ow} {d d' : S.Dk} {p t : Nat} {ns : List Nat} {pg : Nat → List UInt8} {f f' : Nat → UInt8} {kv : Value} {c : S.Cut} (h : Kx w W og gC b n b' n' o d p t ns pg f f' kv c) (hd : Dsk V o' d') (hm : DkTo o W o' V) (hp : d'.pend = []) (hh : S.Pgs d'.safe p t ns pg) : Kx w V og gC b n b' n' o' d' p t ns pg f f' kv c := by
  have far : ∀ x, ¬ o.has x → x < W.heap.size → ¬ o'.has x := fun x h1 h2 e => by
    rcases hm.own x e with e | e
    · exact h1 e
    · omega
  refine ⟨⟨hd, hp, hh, fun k e => ?_, h.pw.below.trans (hm.chg.below _ h.pw.below.size (fun k hk e => by have := h.pw.ob k e; omega)), h.pw.pos⟩, hm.g.trans h.og, h.mp.chg hm.chg h.nb, far b h.nb h.mp.lt, h.mp'.chg hm.chg h.nb', far b' h.nb' h.mp'.lt, hm.chg.row h.cr h.nc, far gC h.nc (block_lt_of_row h.cr), h.kb, h.bb, h.bb', h.bc, h.so⟩
  rcases hm.own k e with e | e
  · exact h.pw.ob k e
  · exact Nat.le_trans h.pw.below.size e
/-- The sectors of new pages. -/
theorem Pg.pgs {w0 w : World} {o : Ow} {d : S.Dk} {p t : Nat} {pg : Nat → List UInt8} (h : Pg w0 w o d p t pg) (hs : ∀ n, n < 512 → (pg n).length = 1024) : S.Pgs d.safe p t [] pg :=
  ⟨h.len, h.mark, h.log, fun i hi => absurd hi (Nat.not_lt_zero _), fun m hm _ => h.home m hm, fun n hn => by simp at hn, List.Pairwise.nil, Nat.zero_le _, hs⟩
end Go.Proofs.YthjlhngjpbmieaaGreatDoor
