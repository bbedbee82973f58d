/- The two readers side by side, and what each call leaves of them. -/
import Derived.Test.YtdhaeepaemneaaaDoorDrb
import Derived.Test.YtdhaeepaemneaaaDoorIntact
import Derived.Test.YtdhaeepaemneaaaDoorSay
import Derived.Test.YtdhaeepaemneaaaDoorAsks
import Derived.Test.YtdhaeepaemneaaaDoorWithin
namespace Go.Proofs.YtdhaeepaemneaaaDoor
open Go.RowKit
/-- The first refusal is a word's. -/
def S.Rd.ok (r : S.Rd) : Prop := inWord r.ba ∧ inWord r.why
theorem refuse_ok {r : S.Rd} {a y : Int} (h : r.ok) (ha : inWord a) (hy : inWord y) : (r.refuse a y).ok := by
  unfold S.Rd.refuse
  split
  · exact ⟨ha, hy⟩
  · exact h
theorem take_ok {r : S.Rd} (n : Nat) (h : r.ok) (hl : r.bs.length ≤ 140737488355328) : (r.take n).1.ok := by
  unfold S.Rd.take
  split
  · split
    · exact h
    · exact ⟨⟨by show (-9223372036854775808 : Int) ≤ (r.bs.length : Int); omega, by show (r.bs.length : Int) ≤ 9223372036854775807; omega⟩, ⟨by show (-9223372036854775808 : Int) ≤ 10; decide, by show (10 : Int) ≤ 9223372036854775807; decide⟩⟩
  · exact h
theorem number_ok {r : S.Rd} (k : Int) (h : r.ok) (hl : r.bs.length ≤ 140737488355328) : (r.number k).1.ok := take_ok _ h hl
theorem digest_ok {r : S.Rd} (h : r.ok) (hl : r.bs.length ≤ 140737488355328) : r.digest.1.ok := take_ok _ h hl
theorem fail_ok {r : S.Rd} (y : Int) (h : r.ok) (hl : r.pl ≤ 140737488355328) (hy : inWord y) : (r.fail y).ok := refuse_ok h ⟨by omega, by omega⟩ hy
theorem bytes_ok {r : S.Rd} (m : Int) (h : r.ok) (hl : r.bs.length ≤ 140737488355328) (hp : r.pl ≤ 140737488355328) : (r.bytes m).1.ok := by
  unfold S.Rd.bytes
  have h2 : (r.number 2).1.bs.length ≤ 140737488355328 := by show (r.take _).1.bs.length ≤ _; rw [S.Rd.take_bs]; exact hl
  split
  · exact take_ok _ (refuse_ok (number_ok 2 h hl) ⟨by omega, by omega⟩ ⟨by decide, by decide⟩) (by rw [S.Rd.refuse_bs]; exact h2)
  · exact take_ok _ (number_ok 2 h hl) h2
theorem bytes_bs (r : S.Rd) (m : Int) : (r.bytes m).1.bs = r.bs := by
  unfold S.Rd.bytes
  rw [S.Rd.take_bs]
  split
  · rw [S.Rd.refuse_bs]; show (r.take _).1.bs = _; rw [S.Rd.take_bs]
  · show (r.take _).1.bs = _; rw [S.Rd.take_bs]
theorem fin_ok {r : S.Rd} {a y : Int} (hf : r.fin = (a, y)) (h : r.ok) (hp : r.pl ≤ 140737488355328) : inWord a ∧ inWord y := by
  unfold S.Rd.fin at hf
  split at hf
  · split at hf
    · cases hf; exact ⟨⟨by omega, by omega⟩, ⟨by decide, by decide⟩⟩
    · cases hf; exact ⟨⟨by decide, by decide⟩, ⟨by decide, by decide⟩⟩
  · cases hf; exact h
/-- The program's reader in block gr over a copy in block t, the document's in block gd over the text that came in, the roomy copy in block gf. -/
structure Two (w wr : World) (gf gr t gd : Nat) (ao : Option Addr) (len cap : Nat) (bs : List UInt8) (r : S.Rd) : Prop where
  own : RdIs wr gr t r
  doc : DrIs wr gd ao len cap r
  full : wr.heap[gf]? = some (.cells (S.v8 (S.roomy bs)) 5 (0, 0))
  bel : Below w.heap.size w wr
  ok : r.ok
  bs : r.bs = bs
/-- Where they lie. -/
structure Lie (w : World) (gf gr t gd : Nat) (ao : Option Addr) (len cap : Nat) (bs : List UInt8) : Prop where
  old : SliceAt w (.slice ao len cap) bs
  lf : w.heap.size ≤ gf
  lr : gf < gr
  lt : gf < t
  dr : gr < gd
  dt : t < gd
theorem Two.below {w wr W : World} {gf gr t gd : Nat} {ao : Option Addr} {len cap : Nat} {bs : List UInt8} {r : S.Rd} (h : Two w wr gf gr t gd ao len cap bs r) (hb : Below wr.heap.size wr W) : Two w W gf gr t gd ao len cap bs r :=
  ⟨h.own.below hb, h.doc.below hb, (hb.block gf (block_lt_of_row h.full)).trans h.full, h.bel.trans (hb.mono h.bel.size), h.ok, h.bs⟩
/-- Behind a call of the program's reader. -/
theorem Two.mid {w wr W : World} {gf gr t gd : Nat} {ao : Option Addr} {len cap : Nat} {bs : List UInt8} {r r' : S.Rd} (h : Two w wr gf gr t gd ao len cap bs r) (l : Lie w gf gr t gd ao len cap bs) (hw : RdIs W gr t r') (hc : Chg (fun k => k = gr) wr W) :
    RdIs W gr t r' ∧ DrIs W gd ao len cap r ∧ W.heap[gf]? = some (.cells (S.v8 (S.roomy bs)) 5 (0, 0)) ∧ Below w.heap.size w W := by
  have hf := l.lf
  have hr := l.lr
  have hd := l.dr
  have hb : Below w.heap.size w W := h.bel.trans (hc.base h.bel.size (by omega))
  exact ⟨hw, h.doc.chg hc (by omega) (by rw [h.bs]; exact stays_old l.old hb (fun k hk => by omega)), hc.row h.full (by omega), hb⟩
/-- Behind a call of the document's. -/
theorem Two.fin {w W W2 : World} {gf gr t gd : Nat} {ao : Option Addr} {len cap : Nat} {bs : List UInt8} {r r' : S.Rd} (x : RdIs W gr t r' ∧ DrIs W gd ao len cap r ∧ W.heap[gf]? = some (.cells (S.v8 (S.roomy bs)) 5 (0, 0)) ∧ Below w.heap.size w W) (l : Lie w gf gr t gd ao len cap bs) (hd : DrIs W2 gd ao len cap r') (hc : Chg (fun k => k = gd) W W2) (ho : r'.ok) (hb : r'.bs = bs) : Two w W2 gf gr t gd ao len cap bs r' := by
  have hf := l.lf
  have hr := l.lr
  have ht := l.lt
  have h1 := l.dr
  have h2 := l.dt
  exact ⟨x.1.chg hc (by omega) (by omega), hd, hc.row x.2.2.1 (by omega), x.2.2.2.trans (hc.base x.2.2.2.size (by omega)), ho, hb⟩
/-- Over one block that is none of theirs. -/
theorem Two.over {w wr W : World} {gf gr t gd g : Nat} {ao : Option Addr} {len cap : Nat} {bs : List UInt8} {r : S.Rd} (h : Two w wr gf gr t gd ao len cap bs r) (l : Lie w gf gr t gd ao len cap bs) (hc : Chg (fun k => k = g) wr W) (hg : gd < g) : Two w W gf gr t gd ao len cap bs r := by
  have hf := l.lf
  have hr := l.lr
  have ht := l.lt
  have h1 := l.dr
  have h2 := l.dt
  have hb : Below w.heap.size w W := h.bel.trans (hc.base h.bel.size (by omega))
  exact ⟨h.own.chg hc (by omega) (by omega), h.doc.chg hc (by omega) (by rw [h.bs]; exact stays_old l.old hb (fun k hk => by omega)), hc.row h.full (by omega), hb, h.ok, h.bs⟩
theorem dnum_is {r r' : S.Rd} {k : Int} {n : Nat} (g : Nat) (ao : Option Addr) (len cap : Nat) (w : World) (h : r.number k = (r', n)) (hr : DrIs w g ao len cap r) :
   Calls Tryd.prog 25 #[.pointer (some ⟨g, 0, none⟩), .int .i64 k] w fun e w' => e = .returned (.int .u64 (n : Int)) ∧ DrIs w' g ao len cap r' ∧ Chg (fun k => k = g) w w' := by
  have := dnum_any g ao len cap r k w hr
  rw [h] at this
  exact this
theorem drbytes_is {r r' : S.Rd} {most : Int} {xs : List UInt8} (g : Nat) (ao : Option Addr) (len cap : Nat) (w : World) (h : r.bytes most = (r', xs)) (hr : DrIs w g ao len cap r) :
   Calls Tryd.prog 27 #[.pointer (some ⟨g, 0, none⟩), .int .i64 most] w fun e w' => ∃ v, e = .returned v ∧ SliceAt w' v xs ∧ DrIs w' g ao len cap r' ∧ Chg (fun k => k = g) w w' := by
  have := drbytes_any g ao len cap r most w hr
  rw [h] at this
  exact this
theorem ddigest_is {r r' : S.Rd} {d : List UInt8} (g : Nat) (ao : Option Addr) (len cap : Nat) (w : World) (h : r.digest = (r', d)) (hr : DrIs w g ao len cap r) :
   Calls Tryd.prog 29 #[.pointer (some ⟨g, 0, none⟩)] w fun e w' => e = .returned (.agg (S.v8 d)) ∧ DrIs w' g ao len cap r' ∧ Chg (fun k => k = g) w w' := by
  have := ddigest_any g ao len cap r w hr
  rw [h] at this
  exact this
theorem rdigest_to {r r' : S.Rd} {d : List UInt8} (g t : Nat) (w : World) (h : r.digest = (r', d)) (hr : RdIs w g t r) :
   Calls Tryd.prog 28 #[.pointer (some ⟨g, 0, none⟩)] w fun e w' => e = .returned (.agg (S.v8 d)) ∧ RdIs w' g t r' ∧ Chg (fun k => k = g) w w' := by
  have := rdigest_any g t r w hr
  rw [h] at this
  exact this
theorem dfail_is {r r' : S.Rd} {why : Int} (g : Nat) (ao : Option Addr) (len cap : Nat) (w : World) (h : r.fail why = r') (hr : DrIs w g ao len cap r) :
   Calls Tryd.prog 31 #[.pointer (some ⟨g, 0, none⟩), .int .i64 why] w fun e w' => e = .returned (.tuple #[]) ∧ DrIs w' g ao len cap r' ∧ Chg (fun k => k = g) w w' := by
  have := dfail_any g ao len cap r why w hr
  rw [h] at this
  exact this
theorem dend_is {r : S.Rd} {a y : Int} (g : Nat) (ao : Option Addr) (len cap : Nat) (w : World) (h : r.fin = (a, y)) (hr : DrIs w g ao len cap r) :
   Calls Tryd.prog 32 #[.pointer (some ⟨g, 0, none⟩)] w fun e w' => e = .returned (.tuple #[.int .i64 a, .int .i64 y]) ∧ Below w.heap.size w w' := by
  have := dend_any g ao len cap r w hr
  rw [h] at this
  exact this
end Go.Proofs.YtdhaeepaemneaaaDoor
