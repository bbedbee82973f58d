/- setOf of one sheet. -/
/- The pages of a set of one. -/
/- Pages on a disk, plainly. -/
import Derived.Test.YthjlhngjpbmieaaGreatDoorJc
namespace Go.Proofs.YthjlhngjpbmieaaGreatDoor
open Go.RowKit

namespace S
end S
end Go.Proofs.YthjlhngjpbmieaaGreatDoor
namespace Go.Proofs.YthjlhngjpbmieaaGreatDoor
open Go.RowKit

theorem info3 : (Tryz.prog.info? 3).map (fun i => (i.zero, i.size, i.bytes)) = some (some (.int .i64 0), 1, 8) := by kernel_rfl
end Go.Proofs.YthjlhngjpbmieaaGreatDoor
namespace Go.Proofs.YthjlhngjpbmieaaGreatDoor
open Go.RowKit

namespace S
/-- The sectors behind a page's being written. -/
def put (ss : List (List UInt8)) (f : Nat) (x : List UInt8) : Nat → List (List UInt8)
  | 0 => ss
  | i + 1 => (put ss f x i).set (f + i) ((x.drop (i * 128)).take 128)
theorem put_length (ss : List (List UInt8)) (f : Nat) (x : List UInt8) (i : Nat) : (put ss f x i).length = ss.length := by
  induction i with
  | zero => rfl
  | succ i ih => rw [put, List.length_set, ih]
theorem put_off (ss : List (List UInt8)) (f : Nat) (x : List UInt8) (i j : Nat) (h : j < f ∨ f + i ≤ j) : (put ss f x i).getD j [] = ss.getD j [] := by
  induction i with
  | zero => rfl
  | succ i ih => rw [put, List.getD_eq_getElem?_getD, List.getElem?_set_ne (by omega), ← List.getD_eq_getElem?_getD, ih (by omega)]
theorem put_at (ss : List (List UInt8)) (f : Nat) (x : List UInt8) (i j : Nat) (hf : f + i ≤ ss.length) (h : j < i) : (put ss f x i).getD (f + j) [] = (x.drop (j * 128)).take 128 := by
  induction i with
  | zero => omega
  | succ i ih =>
    by_cases e : j = i
    · subst e
      rw [put, List.getD_eq_getElem?_getD, List.getElem?_set_self (by rw [put_length]; omega)]
      rfl
    · rw [put, List.getD_eq_getElem?_getD, List.getElem?_set_ne (by omega), ← List.getD_eq_getElem?_getD, ih (by omega) (by omega)]
theorem secs_cong {ss tt : List (List UInt8)} {f i : Nat} (h : ∀ j, f ≤ j → j < f + i → ss.getD j [] = tt.getD j []) : secs ss f i = secs tt f i := by
  induction i with
  | zero => rfl
  | succ i ih => rw [secs, secs, ih (fun j h1 h2 => h j h1 (by omega)), h (f + i) (by omega) (by omega)]
theorem put_page (ss : List (List UInt8)) (f : Nat) (x : List UInt8) (hx : x.length = 1024) (hf : f + 8 ≤ ss.length) : pageAt (put ss f x 8) f = x := by
  have key : ∀ i, i ≤ 8 → secs (put ss f x 8) f i = x.take (i * 128) := fun i => by
    induction i with
    | zero => intro _; simp [secs]
    | succ i ih =>
      intro hi
      rw [secs, ih (by omega), put_at ss f x 8 i hf (by omega), Nat.add_mul, Nat.one_mul, List.take_add]
  unfold pageAt
  rw [key 8 (by omega), List.take_of_length_le (by omega)]
theorem put_other (ss : List (List UInt8)) (f f' : Nat) (x : List UInt8) (h : f' + 8 ≤ f ∨ f + 8 ≤ f') : pageAt (put ss f x 8) f' = pageAt ss f' :=
  secs_cong (fun j h1 h2 => put_off ss f x 8 j (by omega))
end S
theorem Lo.beside {w0 w w2 : World} {o o2 : Ow} {d d2 : S.Dk} {g f c p t : Nat} {rs : List (List UInt8)} {tv : Value} (h : Lo w0 w o d g f c p t rs tv) (hd : DkIs w2 o2 d2) (hm : DkTo o w o2 w2) (hp : d2.pend = []) (hl : d2.safe.length = d.safe.length) (hs : ∀ j, f ≤ j → j < f + c → d2.safe.getD j [] = d.safe.getD j []) : Lo w0 w2 o2 d2 g f c p t rs tv := by
  have hg : g < w.heap.size := block_lt_of_row h.log.lg.row
  have ht : ∀ k, tv.ownBlock = some k → k < w.heap.size := fun k hk => h.log.lg.text.lt hk
  have hpt : o2.ptr = o.ptr := by unfold Ow.ptr; rw [hm.g]
  refine ⟨⟨h.log.dk.to hd hm, hp, h.log.good.stay hl hs, by rw [hpt]; exact h.log.lg.chg hm.chg h.log.no h.log.far, fun e => ?_, h.log.pos, fun k hk e => ?_, h.log.tpos⟩, fun k e => ?_, h.gb, h.tb, h.below.trans (hm.chg.below _ h.below.size (fun k hk e => by have := h.ob k e; omega)), h.pos⟩
  · rcases hm.own g e with e | e
    · exact h.log.no e
    · omega
  · rcases hm.own k e with e | e
    · exact h.log.far k hk e
    · have := ht k hk; omega
  · rcases hm.own k e with e | e
    · exact h.ob k e
    · exact Nat.le_trans h.below.size e
end Go.Proofs.YthjlhngjpbmieaaGreatDoor
