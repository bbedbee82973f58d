/- Bytes as a text, in a walk and in a drawn region. -/
import Derived.Test.YtjnbjgkcliaipaaKnown
import Derived.Laws.IdiomStrings
import Derived.Lib.BufferRead
namespace Go.Proofs.Ytjnbjgkcliaipaa
open Go.RowKit
theorem conv_slice {w : World} {v : Value} {bs : List UInt8} (h : SliceAt w v bs) : (convert 29 9 v).run Try.prog w = .ok (.string ⟨bs.toArray⟩) w := by
  rcases h with ⟨rfl, rfl⟩ | ⟨a, cap, rfl, _, rfl⟩ | ⟨b, off, cap, rfl, h1, h2, h3, h4⟩
  · exact Lib.run_convert_nil_bytes w 29 9 5 0 Try.underlying29 Try.underlying5 Try.underlying9
  · exact run_convert_bytes_back w 29 9 5 a cap [] Try.underlying29 Try.underlying5 Try.underlying9 (fun j hj => by simp at hj)
  · refine run_convert_bytes_back w 29 9 5 ⟨b, off, none⟩ cap bs Try.underlying29 Try.underlying5 Try.underlying9 (fun j hj => ?_)
    rw [Addr.add_lit]
    have := h4 j hj
    simp only [List.getD_eq_getElem?_getD, List.getElem?_eq_getElem hj, Option.getD_some] at this
    simpa using this
theorem slice_row {w : World} {g n : Nat} {bs : List UInt8} (h : w.heap[g]? = some (.cells (S.v8 bs) 5 (0, 0))) (hl : bs.length = n) (hn : n ≤ 140737488355328) : SliceAt w (.slice (some ⟨g, 0, none⟩) n n) bs := by
  subst hl
  exact Or.inr (Or.inr ⟨g, 0, bs.length, rfl, Nat.le_refl _, hn, block_lt_of_row h, fun j hj => by rw [Nat.zero_add]; exact v8_cell h j hj⟩)
theorem yieldsIf_conv {ops : Array Oper} {S : World → Prop} {op : Oper} {a : Act} (hw : Region.wanted op (yielded ops a.tmps) = true) (x : Operand) (ho : op.op = .convert 29 9 x) (v : Value) (hx : a.eval x = v) (bs : List UInt8) (hS : ∀ w, S w → SliceAt w v bs) : YieldsIf Try.prog ops S op (.string ⟨bs.toArray⟩) a :=
  .inl ⟨hw, fun w hs => by
    unfold execOp
    simp only [ho, hx, Sem.run_bind, conv_slice (hS w hs), Result.andThen_ok, Sem.run_pure]⟩
theorem step_conv {md : Region.Mode} {ops : Array Oper} {Q : Exit → Act → World → Prop} {S : World → Prop} {fuel : Nat} {listed : Array Bool} {a : Act} {w : World} {i : Nat} {o : Oper} {rs : List Nat} (ho : ops[i]? = some o) (hgd : Region.wanted o (yielded ops a.tmps) = true) (x : Operand)
    (hop : o.op = .convert 29 9 x) (v : Value) (hx : a.eval x = v) (bs : List UInt8) (hs : SliceAt w v bs) (hrest : AllReadyH Try.prog md ops Q S fuel listed a w rs)
    (h : S w ∧ (S w → wpAnyH Try.prog md ops Q S fuel (listed.setIfInBounds i true) (a.put o.dst (.string ⟨bs.toArray⟩)) w)) : AllReadyH Try.prog md ops Q S fuel listed a w (i :: rs) := by
  refine AllReadyH.cons ho (fun K hK => ?_) hrest
  rw [if_pos hgd]
  unfold Oper.wp execOp
  simp only [hop, hx, Sem.run_bind, conv_slice hs, Result.andThen_ok, Sem.run_pure]
  exact hK.out _ _ h.1 h.2
end Go.Proofs.Ytjnbjgkcliaipaa
