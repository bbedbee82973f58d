/- A log over changes of blocks that are none of its own; how many acts a change takes. -/
import Derived.Test.YtfjkddjdmlnbnaaDoorSt
namespace Go.Proofs.YtfjkddjdmlnbnaaDoor
open Go.RowKit
namespace S
theorem commitActs_few (d : Dk) (f c p t : Nat) (rs rs' : List (List UInt8)) (h : (enc rs').length ≤ 100000) : (commitActs d f c p t rs rs').length ≤ 200000 := by
  have hw : (putWs f c (enc rs') (enc rs).length).length ≤ 100000 := by
    unfold putWs
    split
    · simp
    · rw [textWs_length]; omega
  have hs : (spareActs f c (1 - p) (d.safe.getD (f + (1 - p)) [])).length ≤ 2 := by unfold spareActs; split <;> simp
  have ht : (textActs (putWs f c (enc rs') (enc rs).length)).length ≤ (putWs f c (enc rs') (enc rs).length).length + 1 := by unfold textActs; split <;> simp [Ws.acts]
  have hu : (turnActs f c p (hdOf (t + 1) rs')).length = 4 := rfl
  unfold commitActs changeActs
  rw [List.length_append, List.length_append, hu]
  omega
end S
theorem Lo.chg {q : Nat → Prop} {w0 w W : World} {o : Ow} {d : S.Dk} {g f c p t : Nat} {rs : List (List UInt8)} {tv : Value} (h : Lo w0 w o d g f c p t rs tv) (hc : Chg q w W) (hq : ∀ k, (o.has k ∨ k = g ∨ tv.ownBlock = some k ∨ k < w0.heap.size) → ¬ q k) : Lo w0 W o d g f c p t rs tv :=
  ⟨⟨⟨h.log.dk.dk.chg hc (fun k hk => hq k (Or.inl hk)), h.log.dk.k.chg hc (hq 0 (Or.inr (Or.inr (Or.inr h.pos)))), h.log.dk.no⟩, h.log.pend, h.log.good, h.log.lg.chg hc (hq g (Or.inr (Or.inl rfl))) (fun k hk => hq k (Or.inr (Or.inr (Or.inl hk)))), h.log.no, h.log.pos, h.log.far, h.log.tpos⟩, h.ob, h.gb, h.tb, h.below.trans (hc.below _ h.below.size (fun k hk => hq k (Or.inr (Or.inr (Or.inr hk))))), h.pos⟩
end Go.Proofs.YtfjkddjdmlnbnaaDoor
