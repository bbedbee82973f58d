/- Small facts about a []byte: its shape, its element, two of them one behind the other, and an append whose run is known. -/
import Derived.Test.YtdfjbajehcedaaaDoorSum
import Derived.Stop.BytesEq
import Derived.Laws.OwnMore
import Derived.Lib.AppendZeros
namespace Go.Proofs.YtdfjbajehcedaaaDoor
open Go.RowKit
theorem SliceAt.form {w : World} {v : Value} {bs : List UInt8} (h : SliceAt w v bs) : ∃ ao len cap, v = .slice ao len cap ∧ len = bs.length ∧ len ≤ 140737488355328 := by
  rcases h with ⟨rfl, rfl⟩ | ⟨a, cap, rfl, _, rfl⟩ | ⟨b, off, cap, rfl, h1, h2, h3, h4⟩
  · exact ⟨_, _, _, rfl, rfl, by omega⟩
  · exact ⟨_, _, _, rfl, rfl, by omega⟩
  · exact ⟨_, _, _, rfl, rfl, by omega⟩
theorem infoB : (Tryd.prog.info? 5).map (fun i => (i.zero, i.size, i.bytes)) = some (some (.int .u8 0), 1, 1) := by kernel_rfl
theorem v8l_app (a b : List UInt8) : S.v8l (a ++ b) = S.v8l a ++ S.v8l b := by simp [S.v8l]
theorem equal_digests (xs ys : List UInt8) (hx : xs.length = 32) (hy : ys.length = 32) (w : World) : (Op.equalIn 10000 23 (.agg (S.v8 xs)) (.agg (S.v8 ys))).run Tryd.prog w = .ok (xs == ys) w :=
  run_equalIn_bytes w 9998 23 5 32 Tryd.underlying23 Tryd.underlying5 (fun _ => by kernel_rfl) xs ys hx hy
/-- The walk's step at an append whose run is known to answer some v' in some w'. -/
theorem wpList_append_known {w : World} {ops : Array Oper} {rest : List Oper} {o : Oper} {a : Act} {Q : Exit → Act → World → Prop} (hgd : o.guard = none) (s x : Operand) (t tn : TypeId)
    (ho : o.op = .call { callee := .builtin .append, args := #[s, x], argTypes := #[t, tn] }) (vs vx : Value) (hs : a.eval s = vs) (hx : a.eval x = vx) {R : Value → World → Prop}
    (hr : ∃ v' w', (Builtin.append_ #[t, tn] o.type #[vs, vx]).run Tryd.prog w = .ok v' w' ∧ R v' w')
    (h : ∀ v' w', R v' w' → wpList Tryd.prog ops Q rest (a.put o.dst v') w') : wpList Tryd.prog ops Q (o :: rest) a w := by
  obtain ⟨v', w', hr, hR⟩ := hr
  exact wpList_plain hgd fun _ hK => Lib.wp_append_run w s x t tn ho vs vx hs hx v' w' hr (hK _ _ (h v' w' hR))
end Go.Proofs.YtdfjbajehcedaaaDoor
