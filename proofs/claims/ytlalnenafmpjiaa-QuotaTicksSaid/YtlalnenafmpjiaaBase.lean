/- Buckets: what a bucket is, in plain words and in memory. -/
import Derived.Test.YtlalnenafmpjiaaProg
import Derived.WalkKit
import Derived.WalkSpells
import Derived.WalkLawsBesides
import Derived.Deep.RegionHeld3
import Derived.Deep.QuietTactic
import Derived.BigQuiet
import Derived.Laws.CopyOwn
import Derived.StillTailTactics
import Derived.Laws.OwnMore
import Derived.Deep.MidRow
import Derived.Deep.DeepCutAuto
namespace Go.Proofs.Ytlalnenafmpjiaa
open Go.RowKit
theorem hide {p : Prop} (h : p) : Hid p := h
theorem block_lt_of_row {w : World} {g : Nat} {o : Obj} (h : w.heap[g]? = some o) : g < w.heap.size := (Array.getElem?_eq_some_iff.1 h).1
namespace S
/-- A bucket. -/
structure Bk where
  rate : Nat
  burst : Nat
  tok : Nat
structure Bk.Ok (b : Bk) : Prop where
  hr : b.rate < 4294967296
  hb : b.burst < 4294967296
  ht : b.tok < 4294967296
end S
def encB (b : S.Bk) : Array Value := #[.int .u32 (b.rate : Int), .int .u32 (b.burst : Int), .int .u32 (b.tok : Int)]
end Go.Proofs.Ytlalnenafmpjiaa
