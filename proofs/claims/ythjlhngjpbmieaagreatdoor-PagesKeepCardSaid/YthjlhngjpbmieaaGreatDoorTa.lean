/- slices.SortFunc of sheets by their pages, at every length. -/
import Derived.Shelf.SlSortCmp.WholeK
import Derived.Shelf.SlicesG.Cmp
import Derived.Shelf.Lay
import Derived.Ground.SlsfProg
import Derived.Ground.SlgcProg
import Derived.Test.YthjlhngjpbmieaaGreatDoorProg
namespace Go.Proofs
open Go.Shelf Go.RowKit Go.Lib Go.Sort
shelf_lay_g SlLaysF0.n6 Slsf 6 at Tryz 50 as Tryz.sortSheets
shelf_lay_g SlLaysC2.n5 Slgc 5 at Tryz 52 as Tryz.cmpInt
end Go.Proofs
namespace Go.Proofs.YthjlhngjpbmieaaGreatDoor
open Go.Shelf Go.RowKit Go.Lib Go.Sort

/-- A sheet in memory: its page, and its list's place, length and room. -/
abbrev ShV := Int × Option Addr × Nat × Nat
def ShV.list (x : ShV) : Value := .slice x.2.1 x.2.2.1 x.2.2.2
/-- A sheet's two cells. -/
def encSh (x : ShV) : List Value := [.int .i64 x.1, x.list]
def cmpSh (x y : ShV) : Int := Lib.compareInt x.1 y.1
theorem ltSh (x y : ShV) : ltOf cmpSh x y = decide (x.1 < y.1) := by
  unfold ltOf cmpSh Lib.compareInt
  by_cases h1 : x.1 < y.1
  · simp [h1]
  · by_cases h2 : y.1 < x.1 <;> simp [h1, h2]
theorem swoSh : SWO (ltOf cmpSh) where
  irrefl x := by rw [ltSh]; simp
  trans x y z h1 h2 := by rw [ltSh] at *; simp at *; omega
  ntrans x y z h1 h2 := by rw [ltSh] at *; simp at *; omega

set_option maxHeartbeats 1000000 in
theorem byPage_any (n m : Int) (v u : Value) (W : World) : Calls Tryz.prog 51 #[.agg #[.int .i64 n, v], .agg #[.int .i64 m, u]] W fun e w' => e = .returned (.int .i64 (Lib.compareInt n m)) ∧ ∃ q os', w' = grow (W.drewN q) os' := by
  have hcon := fun W' => AnyG.cmp_Compare_int Tryz.cmpInt n m W'
  change ∀ W', Calls Tryz.prog 52 _ _ _ at hcon
  generalize Lib.compareInt n m = r at hcon ⊢
  go_enter Tryz.func51, Tryz.ntmps51
  go_wp2_with (go_at_call 52; refine (hcon _).mono ?_; rintro e w' ⟨rfl, rfl⟩)
  go_ret
  exact ⟨rfl, 0, _, by rw [alloc_eq_grow, alloc_eq_grow, grow_grow]; rfl⟩

theorem isAgg37 (w : World) : (isAgg 37).run Tryz.prog w = .ok true w := by kernel_rfl
theorem sizeOf37 (w : World) : (Go.sizeOf 37).run Tryz.prog w = .ok 2 w := by kernel_rfl

/-- SortFunc of sheets: the same sheets, their pages ascending. -/
theorem sort_any (blk off cap : Nat) (d : Array ShV) (w : World) (hH : HoldsK encSh 2 w blk off d) (hblk : blk < w.heap.size) (hsz : d.size < 4611686018427387904) :
    Calls Tryz.prog 50 #[.slice (some ⟨blk, off, none⟩) d.size cap, .func (.func 51) #[] #[]] w fun e w' => e = .returned (.tuple #[]) ∧ ∃ d' n os, PermIn 0 d.size d d' ∧ SortedIn (ltOf cmpSh) 0 d.size d' ∧ w' = sortWorldK encSh 2 w blk off n d' os := by
  have eg : ∀ args w, (callFunc 51 args).run Tryz.prog w = .ok (.enter 51 args) w := enters_of Tryz.func51 (by kernel_rfl) rfl
  exact AnyQ.slices_SortFunc Tryz.sortSheets 2 isAgg37 sizeOf37 encSh (fun _ => rfl) (fun x v hv => by simp [encSh, ShV.list] at hv; rcases hv with rfl | rfl <;> rfl) cmpSh swoSh 51 #[] blk off cap d w eg (fun _ _ _ _ x y => byPage_any x.1 y.1 x.list y.list _) hH hblk hsz
end Go.Proofs.YthjlhngjpbmieaaGreatDoor
