/- From a row's own conditions to the walks': the laid table is the one of the hashes; one start fits. -/
import Derived.Test.YteealihknndclabGreatDoorWc
import Derived.Test.YteealihknndclabGreatDoorRows
import Derived.Lib.LaidTab
import Derived.ProofKit
import Derived.LaidMore
import Derived.OpenShut
import Derived.ShutString
import Derived.ChangeOld
import Derived.Stop.Joined
import Derived.SizedLaws
import Derived.Lay
import Derived.Test.YteealihknndclabGreatDoorVai
import Derived.Deep.Slices
import Derived.Lib.SmallJoins
namespace Go.Proofs.YteealihknndclabGreatDoor
open Go.ChangeShapes Go.WideShapes Go.ChangeAt Go.RowKit
theorem own : ownKnob Tryz.prog.godebug = none := by kernel_rfl
theorem laidOut : laidOutB Tryz.prog = true := by kernel_rfl
theorem bytes5 : Tryz.prog.bytesOf 5 = 1 := by kernel_rfl
theorem gK : Tryz.prog.globalNamed "deponent/sha.roundWords" = some 1 := by kernel_rfl
theorem tK : (Tryz.prog.globals[1]?).map (·.type) = some 295 := by kernel_rfl
theorem cells48 : Tryz.prog.cellsOf 254 = 1 := by kernel_rfl
theorem cells52 : Tryz.prog.cellsOf 295 = 64 := by kernel_rfl
theorem wo {n : Int} (h : (Lit.int .i64 n).wf = true) : -9223372036854775808 <= n /\ n <= 9223372036854775807 := by
 simp [Lit.wf, IntKind.min, IntKind.max, IntKind.signed, IntKind.bits] at h
 omega
def xw : List (String × DataW Unit) := [("deponent/sha.roundWords", Rows.laid_deponent_sha_roundWords), ("unicode/utf8.acceptRanges", Rows.laid_unicode_utf8_acceptRanges), ("unicode/utf8.first", Rows.laid_unicode_utf8_first)]
theorem uG {W : World} (h : laidMetH Tryz.prog xw W) : KAt W := by
 rw [MakeChecks.laidMetH_plain _ _ _ (by kernel_rfl)] at h
 have ht : Lib.TabIs Tryz.prog W "deponent/sha.roundWords" .u32 (S.K.map fun x => (x.toNat : Int)) :=
  Lib.tabIs_of_head gK tK Tryz.underlying295 Tryz.underlying254 cells48 cells52 h
 intro j hj
 have := ht.cell gK j (by rw [List.length_map]; exact hj)
 rw [this]
 simp [List.getD_eq_getElem?_getD, show j < S.K.length from hj]
theorem lt_of_K {W : World} (h : KAt W) : 1 < W.heap.size := World.block_lt_of_cell? W _ (h 0 (by decide))
end Go.Proofs.YteealihknndclabGreatDoor
namespace Go.Proofs.YteealihknndclabGreatDoor
open Go.ChangeShapes Go.WideShapes Go.ChangeAt Go.RowKit
def IsRow (w : World) (a : Option Addr) (len cap : Nat) (zs : List Int) : Prop :=
 (a = none /\ len = 0 /\ cap = 0 /\ zs = []) \/
 ∃ x, a = some x /\ len <= cap /\ zs.length = cap /\ (∀ i, i < zs.length -> w.cell? (x.add i) = some (.int .u8 (zs.getD i 0))) /\ ∀ n ∈ zs, (Lit.int .u8 n).wf = true
theorem yu {w : World} {a : Option Addr} {len cap : Nat} {zs : List Int} (h : IsRow w a len cap zs) (hr : cap <= 140737488355328) : ∃ bs : List UInt8, bs.length = len /\ SliceAt w (.slice a len cap) bs := by
 rcases h with ⟨rfl, rfl, rfl, _⟩ | ⟨x, rfl, hl, hz, hc, hw⟩
 ·exact ⟨[], rfl, Or.inl ⟨rfl, rfl⟩⟩
 ·by_cases h0 : len = 0
  ·subst h0
   exact ⟨[], rfl, Or.inr (Or.inl ⟨x, cap, rfl, Nat.zero_le _, rfl⟩)⟩
  ·obtain ⟨b, off, rfl, hc'⟩ := ints_at hc (by omega)
   have hbl : ((zs.take len).map fun z => UInt8.ofNat z.toNat).length = len := by simp; omega
   refine ⟨(zs.take len).map fun z => UInt8.ofNat z.toNat, hbl, Or.inr (Or.inr ⟨b, off, cap, by rw [hbl], by omega, by omega, block_lt_of_cell (hc' 0 (by omega)), fun j hj => ?_⟩)⟩
   have hj' : j < len := by omega
   rw [hc' j (by omega)]
   have hb := range_u8 hw j
   have e1 : zs[j]? = some (zs[j]'(by omega)) := List.getElem?_eq_getElem (by omega)
   rw [e1] at hb
   simp only [Option.getD_some] at hb
   simp only [List.getD_eq_getElem?_getD, List.getElem?_map, List.getElem?_take, hj', if_true, e1, Option.map_some, Option.getD_some, UInt8.toNat_ofNat']
   congr 2
   omega
theorem qY {H : Type} {P : Program} {e : TypeId} {l : List (DataW H)} {d : DataW H} (hd : d ∈ l) : ∀ n ∈ d.weights P e, n ∈ DataW.weightsAll P e l := by
 intro n hn
 induction l with
 | nil => cases hd
 | cons x t ih =>
  rw [DataW.weightsAll]
  rcases List.mem_cons.1 hd with rfl | h
  ·exact List.mem_append.2 (Or.inl hn)
  ·exact List.mem_append.2 (Or.inr (ih h))
theorem Ac : Tryz.prog.cellsOf 30 = 4 := by kernel_rfl
theorem bytes30 : Tryz.prog.bytesOf 30 = 64 := by kernel_rfl
theorem FE : Tryz.prog.cellsOf 22 = 1 := by kernel_rfl
theorem cells5' : Tryz.prog.cellsOf 5 = 1 := by kernel_rfl
theorem cells4' : Tryz.prog.cellsOf 4 = 1 := by kernel_rfl
theorem rR {H : Type} {enc : TypeId × Value -> H} {W : World} {fuel : Nat} {c : Value} {y : DataW H × List MemPlace} {held : Bool} {base : Nat}
  (h : DataW.trod enc Tryz.prog W base (fun _ => true) held fuel 22 [c] = some y) (hw : ∀ n ∈ y.1.weights Tryz.prog 22, n <= reachBytes) : ∃ (a : Option Addr) (n k : Nat) (bs : List UInt8), c = .slice a n k /\ SliceAt W c bs := by
 rcases open_ints Tryz.underlying22 Tryz.underlying5 (by kernel_rfl) h with ⟨hcs, _⟩ | ⟨x, l, cp, zs, hcs, _, hl, hm, hz, hx, hcell, hwz⟩
 ·obtain rfl : c = .slice none 0 0 := by simpa using hcs
  exact ⟨_, _, _, [], rfl, Or.inl ⟨rfl, rfl⟩⟩
 ·obtain rfl : c = .slice (some x) l cp := by simpa using hcs
  have hzc : zs.length = cp := by simpa using hz
  have hcap : cp <= 140737488351232 := by
   have h1 : y.1 = .slice _ _ := congrArg Prod.fst hx
   rw [h1] at hw
   have h2 := hw ((_ + _) * Tryz.prog.bytesOf 5) (by rw [DataW.weights, Tryz.underlying22]; exact List.mem_cons_self)
   rw [bytes5] at h2
   simp only [lits, List.length_map, List.length_take, List.length_drop, reachBytes] at h2
   omega
  obtain ⟨bs, _, hs⟩ := yu (zs := zs) (.inr ⟨_, rfl, hl, hzc, hcell, hwz⟩) (by omega)
  exact ⟨_, _, _, bs, rfl, hs⟩
set_option maxHeartbeats 800000 in
set_option maxRecDepth 100000 in
theorem Ef {H : Type} {enc : TypeId × Value -> H} {W : World} {ts : List TypeId} {ds : List (DataW H)} {j : Nat} {a0 : Option Addr} {sK cap0 : Nat} {d0 : DataW H} {p0 : List MemPlace} {held : Bool} {base : Nat}
  (hj : ts[j]? = some 48) (hd : ds[j]? = some d0) (h0 : DataW.Trod enc Tryz.prog W base (fun _ => true) held 48 (.slice a0 sK cap0) d0 p0)
  (hsz : (DataW.weightsEach Tryz.prog ts ds).all (· <= reachBytes) = true) : sK <= 140737488355328 /\ ∃ f, KcsIn W a0 sK f := by
 obtain ⟨fuel, hf⟩ := h0
 rcases Go.Deep.open_slice Tryz.underlying48 hf with ⟨hcs, _⟩ | ⟨a, len, cap, m, n, D, Pl, hcs, _, hl, hm, hmm, hx, hel⟩
 ·simp [Value.cells] at hcs
  obtain ⟨rfl, rfl, rfl⟩ := hcs
  exact ⟨by omega, fun _ => (⟨0, none, 0, 0, none, 0, 0, false⟩, 0, ⟨[], [], false⟩), fun h => by omega⟩
 ·simp [Value.cells] at hcs
  obtain ⟨rfl, rfl, rfl⟩ := hcs
  simp only [if_true] at hmm
  have hwt : ∀ k ∈ d0.weights Tryz.prog 48, k <= reachBytes := fun k hk => by
   have := List.all_eq_true.1 hsz k (DataW.weights_mem_each hj hd k hk)
   simpa using this
  have hd0 : d0 = .slice ((List.range sK).map D) ((List.range (m - sK)).map fun j => D (sK + j)) := congrArg Prod.fst hx
  refine ⟨?_, ?_⟩
  ·have h3 := sized_slice hsz (j := j) (t := 48) (e := 30) hj (by rw [hd, hd0]) Tryz.underlying48
   rw [bytes30] at h3
   simp only [List.length_map, List.length_range, reachBytes] at h3
   omega
  obtain ⟨b, off, spot⟩ := a
  by_cases hp : 0 < sK
  ·have hspot : spot = none := by
    obtain ⟨cs', h1, _⟩ := hel 0 (by omega)
    rw [Ac] at h1
    obtain ⟨_, hlen, hc⟩ := World.cells?_some h1
    have h2 := hc 0 (by omega)
    have h3 : cs'[0]? = some (cs'[0]'(by omega)) := List.getElem?_eq_getElem (by omega)
    rw [h3] at h2
    simpa [Addr.add] using World.cell?_spot h2
   subst hspot
   have hat : ∀ i, i < sK -> ∃ q : KcV × (UInt8 × S.Cg), (∀ (r : Nat) u, (bS q.1)[r]? = some u -> W.cell? ⟨b, off + (i * 4 + r), none⟩ = some u) /\ lZ W q.1 q.2 := fun i hi => by
    obtain ⟨cs', h1, h2⟩ := hel i (by omega)
    rw [Ac] at h1
    obtain ⟨_, hlen, hc⟩ := World.cells?_some h1
    match cs', hlen with
    | [c0, c1, c2, c3], _ =>
     obtain ⟨y0, y1, y2, y3, k, hy, _, t0, t1, t2, t3⟩ := Go.Joins.trod_struct4 Tryz.underlying30 h2
     have hDi : D i = .agg [y0.1, y1.1, y2.1, y3.1] := congrArg Prod.fst hy
     simp [cells5', FE, cells4'] at t0 t1 t2 t3
     obtain ⟨z0, e0, _, w0⟩ := DataW.trod_int Tryz.underlying5 t0
     obtain ⟨z3, e3, _⟩ := DataW.trod_bool Tryz.underlying4 t3
     have hwi : ∀ (r : Nat) (y : DataW H), [y0.1, y1.1, y2.1, y3.1][r]? = some y -> [5, 22, 22, 4][r]? = some 22 -> ∀ k ∈ y.weights Tryz.prog 22, k <= reachBytes := fun r y hr ht k hk => by
      refine hwt k ?_
      rw [hd0, DataW.weights, Tryz.underlying48]
      refine List.mem_cons_of_mem _ (List.mem_append.2 (Or.inl (qY (d := D i) (List.mem_map.2 ⟨i, List.mem_range.2 hi, rfl⟩) k ?_)))
      rw [hDi, DataW.weights, Tryz.underlying30]
      exact DataW.weights_mem_each (j := r) (t := 22) ht hr k hk
     obtain ⟨a1, n1, k1, bs1, rfl, hs1⟩ := rR t1 (hwi 1 _ rfl rfl)
     obtain ⟨a2, n2, k2, bs2, rfl, hs2⟩ := rR t2 (hwi 2 _ rfl rfl)
     have bb : 0 <= z0 /\ z0 <= 255 := by simpa [Lit.wf, IntKind.min, IntKind.max, IntKind.signed, IntKind.bits] using w0
     simp at e0 e3
     subst e0 e3
     refine ⟨(⟨UInt8.ofNat z0.toNat, a1, n1, k1, a2, n2, k2, z3⟩, UInt8.ofNat z0.toNat, ⟨bs1, bs2, z3⟩), fun r u hr => ?_, ⟨rfl, hs1, hs2, rfl⟩⟩
     have hr4 : r < 4 := by
      have := (List.getElem?_eq_some_iff.1 hr).1
      simpa [bS] using this
     have := hc r hr4
     rw [Addr.add_lit, Addr.add_lit, Nat.add_assoc] at this
     rw [this]
     have e0 : (((UInt8.ofNat z0.toNat).toNat : Nat) : Int) = z0 := by simp; omega
     rw [<- hr]
     simp only [bS, e0]
   obtain ⟨f, hF⟩ : ∃ f : Nat -> KcV × (UInt8 × S.Cg), ∀ i, i < sK -> (∀ (r : Nat) u, (bS (f i).1)[r]? = some u -> W.cell? ⟨b, off + (i * 4 + r), none⟩ = some u) /\ lZ W (f i).1 (f i).2 :=
    ⟨fun i => if h : i < sK then (hat i h).choose else (⟨0, none, 0, 0, none, 0, 0, false⟩, 0, ⟨[], [], false⟩), fun i hi => by
     simp only [hi, dif_pos]
     exact (hat i hi).choose_spec⟩
   refine ⟨f, fun _ => ⟨b, off, rfl, ?_, hF⟩⟩
   have := (hF 0 hp).1 0 _ rfl
   exact block_lt_of_cell this
  ·exact ⟨fun _ => (⟨0, none, 0, 0, none, 0, 0, false⟩, 0, ⟨[], [], false⟩), fun h => by omega⟩
end Go.Proofs.YteealihknndclabGreatDoor
