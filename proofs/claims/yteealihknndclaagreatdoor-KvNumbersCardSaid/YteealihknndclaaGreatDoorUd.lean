/- Put of any sheets, on a disk that may stop. -/
import Derived.Test.YteealihknndclaaGreatDoorJa
import Derived.Test.YteealihknndclaaGreatDoorBy
import Derived.Test.YteealihknndclaaGreatDoorGv
namespace Go.Proofs.YteealihknndclaaGreatDoor
open Go.RowKit

namespace S
def jV (d : Dk) (p t : Nat) (ns : List Nat) (xs : List (List UInt8)) : List Act :=
 (oo xs ns.length ++ [.flush]) ++ (commitActs { d with safe := bK d.safe (fun i => 4101 + i * 8) xs ns.length, pend := [] } 1 4 p t [] [aJ ns] ++ fF { d with safe := after (bK d.safe (fun i => 4101 + i * 8) xs ns.length) 1 4 p t [] [aJ ns], pend := [] } (1 - p) (t + 1) ns xs)
theorem pgs_up (d : List ShV) (h : d.Pairwise (fun x y => x.1 < y.1)) (hp : ∀ x ∈ d, 0 <= x.1) : (pgs d).Pairwise (· < ·) := by
 unfold pgs
 rw [List.pairwise_map]
 exact h.imp_of_mem (fun {a b} ha hb hab => by have := hp a ha; have := hp b hb; omega)
end S
structure PutA (w0 w w' : World) (gs : Nat) (o o' : Ow) (d d' : S.Dk) (b : Bool) (p t : Nat) (ns : List Nat) (xs : List (List UInt8)) : Prop where
 plan : d.plan (S.jV d p t ns xs) = (d', b)
 dk : Dsk w' o' d'
 ptr : o'.g = o.g
 ob : ∀ k, o'.has k -> w0.heap.size <= k
 below : Below w0.heap.size w0 w'
 st : dX w' gs o'
 chg : Chg o.has w w'
 own : ∀ k, o'.has k -> o.has k \/ w.heap.size <= k
namespace S
end S
end Go.Proofs.YteealihknndclaaGreatDoor
namespace Go.Proofs.YteealihknndclaaGreatDoor
namespace S
def ones (x : UInt8) : Nat := (if x.toNat.testBit 0 then 1 else 0) + (if x.toNat.testBit 1 then 1 else 0) + (if x.toNat.testBit 2 then 1 else 0) + (if x.toNat.testBit 3 then 1 else 0) + (if x.toNat.testBit 4 then 1 else 0) + (if x.toNat.testBit 5 then 1 else 0) + (if x.toNat.testBit 6 then 1 else 0) + (if x.toNat.testBit 7 then 1 else 0)
def cnt (s : List UInt8) : Nat := (s.map ones).sum
theorem yQ : ∀ (r : Fin 8) (x : Fin 256), x.val.testBit r.val = false -> ones (UInt8.ofNat x.val ||| UInt8.ofNat (2 ^ r.val)) = ones (UInt8.ofNat x.val) + 1 := by decide +kernel
theorem yE (l : List Nat) (i y : Nat) (h : i < l.length) : (l.set i y).sum + l.getD i 0 = l.sum + y := by
 induction l generalizing i with
 | nil => simp at h
 | cons a l ih =>
 cases i with
 | zero => simp; omega
 | succ i =>
  have := ih i (by simpa using h)
  simp [List.getD_eq_getElem?_getD] at this ⊢
  omega
end S
end Go.Proofs.YteealihknndclaaGreatDoor
namespace Go.Proofs.YteealihknndclaaGreatDoor
open Go.RowKit

theorem iC {w : World} {ops : Array Oper} {rest : List Oper} {o : Oper} {a : Act} {Q : Exit -> Act -> World -> Prop} (hgd : o.guard = none) (t : TypeId) (x y : Operand) (ho : o.op = .index t x y) (vx vy : Value) (hx : a.eval x = vx) (hy : a.eval y = vy) (v : Value)
 (hr : (Instr.index t vx vy).run Tryz.prog w = .ok v w) (h : wpList Tryz.prog ops Q rest (a.put o.dst v) w) : wpList Tryz.prog ops Q (o :: rest) a w := by
 subst hx hy
 exact wpList_plain hgd fun _ hK => by
 unfold Oper.wp execOp
 simp only [ho, Sem.run_bind, hr, Result.andThen_ok]
 exact hK _ _ h
namespace S
end S
theorem y5 (s : List UInt8) (k : Nat) (W : World) (hs : s.length = 64) (hk : k < 64) : (Instr.index 149 (.agg (S.v8 s)) (.int .i64 (k : Int))).run Tryz.prog W = .ok (.int .u8 ((s.getD k 0).toNat : Int)) W := by
 have h0 : (S.v8 s)[k]? = some (.int .u8 ((s.getD k 0).toNat : Int)) := by
 unfold S.v8
 rw [List.getElem?_toArray, List.getElem?_map, List.getD_eq_getElem?_getD, List.getElem?_eq_getElem (by omega)]
 rfl
 have h1 : (0 : Int) <= (k : Int) /\ (k : Int) < (64 : Nat) := ⟨by omega, by omega⟩
 have ha : (isAgg 5).run Tryz.prog W = .ok false W := by kernel_rfl
 have hp : (part 5 (S.v8 s) k).run Tryz.prog W = .ok (.int .u8 ((s.getD k 0).toNat : Int)) W := by
 unfold part
 simp only [Sem.run_bind, ha, Result.andThen_ok, h0]
 rfl
 rw [List.getD_eq_getElem?_getD] at hp
 simp [Instr.index, asIntOf, run_underlying Tryz.underlying149, hk, hp]
namespace S
theorem Dl (s : List UInt8) : cnt s <= s.length * 8 := by
 induction s with
 | nil => simp [cnt]
 | cons x s ih =>
 have := vC x
 unfold cnt at ih ⊢
 rw [List.map_cons, List.sum_cons, List.length_cons]
 omega
end S
namespace S
def fJ (s : List UInt8) (n : Nat) : List UInt8 := s.set (n / 8) (s.getD (n / 8) 0 &&& ~~~ (UInt8.ofNat (2 ^ (n % 8))))
theorem xor_all : ∀ n : Fin 256, bits BinOp.xor IntKind.u8 IntKind.u8.max (((UInt8.ofNat n.val).toNat : Nat) : Int) = ((~~~ (UInt8.ofNat n.val)).toNat : Int) := by decide +kernel
theorem xor_max (x : UInt8) : bits BinOp.xor IntKind.u8 IntKind.u8.max (x.toNat : Int) = ((~~~ x).toNat : Int) := by
 have := xor_all ⟨x.toNat, UInt8.toNat_lt x⟩
 simp only [UInt8.ofNat_toNat] at this
 exact this
def pE : ByteArray := { data := (([8, 0, 1, 0, 2, 0, 1, 0, 3, 0, 1, 0, 2, 0, 1, 0, 4, 0, 1, 0, 2, 0, 1, 0, 3, 0, 1, 0, 2, 0, 1, 0, 5, 0, 1, 0, 2, 0, 1, 0, 3, 0, 1, 0, 2, 0, 1, 0, 4, 0, 1, 0, 2, 0, 1, 0, 3, 0, 1, 0, 2, 0, 1, 0].append [6, 0, 1, 0, 2, 0, 1, 0, 3, 0, 1, 0, 2, 0, 1, 0, 4, 0, 1, 0, 2, 0, 1, 0, 3, 0, 1, 0, 2, 0, 1, 0, 5, 0, 1, 0, 2, 0, 1, 0, 3, 0, 1, 0, 2, 0, 1, 0, 4, 0, 1, 0, 2, 0, 1, 0, 3, 0, 1, 0, 2, 0, 1, 0]).append ([7, 0, 1, 0, 2, 0, 1, 0, 3, 0, 1, 0, 2, 0, 1, 0, 4, 0, 1, 0, 2, 0, 1, 0, 3, 0, 1, 0, 2, 0, 1, 0, 5, 0, 1, 0, 2, 0, 1, 0, 3, 0, 1, 0, 2, 0, 1, 0, 4, 0, 1, 0, 2, 0, 1, 0, 3, 0, 1, 0, 2, 0, 1, 0].append [6, 0, 1, 0, 2, 0, 1, 0, 3, 0, 1, 0, 2, 0, 1, 0, 4, 0, 1, 0, 2, 0, 1, 0, 3, 0, 1, 0, 2, 0, 1, 0, 5, 0, 1, 0, 2, 0, 1, 0, 3, 0, 1, 0, 2, 0, 1, 0, 4, 0, 1, 0, 2, 0, 1, 0, 3, 0, 1, 0, 2, 0, 1, 0])).toArray }
def tz (x : UInt8) : Nat := (pE.get! x.toNat).toNat
theorem yD : pE.size = 256 := by decide +kernel
theorem tz_le' : ∀ n : Fin 256, (pE.get! n.val).toNat <= 8 := by decide +kernel
theorem tz_le (x : UInt8) : tz x <= 8 := tz_le' ⟨x.toNat, UInt8.toNat_lt x⟩
end S
set_option maxRecDepth 10000 in
theorem Dv (x : UInt8) (W : World) : (Instr.index 9 (.string S.pE) (.int .u8 (x.toNat : Int))).run Tryz.prog W = .ok (.int .u8 (S.tz x : Int)) W := by
 rw [run_index_string (P := Tryz.prog) (w := W) 9 S.pE .u8 (x.toNat : Int) Tryz.underlying9]
 have hx := x.toNat_lt
 have hs := S.yD
 have h0 : 0 <= (x.toNat : Int) /\ (x.toNat : Int) < S.pE.size := ⟨by omega, by omega⟩
 rw [dif_pos h0]
 unfold S.tz
 congr 2
 have hl : x.toNat < S.pE.size := by omega
 simp [ByteArray.get!, getElem!_pos, hl]
 rfl
set_option maxRecDepth 10000 in
theorem tz_any (x : UInt8) (w : World) : Calls Tryz.prog 165 #[.int .u8 (x.toNat : Int)] w fun e w' => e = .returned (.int .i64 (S.tz x : Int)) /\ w = w' := by
 have hi := Dv x w
 obtain ⟨m, hm⟩ : ∃ m : Nat, m = S.tz x := ⟨_, rfl⟩
 have hb : m <= 8 := by rw [hm]; exact S.tz_le x
 rw [<- hm] at hi ⊢
 have q1 : IntKind.i64.wrap (m : Int) = (m : Int) := by rw [IntKind.wrap_i64]; omega
 clear hm
 go_enter Tryz.func165, Tryz.ntmps165
 go_wp2_with (with_reducible refine ak { dst := some 4, op := Op.index 9 (Operand.const (Value.string { data := (([8, 0, 1, 0, 2, 0, 1, 0, 3, 0, 1, 0, 2, 0, 1, 0, 4, 0, 1, 0, 2, 0, 1, 0, 3, 0, 1, 0, 2, 0, 1, 0, 5, 0, 1, 0, 2, 0, 1, 0, 3, 0, 1, 0, 2, 0, 1, 0, 4, 0, 1, 0, 2, 0, 1, 0, 3, 0, 1, 0, 2, 0, 1, 0].append [6, 0, 1, 0, 2, 0, 1, 0, 3, 0, 1, 0, 2, 0, 1, 0, 4, 0, 1, 0, 2, 0, 1, 0, 3, 0, 1, 0, 2, 0, 1, 0, 5, 0, 1, 0, 2, 0, 1, 0, 3, 0, 1, 0, 2, 0, 1, 0, 4, 0, 1, 0, 2, 0, 1, 0, 3, 0, 1, 0, 2, 0, 1, 0]).append ([7, 0, 1, 0, 2, 0, 1, 0, 3, 0, 1, 0, 2, 0, 1, 0, 4, 0, 1, 0, 2, 0, 1, 0, 3, 0, 1, 0, 2, 0, 1, 0, 5, 0, 1, 0, 2, 0, 1, 0, 3, 0, 1, 0, 2, 0, 1, 0, 4, 0, 1, 0, 2, 0, 1, 0, 3, 0, 1, 0, 2, 0, 1, 0].append [6, 0, 1, 0, 2, 0, 1, 0, 3, 0, 1, 0, 2, 0, 1, 0, 4, 0, 1, 0, 2, 0, 1, 0, 3, 0, 1, 0, 2, 0, 1, 0, 5, 0, 1, 0, 2, 0, 1, 0, 3, 0, 1, 0, 2, 0, 1, 0, 4, 0, 1, 0, 2, 0, 1, 0, 3, 0, 1, 0, 2, 0, 1, 0])).toArray })) (Operand.tmp 3), type := 5, pos := "bits.go:68", after := #[{ on := 0, ground := Ground.data }], guard := none } ?_; refine iC rfl 9 _ (.tmp 3) rfl (.string S.pE) (.int .u8 (x.toNat : Int)) rfl rfl (.int .u8 (m : Int)) hi ?_)
 go_ret
 exact ⟨rfl, rfl⟩

end Go.Proofs.YteealihknndclaaGreatDoor
namespace Go.Proofs.YteealihknndclaaGreatDoor
namespace S
def recs (ns : List Nat) : List (List UInt8) := if ns = [] then [] else [aJ ns]
theorem yK {ns : List Nat} (h : ns ≠ []) : recs ns = [aJ ns] := if_neg h
structure Pgs (ss : List (List UInt8)) (p t : Nat) (ns : List Nat) (pg : Nat -> List UInt8) : Prop where
 len : 7680 <= ss.length
 mark : ss.getD 0 [] = fu
 log : Good ss 1 4 p t (recs ns)
 spare : ∀ i, i < ns.length -> bQ ss (4101 + i * 8) = pg (ns.getD i 0)
 home : ∀ m, m < 512 -> m ∉ ns -> bQ ss (5 + m * 8) = pg m
 nb : ∀ n ∈ ns, n < 512
 up : ns.Pairwise (· < ·)
 le : ns.length <= 256
 size : ∀ n, n < 512 -> (pg n).length = 1024
end S
end Go.Proofs.YteealihknndclaaGreatDoor
namespace Go.Proofs.YteealihknndclaaGreatDoor
open Go.RowKit

namespace S
structure je (d : Dk) (p t : Nat) (ns : List Nat) (xs s1 s2 s3 s4 : List (List UInt8)) : Prop where
 e1 : s1 = putAll d.safe (fun i => 4101 + i * 8) xs ns.length
 e2 : s2 = after s1 1 4 p t [] [setL ns]
 e3 : s3 = putAll s2 (homeOf ns) xs ns.length
 e4 : s4 = after s3 1 4 (1 - p) (t + 1) [setL ns] []
 c1 : Calm { d with safe := s1, pend := [] } 1 4 p t [] [setL ns]
 c2 : Calm { d with safe := s3, pend := [] } 1 4 (1 - p) (t + 1) [setL ns] []
 acts : d.acts (putActs d p t ns xs) = { d with safe := s4, pend := [] }
theorem Cb {d : Dk} {p t : Nat} {ns : List Nat} {xs : List (List UInt8)} (hp : d.pend = []) (g : Good d.safe 1 4 p t []) (ht : t + 2 < 18446744073709551616) : ∃ s1 s2 s3 s4, je d p t ns xs s1 s2 s3 s4 := by
 have fit : (enc ([] ++ [setL ns])).length <= room 4 := by
  rw [iV, setL_length]
  decide
 have g1 : Good (putAll d.safe (fun i => 4101 + i * 8) xs ns.length) 1 4 p t [] := g.stay (putAll_length _ _ _ _) (fun j _ h2 => putAll_off _ _ _ _ _ (fun i _ => Or.inl (by omega)))
 have c1 := wE (d := { d with safe := putAll d.safe (fun i => 4101 + i * 8) xs ns.length, pend := [] }) (b := setL ns) rfl g1 (by omega) fit
 rw [List.nil_append] at c1
 have g3 : Good (putAll (after (putAll d.safe (fun i => 4101 + i * 8) xs ns.length) 1 4 p t [] [setL ns]) (homeOf ns) xs ns.length) 1 4 (1 - p) (t + 1) [setL ns] := c1.good.stay (putAll_length _ _ _ _) (fun j _ h2 => putAll_off _ _ _ _ _ (fun i _ => Or.inl (by unfold homeOf; omega)))
 have c2 := xW (d := { d with safe := putAll (after (putAll d.safe (fun i => 4101 + i * 8) xs ns.length) 1 4 p t [] [setL ns]) (homeOf ns) xs ns.length, pend := [] }) rfl g3 (by omega)
 refine ⟨_, _, _, _, rfl, rfl, rfl, rfl, c1, c2, ?_⟩
 unfold putActs homeActs
 rw [Dk.acts_app, spTo_eq, pages_flushed d _ xs ns.length hp, Dk.acts_app, c1.acts, Dk.acts_app, pages_flushed _ _ xs ns.length rfl, c2.acts]
theorem je.off {d : Dk} {p t : Nat} {ns : List Nat} {xs s1 s2 s3 s4 : List (List UInt8)} (h : je d p t ns xs s1 s2 s3 s4) (j : Nat) (hj : j < 1 \/ 5 <= j) : s4.getD j [] = s3.getD j [] /\ s2.getD j [] = s1.getD j [] := by
 have m1 := h.c1.may
 have m2 := h.c2.may
 rw [h.e4, h.e2]
 exact ⟨m2.stay j hj, m1.stay j hj⟩
theorem je.len {d : Dk} {p t : Nat} {ns : List Nat} {xs s1 s2 s3 s4 : List (List UInt8)} (h : je d p t ns xs s1 s2 s3 s4) : s1.length = d.safe.length /\ s2.length = d.safe.length /\ s3.length = d.safe.length /\ s4.length = d.safe.length := by
 have m1 := h.c1.may.len
 have m2 := h.c2.may.len
 have a : s1.length = d.safe.length := by rw [h.e1]; exact putAll_length _ _ _ _
 have b : s2.length = d.safe.length := by rw [h.e2, m1]; exact a
 have c : s3.length = d.safe.length := by rw [h.e3, putAll_length]; exact b
 exact ⟨a, b, c, by rw [h.e4, m2]; exact c⟩
theorem je.mark {d : Dk} {p t : Nat} {ns : List Nat} {xs s1 s2 s3 s4 : List (List UInt8)} (h : je d p t ns xs s1 s2 s3 s4) : s4.getD 0 [] = d.safe.getD 0 [] := by
 rw [(h.off 0 (Or.inl (by omega))).1, h.e3, putAll_off _ _ _ _ _ (fun i _ => Or.inl (by unfold homeOf; omega)), (h.off 0 (Or.inl (by omega))).2, h.e1, putAll_off _ _ _ _ _ (fun i _ => Or.inl (by omega))]
theorem je.home {d : Dk} {p t : Nat} {ns : List Nat} {X : Nat -> List UInt8} {s1 s2 s3 s4 : List (List UInt8)} (h : je d p t ns (ns.map X) s1 s2 s3 s4) (hl : 7680 <= d.safe.length) (hn : ∀ n ∈ ns, n < 512) (hpw : ns.Pairwise (· < ·)) (hx : ∀ n ∈ ns, (X n).length = 1024) (m : Nat) (hm : m < 512) : ik s4 (5 + m * 8) = if m ∈ ns then X m else ik d.safe (5 + m * 8) := by
 have e4 : ik s4 (5 + m * 8) = ik s3 (5 + m * 8) := secs_cong (fun j h1 h2 => (h.off j (Or.inr (by omega))).1)
 have e2 : ik s2 (5 + m * 8) = ik s1 (5 + m * 8) := secs_cong (fun j h1 h2 => (h.off j (Or.inr (by omega))).2)
 have hl2 := h.len.2.1
 rw [e4, h.e3]
 by_cases e : m ∈ ns
 ·rw [if_pos e]
  obtain ⟨i, hi, rfl⟩ := List.mem_iff_getElem.1 e
  have hg : ns.getD i 0 = ns[i] := by rw [List.getD_eq_getElem?_getD, List.getElem?_eq_getElem hi]; rfl
  have := putAll_page s2 (homeOf ns) (ns.map X) ns.length (fun i hi => by have := getD_lt hn i hi; unfold homeOf; omega) (fun i hi => by rw [map_getD X ns i hi]; exact hx _ (by rw [List.getD_eq_getElem?_getD, List.getElem?_eq_getElem hi]; exact List.getElem_mem hi)) (fun i j hi hj hij => apart ns hpw i j hi hj hij) i hi
  rw [map_getD X ns i hi, homeOf, hg] at this
  exact this
 ·rw [if_neg e, putAll_other _ _ _ _ _ (fun i hi => by
   have hne : ns.getD i 0 ≠ m := fun e' => e (by rw [<- e', List.getD_eq_getElem?_getD, List.getElem?_eq_getElem hi]; exact List.getElem_mem hi)
   unfold homeOf
   omega), e2, h.e1, putAll_other _ _ _ _ _ (fun i _ => Or.inl (by omega))]
end S
theorem pput_go (w0 w : World) (o : Ow) (d : S.Dk) (p t gs b off cap : Nat) (l : List ShV) (pg X : Nat -> List UInt8) (h : Pg w0 w o d p t pg) (hs : kE w gs o) (h0 : ∀ j u, (l.flatMap dx)[j]? = some u -> w.cell? ⟨b, off + j, none⟩ = some u) (hd : l ≠ []) (hl : l.length <= 256) (hp : ∀ x ∈ l, ShOk w o X x) (hn : (l.map (·.1)).Nodup) (hgs : ¬ o.has gs) (ht : t + 2 < 18446744073709551616) :
  Calls Tryz.prog 45 #[.pointer (some ⟨gs, 0, none⟩), .slice (some ⟨b, off, none⟩) l.length cap] w fun e w' => e = .returned (.int .i64 0) /\ ∃ o' d', o'.g = o.g /\ Pg w0 w' o' d' p (t + 2) (fun m => if m ∈ S.pgs l then X m else pg m) /\ kE w' gs o' /\ Chg o.has w w' /\ ∀ k, o'.has k -> o.has k \/ w.heap.size <= k := by
 have hpp := h.log.place
 refine (pput_any w0 w o d p t gs b off cap l pg X h.n hs h0 hd hl hp hn hgs ht).mono ?_
 rintro e w' ⟨bb, d', o', ns, rfl, hpm, hup, pa⟩
 have pl := S.Dk.plan_goes (S.putActs d p t ns (ns.map X)) d h.left
 rw [pa.plan] at pl
 obtain ⟨hb, hd'⟩ := pl
 simp only at hb hd'
 subst hb
 obtain ⟨s1, s2, s3, s4, pc⟩ := S.Cb (ns := ns) (xs := ns.map X) h.pend h.log ht
 rw [pc.acts] at hd'
 have mem : ∀ m, m ∈ ns ↔ m ∈ S.pgs l := fun m => hpm.mem_iff
 have inl : ∀ n ∈ ns, ∃ x ∈ l, n = x.1.toNat := fun n hn => by
  obtain ⟨x, hx, e⟩ := List.mem_map.1 ((mem n).1 hn)
  exact ⟨x, hx, e.symm⟩
 have hn5 : ∀ n ∈ ns, n < 512 := fun n hn => by
  obtain ⟨x, hx, rfl⟩ := inl n hn
  have := (hp x hx).hi
  have := (hp x hx).lo
  omega
 have hx1 : ∀ n ∈ ns, (X n).length = 1024 := fun n hn => by
  obtain ⟨x, hx, rfl⟩ := inl n hn
  exact (hp x hx).size
 have y7 : d'.safe = s4 := by rw [hd']
 refine ⟨rfl, o', d', pa.ptr, ⟨pa.dk, by rw [hd'], by rw [hd']; exact h.left, by rw [y7, pc.len.2.2.2]; exact h.len, by rw [y7, pc.mark]; exact h.mark, ?_, fun m hm => ?_, pa.ob, pa.below, h.pos⟩, pa.st, pa.chg, pa.own⟩
 ·have := pc.c2.good
  rw [<- pc.e4, show 1 - (1 - p) = p by omega] at this
  rw [y7]
  exact this
 ·rw [y7, pc.home h.len hn5 hup hx1 m hm]
  by_cases e : m ∈ ns
  ·rw [if_pos e, if_pos ((mem m).1 e)]
  ·rw [if_neg e, if_neg (fun e' => e ((mem m).2 e'))]
   exact h.home m hm
end Go.Proofs.YteealihknndclaaGreatDoor
namespace Go.Proofs.YteealihknndclaaGreatDoor
namespace S
def ones (x : UInt8) : Nat := (if x.toNat.testBit 0 then 1 else 0) + (if x.toNat.testBit 1 then 1 else 0) + (if x.toNat.testBit 2 then 1 else 0) + (if x.toNat.testBit 3 then 1 else 0) + (if x.toNat.testBit 4 then 1 else 0) + (if x.toNat.testBit 5 then 1 else 0) + (if x.toNat.testBit 6 then 1 else 0) + (if x.toNat.testBit 7 then 1 else 0)
def cnt (s : List UInt8) : Nat := (s.map ones).sum
theorem yQ : ∀ (r : Fin 8) (x : Fin 256), x.val.testBit r.val = false -> ones (UInt8.ofNat x.val ||| UInt8.ofNat (2 ^ r.val)) = ones (UInt8.ofNat x.val) + 1 := by decide +kernel
theorem yE (l : List Nat) (i y : Nat) (h : i < l.length) : (l.set i y).sum + l.getD i 0 = l.sum + y := by
 induction l generalizing i with
 | nil => simp at h
 | cons a l ih =>
  cases i with
  | zero => simp; omega
  | succ i =>
   have := ih i (by simpa using h)
   simp [List.getD_eq_getElem?_getD] at this ⊢
   omega
theorem Ba (s : List UInt8) (n : Nat) (hs : s.length = 64) (hn : n < 512) (hb : bit s n = false) : cnt (orBit s n) = cnt s + 1 := by
 have hi : n / 8 < (s.map ones).length := by rw [List.length_map]; omega
 have hx : (s.map ones).getD (n / 8) 0 = ones (s.getD (n / 8) 0) := by
  rw [List.getD_eq_getElem?_getD, List.getD_eq_getElem?_getD, List.getElem?_map, List.getElem?_eq_getElem (by omega)]
  rfl
 have h := yE (s.map ones) (n / 8) (ones (s.getD (n / 8) 0 ||| UInt8.ofNat (2 ^ (n % 8)))) hi
 rw [zn, <- Nat.testBit_eq_decide_div_mod_eq] at hb
 have ho := yQ ⟨n % 8, Nat.mod_lt _ (by omega)⟩ ⟨(s.getD (n / 8) 0).toNat, (s.getD (n / 8) 0).toNat_lt⟩ hb
 simp only [UInt8.ofNat_toNat] at ho
 rw [hx, ho] at h
 unfold cnt orBit
 rw [List.map_set, ho]
 omega
theorem AY : cnt (zeros 64) = 0 := by decide +kernel
theorem Bb (ns : List Nat) (s : List UInt8) (hs : s.length = 64) (h : ∀ n ∈ ns, n < 512 /\ bit s n = false) (hd : ns.Pairwise (· < ·)) : cnt (ns.foldl orBit s) = cnt s + ns.length := by
 induction ns generalizing s with
 | nil => rfl
 | cons n r ih =>
  rw [List.pairwise_cons] at hd
  have hn := h n List.mem_cons_self
  rw [List.foldl_cons, ih (orBit s n) (by rw [orBit_length]; exact hs) (fun m hm => ?_) hd.2, Ba s n hs hn.1 hn.2, List.length_cons]
  ·omega
  ·have hm' := h m (List.mem_cons_of_mem _ hm)
   refine ⟨hm'.1, ?_⟩
   rw [bit_orBit s hs n m hn.1, hm'.2, Bool.false_or]
   have := hd.1 m hm
   exact decide_eq_false (by omega)
theorem Dj (ns : List Nat) (h : ∀ n ∈ ns, n < 512) (hd : ns.Pairwise (· < ·)) : cnt (setL ns) = ns.length := by
 unfold setL
 rw [Bb ns _ (zeros_length _) (fun n hn => ⟨h n hn, Bg n⟩) hd, AY, Nat.zero_add]
end S
end Go.Proofs.YteealihknndclaaGreatDoor
namespace Go.Proofs.YteealihknndclaaGreatDoor
open Go.RowKit

namespace S
def gy : List UInt8 := [112, 97, 103, 101, 115, 32, 116, 104, 97, 116, 32, 97, 114, 101, 32, 112, 117, 116, 32, 116, 111, 103, 101, 116, 104, 101, 114, 32, 46, 46, 46, 32, 112, 97, 103, 101, 115, 32, 116, 104, 97, 116, 32, 97, 114, 101, 32, 112, 117, 116, 32, 116, 111, 103, 101, 116, 104, 101, 114, 32, 46, 46, 46, 32].append [112, 97, 103, 101, 115, 32, 116, 104, 97, 116, 32, 97, 114, 101, 32, 112, 117, 116, 32, 116, 111, 103, 101, 116, 104, 101, 114, 32, 46, 46, 46, 32, 112, 97, 103, 101, 115, 32, 116, 104, 97, 116, 32, 97, 114, 101, 32, 112, 117, 116, 32, 116, 111, 103, 101, 116, 104, 101, 114, 32, 46, 46, 46, 32]
set_option maxRecDepth 100000 in
theorem eZ : gy.length = 128 := rfl
end S
theorem pq {fn : Func} {p u v : Tmp} {ty : TypeId} (h : fn.results = #[.tmp u, .cell p ty, .tmp v]) (tmps : Array Value) (w : World) (g : Nat) (x : Value)
  (hp : tmps.getD p undef = .pointer (some ⟨g, 0, none⟩)) (hl : (loadVar ty ⟨g, 0, none⟩).run Tryz.prog w = .ok x w) :
  (results fn tmps).run Tryz.prog w = .ok (.tuple #[tmps.getD u undef, x, tmps.getD v undef]) w := by
 have hp' : tmps[p]?.getD undef = .pointer (some ⟨g, 0, none⟩) := by simpa using hp
 simp [results, h, hp', asAddr, hl]
theorem iR {ops : Array Oper} {T : World -> Prop} {op : Oper} {a : Act} (hw : Region.wanted op (yielded ops a.tmps) = true) (x : Operand) (ho : op.op = .load 149 x) (g : Nat) (hx : a.eval x = .pointer (some ⟨g, 0, none⟩)) {xs : List UInt8} (hl : xs.length = 64) (hS : ∀ w, T w -> w.heap[g]? = some (.cells (S.v8 xs) 149 (0, 0))) : YieldsIf Tryz.prog ops T op (.agg (S.v8 xs)) a :=
 Or.inl ⟨hw, fun w hw' => by
  unfold execOp
  simp only [ho, Sem.run_bind, hx, kX (hS w hw') hl, Result.andThen_ok, Sem.run_pure]⟩
structure Pg (w0 w : World) (o : Ow) (d : S.Dk) (p t : Nat) (pg : Nat -> List UInt8) : Prop where
 dk : Dsk w o d
 pend : d.pend = []
 left : d.left = none
 len : 7680 <= d.safe.length
 mark : d.safe.getD 0 [] = S.gy
 log : S.Good d.safe 1 4 p t []
 home : ∀ n, n < 512 -> S.ik d.safe (5 + n * 8) = pg n
 ob : ∀ k, o.has k -> w0.heap.size <= k
 below : Below w0.heap.size w0 w
 pos : 1 < w0.heap.size
theorem Pg.then {w0 w W : World} {o : Ow} {d : S.Dk} {p t : Nat} {pg : Nat -> List UInt8} (h : Pg w0 w o d p t pg) (hb : Below w.heap.size w W) : Pg w0 W o d p t pg :=
 ⟨h.dk.below hb, h.pend, h.left, h.len, h.mark, h.log, h.home, h.ob, h.below.trans (hb.mono h.below.size), h.pos⟩
theorem Pg.seen {w0 w : World} {o : Ow} {d : S.Dk} {p t : Nat} {pg : Nat -> List UInt8} (h : Pg w0 w o d p t pg) : d.seen = d.safe := S.Dk.seen_flushed d h.pend
set_option maxHeartbeats 4000000 in
set_option maxRecDepth 10000 in
theorem look_go (w0 w : World) (o : Ow) (d : S.Dk) (p t : Nat) (pg : Nat -> List UInt8) (h : Pg w0 w o d p t pg) :
  Calls Tryz.prog 71 #[o.ptr] w fun e w' => ∃ g tv, e = .returned (.tuple #[.pointer (some ⟨g, 0, none⟩), .agg (S.v8 (S.zeros 64)), .int .i64 0]) /\ Lo w0 w' o d g 1 4 p t [] tv /\ w.heap.size <= g /\ (∀ k, tv.ownBlock = some k -> w.heap.size <= k) /\ Below w.heap.size w w' := by
 have kK := iO w
 obtain ⟨w1, hw1⟩ : ∃ w1, w1 = w.alloc (.cells (S.v8 (S.zeros 64)) 149) := ⟨_, rfl⟩
 have b1 : Below w.heap.size w w1 := by rw [hw1]; exact ba ..
 have r1 : w1.heap[w.heap.size]? = some (.cells (S.v8 (S.zeros 64)) 149 (0, 0)) := by rw [hw1]; exact heap_alloc_new _ _
 rw [<- hw1] at kK
 obtain ⟨g3, hg3⟩ : ∃ g3, g3 = w.heap.size := ⟨_, rfl⟩
 rw [<- hg3] at kK r1
 have R1 := hide r1
 have B1 := hide b1
 have P1 := hide (h.then b1)
 have HLT : Hid (∀ k, o.has k -> k < g3) := fun k hk => by rw [hg3]; exact h.dk.dk.lt k hk
 have HG3 : Hid (w.heap.size <= g3) := by rw [hg3]; exact lr _
 have HG3e : Hid (g3 = w.heap.size) := hg3
 have HW0 : Hid (w0.heap.size <= w.heap.size) := h.below.size
 clear b1 r1 hw1 hg3 h
 go_enter Tryz.func71, Tryz.ntmps71
 go_wp2_with (with_reducible refine aD ⟨some 3, .alloc 149, 0, "place.go:70", #[], none⟩ ?_; refine aA rfl 149 rfl (.pointer (some ⟨g3, 0, none⟩)) w1 kK ?_)
 clear kK
 refine (kQ o d 0 w1 P1.out.dk.dk (by have := P1.out.len; omega)).mono ?_
 rintro e w2 ⟨rfl, hr2, b2⟩
 rw [P1.out.seen, P1.out.mark] at hr2
 have cv := fB (aG (n := 128) hr2 S.eZ.symm (by rw [S.eZ]; omega))
 have P2 := hide (P1.out.then b2)
 have R2 : Hid (w2.heap[g3]? = some (.cells (S.v8 (S.zeros 64)) 149 (0, 0))) := (b2.block g3 (ae R1.out)).trans R1.out
 have B2 := hide (B1.out.trans (b2.mono B1.out.size))
 have hq : S.gy = [112, 97, 103, 101, 115, 32, 116, 104, 97, 116, 32, 97, 114, 101, 32, 112, 117, 116, 32, 116, 111, 103, 101, 116, 104, 101, 114, 32, 46, 46, 46, 32, 112, 97, 103, 101, 115, 32, 116, 104, 97, 116, 32, 97, 114, 101, 32, 112, 117, 116, 32, 116, 111, 103, 101, 116, 104, 101, 114, 32, 46, 46, 46, 32].append [112, 97, 103, 101, 115, 32, 116, 104, 97, 116, 32, 97, 114, 101, 32, 112, 117, 116, 32, 116, 111, 103, 101, 116, 104, 101, 114, 32, 46, 46, 46, 32, 112, 97, 103, 101, 115, 32, 116, 104, 97, 116, 32, 97, 114, 101, 32, 112, 117, 116, 32, 116, 111, 103, 101, 116, 104, 101, 114, 32, 46, 46, 46, 32] := rfl
 clear hr2 b2 R1 B1 P1
 go_wp2_with fail
 clear cv hq
 refine (yP w0 w2 o d 1 4 p t [] P2.out.dk P2.out.pend P2.out.log P2.out.ob P2.out.below P2.out.pos).mono ?_
 rintro e w4 ⟨g, tv, rfl, hlo, hgb, htb, b4⟩
 have LO4 := hide hlo
 have G4 : Hid (g3 < g /\ w.heap.size <= g /\ (∀ k, tv.ownBlock = some k -> g3 < k /\ w.heap.size <= k)) := by
  have h1 := ae R2.out
  have h2 := HG3e.out
  exact ⟨by omega, by omega, fun k hk => by have := htb k hk; exact ⟨by omega, by omega⟩⟩
 have R4 : Hid (w4.heap[g3]? = some (.cells (S.v8 (S.zeros 64)) 149 (0, 0))) := (b4.block g3 (ae R2.out)).trans R2.out
 have B4 := hide (B2.out.trans (b4.mono B2.out.size))
 clear hlo hgb htb b4 R2 B2 P2
 go_wp2_with fail
 refine (qH w0 w4 o d g 1 4 p t [] tv LO4.out (by simp)).mono ?_
 rintro e w5 ⟨lv, us, rfl, hrec, b5⟩
 obtain ⟨al, cl, hlv⟩ := hrec.lists.shape
 subst hlv
 have hul : us.length = 0 := hrec.copies.len
 rw [hul]
 have LO5 := hide (LO4.out.then b5)
 have R5 : Hid (w5.heap[g3]? = some (.cells (S.v8 (S.zeros 64)) 149 (0, 0))) := (b5.block g3 (ae R4.out)).trans R4.out
 have B5 := hide (B4.out.trans (b5.mono B4.out.size))
 clear hrec b5 hul LO4 R4 B4
 go_wp2_with fail
 refine (zJ al cl w5).mono ?_
 rintro e w6 ⟨rfl, b6⟩
 have LO6 := hide (LO5.out.then b6)
 have R6 : Hid (w6.heap[g3]? = some (.cells (S.v8 (S.zeros 64)) 149 (0, 0))) := (b6.block g3 (ae R5.out)).trans R5.out
 have B6 := hide (B5.out.trans (b6.mono B5.out.size))
 clear b6 LO5 R5 B5
 have jo := iO w6
 obtain ⟨w9, qY, r9, b9⟩ := uK w6 (S.zeros 64) (S.zeros_length _)
 have R9 := hide r9
 have LO9 := hide (LO6.out.then b9)
 have R39 : Hid (w9.heap[g3]? = some (.cells (S.v8 (S.zeros 64)) 149 (0, 0))) := (b9.block g3 (ae R6.out)).trans R6.out
 have B9 := hide (B6.out.trans (b9.mono B6.out.size))
 have h36 := ae R6.out
 have N93 : Hid (¬ w6.heap.size = g3) := fun e => by omega
 have NG3 : Hid (∀ k, (o.has k \/ k = g \/ tv.ownBlock = some k \/ k < w0.heap.size) -> ¬ k = g3) := fun k hk e => by
  subst e
  rcases hk with hk | hk | hk | hk
  ·exact absurd (HLT.out _ hk) (Nat.lt_irrefl _)
  ·have := G4.out.1; omega
  ·have := (G4.out.2.2 _ hk).1; omega
  ·have := HW0.out; have := HG3.out; omega
 obtain ⟨w7, hw7⟩ : ∃ w7, w7 = w6.alloc (.cells (S.v8 (S.zeros 64)) 149) := ⟨_, rfl⟩
 rw [<- hw7] at jo qY
 obtain ⟨g9, hg9⟩ : ∃ g9, g9 = w6.heap.size := ⟨_, rfl⟩
 rw [<- hg9] at jo qY R9 N93
 clear r9 b9 h36 LO6 R6 B6 hg9 hw7
 go_upto_region 10 with (first | (with_reducible refine aD ⟨some 9, .alloc 149, 0, "place.go:78", #[], none⟩ ?_; refine aA rfl 149 rfl (.pointer (some ⟨g9, 0, none⟩)) w7 jo ?_) | (with_reducible refine aD ⟨none, .store 149 (.tmp 9) (.tmp 33), 0, "place.go:78", #[{ on := 6, ground := Ground.data }, { on := 4, ground := Ground.data }, { on := 2, ground := Ground.chain }, { on := 0, ground := Ground.phase }, { on := 1, ground := Ground.phase }, { on := 2, ground := Ground.phase }, { on := 3, ground := Ground.phase }, { on := 4, ground := Ground.phase }, { on := 5, ground := Ground.textOnly Departure.lateStores }, { on := 6, ground := Ground.phase }], none⟩ ?_; refine aB rfl 149 (.tmp 9) (.tmp 33) rfl (.pointer (some ⟨g9, 0, none⟩)) (.agg (S.v8 (S.zeros 64))) rfl rfl w9 qY ?_))
 clear jo qY
 refine wp_region_noPanic ?_
 refine wp_region_held_drew (S := (fun W => W.heap[g9]? = some (.cells (S.v8 (S.zeros 64)) 149 (0, 0)))) follows R9.out (fun hHeld => ?_)
 have LOd := hide (LO9.out.then (Below.refl w9.heap.size w9).drew)
 have B9d : Hid (Below w.heap.size w w9.drew) := B9.out.drew
 have R3d : Hid (w9.drew.heap[g3]? = some (.cells (S.v8 (S.zeros 64)) 149 (0, 0))) := R39.out
 clear LO9 B9 R9 R39
 generalize w9.drew = Z1 at LOd B9d R3d hHeld ⊢
 refine tq 0 ?_
 simp only [uA]
 refine wpAnyH_take (i := 1) (oi := ⟨_, _, _, _, _, _⟩) (v := .agg (S.v8 (S.zeros 64))) rfl (by kernel_rfl) (by kernel_rfl) (by kernel_rfl) (fun _ _ _ h => h) (iR (by kernel_rfl) (.tmp 9) rfl g9 rfl (S.zeros_length _) (fun W hW => hW)) (by assumption) ?_
 simp only [uA]
 refine tq 2 ?_
 simp only [uA]
 obtain ⟨Z2, hst, r3, c3⟩ := mJ (ys := S.zeros 64) R3d.out (S.zeros_length _) (S.zeros_length _)
 have R3 := hide r3
 have LO2 : Hid (Lo w0 Z2 o d g 1 4 p t [] tv) := LOd.out.chg c3 NG3.out
 have B2 : Hid (Below w.heap.size w Z2) := B9d.out.trans (c3.base B9d.out.size HG3.out)
 have a2 : Z2.heap[g9]? = some (.cells (S.v8 (S.zeros 64)) 149 (0, 0)) := c3.row hHeld N93.out
 refine rdy [3] ?_
 refine eQ (o := ⟨_, _, _, _, _, _⟩) rfl rfl 149 (.tmp 3) (.tmp 39) rfl Z2 hst AllReadyH.nil ⟨a2, fun hHeld => ?_⟩
 simp only [Act.put]
 clear hst r3 c3 LOd B9d R3d a2
 refine tq 4 ?_
 simp only [uA]
 refine wpAnyH_done (by kernel_rfl) ?_ _
 refine NoPanic.normal ?_
 clear hHeld
 go_wp2_with fail
 refine bodyPost_ret (pq Tryz.results71 _ _ g3 (.agg (S.v8 (S.zeros 64))) rfl (lL R3.out (S.zeros_length _))) rfl ⟨g, tv, rfl, LO2.out, G4.out.2.1, fun k hk => (G4.out.2.2 k hk).2, B2.out⟩
end Go.Proofs.YteealihknndclaaGreatDoor
namespace Go.Proofs.YteealihknndclaaGreatDoor
open Go.RowKit

def kE (w : World) (gs : Nat) (o : Ow) : Prop := w.heap[gs]? = some (.cells #[.pointer (some ⟨o.g, 0, none⟩)] 153 (0, 0))
theorem uh {w : World} {gs : Nat} {v : Value} (h : w.heap[gs]? = some (.cells #[v] 153 (0, 0))) : w.cell? ⟨gs, 0, none⟩ = some v := by
 rw [cell_of_row w gs 0 _ 153 (0, 0) h]; rfl
namespace S
theorem Bg (n : Nat) : bit (zeros 64) n = false := by
 rw [zn]
 have : (zeros 64).getD (n / 8) 0 = 0 := by
  rw [List.getD_eq_getElem?_getD]
  unfold zeros
  rw [List.getElem?_replicate]
  split <;> rfl
 rw [this]
 simp
end S
set_option maxHeartbeats 4000000 in
set_option maxRecDepth 10000 in
theorem Cc (w0 w : World) (o : Ow) (d : S.Dk) (p t : Nat) (pg : Nat -> List UInt8) (h : Pg w0 w o d p t pg) :
  Calls Tryz.prog 41 #[o.ptr] w fun e w' => ∃ gs, e = .returned (.tuple #[.pointer (some ⟨gs, 0, none⟩), .int .i64 0]) /\ kE w' gs o /\ w.heap.size <= gs /\ Pg w0 w' o d p t pg /\ Below w.heap.size w w' := by
 have P0 := hide h
 clear h
 go_enter Tryz.func41, Tryz.ntmps41
 go_wp2_with fail
 refine (wy o d w P0.out.dk.dk P0.out.len).mono ?_
 rintro e w1 ⟨rfl, rfl⟩
 go_wp2_with fail
 refine (oV o d w P0.out.dk.dk P0.out.pend).mono ?_
 rintro e w1 ⟨rfl, rfl⟩
 go_wp2_with fail
 refine (look_go w0 w o d p t pg P0.out).mono ?_
 rintro e w1 ⟨g, tv, rfl, hlo, hgb, htb, b1⟩
 have P1 := hide (P0.out.then b1)
 have B1 := hide b1
 clear hlo hgb htb b1 P0
 have hal := iO w1
 obtain ⟨w3, hst, r3, b3⟩ := uK w1 (S.zeros 64) (S.zeros_length _)
 have P3 := hide (P1.out.then b3)
 have B3 := hide (B1.out.trans (b3.mono B1.out.size))
 obtain ⟨w2, hw2⟩ : ∃ w2, w2 = w1.alloc (.cells (S.v8 (S.zeros 64)) 149) := ⟨_, rfl⟩
 rw [<- hw2] at hal hst
 obtain ⟨g2, hg2⟩ : ∃ g2, g2 = w1.heap.size := ⟨_, rfl⟩
 rw [<- hg2] at hal hst
 obtain ⟨Z, hZ⟩ : ∃ Z, Z = S.v8 (S.zeros 64) := ⟨_, rfl⟩
 rw [<- hZ] at hst ⊢
 have kg : o.ptr = .pointer (some ⟨o.g, 0, none⟩) := rfl
 rw [kg]
 obtain ⟨w4, hw4⟩ : ∃ w4, w4 = w3.alloc (.cells #[.pointer (some ⟨o.g, 0, none⟩)] 153) := ⟨_, rfl⟩
 have b4 : Below w3.heap.size w3 w4 := by rw [hw4]; exact ba ..
 have R4 : Hid (kE w4 w3.heap.size o) := by rw [hw4]; exact heap_alloc_new _ _
 have P4 := hide (P3.out.then b4)
 have B4 := hide (B3.out.trans (b4.mono B3.out.size))
 have HG : Hid (w.heap.size <= w3.heap.size) := B3.out.size
 clear r3 b3 b4 hw2 hg2 hZ P1 B1 P3 B3 kg
 go_wp2_with (first | (with_reducible refine aD ⟨some 6, .alloc 149, 0, "pages.go:49", #[], none⟩ ?_; refine aA rfl 149 rfl (.pointer (some ⟨g2, 0, none⟩)) w2 hal ?_) | (with_reducible refine aD ⟨none, .store 149 (.tmp 6) (.tmp 20), 0, "pages.go:49", #[{ on := 6, ground := Ground.data }, { on := 4, ground := Ground.data }, { on := 7, ground := Ground.chain }, { on := 0, ground := Ground.phase }, { on := 1, ground := Ground.phase }, { on := 2, ground := Ground.phase }, { on := 3, ground := Ground.phase }, { on := 4, ground := Ground.phase }, { on := 5, ground := Ground.textOnly Departure.lateStores }, { on := 6, ground := Ground.phase }, { on := 7, ground := Ground.phase }], none⟩ ?_; refine aB rfl 149 (.tmp 6) (.tmp 20) rfl (.pointer (some ⟨g2, 0, none⟩)) (.agg Z) rfl rfl w3 hst ?_))
 rw [<- hw4]
 go_ret2
 exact ⟨w3.heap.size, rfl, R4.out, HG.out, P4.out, B4.out⟩
theorem kH {w : World} {ops : Array Oper} {rest : List Oper} {o : Oper} {a : Act} {Q : Exit -> Act -> World -> Prop} (hgd : o.guard = none) (t : TypeId) (x y : Operand) (ho : o.op = .index t x y) (vx vy : Value) (hx : a.eval x = vx) (hy : a.eval y = vy) (v : Value)
  (hr : (Instr.index t vx vy).run Tryz.prog w = .ok v w) (h : wpList Tryz.prog ops Q rest (a.put o.dst v) w) : wpList Tryz.prog ops Q (o :: rest) a w := by
 subst hx hy
 exact wpList_plain hgd fun _ hK => by
  unfold Oper.wp execOp
  simp only [ho, Sem.run_bind, hr, Result.andThen_ok]
  exact hK _ _ h
namespace S
theorem uz (x : UInt8) : ones x <= 8 := by
 have h : ∀ b : Bool, (if b = true then 1 else 0) <= 1 := by decide
 unfold ones
 have h0 := h (x.toNat.testBit 0)
 have h1 := h (x.toNat.testBit 1)
 have h2 := h (x.toNat.testBit 2)
 have h3 := h (x.toNat.testBit 3)
 have h4 := h (x.toNat.testBit 4)
 have h5 := h (x.toNat.testBit 5)
 have h6 := h (x.toNat.testBit 6)
 have h7 := h (x.toNat.testBit 7)
 omega
def j5 : ByteArray := { data := (([0, 1, 1, 2, 1, 2, 2, 3, 1, 2, 2, 3, 2, 3, 3, 4, 1, 2, 2, 3, 2, 3, 3, 4, 2, 3, 3, 4, 3, 4, 4, 5, 1, 2, 2, 3, 2, 3, 3, 4, 2, 3, 3, 4, 3, 4, 4, 5, 2, 3, 3, 4, 3, 4, 4, 5, 3, 4, 4, 5, 4, 5, 5, 6].append [1, 2, 2, 3, 2, 3, 3, 4, 2, 3, 3, 4, 3, 4, 4, 5, 2, 3, 3, 4, 3, 4, 4, 5, 3, 4, 4, 5, 4, 5, 5, 6, 2, 3, 3, 4, 3, 4, 4, 5, 3, 4, 4, 5, 4, 5, 5, 6, 3, 4, 4, 5, 4, 5, 5, 6, 4, 5, 5, 6, 5, 6, 6, 7]).append ([1, 2, 2, 3, 2, 3, 3, 4, 2, 3, 3, 4, 3, 4, 4, 5, 2, 3, 3, 4, 3, 4, 4, 5, 3, 4, 4, 5, 4, 5, 5, 6, 2, 3, 3, 4, 3, 4, 4, 5, 3, 4, 4, 5, 4, 5, 5, 6, 3, 4, 4, 5, 4, 5, 5, 6, 4, 5, 5, 6, 5, 6, 6, 7].append [2, 3, 3, 4, 3, 4, 4, 5, 3, 4, 4, 5, 4, 5, 5, 6, 3, 4, 4, 5, 4, 5, 5, 6, 4, 5, 5, 6, 5, 6, 6, 7, 3, 4, 4, 5, 4, 5, 5, 6, 4, 5, 5, 6, 5, 6, 6, 7, 4, 5, 5, 6, 5, 6, 6, 7, 5, 6, 6, 7, 6, 7, 7, 8])).toArray }
theorem xy : ∀ n : Fin 256, (j5.get! n.val).toNat = ones (UInt8.ofNat n.val) := by decide +kernel
theorem uE : j5.size = 256 := by decide +kernel
end S
set_option maxRecDepth 10000 in
theorem xx (x : UInt8) (W : World) : (Instr.index 9 (.string S.j5) (.int .u8 (x.toNat : Int))).run Tryz.prog W = .ok (.int .u8 (S.ones x : Int)) W := by
 rw [run_index_string (P := Tryz.prog) (w := W) 9 S.j5 .u8 (x.toNat : Int) Tryz.underlying9]
 have hx := x.toNat_lt
 have hs := S.uE
 have h0 : 0 <= (x.toNat : Int) /\ (x.toNat : Int) < S.j5.size := ⟨by omega, by omega⟩
 rw [dif_pos h0]
 have h := S.xy ⟨x.toNat, hx⟩
 simp only [UInt8.ofNat_toNat] at h
 congr 2
 rw [<- h]
 have hl : x.toNat < S.j5.size := by omega
 simp [ByteArray.get!, getElem!_pos, hl]
 rfl
set_option maxRecDepth 10000 in
theorem Ck (x : UInt8) (w : World) : Calls Tryz.prog 188 #[.int .u8 (x.toNat : Int)] w fun e w' => e = .returned (.int .i64 (S.ones x : Int)) /\ w = w' := by
 have hi := xx x w
 obtain ⟨m, hm⟩ : ∃ m : Nat, m = S.ones x := ⟨_, rfl⟩
 have hb : m <= 8 := by rw [hm]; exact S.uz x
 rw [<- hm] at hi ⊢
 have q1 : IntKind.i64.wrap (m : Int) = (m : Int) := by rw [IntKind.wrap_i64]; omega
 clear hm
 go_enter Tryz.func188, Tryz.ntmps188
 go_wp2_with (with_reducible refine aD { dst := some 4, op := Op.index 9 (Operand.const (Value.string { data := (([0, 1, 1, 2, 1, 2, 2, 3, 1, 2, 2, 3, 2, 3, 3, 4, 1, 2, 2, 3, 2, 3, 3, 4, 2, 3, 3, 4, 3, 4, 4, 5, 1, 2, 2, 3, 2, 3, 3, 4, 2, 3, 3, 4, 3, 4, 4, 5, 2, 3, 3, 4, 3, 4, 4, 5, 3, 4, 4, 5, 4, 5, 5, 6].append [1, 2, 2, 3, 2, 3, 3, 4, 2, 3, 3, 4, 3, 4, 4, 5, 2, 3, 3, 4, 3, 4, 4, 5, 3, 4, 4, 5, 4, 5, 5, 6, 2, 3, 3, 4, 3, 4, 4, 5, 3, 4, 4, 5, 4, 5, 5, 6, 3, 4, 4, 5, 4, 5, 5, 6, 4, 5, 5, 6, 5, 6, 6, 7]).append ([1, 2, 2, 3, 2, 3, 3, 4, 2, 3, 3, 4, 3, 4, 4, 5, 2, 3, 3, 4, 3, 4, 4, 5, 3, 4, 4, 5, 4, 5, 5, 6, 2, 3, 3, 4, 3, 4, 4, 5, 3, 4, 4, 5, 4, 5, 5, 6, 3, 4, 4, 5, 4, 5, 5, 6, 4, 5, 5, 6, 5, 6, 6, 7].append [2, 3, 3, 4, 3, 4, 4, 5, 3, 4, 4, 5, 4, 5, 5, 6, 3, 4, 4, 5, 4, 5, 5, 6, 4, 5, 5, 6, 5, 6, 6, 7, 3, 4, 4, 5, 4, 5, 5, 6, 4, 5, 5, 6, 5, 6, 6, 7, 4, 5, 5, 6, 5, 6, 6, 7, 5, 6, 6, 7, 6, 7, 7, 8])).toArray })) (Operand.tmp 3), type := 5, pos := "bits.go:126", after := #[{ on := 0, ground := Ground.data }], guard := none } ?_; refine kH rfl 9 _ (.tmp 3) rfl (.string S.j5) (.int .u8 (x.toNat : Int)) rfl rfl (.int .u8 (m : Int)) hi ?_)
 go_ret
 exact ⟨rfl, rfl⟩
theorem y5 (s : List UInt8) (k : Nat) (W : World) (hs : s.length = 64) (hk : k < 64) : (Instr.index 149 (.agg (S.v8 s)) (.int .i64 (k : Int))).run Tryz.prog W = .ok (.int .u8 ((s.getD k 0).toNat : Int)) W := by
 have h0 : (S.v8 s)[k]? = some (.int .u8 ((s.getD k 0).toNat : Int)) := by
  unfold S.v8
  rw [List.getElem?_toArray, List.getElem?_map, List.getD_eq_getElem?_getD, List.getElem?_eq_getElem (by omega)]
  rfl
 have h1 : (0 : Int) <= (k : Int) /\ (k : Int) < (64 : Nat) := ⟨by omega, by omega⟩
 have ha : (isAgg 5).run Tryz.prog W = .ok false W := by kernel_rfl
 have hp : (part 5 (S.v8 s) k).run Tryz.prog W = .ok (.int .u8 ((s.getD k 0).toNat : Int)) W := by
  unfold part
  simp only [Sem.run_bind, ha, Result.andThen_ok, h0]
  rfl
 rw [List.getD_eq_getElem?_getD] at hp
 simp [Instr.index, asIntOf, run_underlying Tryz.underlying149, hk, hp]
namespace S
theorem Di (s : List UInt8) (k : Nat) (h : k < s.length) : cnt (s.take (k + 1)) = cnt (s.take k) + ones (s.getD k 0) := by
 unfold cnt
 rw [List.take_add_one, List.map_append, List.sum_append, List.getD_eq_getElem?_getD, List.getElem?_eq_getElem h]
 simp
theorem Dl (s : List UInt8) : cnt s <= s.length * 8 := by
 induction s with
 | nil => simp [cnt]
 | cons x s ih =>
  have := uz x
  unfold cnt at ih ⊢
  rw [List.map_cons, List.sum_cons, List.length_cons]
  omega
end S
set_option maxHeartbeats 1000000 in
set_option maxRecDepth 10000 in
theorem BK (s : List UInt8) (Z : Array Value) (w : World) (hZ : Z = S.v8 s) (hs : s.length = 64) : Calls Tryz.prog 158 #[.agg Z] w fun e w' => e = .returned (.int .i64 (S.cnt s : Int)) /\ Below w.heap.size w w' := by
 obtain ⟨w1, hw1⟩ : ∃ w1, w1 = w.alloc (.cells Z 149) := ⟨_, rfl⟩
 have B1 : Hid (Below w.heap.size w w1) := by rw [hw1]; exact ba ..
 have r1 : w1.heap[w.heap.size]? = some (.cells (S.v8 s) 149 (0, 0)) := by rw [hw1, hZ]; exact heap_alloc_new _ _
 have ld := kX r1 hs
 rw [<- hZ] at ld
 have HZ := hide hZ
 have HS := hide hs
 have HW := hide hw1
 obtain ⟨g1, hg1⟩ : ∃ g1, g1 = w.heap.size := ⟨_, rfl⟩
 rw [<- hg1] at ld
 have HG := hide hg1
 clear r1 hZ hs hw1 hg1
 go_enter Tryz.func158, Tryz.ntmps158
 go_wp2_with (rw [<- HW.out, <- HG.out]; with_reducible refine aD ⟨some 6, .load 149 (.tmp 1), 149, "set.go:38", #[], none⟩ ?_; refine aC rfl 149 (.tmp 1) rfl (.pointer (some ⟨g1, 0, none⟩)) rfl (.agg Z) ld ?_)
 clear ld
 go_loopw [3, 7] (fun n i wr => ∃ k : Nat, k <= 64 /\ i = .int .i64 (k : Int) /\ n = .int .i64 (S.cnt (s.take k) : Int) /\ w1 = wr) (fun _ i _ => 64 - (intOf i).toNat)
 case atStart => exact ⟨0, by omega, rfl, rfl, rfl⟩
 case round =>
 obtain ⟨k, hk, rfl, rfl, rfl⟩ := hrel
 by_cases hlt : k < 64
 ·have q1 : (k : Int) < 64 := by omega
  have q2 : IntKind.i64.wrap ((k : Int) + 1) = (k : Int) + 1 := by rw [IntKind.wrap_i64]; omega
  have hi := y5 s k w1 HS.out hlt
  rw [<- HZ.out] at hi
  have CT := hide (S.Di s k (by rw [HS.out]; exact hlt))
  obtain ⟨x, hx⟩ : ∃ x, x = s.getD k 0 := ⟨_, rfl⟩
  rw [<- hx] at hi CT
  have hb := S.Dl (s.take k)
  have hb2 : (s.take k).length <= 64 := by rw [List.length_take]; omega
  obtain ⟨a, ha⟩ : ∃ a, a = S.cnt (s.take k) := ⟨_, rfl⟩
  rw [<- ha] at CT hb ⊢
  have hox := S.uz x
  have q3 : IntKind.i64.wrap ((a : Int) + (S.ones x : Int)) = (a : Int) + (S.ones x : Int) := by rw [IntKind.wrap_i64]; omega
  clear hx ha hb2
  go_wp2_with (with_reducible refine aD ⟨some 9, .index 149 (.tmp 6) (.tmp 7), 5, "set.go:38", #[], none⟩ ?_; refine kH rfl 149 (.tmp 6) (.tmp 7) rfl (.agg Z) (.int .i64 (k : Int)) rfl rfl (.int .u8 (x.toNat : Int)) hi ?_)
  clear hi
  refine (Ck x w1).mono ?_
  rintro e w2 ⟨rfl, rfl⟩
  go_wp2_with fail
  go_roundw
  case rel => exact ⟨k + 1, by omega, by go_num, by rw [CT.out]; go_num, trivial⟩
  case measure => simp [intOf]; omega
 ·obtain rfl : k = 64 := by omega
  have e : s.take 64 = s := List.take_of_length_le (by rw [HS.out]; exact lr _)
  rw [e]
  have q1 : ¬ ((64 : Int) < 64) := by omega
  go_wp2_with fail
  go_ret
  exact ⟨rfl, B1.out⟩
set_option maxHeartbeats 4000000 in
set_option maxRecDepth 10000 in
theorem zH (gl off cl gz oz cz : Nat) (z : List UInt8) (w : World) (hc : w.cell? ⟨gl, off, none⟩ = some (.slice (some ⟨gz, oz, none⟩) 64 cz)) (hv : SliceAt w (.slice (some ⟨gz, oz, none⟩) 64 cz) z) (h1 : 0 < S.cnt z) (h2 : S.cnt z <= 256) :
  Calls Tryz.prog 114 #[.slice (some ⟨gl, off, none⟩) 1 cl] w fun e w' => e = .returned (.tuple #[.agg (S.v8 z), .bool true]) /\ Below w.heap.size w w' := by
 have kK := iO w
 obtain ⟨w1, hw1⟩ : ∃ w1, w1 = w.alloc (.cells (S.v8 (S.zeros 64)) 149) := ⟨_, rfl⟩
 have jo := iO w1
 obtain ⟨w2, hw2⟩ : ∃ w2, w2 = w1.alloc (.cells (S.v8 (S.zeros 64)) 149) := ⟨_, rfl⟩
 have b1 : Below w.heap.size w w1 := by rw [hw1]; exact ba ..
 have b2 : Below w1.heap.size w1 w2 := by rw [hw2]; exact ba ..
 have r1 : w1.heap[w.heap.size]? = some (.cells (S.v8 (S.zeros 64)) 149 (0, 0)) := by rw [hw1]; exact heap_alloc_new _ _
 have r2 : w2.heap[w1.heap.size]? = some (.cells (S.v8 (S.zeros 64)) 149 (0, 0)) := by rw [hw2]; exact heap_alloc_new _ _
 have R2 := hide r2
 have R12 : Hid (w2.heap[w.heap.size]? = some (.cells (S.v8 (S.zeros 64)) 149 (0, 0))) := (b2.block _ (ae r1)).trans r1
 have b12 := b1.trans (b2.mono b1.size)
 have B2 := hide b12
 have hgl : gl < w.heap.size := World.block_lt_of_cell? w _ hc
 have C2 : Hid (w2.cell? ⟨gl, off, none⟩ = some (.slice (some ⟨gz, oz, none⟩) 64 cz)) := (b12.cell (p := ⟨gl, off, none⟩) hgl).trans hc
 have V2 := hide (hv.below b12 (lr _))
 have HZL : Hid (z.length = 64) := by obtain ⟨_, _, _, e, e2, _⟩ := hv.form; simp only [Value.slice.injEq] at e; show z.length = 64; omega
 rw [<- hw1] at kK
 rw [<- hw2] at jo
 obtain ⟨g1, hg1⟩ : ∃ g1, g1 = w.heap.size := ⟨_, rfl⟩
 obtain ⟨g2, hg2⟩ : ∃ g2, g2 = w1.heap.size := ⟨_, rfl⟩
 have hs1 := ae r1
 have HG12 : Hid (g1 < g2) := by show g1 < g2; omega
 have HG2 : Hid (w.heap.size <= g2) := by show w.heap.size <= g2; omega
 have HGL : Hid (gl < g2) := by show gl < g2; omega
 have HG1 : Hid (w.heap.size <= g1) := by show w.heap.size <= g1; omega
 rw [<- hg1] at kK R12
 rw [<- hg2] at jo R2
 obtain ⟨n, hn⟩ : ∃ n : Nat, n = S.cnt z := ⟨_, rfl⟩
 have HNN := hide hn
 have q1 : (0 : Int) < (n : Int) := by omega
 have q2 : (n : Int) <= 256 := by omega
 have c2 := C2.out
 clear b1 b2 r1 r2 b12 hw1 hw2 hg1 hg2 hgl hs1 hc hv h1 h2 hn
 go_enter Tryz.func114, Tryz.ntmps114
 go_upto_region 6 with (first | (with_reducible refine aD ⟨some 2, .alloc 149, 0, "set.go:23", #[], none⟩ ?_; refine aA rfl 149 rfl (.pointer (some ⟨g1, 0, none⟩)) w1 kK ?_) | (with_reducible refine aD ⟨some 4, .alloc 149, 0, "set.go:24", #[], none⟩ ?_; refine aA rfl 149 rfl (.pointer (some ⟨g2, 0, none⟩)) w2 jo ?_))
 clear kK jo c2
 refine wp_region_noPanic ?_
 refine wp_region_held_drew (S := (fun W => W.cell? ⟨gl, off, none⟩ = some (.slice (some ⟨gz, oz, none⟩) 64 cz))) follows C2.out (fun hHeld => ?_)
 have R1d : Hid (w2.drew.heap[g1]? = some (.cells (S.v8 (S.zeros 64)) 149 (0, 0))) := R12.out
 have R2d : Hid (w2.drew.heap[g2]? = some (.cells (S.v8 (S.zeros 64)) 149 (0, 0))) := R2.out
 have V2d := hide (V2.out.below (Below.refl w2.heap.size w2).drew (lr _))
 have B2d : Hid (Below w.heap.size w w2.drew) := B2.out.drew
 have HS2 : Hid (g2 < w2.drew.heap.size) := ae R2d.out
 clear R12 R2 V2 B2 C2
 generalize w2.drew = Z1 at R1d R2d V2d B2d HS2 hHeld ⊢
 refine tq 0 ?_
 simp only [uA]
 refine tq 1 ?_
 simp only [uA]
 refine tq 2 ?_
 simp only [uA]
 refine tk 3 ?_ rfl (Or.inl ⟨by rfl, ?_⟩) ?_
 rotate_left
 ·intro w hSw
  have c0 := hSw
  clear hSw
  go_simp
  all_goals with_reducible rfl
 simp only [uA]
 obtain ⟨ao, ln, cp, hve, hzl, hmx, hsrc⟩ := V2d.out.shape
 simp only [Value.slice.injEq] at hve
 obtain ⟨rfl, rfl, rfl⟩ := hve
 have HS := hide hsrc
 have HN : Hid ((S.v8l z).length = Nat.min 64 64) := by show (S.v8l z).length = Nat.min 64 64; rw [S.ai, HZL.out]; rfl
 have HF : Hid (0 + (S.v8l z).length <= (S.v8l (S.zeros 64)).length) := by show 0 + (S.v8l z).length <= (S.v8l (S.zeros 64)).length; rw [S.ai, S.ai, S.zeros_length, HZL.out]; exact lr _
 clear hzl hmx hsrc V2d
 refine r1 4 fun K hK => ?_
 refine step_copy_splice rfl (.tmp 23) (.tmp 26) 32 32 rfl 5 Tryz.underlying32 lX _ _ _ _ _ _ rfl rfl g2 0 (S.v8l (S.zeros 64)) 149 (by rw [<- S.jN]; exact R2d.out) (S.v8l z) HN.out (gB _ HS.out (Below.refl _ _)) HF.out (S.dR _) g2 Z1 (Below.refl _ _) (lr _) ?_
 intro w4 HG4 hB4
 have R4 := hide (jR HG4)
 have EZ : splice (S.zeros 64) 0 z = z := by unfold splice; simp [S.zeros, HZL.out]
 rw [EZ] at R4
 have R14 : Hid (w4.heap[g1]? = some (.cells (S.v8 (S.zeros 64)) 149 (0, 0))) := (hB4.block g1 HG12.out).trans R1d.out
 have B4 : Hid (Below w.heap.size w w4) := B2d.out.trans (hB4.mono HG2.out)
 have a4 : w4.cell? ⟨gl, off, none⟩ = some (.slice (some ⟨gz, oz, none⟩) 64 cz) := (hB4.cell (p := ⟨gl, off, none⟩) HGL.out).trans hHeld
 clear HG4 hB4 EZ hHeld R1d R2d B2d HS HN HF HS2
 refine hK.out _ _ a4 (fun hHeld => ?_)
 clear hK K
 try simp only [uA]
 clear a4
 refine wpAnyH_done (by kernel_rfl) ?_ _
 refine NoPanic.normal ?_
 clear hHeld
 have ld := kX R4.out HZL.out
 obtain ⟨Z, hZ⟩ : ∃ Z, Z = S.v8 z := ⟨_, rfl⟩
 rw [<- hZ] at ld
 have HZ := hide hZ
 clear hZ
 go_wp2_with (with_reducible refine aD ⟨some 28, .load 149 (.tmp 4), 149, "set.go:32", #[], none⟩ ?_; refine aC rfl 149 (.tmp 4) rfl (.pointer (some ⟨g2, 0, none⟩)) rfl (.agg Z) ld ?_)
 clear ld
 refine (BK z Z w4 HZ.out HZL.out).mono ?_
 rintro e w5 ⟨rfl, b5⟩
 rw [<- HNN.out]
 have R5 : w5.heap[g2]? = some (.cells (S.v8 z) 149 (0, 0)) := (b5.block g2 (ae R4.out)).trans R4.out
 have R15 : w5.heap[g1]? = some (.cells (S.v8 (S.zeros 64)) 149 (0, 0)) := (b5.block g1 (ae R14.out)).trans R14.out
 have b15 := B4.out.trans (b5.mono B4.out.size)
 have ld := kX R5 HZL.out
 rw [<- HZ.out] at ld
 obtain ⟨w6, hst, r6, c6⟩ := mJ (ys := z) R15 (S.zeros_length _) HZL.out
 have R6 := hide r6
 have B6 : Hid (Below w.heap.size w w6) := b15.trans (c6.base b15.size HG1.out)
 rw [<- HZ.out] at hst
 clear b5 R5 R15 b15 r6 c6 R4 R14 B4
 go_wp2_with (first | (with_reducible refine aD ⟨some 30, .load 149 (.tmp 4), 149, "set.go:33", #[], none⟩ ?_; refine aC rfl 149 (.tmp 4) rfl (.pointer (some ⟨g2, 0, none⟩)) rfl (.agg Z) ld ?_) | (with_reducible refine aD ⟨none, .store 149 (.tmp 2) (.tmp 30), 0, "set.go:33", #[{ on := 0, ground := Ground.data }, { on := 3, ground := Ground.chain }, { on := 0, ground := Ground.phase }, { on := 1, ground := Ground.textOnly Departure.lateStores }, { on := 2, ground := Ground.textOnly Departure.lateStores }, { on := 3, ground := Ground.textOnly Departure.lateStores }, { on := 4, ground := Ground.textOnly Departure.lateStores }, { on := 5, ground := Ground.textOnly Departure.lateStores }, { on := 6, ground := Ground.textOnly Departure.lateStores }], none⟩ ?_; refine aB rfl 149 (.tmp 2) (.tmp 30) rfl (.pointer (some ⟨g1, 0, none⟩)) (.agg Z) rfl rfl w6 hst ?_))
 rw [HZ.out]
 refine bodyPost_ret (bM Tryz.results114 _ _ g1 (.agg (S.v8 z)) rfl (lL R6.out HZL.out)) rfl ⟨rfl, B6.out⟩
end Go.Proofs.YteealihknndclaaGreatDoor
