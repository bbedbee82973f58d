/- Put of any sheets on a disk that does not stop. -/
import Derived.Test.YteealihknndclaaGreatDoorUb
import Derived.Test.YteealihknndclaaGreatDoorJa
import Derived.Test.YteealihknndclaaGreatDoorGk
import Derived.Test.YteealihknndclaaGreatDoorTd
namespace Go.Proofs.YteealihknndclaaGreatDoor
open Go.RowKit

namespace S
structure PutCalm (d : Dk) (p t : Nat) (ns : List Nat) (xs s1 s2 s3 s4 : List (List UInt8)) : Prop where
 e1 : s1 = putAll d.safe (fun i => 4101 + i * 8) xs ns.length
 e2 : s2 = after s1 1 4 p t [] [setL ns]
 e3 : s3 = putAll s2 (homeOf ns) xs ns.length
 e4 : s4 = after s3 1 4 (1 - p) (t + 1) [setL ns] []
 c1 : Calm { d with safe := s1, pend := [] } 1 4 p t [] [setL ns]
 c2 : Calm { d with safe := s3, pend := [] } 1 4 (1 - p) (t + 1) [setL ns] []
 acts : d.acts (putActs d p t ns xs) = { d with safe := s4, pend := [] }
theorem put_calm {d : Dk} {p t : Nat} {ns : List Nat} {xs : List (List UInt8)} (hp : d.pend = []) (g : Good d.safe 1 4 p t []) (ht : t + 2 < 18446744073709551616) : ∃ s1 s2 s3 s4, PutCalm d p t ns xs s1 s2 s3 s4 := by
 have fit : (enc ([] ++ [setL ns])).length ≤ room 4 := by
  rw [enc_snoc_length, setL_length]
  decide
 have g1 : Good (putAll d.safe (fun i => 4101 + i * 8) xs ns.length) 1 4 p t [] := g.stay (putAll_length _ _ _ _) (fun j _ h2 => putAll_off _ _ _ _ _ (fun i _ => Or.inl (by omega)))
 have c1 := commit_calm (d := { d with safe := putAll d.safe (fun i => 4101 + i * 8) xs ns.length, pend := [] }) (b := setL ns) rfl g1 (by omega) fit
 rw [List.nil_append] at c1
 have g3 : Good (putAll (after (putAll d.safe (fun i => 4101 + i * 8) xs ns.length) 1 4 p t [] [setL ns]) (homeOf ns) xs ns.length) 1 4 (1 - p) (t + 1) [setL ns] := c1.good.stay (putAll_length _ _ _ _) (fun j _ h2 => putAll_off _ _ _ _ _ (fun i _ => Or.inl (by unfold homeOf; omega)))
 have c2 := clear_calm (d := { d with safe := putAll (after (putAll d.safe (fun i => 4101 + i * 8) xs ns.length) 1 4 p t [] [setL ns]) (homeOf ns) xs ns.length, pend := [] }) rfl g3 (by omega)
 refine ⟨_, _, _, _, rfl, rfl, rfl, rfl, c1, c2, ?_⟩
 unfold putActs homeActs
 rw [Dk.acts_app, spTo_eq, pages_flushed d _ xs ns.length hp, Dk.acts_app, c1.acts, Dk.acts_app, pages_flushed _ _ xs ns.length rfl, c2.acts]
theorem PutCalm.off {d : Dk} {p t : Nat} {ns : List Nat} {xs s1 s2 s3 s4 : List (List UInt8)} (h : PutCalm d p t ns xs s1 s2 s3 s4) (j : Nat) (hj : j < 1 ∨ 5 ≤ j) : s4.getD j [] = s3.getD j [] ∧ s2.getD j [] = s1.getD j [] := by
 have m1 := h.c1.may
 have m2 := h.c2.may
 rw [h.e4, h.e2]
 exact ⟨m2.stay j hj, m1.stay j hj⟩
theorem PutCalm.len {d : Dk} {p t : Nat} {ns : List Nat} {xs s1 s2 s3 s4 : List (List UInt8)} (h : PutCalm d p t ns xs s1 s2 s3 s4) : s1.length = d.safe.length ∧ s2.length = d.safe.length ∧ s3.length = d.safe.length ∧ s4.length = d.safe.length := by
 have m1 := h.c1.may.len
 have m2 := h.c2.may.len
 have a : s1.length = d.safe.length := by rw [h.e1]; exact putAll_length _ _ _ _
 have b : s2.length = d.safe.length := by rw [h.e2, m1]; exact a
 have c : s3.length = d.safe.length := by rw [h.e3, putAll_length]; exact b
 exact ⟨a, b, c, by rw [h.e4, m2]; exact c⟩
theorem PutCalm.mark {d : Dk} {p t : Nat} {ns : List Nat} {xs s1 s2 s3 s4 : List (List UInt8)} (h : PutCalm d p t ns xs s1 s2 s3 s4) : s4.getD 0 [] = d.safe.getD 0 [] := by
 rw [(h.off 0 (Or.inl (by omega))).1, h.e3, putAll_off _ _ _ _ _ (fun i _ => Or.inl (by unfold homeOf; omega)), (h.off 0 (Or.inl (by omega))).2, h.e1, putAll_off _ _ _ _ _ (fun i _ => Or.inl (by omega))]
theorem PutCalm.home {d : Dk} {p t : Nat} {ns : List Nat} {X : Nat → List UInt8} {s1 s2 s3 s4 : List (List UInt8)} (h : PutCalm d p t ns (ns.map X) s1 s2 s3 s4) (hl : 7680 ≤ d.safe.length) (hn : ∀ n ∈ ns, n < 512) (hpw : ns.Pairwise (· < ·)) (hx : ∀ n ∈ ns, (X n).length = 1024) (m : Nat) (hm : m < 512) : pageAt s4 (5 + m * 8) = if m ∈ ns then X m else pageAt d.safe (5 + m * 8) := by
 have e4 : pageAt s4 (5 + m * 8) = pageAt s3 (5 + m * 8) := secs_cong (fun j h1 h2 => (h.off j (Or.inr (by omega))).1)
 have e2 : pageAt s2 (5 + m * 8) = pageAt s1 (5 + m * 8) := secs_cong (fun j h1 h2 => (h.off j (Or.inr (by omega))).2)
 have hl2 := h.len.2.1
 rw [e4, h.e3]
 by_cases e : m ∈ ns
 ·rw [if_pos e]
  obtain ⟨i, hi, rfl⟩ := List.mem_iff_getElem.1 e
  have hg : ns.getD i 0 = ns[i] := by rw [List.getD_eq_getElem?_getD, List.getElem?_eq_getElem hi]; rfl
  have := putAll_page s2 (homeOf ns) (ns.map X) ns.length (fun i hi => by have := getD_lt hn i hi; unfold homeOf; omega) (fun i hi => by rw [map_getD X ns i hi]; exact hx _ (by rw [List.getD_eq_getElem?_getD, List.getElem?_eq_getElem hi]; exact List.getElem_mem hi)) (fun i j hi hj hij => apart ns hpw i j hi hj hij) i hi
  rw [map_getD X ns i hi, homeOf, hg] at this
  exact this
 ·rw [if_neg e, putAll_other _ _ _ _ _ (fun i hi => by
   have hne : ns.getD i 0 ≠ m := fun e' => e (by rw [← e', List.getD_eq_getElem?_getD, List.getElem?_eq_getElem hi]; exact List.getElem_mem hi)
   unfold homeOf
   omega), e2, h.e1, putAll_other _ _ _ _ _ (fun i _ => Or.inl (by omega))]
end S
theorem pput_go (w0 w : World) (o : Ow) (d : S.Dk) (p t gs b off cap : Nat) (l : List ShV) (pg X : Nat → List UInt8) (h : Pg w0 w o d p t pg) (hs : StAt w gs o) (h0 : ∀ j u, (l.flatMap encSh)[j]? = some u → w.cell? ⟨b, off + j, none⟩ = some u) (hd : l ≠ []) (hl : l.length ≤ 256) (hp : ∀ x ∈ l, ShOk w o X x) (hn : (l.map (·.1)).Nodup) (hgs : ¬ o.has gs) (ht : t + 2 < 18446744073709551616) :
  Calls Tryz.prog 45 #[.pointer (some ⟨gs, 0, none⟩), .slice (some ⟨b, off, none⟩) l.length cap] w fun e w' => e = .returned (.int .i64 0) ∧ ∃ o' d', o'.g = o.g ∧ Pg w0 w' o' d' p (t + 2) (fun m => if m ∈ S.pgs l then X m else pg m) ∧ StAt w' gs o' ∧ Chg o.has w w' ∧ ∀ k, o'.has k → o.has k ∨ w.heap.size ≤ k := by
 have hpp := h.log.place
 refine (pput_any w0 w o d p t gs b off cap l pg X h.n hs h0 hd hl hp hn hgs ht).mono ?_
 rintro e w' ⟨bb, d', o', ns, rfl, hpm, hup, pa⟩
 have pl := S.Dk.plan_goes (S.putActs d p t ns (ns.map X)) d h.left
 rw [pa.plan] at pl
 obtain ⟨hb, hd'⟩ := pl
 simp only at hb hd'
 subst hb
 obtain ⟨s1, s2, s3, s4, pc⟩ := S.put_calm (ns := ns) (xs := ns.map X) h.pend h.log ht
 rw [pc.acts] at hd'
 have mem : ∀ m, m ∈ ns ↔ m ∈ S.pgs l := fun m => hpm.mem_iff
 have inl : ∀ n ∈ ns, ∃ x ∈ l, n = x.1.toNat := fun n hn => by
  obtain ⟨x, hx, e⟩ := List.mem_map.1 ((mem n).1 hn)
  exact ⟨x, hx, e.symm⟩
 have hn5 : ∀ n ∈ ns, n < 512 := fun n hn => by
  obtain ⟨x, hx, rfl⟩ := inl n hn
  have := (hp x hx).hi
  have := (hp x hx).lo
  omega
 have hx1 : ∀ n ∈ ns, (X n).length = 1024 := fun n hn => by
  obtain ⟨x, hx, rfl⟩ := inl n hn
  exact (hp x hx).size
 have hsafe : d'.safe = s4 := by rw [hd']
 refine ⟨rfl, o', d', pa.ptr, ⟨pa.dk, by rw [hd'], by rw [hd']; exact h.left, by rw [hsafe, pc.len.2.2.2]; exact h.len, by rw [hsafe, pc.mark]; exact h.mark, ?_, fun m hm => ?_, pa.ob, pa.below, h.pos⟩, pa.st, pa.chg, pa.own⟩
 ·have := pc.c2.good
  rw [← pc.e4, show 1 - (1 - p) = p by omega] at this
  rw [hsafe]
  exact this
 ·rw [hsafe, pc.home h.len hn5 hup hx1 m hm]
  by_cases e : m ∈ ns
  ·rw [if_pos e, if_pos ((mem m).1 e)]
  ·rw [if_neg e, if_neg (fun e' => e ((mem m).2 e'))]
   exact h.home m hm
end Go.Proofs.YteealihknndclaaGreatDoor
namespace Go.Proofs.YteealihknndclaaGreatDoor
namespace S
def ones (x : UInt8) : Nat := (if x.toNat.testBit 0 then 1 else 0) + (if x.toNat.testBit 1 then 1 else 0) + (if x.toNat.testBit 2 then 1 else 0) + (if x.toNat.testBit 3 then 1 else 0) + (if x.toNat.testBit 4 then 1 else 0) + (if x.toNat.testBit 5 then 1 else 0) + (if x.toNat.testBit 6 then 1 else 0) + (if x.toNat.testBit 7 then 1 else 0)
def cnt (s : List UInt8) : Nat := (s.map ones).sum
theorem ones_or : ∀ (r : Fin 8) (x : Fin 256), x.val.testBit r.val = false → ones (UInt8.ofNat x.val ||| UInt8.ofNat (2 ^ r.val)) = ones (UInt8.ofNat x.val) + 1 := by decide +kernel
theorem sum_set (l : List Nat) (i y : Nat) (h : i < l.length) : (l.set i y).sum + l.getD i 0 = l.sum + y := by
 induction l generalizing i with
 | nil => simp at h
 | cons a l ih =>
  cases i with
  | zero => simp; omega
  | succ i =>
   have := ih i (by simpa using h)
   simp [List.getD_eq_getElem?_getD] at this ⊢
   omega
theorem cnt_orBit (s : List UInt8) (n : Nat) (hs : s.length = 64) (hn : n < 512) (hb : bit s n = false) : cnt (orBit s n) = cnt s + 1 := by
 have hi : n / 8 < (s.map ones).length := by rw [List.length_map]; omega
 have hx : (s.map ones).getD (n / 8) 0 = ones (s.getD (n / 8) 0) := by
  rw [List.getD_eq_getElem?_getD, List.getD_eq_getElem?_getD, List.getElem?_map, List.getElem?_eq_getElem (by omega)]
  rfl
 have h := sum_set (s.map ones) (n / 8) (ones (s.getD (n / 8) 0 ||| UInt8.ofNat (2 ^ (n % 8)))) hi
 rw [bit_iff, ← Nat.testBit_eq_decide_div_mod_eq] at hb
 have ho := ones_or ⟨n % 8, Nat.mod_lt _ (by omega)⟩ ⟨(s.getD (n / 8) 0).toNat, (s.getD (n / 8) 0).toNat_lt⟩ hb
 simp only [UInt8.ofNat_toNat] at ho
 rw [hx, ho] at h
 unfold cnt orBit
 rw [List.map_set, ho]
 omega
theorem cnt_zeros : cnt (zeros 64) = 0 := by decide +kernel
theorem cnt_foldl (ns : List Nat) (s : List UInt8) (hs : s.length = 64) (h : ∀ n ∈ ns, n < 512 ∧ bit s n = false) (hd : ns.Pairwise (· < ·)) : cnt (ns.foldl orBit s) = cnt s + ns.length := by
 induction ns generalizing s with
 | nil => rfl
 | cons n r ih =>
  rw [List.pairwise_cons] at hd
  have hn := h n List.mem_cons_self
  rw [List.foldl_cons, ih (orBit s n) (by rw [orBit_length]; exact hs) (fun m hm => ?_) hd.2, cnt_orBit s n hs hn.1 hn.2, List.length_cons]
  ·omega
  ·have hm' := h m (List.mem_cons_of_mem _ hm)
   refine ⟨hm'.1, ?_⟩
   rw [bit_orBit s hs n m hn.1, hm'.2, Bool.false_or]
   have := hd.1 m hm
   exact decide_eq_false (by omega)
theorem cnt_setL (ns : List Nat) (h : ∀ n ∈ ns, n < 512) (hd : ns.Pairwise (· < ·)) : cnt (setL ns) = ns.length := by
 unfold setL
 rw [cnt_foldl ns _ (zeros_length _) (fun n hn => ⟨h n hn, bit_zeros n⟩) hd, cnt_zeros, Nat.zero_add]
end S
end Go.Proofs.YteealihknndclaaGreatDoor
namespace Go.Proofs.YteealihknndclaaGreatDoor
open Go.RowKit

theorem wpList_index_as {w : World} {ops : Array Oper} {rest : List Oper} {o : Oper} {a : Act} {Q : Exit → Act → World → Prop} (hgd : o.guard = none) (t : TypeId) (x y : Operand) (ho : o.op = .index t x y) (vx vy : Value) (hx : a.eval x = vx) (hy : a.eval y = vy) (v : Value)
  (hr : (Instr.index t vx vy).run Tryz.prog w = .ok v w) (h : wpList Tryz.prog ops Q rest (a.put o.dst v) w) : wpList Tryz.prog ops Q (o :: rest) a w := by
 subst hx hy
 exact wpList_plain hgd fun _ hK => by
  unfold Oper.wp execOp
  simp only [ho, Sem.run_bind, hr, Result.andThen_ok]
  exact hK _ _ h
namespace S
theorem ones_le (x : UInt8) : ones x ≤ 8 := by
 have h : ∀ b : Bool, (if b = true then 1 else 0) ≤ 1 := by decide
 unfold ones
 have h0 := h (x.toNat.testBit 0)
 have h1 := h (x.toNat.testBit 1)
 have h2 := h (x.toNat.testBit 2)
 have h3 := h (x.toNat.testBit 3)
 have h4 := h (x.toNat.testBit 4)
 have h5 := h (x.toNat.testBit 5)
 have h6 := h (x.toNat.testBit 6)
 have h7 := h (x.toNat.testBit 7)
 omega
def onesTab : ByteArray := { data := (([0, 1, 1, 2, 1, 2, 2, 3, 1, 2, 2, 3, 2, 3, 3, 4, 1, 2, 2, 3, 2, 3, 3, 4, 2, 3, 3, 4, 3, 4, 4, 5, 1, 2, 2, 3, 2, 3, 3, 4, 2, 3, 3, 4, 3, 4, 4, 5, 2, 3, 3, 4, 3, 4, 4, 5, 3, 4, 4, 5, 4, 5, 5, 6].append [1, 2, 2, 3, 2, 3, 3, 4, 2, 3, 3, 4, 3, 4, 4, 5, 2, 3, 3, 4, 3, 4, 4, 5, 3, 4, 4, 5, 4, 5, 5, 6, 2, 3, 3, 4, 3, 4, 4, 5, 3, 4, 4, 5, 4, 5, 5, 6, 3, 4, 4, 5, 4, 5, 5, 6, 4, 5, 5, 6, 5, 6, 6, 7]).append ([1, 2, 2, 3, 2, 3, 3, 4, 2, 3, 3, 4, 3, 4, 4, 5, 2, 3, 3, 4, 3, 4, 4, 5, 3, 4, 4, 5, 4, 5, 5, 6, 2, 3, 3, 4, 3, 4, 4, 5, 3, 4, 4, 5, 4, 5, 5, 6, 3, 4, 4, 5, 4, 5, 5, 6, 4, 5, 5, 6, 5, 6, 6, 7].append [2, 3, 3, 4, 3, 4, 4, 5, 3, 4, 4, 5, 4, 5, 5, 6, 3, 4, 4, 5, 4, 5, 5, 6, 4, 5, 5, 6, 5, 6, 6, 7, 3, 4, 4, 5, 4, 5, 5, 6, 4, 5, 5, 6, 5, 6, 6, 7, 4, 5, 5, 6, 5, 6, 6, 7, 5, 6, 6, 7, 6, 7, 7, 8])).toArray }
theorem onesTab_at : ∀ n : Fin 256, (onesTab.get! n.val).toNat = ones (UInt8.ofNat n.val) := by decide +kernel
theorem onesTab_size : onesTab.size = 256 := by decide +kernel
end S
set_option maxRecDepth 10000 in
theorem ones_index (x : UInt8) (W : World) : (Instr.index 9 (.string S.onesTab) (.int .u8 (x.toNat : Int))).run Tryz.prog W = .ok (.int .u8 (S.ones x : Int)) W := by
 rw [run_index_string (P := Tryz.prog) (w := W) 9 S.onesTab .u8 (x.toNat : Int) Tryz.underlying9]
 have hx := x.toNat_lt
 have hs := S.onesTab_size
 have h0 : 0 ≤ (x.toNat : Int) ∧ (x.toNat : Int) < S.onesTab.size := ⟨by omega, by omega⟩
 rw [dif_pos h0]
 have h := S.onesTab_at ⟨x.toNat, hx⟩
 simp only [UInt8.ofNat_toNat] at h
 congr 2
 rw [← h]
 have hl : x.toNat < S.onesTab.size := by omega
 simp [ByteArray.get!, getElem!_pos, hl]
 rfl
set_option maxRecDepth 10000 in
theorem ones_any (x : UInt8) (w : World) : Calls Tryz.prog 188 #[.int .u8 (x.toNat : Int)] w fun e w' => e = .returned (.int .i64 (S.ones x : Int)) ∧ w = w' := by
 have hi := ones_index x w
 obtain ⟨m, hm⟩ : ∃ m : Nat, m = S.ones x := ⟨_, rfl⟩
 have hb : m ≤ 8 := by rw [hm]; exact S.ones_le x
 rw [← hm] at hi ⊢
 have q1 : IntKind.i64.wrap (m : Int) = (m : Int) := by rw [IntKind.wrap_i64]; omega
 clear hm
 go_enter Tryz.func188, Tryz.ntmps188
 go_wp2_with (with_reducible refine at_op { dst := some 4, op := Op.index 9 (Operand.const (Value.string { data := (([0, 1, 1, 2, 1, 2, 2, 3, 1, 2, 2, 3, 2, 3, 3, 4, 1, 2, 2, 3, 2, 3, 3, 4, 2, 3, 3, 4, 3, 4, 4, 5, 1, 2, 2, 3, 2, 3, 3, 4, 2, 3, 3, 4, 3, 4, 4, 5, 2, 3, 3, 4, 3, 4, 4, 5, 3, 4, 4, 5, 4, 5, 5, 6].append [1, 2, 2, 3, 2, 3, 3, 4, 2, 3, 3, 4, 3, 4, 4, 5, 2, 3, 3, 4, 3, 4, 4, 5, 3, 4, 4, 5, 4, 5, 5, 6, 2, 3, 3, 4, 3, 4, 4, 5, 3, 4, 4, 5, 4, 5, 5, 6, 3, 4, 4, 5, 4, 5, 5, 6, 4, 5, 5, 6, 5, 6, 6, 7]).append ([1, 2, 2, 3, 2, 3, 3, 4, 2, 3, 3, 4, 3, 4, 4, 5, 2, 3, 3, 4, 3, 4, 4, 5, 3, 4, 4, 5, 4, 5, 5, 6, 2, 3, 3, 4, 3, 4, 4, 5, 3, 4, 4, 5, 4, 5, 5, 6, 3, 4, 4, 5, 4, 5, 5, 6, 4, 5, 5, 6, 5, 6, 6, 7].append [2, 3, 3, 4, 3, 4, 4, 5, 3, 4, 4, 5, 4, 5, 5, 6, 3, 4, 4, 5, 4, 5, 5, 6, 4, 5, 5, 6, 5, 6, 6, 7, 3, 4, 4, 5, 4, 5, 5, 6, 4, 5, 5, 6, 5, 6, 6, 7, 4, 5, 5, 6, 5, 6, 6, 7, 5, 6, 6, 7, 6, 7, 7, 8])).toArray })) (Operand.tmp 3), type := 5, pos := "bits.go:126", after := #[{ on := 0, ground := Ground.data }], guard := none } ?_; refine wpList_index_as rfl 9 _ (.tmp 3) rfl (.string S.onesTab) (.int .u8 (x.toNat : Int)) rfl rfl (.int .u8 (m : Int)) hi ?_)
 go_ret
 exact ⟨rfl, rfl⟩
theorem index57 (s : List UInt8) (k : Nat) (W : World) (hs : s.length = 64) (hk : k < 64) : (Instr.index 149 (.agg (S.v8 s)) (.int .i64 (k : Int))).run Tryz.prog W = .ok (.int .u8 ((s.getD k 0).toNat : Int)) W := by
 have h0 : (S.v8 s)[k]? = some (.int .u8 ((s.getD k 0).toNat : Int)) := by
  unfold S.v8
  rw [List.getElem?_toArray, List.getElem?_map, List.getD_eq_getElem?_getD, List.getElem?_eq_getElem (by omega)]
  rfl
 have h1 : (0 : Int) ≤ (k : Int) ∧ (k : Int) < (64 : Nat) := ⟨by omega, by omega⟩
 have ha : (isAgg 5).run Tryz.prog W = .ok false W := by kernel_rfl
 have hp : (part 5 (S.v8 s) k).run Tryz.prog W = .ok (.int .u8 ((s.getD k 0).toNat : Int)) W := by
  unfold part
  simp only [Sem.run_bind, ha, Result.andThen_ok, h0]
  rfl
 rw [List.getD_eq_getElem?_getD] at hp
 simp [Instr.index, asIntOf, run_underlying Tryz.underlying149, hk, hp]
namespace S
theorem cnt_take (s : List UInt8) (k : Nat) (h : k < s.length) : cnt (s.take (k + 1)) = cnt (s.take k) + ones (s.getD k 0) := by
 unfold cnt
 rw [List.take_add_one, List.map_append, List.sum_append, List.getD_eq_getElem?_getD, List.getElem?_eq_getElem h]
 simp
theorem cnt_le (s : List UInt8) : cnt s ≤ s.length * 8 := by
 induction s with
 | nil => simp [cnt]
 | cons x s ih =>
  have := ones_le x
  unfold cnt at ih ⊢
  rw [List.map_cons, List.sum_cons, List.length_cons]
  omega
end S
set_option maxHeartbeats 1000000 in
set_option maxRecDepth 10000 in
theorem size_any (s : List UInt8) (Z : Array Value) (w : World) (hZ : Z = S.v8 s) (hs : s.length = 64) : Calls Tryz.prog 158 #[.agg Z] w fun e w' => e = .returned (.int .i64 (S.cnt s : Int)) ∧ Below w.heap.size w w' := by
 obtain ⟨w1, hw1⟩ : ∃ w1, w1 = w.alloc (.cells Z 149) := ⟨_, rfl⟩
 have B1 : Hid (Below w.heap.size w w1) := by rw [hw1]; exact (Below.refl _ _).alloc (Nat.le_refl _) _
 have r1 : w1.heap[w.heap.size]? = some (.cells (S.v8 s) 149 (0, 0)) := by rw [hw1, hZ]; exact heap_alloc_new _ _
 have ld := load57 r1 hs
 rw [← hZ] at ld
 have HZ := hide hZ
 have HS := hide hs
 have HW := hide hw1
 obtain ⟨g1, hg1⟩ : ∃ g1, g1 = w.heap.size := ⟨_, rfl⟩
 rw [← hg1] at ld
 have HG := hide hg1
 clear r1 hZ hs hw1 hg1
 go_enter Tryz.func158, Tryz.ntmps158
 go_wp2_with (rw [← HW.out, ← HG.out]; with_reducible refine at_op ⟨some 6, .load 149 (.tmp 1), 149, "set.go:38", #[], none⟩ ?_; refine wpList_load_as rfl 149 (.tmp 1) rfl (.pointer (some ⟨g1, 0, none⟩)) rfl (.agg Z) ld ?_)
 clear ld
 go_loopw [3, 7] (fun n i wr => ∃ k : Nat, k ≤ 64 ∧ i = .int .i64 (k : Int) ∧ n = .int .i64 (S.cnt (s.take k) : Int) ∧ w1 = wr) (fun _ i _ => 64 - (intOf i).toNat)
 case atStart => exact ⟨0, by omega, rfl, rfl, rfl⟩
 case round =>
 obtain ⟨k, hk, rfl, rfl, rfl⟩ := hrel
 by_cases hlt : k < 64
 ·have q1 : (k : Int) < 64 := by omega
  have q2 : IntKind.i64.wrap ((k : Int) + 1) = (k : Int) + 1 := by rw [IntKind.wrap_i64]; omega
  have hi := index57 s k w1 HS.out hlt
  rw [← HZ.out] at hi
  have CT := hide (S.cnt_take s k (by rw [HS.out]; exact hlt))
  obtain ⟨x, hx⟩ : ∃ x, x = s.getD k 0 := ⟨_, rfl⟩
  rw [← hx] at hi CT
  have hb := S.cnt_le (s.take k)
  have hb2 : (s.take k).length ≤ 64 := by rw [List.length_take]; omega
  obtain ⟨a, ha⟩ : ∃ a, a = S.cnt (s.take k) := ⟨_, rfl⟩
  rw [← ha] at CT hb ⊢
  have hox := S.ones_le x
  have q3 : IntKind.i64.wrap ((a : Int) + (S.ones x : Int)) = (a : Int) + (S.ones x : Int) := by rw [IntKind.wrap_i64]; omega
  clear hx ha hb2
  go_wp2_with (with_reducible refine at_op ⟨some 9, .index 149 (.tmp 6) (.tmp 7), 5, "set.go:38", #[], none⟩ ?_; refine wpList_index_as rfl 149 (.tmp 6) (.tmp 7) rfl (.agg Z) (.int .i64 (k : Int)) rfl rfl (.int .u8 (x.toNat : Int)) hi ?_)
  clear hi
  refine (ones_any x w1).mono ?_
  rintro e w2 ⟨rfl, rfl⟩
  go_wp2_with fail
  go_roundw
  case rel => exact ⟨k + 1, by omega, by go_num, by rw [CT.out]; go_num, trivial⟩
  case measure => simp [intOf]; omega
 ·obtain rfl : k = 64 := by omega
  have e : s.take 64 = s := List.take_of_length_le (by rw [HS.out]; exact Nat.le_refl _)
  rw [e]
  have q1 : ¬ ((64 : Int) < 64) := by omega
  go_wp2_with fail
  go_ret
  exact ⟨rfl, B1.out⟩
set_option maxHeartbeats 4000000 in
set_option maxRecDepth 10000 in
theorem setIn_one (gl off cl gz oz cz : Nat) (z : List UInt8) (w : World) (hc : w.cell? ⟨gl, off, none⟩ = some (.slice (some ⟨gz, oz, none⟩) 64 cz)) (hv : SliceAt w (.slice (some ⟨gz, oz, none⟩) 64 cz) z) (h1 : 0 < S.cnt z) (h2 : S.cnt z ≤ 256) :
  Calls Tryz.prog 114 #[.slice (some ⟨gl, off, none⟩) 1 cl] w fun e w' => e = .returned (.tuple #[.agg (S.v8 z), .bool true]) ∧ Below w.heap.size w w' := by
 have hal1 := alloc57 w
 obtain ⟨w1, hw1⟩ : ∃ w1, w1 = w.alloc (.cells (S.v8 (S.zeros 64)) 149) := ⟨_, rfl⟩
 have hal2 := alloc57 w1
 obtain ⟨w2, hw2⟩ : ∃ w2, w2 = w1.alloc (.cells (S.v8 (S.zeros 64)) 149) := ⟨_, rfl⟩
 have b1 : Below w.heap.size w w1 := by rw [hw1]; exact (Below.refl _ _).alloc (Nat.le_refl _) _
 have b2 : Below w1.heap.size w1 w2 := by rw [hw2]; exact (Below.refl _ _).alloc (Nat.le_refl _) _
 have r1 : w1.heap[w.heap.size]? = some (.cells (S.v8 (S.zeros 64)) 149 (0, 0)) := by rw [hw1]; exact heap_alloc_new _ _
 have r2 : w2.heap[w1.heap.size]? = some (.cells (S.v8 (S.zeros 64)) 149 (0, 0)) := by rw [hw2]; exact heap_alloc_new _ _
 have R2 := hide r2
 have R12 : Hid (w2.heap[w.heap.size]? = some (.cells (S.v8 (S.zeros 64)) 149 (0, 0))) := (b2.block _ (block_lt_of_row r1)).trans r1
 have b12 := b1.trans (b2.mono b1.size)
 have B2 := hide b12
 have hgl : gl < w.heap.size := World.block_lt_of_cell? w _ hc
 have C2 : Hid (w2.cell? ⟨gl, off, none⟩ = some (.slice (some ⟨gz, oz, none⟩) 64 cz)) := (b12.cell (p := ⟨gl, off, none⟩) hgl).trans hc
 have V2 := hide (hv.below b12 (Nat.le_refl _))
 have HZL : Hid (z.length = 64) := by obtain ⟨_, _, _, e, e2, _⟩ := hv.form; simp only [Value.slice.injEq] at e; show z.length = 64; omega
 rw [← hw1] at hal1
 rw [← hw2] at hal2
 obtain ⟨g1, hg1⟩ : ∃ g1, g1 = w.heap.size := ⟨_, rfl⟩
 obtain ⟨g2, hg2⟩ : ∃ g2, g2 = w1.heap.size := ⟨_, rfl⟩
 have hs1 := block_lt_of_row r1
 have HG12 : Hid (g1 < g2) := by show g1 < g2; omega
 have HG2 : Hid (w.heap.size ≤ g2) := by show w.heap.size ≤ g2; omega
 have HGL : Hid (gl < g2) := by show gl < g2; omega
 have HG1 : Hid (w.heap.size ≤ g1) := by show w.heap.size ≤ g1; omega
 rw [← hg1] at hal1 R12
 rw [← hg2] at hal2 R2
 obtain ⟨n, hn⟩ : ∃ n : Nat, n = S.cnt z := ⟨_, rfl⟩
 have HNN := hide hn
 have q1 : (0 : Int) < (n : Int) := by omega
 have q2 : (n : Int) ≤ 256 := by omega
 have c2 := C2.out
 clear b1 b2 r1 r2 b12 hw1 hw2 hg1 hg2 hgl hs1 hc hv h1 h2 hn
 go_enter Tryz.func114, Tryz.ntmps114
 go_upto_region 6 with (first | (with_reducible refine at_op ⟨some 2, .alloc 149, 0, "set.go:23", #[], none⟩ ?_; refine wpList_alloc_known rfl 149 rfl (.pointer (some ⟨g1, 0, none⟩)) w1 hal1 ?_) | (with_reducible refine at_op ⟨some 4, .alloc 149, 0, "set.go:24", #[], none⟩ ?_; refine wpList_alloc_known rfl 149 rfl (.pointer (some ⟨g2, 0, none⟩)) w2 hal2 ?_))
 clear hal1 hal2 c2
 refine wp_region_noPanic ?_
 refine wp_region_held_drew (S := (fun W => W.cell? ⟨gl, off, none⟩ = some (.slice (some ⟨gz, oz, none⟩) 64 cz))) follows C2.out (fun hHeld => ?_)
 have R1d : Hid (w2.drew.heap[g1]? = some (.cells (S.v8 (S.zeros 64)) 149 (0, 0))) := R12.out
 have R2d : Hid (w2.drew.heap[g2]? = some (.cells (S.v8 (S.zeros 64)) 149 (0, 0))) := R2.out
 have V2d := hide (V2.out.below (Below.refl w2.heap.size w2).drew (Nat.le_refl _))
 have B2d : Hid (Below w.heap.size w w2.drew) := B2.out.drew
 have HS2 : Hid (g2 < w2.drew.heap.size) := block_lt_of_row R2d.out
 clear R12 R2 V2 B2 C2
 generalize w2.drew = Z1 at R1d R2d V2d B2d HS2 hHeld ⊢
 refine tq 0 ?_
 simp only [Act.put, uB, uC, uD]
 refine tq 1 ?_
 simp only [Act.put, uB, uC, uD]
 refine tq 2 ?_
 simp only [Act.put, uB, uC, uD]
 refine tk 3 ?_ rfl (Or.inl ⟨by rfl, ?_⟩) ?_
 rotate_left
 ·intro w hSw
  have c0 := hSw
  clear hSw
  go_simp
  all_goals with_reducible rfl
 simp only [Act.put, uB, uC, uD]
 obtain ⟨ao, ln, cp, hve, hzl, hmx, hsrc⟩ := V2d.out.shape
 simp only [Value.slice.injEq] at hve
 obtain ⟨rfl, rfl, rfl⟩ := hve
 have HS := hide hsrc
 have HN : Hid ((S.v8l z).length = Nat.min 64 64) := by show (S.v8l z).length = Nat.min 64 64; rw [S.v8l_length, HZL.out]; rfl
 have HF : Hid (0 + (S.v8l z).length ≤ (S.v8l (S.zeros 64)).length) := by show 0 + (S.v8l z).length ≤ (S.v8l (S.zeros 64)).length; rw [S.v8l_length, S.v8l_length, S.zeros_length, HZL.out]; exact Nat.le_refl _
 clear hzl hmx hsrc V2d
 refine r1 4 fun K hK => ?_
 refine step_copy_splice rfl (.tmp 23) (.tmp 26) 32 32 rfl 5 Tryz.underlying32 size5 _ _ _ _ _ _ rfl rfl g2 0 (S.v8l (S.zeros 64)) 149 (by rw [← S.v8_eq]; exact R2d.out) (S.v8l z) HN.out (copy_src _ HS.out (Below.refl _ _)) HF.out (S.v8l_one _) g2 Z1 (Below.refl _ _) (Nat.le_refl _) ?_
 intro w4 HG4 hB4
 have R4 := hide (spl_rowT HG4)
 have EZ : splice (S.zeros 64) 0 z = z := by unfold splice; simp [S.zeros, HZL.out]
 rw [EZ] at R4
 have R14 : Hid (w4.heap[g1]? = some (.cells (S.v8 (S.zeros 64)) 149 (0, 0))) := (hB4.block g1 HG12.out).trans R1d.out
 have B4 : Hid (Below w.heap.size w w4) := B2d.out.trans (hB4.mono HG2.out)
 have a4 : w4.cell? ⟨gl, off, none⟩ = some (.slice (some ⟨gz, oz, none⟩) 64 cz) := (hB4.cell (p := ⟨gl, off, none⟩) HGL.out).trans hHeld
 clear HG4 hB4 EZ hHeld R1d R2d B2d HS HN HF HS2
 refine hK.out _ _ a4 (fun hHeld => ?_)
 clear hK K
 try simp only [Act.put, uB, uC, uD]
 clear a4
 refine wpAnyH_done (by kernel_rfl) ?_ _
 refine NoPanic.normal ?_
 clear hHeld
 have ld := load57 R4.out HZL.out
 obtain ⟨Z, hZ⟩ : ∃ Z, Z = S.v8 z := ⟨_, rfl⟩
 rw [← hZ] at ld
 have HZ := hide hZ
 clear hZ
 go_wp2_with (with_reducible refine at_op ⟨some 28, .load 149 (.tmp 4), 149, "set.go:32", #[], none⟩ ?_; refine wpList_load_as rfl 149 (.tmp 4) rfl (.pointer (some ⟨g2, 0, none⟩)) rfl (.agg Z) ld ?_)
 clear ld
 refine (size_any z Z w4 HZ.out HZL.out).mono ?_
 rintro e w5 ⟨rfl, b5⟩
 rw [← HNN.out]
 have R5 : w5.heap[g2]? = some (.cells (S.v8 z) 149 (0, 0)) := (b5.block g2 (block_lt_of_row R4.out)).trans R4.out
 have R15 : w5.heap[g1]? = some (.cells (S.v8 (S.zeros 64)) 149 (0, 0)) := (b5.block g1 (block_lt_of_row R14.out)).trans R14.out
 have b15 := B4.out.trans (b5.mono B4.out.size)
 have ld := load57 R5 HZL.out
 rw [← HZ.out] at ld
 obtain ⟨w6, hst, r6, c6⟩ := store57 (ys := z) R15 (S.zeros_length _) HZL.out
 have R6 := hide r6
 have B6 : Hid (Below w.heap.size w w6) := b15.trans (c6.base b15.size HG1.out)
 rw [← HZ.out] at hst
 clear b5 R5 R15 b15 r6 c6 R4 R14 B4
 go_wp2_with (first | (with_reducible refine at_op ⟨some 30, .load 149 (.tmp 4), 149, "set.go:33", #[], none⟩ ?_; refine wpList_load_as rfl 149 (.tmp 4) rfl (.pointer (some ⟨g2, 0, none⟩)) rfl (.agg Z) ld ?_) | (with_reducible refine at_op ⟨none, .store 149 (.tmp 2) (.tmp 30), 0, "set.go:33", #[{ on := 0, ground := Ground.data }, { on := 3, ground := Ground.chain }, { on := 0, ground := Ground.phase }, { on := 1, ground := Ground.textOnly Departure.lateStores }, { on := 2, ground := Ground.textOnly Departure.lateStores }, { on := 3, ground := Ground.textOnly Departure.lateStores }, { on := 4, ground := Ground.textOnly Departure.lateStores }, { on := 5, ground := Ground.textOnly Departure.lateStores }, { on := 6, ground := Ground.textOnly Departure.lateStores }], none⟩ ?_; refine wpList_store_as rfl 149 (.tmp 2) (.tmp 30) rfl (.pointer (some ⟨g1, 0, none⟩)) (.agg Z) rfl rfl w6 hst ?_))
 rw [HZ.out]
 refine bodyPost_ret (results_row_tmp Tryz.results114 _ _ g1 (.agg (S.v8 z)) rfl (loadVar57 R6.out HZL.out)) rfl ⟨rfl, B6.out⟩
namespace S
def nandBit (s : List UInt8) (n : Nat) : List UInt8 := s.set (n / 8) (s.getD (n / 8) 0 &&& ~~~ (UInt8.ofNat (2 ^ (n % 8))))
theorem wrap_pow (r : Nat) (h : r < 8) : (2 : Int) ^ r % 256 = (((UInt8.ofNat (2 ^ r)).toNat : Nat) : Int) := by
 match r, h with
 | 0, _ => rfl
 | 1, _ => rfl
 | 2, _ => rfl
 | 3, _ => rfl
 | 4, _ => rfl
 | 5, _ => rfl
 | 6, _ => rfl
 | 7, _ => rfl
theorem or_bits2 (r : Nat) (x : UInt8) (h : r < 8) : bits BinOp.or IntKind.u8 (x.toNat : Int) ((2 : Int) ^ r % 256) = ((x ||| UInt8.ofNat (2 ^ r)).toNat : Int) := by
 rw [wrap_pow r h, u8_or_nat _ _ (UInt8.toNat_lt x) (UInt8.toNat_lt _), UInt8.toNat_or]
theorem nand_all : ∀ (r : Fin 8) (x : Fin 256), bits BinOp.andNot IntKind.u8 (((UInt8.ofNat x.val).toNat : Nat) : Int) ((((UInt8.ofNat (2 ^ r.val)).toNat : Nat)) : Int) = (((UInt8.ofNat x.val) &&& ~~~ (UInt8.ofNat (2 ^ r.val))).toNat : Int) := by decide +kernel
theorem nand_bits2 (r : Nat) (x : UInt8) (h : r < 8) : bits BinOp.andNot IntKind.u8 (x.toNat : Int) ((2 : Int) ^ r % 256) = ((x &&& ~~~ UInt8.ofNat (2 ^ r)).toNat : Int) := by
 have := nand_all ⟨r, h⟩ ⟨x.toNat, UInt8.toNat_lt x⟩
 simp only [UInt8.ofNat_toNat] at this
 rw [wrap_pow r h]
 exact this
theorem xor_all : ∀ n : Fin 256, bits BinOp.xor IntKind.u8 IntKind.u8.max (((UInt8.ofNat n.val).toNat : Nat) : Int) = ((~~~ (UInt8.ofNat n.val)).toNat : Int) := by decide +kernel
theorem xor_max (x : UInt8) : bits BinOp.xor IntKind.u8 IntKind.u8.max (x.toNat : Int) = ((~~~ x).toNat : Int) := by
 have := xor_all ⟨x.toNat, UInt8.toNat_lt x⟩
 simp only [UInt8.ofNat_toNat] at this
 exact this
def tzTab : ByteArray := { data := (([8, 0, 1, 0, 2, 0, 1, 0, 3, 0, 1, 0, 2, 0, 1, 0, 4, 0, 1, 0, 2, 0, 1, 0, 3, 0, 1, 0, 2, 0, 1, 0, 5, 0, 1, 0, 2, 0, 1, 0, 3, 0, 1, 0, 2, 0, 1, 0, 4, 0, 1, 0, 2, 0, 1, 0, 3, 0, 1, 0, 2, 0, 1, 0].append [6, 0, 1, 0, 2, 0, 1, 0, 3, 0, 1, 0, 2, 0, 1, 0, 4, 0, 1, 0, 2, 0, 1, 0, 3, 0, 1, 0, 2, 0, 1, 0, 5, 0, 1, 0, 2, 0, 1, 0, 3, 0, 1, 0, 2, 0, 1, 0, 4, 0, 1, 0, 2, 0, 1, 0, 3, 0, 1, 0, 2, 0, 1, 0]).append ([7, 0, 1, 0, 2, 0, 1, 0, 3, 0, 1, 0, 2, 0, 1, 0, 4, 0, 1, 0, 2, 0, 1, 0, 3, 0, 1, 0, 2, 0, 1, 0, 5, 0, 1, 0, 2, 0, 1, 0, 3, 0, 1, 0, 2, 0, 1, 0, 4, 0, 1, 0, 2, 0, 1, 0, 3, 0, 1, 0, 2, 0, 1, 0].append [6, 0, 1, 0, 2, 0, 1, 0, 3, 0, 1, 0, 2, 0, 1, 0, 4, 0, 1, 0, 2, 0, 1, 0, 3, 0, 1, 0, 2, 0, 1, 0, 5, 0, 1, 0, 2, 0, 1, 0, 3, 0, 1, 0, 2, 0, 1, 0, 4, 0, 1, 0, 2, 0, 1, 0, 3, 0, 1, 0, 2, 0, 1, 0])).toArray }
def tz (x : UInt8) : Nat := (tzTab.get! x.toNat).toNat
theorem tzTab_size : tzTab.size = 256 := by decide +kernel
theorem tz_le' : ∀ n : Fin 256, (tzTab.get! n.val).toNat ≤ 8 := by decide +kernel
theorem tz_le (x : UInt8) : tz x ≤ 8 := tz_le' ⟨x.toNat, UInt8.toNat_lt x⟩
def freeFrom (s : List UInt8) (i : Nat) : Nat → Option Nat
 | 0 => none
 | n + 1 => if s.getD i 0 = 255 then freeFrom s (i + 1) n else some (8 * i + tz (~~~ (s.getD i 0)))
def freeOf (s : List UInt8) : Option Nat := freeFrom s 0 64
end S
set_option maxRecDepth 10000 in
theorem tz_index (x : UInt8) (W : World) : (Instr.index 9 (.string S.tzTab) (.int .u8 (x.toNat : Int))).run Tryz.prog W = .ok (.int .u8 (S.tz x : Int)) W := by
 rw [run_index_string (P := Tryz.prog) (w := W) 9 S.tzTab .u8 (x.toNat : Int) Tryz.underlying9]
 have hx := x.toNat_lt
 have hs := S.tzTab_size
 have h0 : 0 ≤ (x.toNat : Int) ∧ (x.toNat : Int) < S.tzTab.size := ⟨by omega, by omega⟩
 rw [dif_pos h0]
 unfold S.tz
 congr 2
 have hl : x.toNat < S.tzTab.size := by omega
 simp [ByteArray.get!, getElem!_pos, hl]
 rfl
set_option maxRecDepth 10000 in
theorem tz_any (x : UInt8) (w : World) : Calls Tryz.prog 165 #[.int .u8 (x.toNat : Int)] w fun e w' => e = .returned (.int .i64 (S.tz x : Int)) ∧ w = w' := by
 have hi := tz_index x w
 obtain ⟨m, hm⟩ : ∃ m : Nat, m = S.tz x := ⟨_, rfl⟩
 have hb : m ≤ 8 := by rw [hm]; exact S.tz_le x
 rw [← hm] at hi ⊢
 have q1 : IntKind.i64.wrap (m : Int) = (m : Int) := by rw [IntKind.wrap_i64]; omega
 clear hm
 go_enter Tryz.func165, Tryz.ntmps165
 go_wp2_with (with_reducible refine at_op { dst := some 4, op := Op.index 9 (Operand.const (Value.string { data := (([8, 0, 1, 0, 2, 0, 1, 0, 3, 0, 1, 0, 2, 0, 1, 0, 4, 0, 1, 0, 2, 0, 1, 0, 3, 0, 1, 0, 2, 0, 1, 0, 5, 0, 1, 0, 2, 0, 1, 0, 3, 0, 1, 0, 2, 0, 1, 0, 4, 0, 1, 0, 2, 0, 1, 0, 3, 0, 1, 0, 2, 0, 1, 0].append [6, 0, 1, 0, 2, 0, 1, 0, 3, 0, 1, 0, 2, 0, 1, 0, 4, 0, 1, 0, 2, 0, 1, 0, 3, 0, 1, 0, 2, 0, 1, 0, 5, 0, 1, 0, 2, 0, 1, 0, 3, 0, 1, 0, 2, 0, 1, 0, 4, 0, 1, 0, 2, 0, 1, 0, 3, 0, 1, 0, 2, 0, 1, 0]).append ([7, 0, 1, 0, 2, 0, 1, 0, 3, 0, 1, 0, 2, 0, 1, 0, 4, 0, 1, 0, 2, 0, 1, 0, 3, 0, 1, 0, 2, 0, 1, 0, 5, 0, 1, 0, 2, 0, 1, 0, 3, 0, 1, 0, 2, 0, 1, 0, 4, 0, 1, 0, 2, 0, 1, 0, 3, 0, 1, 0, 2, 0, 1, 0].append [6, 0, 1, 0, 2, 0, 1, 0, 3, 0, 1, 0, 2, 0, 1, 0, 4, 0, 1, 0, 2, 0, 1, 0, 3, 0, 1, 0, 2, 0, 1, 0, 5, 0, 1, 0, 2, 0, 1, 0, 3, 0, 1, 0, 2, 0, 1, 0, 4, 0, 1, 0, 2, 0, 1, 0, 3, 0, 1, 0, 2, 0, 1, 0])).toArray })) (Operand.tmp 3), type := 5, pos := "bits.go:68", after := #[{ on := 0, ground := Ground.data }], guard := none } ?_; refine wpList_index_as rfl 9 _ (.tmp 3) rfl (.string S.tzTab) (.int .u8 (x.toNat : Int)) rfl rfl (.int .u8 (m : Int)) hi ?_)
 go_ret
 exact ⟨rfl, rfl⟩

set_option maxHeartbeats 1000000 in
set_option maxRecDepth 10000 in
theorem add_any (g off n : Nat) (x : UInt8) (w : World) (hc : w.cell? ⟨g, off + n / 8, none⟩ = some (.int .u8 (x.toNat : Int))) (hf : w.frozen? ⟨g, off + n / 8, none⟩ = false) (hn : n < 512) :
  Calls Tryz.prog 48 #[.pointer (some ⟨g, off, none⟩), .int .i64 (n : Int)] w fun e w' => e = .returned (.tuple #[]) ∧ ∃ q, w' = (w.setCell ⟨g, off + n / 8, none⟩ (.int .u8 ((x ||| UInt8.ofNat (2 ^ (n % 8))).toNat : Int))).drewN q := by
 obtain ⟨q, hq⟩ : ∃ q : Nat, q = n / 8 := ⟨_, rfl⟩
 obtain ⟨r, hr⟩ : ∃ r : Nat, r = n % 8 := ⟨_, rfl⟩
 rw [← hq] at hc hf ⊢
 rw [← hr]
 have hr8 : r < 8 := by omega
 have hq64 : q < 64 := by omega
 have q1 : (n : Int) / 8 = (q : Int) := by omega
 have q2 : (n : Int) % 8 = (r : Int) := by omega
 have q3 : (0 : Int) ≤ (q : Int) := by omega
 have q4 : (q : Int) < 64 := by omega
 have q5 : (0 : Int) ≤ (r : Int) := by omega
 have q6 : (r : Int) < 8 := by omega
 have q7 : (0 : Int) ≤ (n : Int) := by omega
 have q8 : IntKind.i64.wrap (q : Int) = (q : Int) := by rw [IntKind.wrap_i64]; omega
 have q9 : IntKind.i64.wrap (r : Int) = (r : Int) := by rw [IntKind.wrap_i64]; omega
 have q10 : (n : Int).tmod 8 = (r : Int) := by rw [Int.tmod_eq_emod_of_nonneg q7]; exact q2
 have Q11 := hide (S.or_bits2 r x hr8)
 clear hq hr hn
 go_enter Tryz.func48, Tryz.ntmps48
 go_region
 rw [Q11.out]
 go_end0
 exact ⟨rfl, 1, rfl⟩

set_option maxHeartbeats 1000000 in
set_option maxRecDepth 10000 in
theorem drop_any (g off n : Nat) (x : UInt8) (w : World) (hc : w.cell? ⟨g, off + n / 8, none⟩ = some (.int .u8 (x.toNat : Int))) (hf : w.frozen? ⟨g, off + n / 8, none⟩ = false) (hn : n < 512) :
  Calls Tryz.prog 189 #[.pointer (some ⟨g, off, none⟩), .int .i64 (n : Int)] w fun e w' => e = .returned (.tuple #[]) ∧ ∃ q, w' = (w.setCell ⟨g, off + n / 8, none⟩ (.int .u8 ((x &&& ~~~ UInt8.ofNat (2 ^ (n % 8))).toNat : Int))).drewN q := by
 obtain ⟨q, hq⟩ : ∃ q : Nat, q = n / 8 := ⟨_, rfl⟩
 obtain ⟨r, hr⟩ : ∃ r : Nat, r = n % 8 := ⟨_, rfl⟩
 rw [← hq] at hc hf ⊢
 rw [← hr]
 have hr8 : r < 8 := by omega
 have hq64 : q < 64 := by omega
 have q1 : (n : Int) / 8 = (q : Int) := by omega
 have q2 : (n : Int) % 8 = (r : Int) := by omega
 have q3 : (0 : Int) ≤ (q : Int) := by omega
 have q4 : (q : Int) < 64 := by omega
 have q5 : (0 : Int) ≤ (r : Int) := by omega
 have q6 : (r : Int) < 8 := by omega
 have q7 : (0 : Int) ≤ (n : Int) := by omega
 have q8 : IntKind.i64.wrap (q : Int) = (q : Int) := by rw [IntKind.wrap_i64]; omega
 have q9 : IntKind.i64.wrap (r : Int) = (r : Int) := by rw [IntKind.wrap_i64]; omega
 have q10 : (n : Int).tmod 8 = (r : Int) := by rw [Int.tmod_eq_emod_of_nonneg q7]; exact q2
 have Q11 := hide (S.nand_bits2 r x hr8)
 clear hq hr hn
 go_enter Tryz.func189, Tryz.ntmps189
 go_region
 rw [Q11.out]
 go_end0
 exact ⟨rfl, 1, rfl⟩

set_option maxHeartbeats 1000000 in
set_option maxRecDepth 10000 in
theorem free_any (g off : Nat) (s : List UInt8) (w : World) (hc : ∀ j, j < 64 → w.cell? ⟨g, off + j, none⟩ = some (.int .u8 ((s.getD j 0).toNat : Int))) :
  Calls Tryz.prog 121 #[.pointer (some ⟨g, off, none⟩)] w fun e w' => e = .returned (.tuple #[.int .i64 (((S.freeOf s).getD 0 : Nat) : Int), .bool (S.freeOf s).isSome]) ∧ ∃ q, w' = w.drewN q := by
 have HC := hide hc
 obtain ⟨fo, hfo⟩ : ∃ fo, fo = S.freeOf s := ⟨_, rfl⟩
 rw [← hfo]
 have HFO := hide hfo
 clear hc hfo
 go_enter Tryz.func121, Tryz.ntmps121
 go_wp2_with fail
 go_loopw [7] (fun i wr => ∃ k : Nat, k ≤ 64 ∧ i = .int .i64 (k : Int) ∧ Hid (∃ q, wr = w.drewN q) ∧ Hid (fo = S.freeFrom s k (64 - k))) (fun i _ => 64 - (intOf i).toNat)
 case atStart => exact ⟨0, by omega, rfl, ⟨0, rfl⟩, HFO.out⟩
 case round =>
 obtain ⟨k, hk, rfl, hw, hF⟩ := hrel
 by_cases hlt : k < 64
 ·have c0 : wr.cell? ⟨g, off + k, none⟩ = some (.int .u8 ((s.getD k 0).toNat : Int)) := by
   obtain ⟨q, hwq⟩ := hw.out
   rw [hwq]
   exact HC.out k hlt
  have HW : Hid (∃ q, wr.drew = w.drewN q) := by
   obtain ⟨q, hwq⟩ := hw.out
   exact ⟨q + 1, by rw [hwq]; rfl⟩
  obtain ⟨x, hx⟩ : ∃ x, x = s.getD k 0 := ⟨_, rfl⟩
  rw [← hx] at c0
  have hkI : (k : Int) < 64 := by omega
  have hk0 : (0 : Int) ≤ (k : Int) := by omega
  have hF2 := hF.out
  rw [show 64 - k = (63 - k) + 1 by omega] at hF2
  unfold S.freeFrom at hF2
  rw [← hx] at hF2
  have HX := hide hx
  clear hF hx hw
  by_cases h255 : x = 255
  ·subst h255
   rw [if_pos rfl] at hF2
   have HF := hide hF2
   clear hF2
   go_wp2_with fail
   go_region
   go_wp2_with fail
   go_roundw
   case rel => exact ⟨k + 1, by omega, by go_num, HW, by show fo = S.freeFrom s (k + 1) (64 - (k + 1)); rw [show 64 - (k + 1) = 63 - k by omega]; exact HF.out⟩
   case measure => simp [intOf]; omega
  ·rw [if_neg h255] at hF2
   have HF := hide hF2
   have hx5 : ¬ (x.toNat : Int) = 255 := fun e => h255 (UInt8.toNat_inj.1 (by show x.toNat = 255; omega))
   have hx6 : ((x.toNat : Int) == 255) = false := beq_false_of_ne hx5
   clear hF2
   go_wp2_with fail
   go_region
   go_wp2_with fail
   rw [S.xor_max x]
   refine (tz_any (~~~ x) wr.drew).mono ?_
   rintro e w1 ⟨rfl, rfl⟩
   have htz := S.tz_le (~~~ x)
   generalize S.tz (~~~ x) = m at HF htz ⊢
   go_wp2_with fail
   go_ret2
   exact ⟨by rw [HF.out]; simp, HW.out⟩
 ·obtain rfl : k = 64 := by omega
  have HF : Hid (fo = none) := hF.out
  have q1 : ¬ ((64 : Int) < 64) := by omega
  go_wp2_with fail
  go_ret2
  exact ⟨by rw [HF.out]; rfl, hw.out⟩
end Go.Proofs.YteealihknndclaaGreatDoor
namespace Go.Proofs.YteealihknndclaaGreatDoor
namespace S
def recs (ns : List Nat) : List (List UInt8) := if ns = [] then [] else [setL ns]
theorem recs_ne {ns : List Nat} (h : ns ≠ []) : recs ns = [setL ns] := if_neg h
structure Pgs (ss : List (List UInt8)) (p t : Nat) (ns : List Nat) (pg : Nat → List UInt8) : Prop where
 len : 7680 ≤ ss.length
 mark : ss.getD 0 [] = pmark
 log : Good ss 1 4 p t (recs ns)
 spare : ∀ i, i < ns.length → pageAt ss (4101 + i * 8) = pg (ns.getD i 0)
 home : ∀ m, m < 512 → m ∉ ns → pageAt ss (5 + m * 8) = pg m
 nb : ∀ n ∈ ns, n < 512
 up : ns.Pairwise (· < ·)
 le : ns.length ≤ 256
 size : ∀ n, n < 512 → (pg n).length = 1024
end S
end Go.Proofs.YteealihknndclaaGreatDoor
