/- Two disks side by side: what is done to one does not touch the other one. -/
import Derived.Test.YtjnbjgkcliaipaaStr
namespace Go.Proofs.Ytjnbjgkcliaipaa
open Go.RowKit
def Duo (w0 w : World) (g1 : Nat) (d1 : S.Dk) (g2 : Nat) (d2 : S.Dk) : Prop := ∃ o1 o2 : Ow, o1.g = g1 ∧ o2.g = g2 ∧ DkIs w o1 d1 ∧ DkIs w o2 d2 ∧ (∀ k, o1.has k → w0.heap.size ≤ k) ∧ (∀ k, o2.has k → w0.heap.size ≤ k) ∧ (∀ k, o1.has k → ¬ o2.has k) ∧ Below w0.heap.size w0 w
theorem Duo.swap {w0 w : World} {g1 g2 : Nat} {d1 d2 : S.Dk} (h : Duo w0 w g1 d1 g2 d2) : Duo w0 w g2 d2 g1 d1 := by
  obtain ⟨o1, o2, h1, h2, h3, h4, h5, h6, h7, h8⟩ := h
  exact ⟨o2, o1, h2, h1, h4, h3, h6, h5, fun k hk e => h7 k e hk, h8⟩
theorem Duo.base {w0 w : World} {g1 g2 : Nat} {d1 d2 : S.Dk} (h : Duo w0 w g1 d1 g2 d2) : Below w0.heap.size w0 w := by obtain ⟨_, _, _, _, _, _, _, _, _, h⟩ := h; exact h
theorem Duo.lt {w0 w : World} {g1 g2 : Nat} {d1 d2 : S.Dk} (h : Duo w0 w g1 d1 g2 d2) : g1 < w.heap.size := by
  obtain ⟨o1, _, rfl, _, h, _⟩ := h
  exact h.lt _ (Or.inl rfl)
theorem Duo.below {w0 w W : World} {g1 g2 : Nat} {d1 d2 : S.Dk} (h : Duo w0 w g1 d1 g2 d2) (hb : Below w.heap.size w W) : Duo w0 W g1 d1 g2 d2 := by
  obtain ⟨o1, o2, h1, h2, h3, h4, h5, h6, h7, h8⟩ := h
  exact ⟨o1, o2, h1, h2, h3.below hb, h4.below hb, h5, h6, h7, h8.trans (hb.mono h8.size)⟩
theorem Duo.step {w0 w W : World} {o1 o2 o' : Ow} {d2 d' : S.Dk} (h4 : DkIs w o2 d2) (h5 : ∀ k, o1.has k → w0.heap.size ≤ k) (h6 : ∀ k, o2.has k → w0.heap.size ≤ k) (h7 : ∀ k, o1.has k → ¬ o2.has k) (h8 : Below w0.heap.size w0 w) (h9 : DkIs W o' d') (h10 : DkTo o1 w o' W) : Duo w0 W o1.g d' o2.g d2 := by
  obtain ⟨h11, h12⟩ := h10.below h8.size h5
  refine ⟨o', o2, h10.g, rfl, h9, h4.chg h10.chg (fun k hk e => h7 k e hk), h12, h6, fun k hk e => ?_, h8.trans h11⟩
  rcases h10.own k hk with e' | e'
  · exact h7 k e' e
  · have := h4.lt k e; omega
theorem duo_begun (n : Nat) (w0 w : World) (g : Nat) (d : S.Dk) (h1 : 1 ≤ n) (h2 : n ≤ 8192) (h : Has X0 w0 w g d) :
   Calls Try.prog 10 #[.int .i64 (n : Int)] w fun e w' => ∃ g2, e = .returned (.tuple #[.pointer (some ⟨g2, 0, none⟩), .bool true]) ∧ Duo w0 w' g d g2 (S.Dk.new n) := by
  obtain ⟨o1, rfl, h3, h4, h5, _⟩ := h
  exact (begun_any n w h1 h2).mono fun _ _ ⟨o, h6, h7, h8, h9⟩ => ⟨o.g, h6, o1, o, rfl, rfl, h3.below h9, h7, fun k hk => (h4 k hk).1, fun k hk => Nat.le_trans h5.size (h8 k hk), fun k hk e => by have := h3.lt k hk; have := h8 k e; omega, h5.trans (h9.mono h5.size)⟩
theorem duo_sector (c : UInt8) (n : Nat) (w0 w : World) (g1 g2 : Nat) (d1 d2 : S.Dk) (h : Duo w0 w g1 d1 g2 d2) (hn : n ≤ 1000) :
   Calls Try.prog 14 #[.int .u8 (c.toNat : Int), .int .i64 (n : Int)] w fun e w' => ∃ gs, e = .returned (.slice (some ⟨gs, 0, none⟩) n n) ∧ Duo w0 w' g1 d1 g2 d2 ∧ Txt w' g1 (.slice (some ⟨gs, 0, none⟩) n n) (S.sec c n) ∧ Txt w' g2 (.slice (some ⟨gs, 0, none⟩) n n) (S.sec c n) ∧ w.heap.size ≤ gs ∧ w'.heap[gs]? = some (.cells (S.v8 (S.sec c n)) 5 (0, 0)) :=
  (sector_any c n w hn).mono fun _ _ ⟨h1, h2, h3⟩ => ⟨w.heap.size, h1, h.below h3, txt_row h2 (by have := h.lt; omega) (S.sec_length c n) (by omega), txt_row h2 (by have := h.swap.lt; omega) (S.sec_length c n) (by omega), Nat.le_refl _, h2⟩
theorem duo_write (n : Nat) (v : Value) (t : List UInt8) (w0 w : World) (g1 g2 : Nat) (d1 d2 : S.Dk) (h : Duo w0 w g1 d1 g2 d2) (hn : n < d1.safe.length) (hg : d1.goes = true) (ht : t.length = 128) (hb : d1.pend.length ≤ 1000000) (hv : Txt w g1 v t) :
   Calls Try.prog 13 #[.pointer (some ⟨g1, 0, none⟩), .int .i64 (n : Int), v] w fun e w' => e = .returned (.int .i64 0) ∧ Duo w0 w' g1 (d1.went.write n t) g2 d2 := by
  obtain ⟨o1, o2, rfl, rfl, h3, h4, h5, h6, h7, h8⟩ := h
  exact (write_yes o1 d1 n v t w h3 hn hg ht hb hv).mono fun _ _ ⟨h9, o', h10, h11⟩ => ⟨h9, Duo.step h4 h5 h6 h7 h8 h10 h11⟩
theorem duo_flush (w0 w : World) (g1 g2 : Nat) (d1 d2 : S.Dk) (h : Duo w0 w g1 d1 g2 d2) (hg : d1.goes = true) (hb : d1.pend.length ≤ 1000000) :
   Calls Try.prog 15 #[.pointer (some ⟨g1, 0, none⟩)] w fun e w' => e = .returned (.int .i64 0) ∧ Duo w0 w' g1 d1.went.flush g2 d2 := by
  obtain ⟨o1, o2, rfl, rfl, h3, h4, h5, h6, h7, h8⟩ := h
  exact (flush_yes o1 d1 w h3 hg hb).mono fun _ _ ⟨h9, o', h10, h11⟩ => ⟨h9, Duo.step h4 h5 h6 h7 h8 h10 h11⟩
theorem duo_crash (v : Value) (c : S.Cut) (w0 w : World) (g1 g2 : Nat) (d1 d2 : S.Dk) (h : Duo w0 w g1 d1 g2 d2) (hb : d1.pend.length ≤ 1000000) (hv : BoolsAt w0 v c.keep) :
   Calls Try.prog 16 #[.pointer (some ⟨g1, 0, none⟩), .agg #[v, .int .i64 c.torn, .int .i64 c.bytes]] w fun e w' => e = .returned (.tuple #[]) ∧ Duo w0 w' g1 (d1.crash c) g2 d2 := by
  obtain ⟨o1, o2, rfl, rfl, h3, h4, h5, h6, h7, h8⟩ := h
  exact (crash_any o1 d1 v c w h3 hb (fun W hc => bools_old hv h5 h8 hc)).mono fun _ _ ⟨h9, o', h10, h11⟩ => ⟨h9, Duo.step h4 h5 h6 h7 h8 h10 h11⟩
theorem duo_read (n : Nat) (w0 w : World) (g1 g2 : Nat) (d1 d2 : S.Dk) (h : Duo w0 w g1 d1 g2 d2) (hn : n < d1.safe.length) :
   Calls Try.prog 12 #[.pointer (some ⟨g1, 0, none⟩), .int .i64 (n : Int)] w fun e w' => ∃ gs, e = .returned (.tuple #[.slice (some ⟨gs, 0, none⟩) 128 128, .int .i64 0]) ∧ w'.heap[gs]? = some (.cells (S.v8 (d1.seen.getD n [])) 5 (0, 0)) ∧ Duo w0 w' g1 d1 g2 d2 ∧ Below w.heap.size w w' := by
  have h' := h
  obtain ⟨o1, o2, rfl, rfl, h3, h4, h5, h6, h7, h8⟩ := h
  exact (read_yes o1 d1 n w h3 hn).mono fun _ _ ⟨h9, h10, h11⟩ => ⟨w.heap.size, h9, h10, h'.below h11, h11⟩
theorem Duo.has {w0 w : World} {g1 g2 : Nat} {d1 d2 : S.Dk} (h : Duo w0 w g1 d1 g2 d2) : Has X0 w0 w g1 d1 := by
  obtain ⟨o1, _, h1, _, h3, _, h5, _, _, h8⟩ := h
  exact ⟨o1, h1, h3, fun k hk => ⟨h5 k hk, rfl⟩, h8, fun _ _ e => (by cases e)⟩
namespace S
/-- The disk of DiskOrder behind k writes. -/
def ord (fs : List UInt8) (k : Nat) : Dk := { safe := [zeros 128], pend := (List.range k).map fun j => (0, sec (fs.getD j 0) 128), left := none }
theorem ord_next (fs : List UInt8) (k : Nat) : (ord fs k).went.write 0 (sec (fs.getD k 0) 128) = ord fs (k + 1) := by
  simp [ord, Dk.went, Dk.write, List.range_succ]
theorem ord_len (fs : List UInt8) (k : Nat) : (ord fs k).pend.length = k := by simp [ord]
theorem ord_nth (fs : List UInt8) (k j : Nat) (hj : j < k) : Ws.nth (ord fs k).pend j = (0, sec (fs.getD j 0) 128) := by
  simp [ord, Ws.nth, List.getD_eq_getElem?_getD, hj]
/-- The last write that is kept. -/
def lastOf (fs : List UInt8) (ks : List Bool) : Nat → Option UInt8
  | 0 => none
  | k + 1 => if ks.getD k false = true then some (fs.getD k 0) else lastOf fs ks k
def lastSec (o : Option UInt8) : List UInt8 := match o with | none => zeros 128 | some c => sec c 128
theorem lastSec_len (o : Option UInt8) : (lastSec o).length = 128 := by cases o; exact zeros_length _; exact sec_length _ _
theorem mix_all (a b : List UInt8) (ha : a.length = 128) (hb : b.length = 128) : mix 128 a b = a := by unfold mix; rw [List.take_of_length_le (by omega), List.drop_eq_nil_of_le (by omega), List.append_nil]
theorem mix_none (a b : List UInt8) : mix 0 a b = b := by simp [mix]
theorem ord_crashTo (fs : List UInt8) (ks : List Bool) (n k : Nat) (hk : k ≤ n) : crashTo ⟨ks, -1, 0⟩ [zeros 128] (ord fs n).pend k = [lastSec (lastOf fs ks k)] := by
  induction k with
  | zero => rfl
  | succ k ih =>
    rw [crashTo, ih (by omega), ord_nth fs n k (by omega)]
    show [mix _ _ _] = _
    by_cases h : ks.getD k false = true
    · rw [Cut.of_keep (c := ⟨ks, -1, 0⟩) h]
      show [mix 128 (sec _ 128) (lastSec _)] = _
      rw [mix_all _ _ (sec_length _ _) (lastSec_len _), lastOf, if_pos h]
      rfl
    · have h' : ks.getD k false = false := by simpa using h
      rw [Cut.of_lost (c := ⟨ks, -1, 0⟩) h' (by show ¬ (k : Int) = -1; omega), mix_none, lastOf, if_neg h]
      rfl
theorem ord_crash (fs : List UInt8) (ks : List Bool) (k : Nat) : ((ord fs k).crash ⟨ks, -1, 0⟩).seen.getD 0 [] = lastSec (lastOf fs ks k) := by
  have h := ord_crashTo fs ks k (ord fs k).pend.length (by rw [ord_len]; exact Nat.le_refl _)
  rw [ord_len] at h
  have e : ((ord fs k).crash ⟨ks, -1, 0⟩).seen = crashTo ⟨ks, -1, 0⟩ [zeros 128] (ord fs k).pend (ord fs k).pend.length := rfl
  rw [e, ord_len, h]
  rfl
theorem ord_over (fs : List UInt8) (n k : Nat) (hk : k + 1 ≤ n) : overTo [zeros 128] (ord fs n).pend (k + 1) = [sec (fs.getD k 0) 128] := by
  rw [overTo, ord_nth fs n k (by omega)]
  have hl : (overTo [zeros 128] (ord fs n).pend k).length = 1 := overTo_length _ _ _
  match overTo [zeros 128] (ord fs n).pend k, hl with
  | [x], _ => rfl
theorem ord_flush (fs : List UInt8) (k : Nat) : ((ord fs (k + 1)).went.flush.crash ⟨[], -1, 0⟩).seen.getD 0 [] = sec (fs.getD k 0) 128 := by
  have e : ((ord fs (k + 1)).went.flush.crash ⟨[], -1, 0⟩).seen = overTo [zeros 128] (ord fs (k + 1)).pend (ord fs (k + 1)).pend.length := rfl
  rw [e, ord_len, ord_over fs (k + 1) k (Nat.le_refl _)]
  rfl
theorem ord_safe (fs : List UInt8) (k : Nat) (c : Cut) : ((ord fs k).crash c).safe.length = 1 := by show (crashTo _ _ _ _).length = 1; rw [crashTo_length]; rfl
theorem ord_safe2 (fs : List UInt8) (k : Nat) (c : Cut) : ((ord fs k).went.flush.crash c).safe.length = 1 := by show (crashTo _ _ _ _).length = 1; rw [crashTo_length]; show (overTo _ _ _).length = 1; rw [overTo_length]; rfl
end S
end Go.Proofs.Ytjnbjgkcliaipaa
