/- The pages of the set of ascending pages. -/
import Derived.Test.YthjlhngjpbmieaaGreatDoorTf
namespace Go.Proofs.YthjlhngjpbmieaaGreatDoor
namespace S
theorem bit_orBit (s : List UInt8) (hs : s.length = 64) (n m : Nat) (hn : n < 512) : bit (orBit s n) m = (bit s m || decide (m = n)) := by
  rw [bit_iff, bit_iff]
  unfold orBit
  have hr : n % 8 < 8 := Nat.mod_lt _ (by omega)
  have hr' : m % 8 < 8 := Nat.mod_lt _ (by omega)
  by_cases hq : m / 8 = n / 8
  · rw [hq, List.getD_eq_getElem?_getD, List.getElem?_set_self (by omega), Option.getD_some]
    have key : ∀ a b : Fin 8, (UInt8.ofNat (2 ^ a.val)).toNat.testBit b.val = decide (b.val = a.val) := by decide
    rw [← Nat.testBit_eq_decide_div_mod_eq, ← Nat.testBit_eq_decide_div_mod_eq, UInt8.toNat_or, Nat.testBit_or, key ⟨n % 8, hr⟩ ⟨m % 8, hr'⟩]
    congr 1
    apply decide_eq_decide.2
    constructor
    · intro h
      have h : m % 8 = n % 8 := h
      omega
    · rintro rfl
      rfl
  · rw [List.getD_eq_getElem?_getD, List.getElem?_set_ne (fun e => hq e.symm), ← List.getD_eq_getElem?_getD]
    have : ¬ m = n := fun e => hq (by rw [e])
    rw [decide_eq_false this, Bool.or_false]
theorem bit_foldl (ns : List Nat) (s : List UInt8) (hs : s.length = 64) (h : ∀ n ∈ ns, n < 512) (m : Nat) : bit (ns.foldl orBit s) m = (bit s m || decide (m ∈ ns)) := by
  induction ns generalizing s with
  | nil => simp
  | cons n r ih =>
    rw [List.foldl_cons, ih _ (by rw [orBit_length]; exact hs) (fun x hx => h x (List.mem_cons_of_mem _ hx)), bit_orBit s hs n m (h n List.mem_cons_self), Bool.or_assoc]
    congr 1
    simp [List.mem_cons]
theorem bit_setL (ns : List Nat) (h : ∀ n ∈ ns, n < 512) (m : Nat) : bit (setL ns) m = decide (m ∈ ns) := by
  unfold setL
  rw [bit_foldl ns _ (zeros_length _) h, bit_zeros, Bool.false_or]
theorem inSet_setL (ns : List Nat) (h : ∀ n ∈ ns, n < 512) (hp : ns.Pairwise (· < ·)) : inSet (setL ns) 512 = ns := by
  have h1 : (inSet (setL ns) 512).Pairwise (· < ·) := List.Pairwise.filter _ List.pairwise_lt_range
  have h2 : (inSet (setL ns) 512).Perm ns := by
    refine (List.perm_ext_iff_of_nodup (h1.imp (fun h => Nat.ne_of_lt h)) (hp.imp (fun h => Nat.ne_of_lt h))).2 (fun a => ?_)
    unfold inSet
    rw [List.mem_filter, List.mem_range, bit_setL ns h, decide_eq_true_eq]
    exact ⟨fun x => x.2, fun x => ⟨h a x, x⟩⟩
  exact h2.eq_of_pairwise (fun a b _ _ x y => absurd (Nat.lt_trans x y) (Nat.lt_irrefl _)) h1 hp
end S
end Go.Proofs.YthjlhngjpbmieaaGreatDoor
