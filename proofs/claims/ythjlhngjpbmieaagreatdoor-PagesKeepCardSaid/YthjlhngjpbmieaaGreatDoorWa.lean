/- What a crash leaves of a Put, wherever it was stopped: the old pages, all of the new ones in their spares with the log telling of them, or all of them home. -/
import Derived.Test.YthjlhngjpbmieaaGreatDoorUd
namespace Go.Proofs.YthjlhngjpbmieaaGreatDoor
namespace S
theorem pageWs_nth (f : Nat) (x : List UInt8) (i j : Nat) (h : j < i) : Ws.nth (pageWs f x i) j = (f + j, (x.drop (j * 128)).take 128) := by
  unfold pageWs
  rw [Ws.nth, List.getD_eq_getElem?_getD, List.getElem?_map, List.getElem?_range h]
  rfl
theorem pagesWs_nth (f : Nat → Nat) (xs : List (List UInt8)) (k m : Nat) (h : m < k * 8) : Ws.nth (pagesWs f xs k) m = (f (m / 8) + m % 8, ((xs.getD (m / 8) []).drop (m % 8 * 128)).take 128) := by
  induction k with
  | zero => omega
  | succ k ih =>
    rw [pagesWs_succ, Ws.nth, List.getD_eq_getElem?_getD]
    by_cases e : m < k * 8
    · rw [List.getElem?_append_left (by rw [pagesWs_length]; exact e), ← List.getD_eq_getElem?_getD]
      exact ih e
    · rw [List.getElem?_append_right (by rw [pagesWs_length]; omega), pagesWs_length, ← List.getD_eq_getElem?_getD]
      have e1 : m / 8 = k := by omega
      have e2 : m - k * 8 = m % 8 := by omega
      rw [e2, e1]
      exact pageWs_nth _ _ _ _ (by omega)
theorem pages_sole {f : Nat → Nat} {xs : List (List UInt8)} {k n : Nat} (hf : ∀ i, i < k → f i + 8 ≤ n) (hx : ∀ i, i < k → (xs.getD i []).length = 1024) (hd : ∀ i j, i < k → j < k → i ≠ j → f i + 8 ≤ f j ∨ f j + 8 ≤ f i) : Ws.Sole (pagesWs f xs k) n := by
  refine ⟨fun m hm => ?_, fun a b ha hb e => ?_⟩
  · rw [pagesWs_length] at hm
    rw [pagesWs_nth f xs k m hm]
    have h1 := hf (m / 8) (by omega)
    have h2 := hx (m / 8) (by omega)
    refine ⟨by simp only; omega, ?_⟩
    simp only [List.length_take, List.length_drop]
    omega
  · rw [pagesWs_length] at ha hb
    rw [pagesWs_nth f xs k a ha, pagesWs_nth f xs k b hb] at e
    simp only at e
    by_cases h : a / 8 = b / 8
    · rw [h] at e
      omega
    · have := hd (a / 8) (b / 8) (by omega) (by omega) h
      omega
/-- Other places stay. -/
theorem torn_off {old new : List (List UInt8)} {f : Nat → Nat} {xs : List (List UInt8)} {k : Nat} (h : Torn old (pagesWs f xs k) new) (j : Nat) (hj : ∀ i, i < k → j < f i ∨ f i + 8 ≤ j) : new.getD j [] = old.getD j [] := by
  refine h.stay j (fun m hm => ?_)
  rw [pagesWs_length] at hm
  rw [pagesWs_nth f xs k m hm]
  have := hj (m / 8) (by omega)
  simp only
  omega
theorem fated_app {d : Dk} {k l : List Act} {P : List (List UInt8) → Prop} (h1 : Fated d k P) (h2 : Fated (d.acts k) l P) : Fated d (k ++ l) P := fun n hn c => by
  by_cases e : n ≤ k.length
  · rw [List.take_append_of_le_length e]
    exact h1 n e c
  · obtain ⟨m, rfl⟩ : ∃ m, n = k.length + m := ⟨n - k.length, by omega⟩
    rw [List.take_length_add_append, Dk.acts_app]
    exact h2 m (by rw [List.length_append] at hn; omega) c
theorem fated_imp {d : Dk} {l : List Act} {P Q : List (List UInt8) → Prop} (h : Fated d l P) (hi : ∀ ss, P ss → Q ss) : Fated d l Q := fun n hn c => hi _ (h n hn c)
/-- As before the Put. -/
structure Old (d : Dk) (p t : Nat) (ss : List (List UInt8)) : Prop where
  len : ss.length = d.safe.length
  mark : ss.getD 0 [] = d.safe.getD 0 []
  home : ∀ j, 5 ≤ j → j < 4101 → ss.getD j [] = d.safe.getD j []
  log : Good ss 1 4 p t []
/-- The log tells of the sheets, which lie beside the pages. -/
structure Mid (d : Dk) (p t : Nat) (ns : List Nat) (xs ss : List (List UInt8)) : Prop where
  len : ss.length = d.safe.length
  mark : ss.getD 0 [] = d.safe.getD 0 []
  log : Good ss 1 4 (1 - p) (t + 1) [setL ns]
  spare : ∀ i, i < ns.length → pageAt ss (4101 + i * 8) = xs.getD i []
  home : ∀ m, m < 512 → m ∉ ns → pageAt ss (5 + m * 8) = pageAt d.safe (5 + m * 8)
/-- The pages are home. -/
structure New (d : Dk) (p t : Nat) (ns : List Nat) (X : Nat → List UInt8) (ss : List (List UInt8)) : Prop where
  len : ss.length = d.safe.length
  mark : ss.getD 0 [] = d.safe.getD 0 []
  log : Good ss 1 4 p (t + 2) []
  home : ∀ m, m < 512 → pageAt ss (5 + m * 8) = if m ∈ ns then X m else pageAt d.safe (5 + m * 8)
def Left (d : Dk) (p t : Nat) (ns : List Nat) (X : Nat → List UInt8) (ss : List (List UInt8)) : Prop := Old d p t ss ∨ Mid d p t ns (ns.map X) ss ∨ New d p t ns X ss
theorem home_off {ns : List Nat} {m i : Nat} (hi : i < ns.length) (hm : m ∉ ns) : 5 + m * 8 + 8 ≤ homeOf ns i ∨ homeOf ns i + 8 ≤ 5 + m * 8 := by
  have hne : ns.getD i 0 ≠ m := fun e' => hm (by rw [← e', List.getD_eq_getElem?_getD, List.getElem?_eq_getElem hi]; exact List.getElem_mem hi)
  unfold homeOf
  omega
theorem put_fated {d : Dk} {p t : Nat} {ns : List Nat} {X : Nat → List UInt8} (hp : d.pend = []) (g : Good d.safe 1 4 p t []) (hl : 7680 ≤ d.safe.length) (hn : ∀ n ∈ ns, n < 512) (hpw : ns.Pairwise (· < ·)) (h256 : ns.length ≤ 256) (hx : ∀ n ∈ ns, (X n).length = 1024) (ht : t + 2 < 18446744073709551616) :
    Fated d (putActs d p t ns (ns.map X)) (Left d p t ns X) := by
  obtain ⟨s1, s2, s3, s4, pc⟩ := put_calm (ns := ns) (xs := ns.map X) hp g ht
  have hxs : ∀ i, i < ns.length → ((ns.map X).getD i []).length = 1024 := fun i hi => by
    rw [map_getD X ns i hi]
    exact hx _ (by rw [List.getD_eq_getElem?_getD, List.getElem?_eq_getElem hi]; exact List.getElem_mem hi)
  have hpp := g.place
  have l1 := pc.len.1
  have l2 := pc.len.2.1
  have l3 := pc.len.2.2.1
  have o1 : ∀ j, j < 4101 → s1.getD j [] = d.safe.getD j [] := fun j hj => by rw [pc.e1]; exact putAll_off _ _ _ _ _ (fun i _ => Or.inl (by omega))
  have sp1 : ∀ i, i < ns.length → pageAt s1 (4101 + i * 8) = (ns.map X).getD i [] := fun i hi => by
    rw [pc.e1]
    exact putAll_page d.safe (fun i => 4101 + i * 8) (ns.map X) ns.length (fun i hi => by show 4101 + i * 8 + 8 ≤ _; omega) hxs (fun i j _ _ hij => by show 4101 + i * 8 + 8 ≤ 4101 + j * 8 ∨ 4101 + j * 8 + 8 ≤ 4101 + i * 8; omega) i hi
  have hlow : ∀ i, i < ns.length → 5 ≤ homeOf ns i ∧ homeOf ns i + 8 ≤ 4101 := fun i hi => by have := getD_lt hn i hi; unfold homeOf; omega
  -- behind the commit
  have mid : ∀ ss, ss.length = d.safe.length → ss.getD 0 [] = d.safe.getD 0 [] → Good ss 1 4 (1 - p) (t + 1) [setL ns] → (∀ j, 4101 ≤ j → ss.getD j [] = s1.getD j []) → (∀ m, m < 512 → m ∉ ns → pageAt ss (5 + m * 8) = pageAt d.safe (5 + m * 8)) → Left d p t ns X ss := fun ss h1 h2 h3 h4 h5 =>
    Or.inr (Or.inl ⟨h1, h2, h3, fun i hi => by
      have e : pageAt ss (4101 + i * 8) = pageAt s1 (4101 + i * 8) := secs_cong (fun j a b => h4 j (by omega))
      rw [e]
      exact sp1 i hi, h5⟩)
  have o2 : ∀ j, j < 1 ∨ 5 ≤ j → s2.getD j [] = s1.getD j [] := fun j hj => (pc.off j hj).2
  have hp2 : ∀ m, m < 512 → pageAt s2 (5 + m * 8) = pageAt d.safe (5 + m * 8) := fun m hm => secs_cong (fun j a b => by rw [o2 j (by omega), o1 j (by omega)])
  have g2 : Good s2 1 4 (1 - p) (t + 1) [setL ns] := by rw [pc.e2]; exact pc.c1.good
  unfold putActs homeActs
  rw [spTo_eq, ← pc.e1, ← pc.e2, ← pc.e3, List.append_assoc]
  refine fated_stage hp (pages_sole (fun i hi => by show 4101 + i * 8 + 8 ≤ _; omega) hxs (fun i j _ _ hij => by show 4101 + i * 8 + 8 ≤ 4101 + j * 8 ∨ 4101 + j * 8 + 8 ≤ 4101 + i * 8; omega)) (fun new h => ?_) ?_
  · have off : ∀ j, j < 4101 → new.getD j [] = d.safe.getD j [] := fun j hj => torn_off h j (fun i _ => Or.inl (by show j < 4101 + i * 8; omega))
    exact Or.inl ⟨h.len, off 0 (by omega), fun j _ b => off j b, g.stay h.len (fun j _ b => off j (by omega))⟩
  rw [over_pages, ← pc.e1]
  show Fated { d with safe := s1, pend := [] } (commitActs { d with safe := s1, pend := [] } 1 4 p t [] [setL ns] ++ _) (Left d p t ns X)
  refine fated_app ?_ ?_
  · refine fated_imp pc.c1.fated (fun ss m => ?_)
    have ml : ss.length = d.safe.length := m.len.trans l1
    have mo : ∀ j, j < 1 ∨ 5 ≤ j → ss.getD j [] = s1.getD j [] := m.stay
    have m0 : ss.getD 0 [] = d.safe.getD 0 [] := by rw [mo 0 (Or.inl (by omega)), o1 0 (by omega)]
    rcases m.log with e | e
    · exact Or.inl ⟨ml, m0, fun j a b => by rw [mo j (Or.inr a), o1 j b], e⟩
    · exact mid ss ml m0 e (fun j a => mo j (Or.inr (by omega))) (fun m hm _ => secs_cong (fun j a b => by rw [mo j (by omega), o1 j (by omega)]))
  rw [pc.c1.acts, ← pc.e2, List.append_assoc]
  refine fated_stage rfl (pages_sole (fun i hi => by have := hlow i hi; show _ ≤ s2.length; omega) hxs (fun i j hi hj hij => apart ns hpw i j hi hj hij)) (fun new h => ?_) ?_
  · have off : ∀ j, (j < 5 ∨ 4101 ≤ j) → new.getD j [] = s2.getD j [] := fun j hj => torn_off h j (fun i hi => by have := hlow i hi; omega)
    refine mid new (h.len.trans l2) (by rw [off 0 (by omega), o2 0 (by omega), o1 0 (by omega)]) (g2.stay h.len (fun j _ b => off j (by omega))) (fun j a => by rw [off j (by omega), o2 j (by omega)]) (fun m hm hmn => ?_)
    rw [← hp2 m hm]
    exact secs_cong (fun j a b => torn_off h j (fun i hi => by have := home_off hi hmn; omega))
  rw [over_pages, ← pc.e3]
  show Fated { d with safe := s3, pend := [] } (commitActs { d with safe := s3, pend := [] } 1 4 (1 - p) (t + 1) [setL ns] []) (Left d p t ns X)
  refine fated_imp pc.c2.fated (fun ss m => ?_)
  have ml : ss.length = d.safe.length := m.len.trans l3
  have mo : ∀ j, j < 1 ∨ 5 ≤ j → ss.getD j [] = s3.getD j [] := m.stay
  have o3 : ∀ j, (j < 5 ∨ 4101 ≤ j) → s3.getD j [] = s2.getD j [] := fun j hj => by rw [pc.e3]; exact putAll_off _ _ _ _ _ (fun i hi => by have := hlow i hi; omega)
  have m0 : ss.getD 0 [] = d.safe.getD 0 [] := by rw [mo 0 (by omega), o3 0 (by omega), o2 0 (by omega), o1 0 (by omega)]
  have ph : ∀ m, m < 512 → pageAt ss (5 + m * 8) = pageAt s3 (5 + m * 8) := fun m hm => secs_cong (fun j a b => mo j (by omega))
  have h4 : ∀ m, m < 512 → pageAt ss (5 + m * 8) = if m ∈ ns then X m else pageAt d.safe (5 + m * 8) := fun m hm => by
    have a := pc.home hl hn hpw hx m hm
    have b : pageAt s4 (5 + m * 8) = pageAt s3 (5 + m * 8) := secs_cong (fun j a b => (pc.off j (by omega)).1)
    rw [ph m hm, ← b]
    exact a
  rcases m.log with e | e
  · exact mid ss ml m0 e (fun j a => by rw [mo j (by omega), o3 j (by omega), o2 j (by omega)]) (fun m hm hmn => by rw [h4 m hm, if_neg hmn])
  · exact Or.inr (Or.inr ⟨ml, m0, by rw [show 1 - (1 - p) = p by omega] at e; exact e, h4⟩)
/-- Behind a Put and a crash. -/
theorem put_crash {d d' : Dk} {b : Bool} {p t : Nat} {ns : List Nat} {X : Nat → List UInt8} (hp : d.pend = []) (g : Good d.safe 1 4 p t []) (hl : 7680 ≤ d.safe.length) (hn : ∀ n ∈ ns, n < 512) (hpw : ns.Pairwise (· < ·)) (h256 : ns.length ≤ 256) (hx : ∀ n ∈ ns, (X n).length = 1024) (ht : t + 2 < 18446744073709551616) (hpl : d.plan (putActs d p t ns (ns.map X)) = (d', b)) (c : Cut) :
    Left d p t ns X (d'.crash c).safe ∧ (b = true → New d p t ns X (d'.crash c).safe) := by
  obtain ⟨n, hn', ha, hd, _⟩ := Dk.plan_first (putActs d p t ns (ns.map X)) d
  rw [hpl] at ha hd
  refine ⟨?_, fun hb => ?_⟩
  · rw [ha.crash]
    exact put_fated hp g hl hn hpw h256 hx ht n hn' c
  · obtain ⟨s1, s2, s3, s4, pc⟩ := put_calm (ns := ns) (xs := ns.map X) hp g ht
    have hpp := g.place
    rw [ha.crash, hd hb, List.take_length, pc.acts, Dk.crash_flushed _ rfl]
    refine ⟨pc.len.2.2.2, pc.mark, ?_, pc.home hl hn hpw hx⟩
    have := pc.c2.good
    rw [← pc.e4, show 1 - (1 - p) = p by omega] at this
    exact this
/-- How many bits are set. -/
def ones (x : UInt8) : Nat := (if x.toNat.testBit 0 then 1 else 0) + (if x.toNat.testBit 1 then 1 else 0) + (if x.toNat.testBit 2 then 1 else 0) + (if x.toNat.testBit 3 then 1 else 0) + (if x.toNat.testBit 4 then 1 else 0) + (if x.toNat.testBit 5 then 1 else 0) + (if x.toNat.testBit 6 then 1 else 0) + (if x.toNat.testBit 7 then 1 else 0)
def cnt (s : List UInt8) : Nat := (s.map ones).sum
theorem ones_or : ∀ (r : Fin 8) (x : Fin 256), x.val.testBit r.val = false → ones (UInt8.ofNat x.val ||| UInt8.ofNat (2 ^ r.val)) = ones (UInt8.ofNat x.val) + 1 := by decide +kernel
theorem sum_set (l : List Nat) (i y : Nat) (h : i < l.length) : (l.set i y).sum + l.getD i 0 = l.sum + y := by
  induction l generalizing i with
  | nil => simp at h
  | cons a l ih =>
    cases i with
    | zero => simp; omega
    | succ i =>
      have := ih i (by simpa using h)
      simp [List.getD_eq_getElem?_getD] at this ⊢
      omega
theorem cnt_orBit (s : List UInt8) (n : Nat) (hs : s.length = 64) (hn : n < 512) (hb : bit s n = false) : cnt (orBit s n) = cnt s + 1 := by
  have hi : n / 8 < (s.map ones).length := by rw [List.length_map]; omega
  have hx : (s.map ones).getD (n / 8) 0 = ones (s.getD (n / 8) 0) := by
    rw [List.getD_eq_getElem?_getD, List.getD_eq_getElem?_getD, List.getElem?_map, List.getElem?_eq_getElem (by omega)]
    rfl
  have h := sum_set (s.map ones) (n / 8) (ones (s.getD (n / 8) 0 ||| UInt8.ofNat (2 ^ (n % 8)))) hi
  rw [bit_iff, ← Nat.testBit_eq_decide_div_mod_eq] at hb
  have ho := ones_or ⟨n % 8, Nat.mod_lt _ (by omega)⟩ ⟨(s.getD (n / 8) 0).toNat, (s.getD (n / 8) 0).toNat_lt⟩ hb
  simp only [UInt8.ofNat_toNat] at ho
  rw [hx, ho] at h
  unfold cnt orBit
  rw [List.map_set, ho]
  omega
theorem cnt_zeros : cnt (zeros 64) = 0 := by decide +kernel
theorem cnt_foldl (ns : List Nat) (s : List UInt8) (hs : s.length = 64) (h : ∀ n ∈ ns, n < 512 ∧ bit s n = false) (hd : ns.Pairwise (· < ·)) : cnt (ns.foldl orBit s) = cnt s + ns.length := by
  induction ns generalizing s with
  | nil => rfl
  | cons n r ih =>
    rw [List.pairwise_cons] at hd
    have hn := h n List.mem_cons_self
    rw [List.foldl_cons, ih (orBit s n) (by rw [orBit_length]; exact hs) (fun m hm => ?_) hd.2, cnt_orBit s n hs hn.1 hn.2, List.length_cons]
    · omega
    · have hm' := h m (List.mem_cons_of_mem _ hm)
      refine ⟨hm'.1, ?_⟩
      rw [bit_orBit s hs n m hn.1, hm'.2, Bool.false_or]
      have := hd.1 m hm
      exact decide_eq_false (by omega)
theorem cnt_setL (ns : List Nat) (h : ∀ n ∈ ns, n < 512) (hd : ns.Pairwise (· < ·)) : cnt (setL ns) = ns.length := by
  unfold setL
  rw [cnt_foldl ns _ (zeros_length _) (fun n hn => ⟨h n hn, bit_zeros n⟩) hd, cnt_zeros, Nat.zero_add]
end S
end Go.Proofs.YthjlhngjpbmieaaGreatDoor
namespace Go.Proofs.YthjlhngjpbmieaaGreatDoor
namespace S
/-- What the log tells while the pages of ns are away. -/
def recs (ns : List Nat) : List (List UInt8) := if ns = [] then [] else [setL ns]
theorem recs_ne {ns : List Nat} (h : ns ≠ []) : recs ns = [setL ns] := if_neg h
/-- Pages, those of ns in their spares. -/
structure Pgs (ss : List (List UInt8)) (p t : Nat) (ns : List Nat) (pg : Nat → List UInt8) : Prop where
  len : 7680 ≤ ss.length
  mark : ss.getD 0 [] = pmark
  log : Good ss 1 4 p t (recs ns)
  spare : ∀ i, i < ns.length → pageAt ss (4101 + i * 8) = pg (ns.getD i 0)
  home : ∀ m, m < 512 → m ∉ ns → pageAt ss (5 + m * 8) = pg m
  nb : ∀ n ∈ ns, n < 512
  up : ns.Pairwise (· < ·)
  le : ns.length ≤ 256
  size : ∀ n, n < 512 → (pg n).length = 1024
theorem mem_getD {ns : List Nat} {i : Nat} (h : i < ns.length) : ns.getD i 0 ∈ ns := by
  rw [List.getD_eq_getElem?_getD, List.getElem?_eq_getElem h]
  exact List.getElem_mem h
/-- Bringing home: wherever it is stopped and crashed, the pages are the same; done, none is away. -/
theorem home_calm {d : Dk} {p t : Nat} {ns : List Nat} {pg : Nat → List UInt8} (hp : d.pend = []) (h : Pgs d.safe p t ns pg) (hne : ns ≠ []) (ht : t + 1 < 18446744073709551616) :
    Fated d (homeActs d p t ns (ns.map pg)) (fun ss => Pgs ss p t ns pg ∨ Pgs ss (1 - p) (t + 1) [] pg) ∧ ∃ s', d.acts (homeActs d p t ns (ns.map pg)) = { d with safe := s', pend := [] } ∧ Pgs s' (1 - p) (t + 1) [] pg := by
  have g0 := h.log
  rw [recs_ne hne] at g0
  have hx : ∀ n ∈ ns, (pg n).length = 1024 := fun n hn => h.size n (h.nb n hn)
  have hxs : ∀ i, i < ns.length → ((ns.map pg).getD i []).length = 1024 := fun i hi => by rw [map_getD pg ns i hi]; exact hx _ (mem_getD hi)
  have hlow : ∀ i, i < ns.length → 5 ≤ homeOf ns i ∧ homeOf ns i + 8 ≤ 4101 := fun i hi => by have := getD_lt h.nb i hi; unfold homeOf; omega
  have hl := h.len
  obtain ⟨s3, e3⟩ : ∃ s3, s3 = putAll d.safe (homeOf ns) (ns.map pg) ns.length := ⟨_, rfl⟩
  have l3 : s3.length = d.safe.length := by rw [e3]; exact putAll_length _ _ _ _
  have o3 : ∀ j, (j < 5 ∨ 4101 ≤ j) → s3.getD j [] = d.safe.getD j [] := fun j hj => by rw [e3]; exact putAll_off _ _ _ _ _ (fun i hi => by have := hlow i hi; omega)
  have g3 : Good s3 1 4 p t [setL ns] := g0.stay l3 (fun j _ b => o3 j (by omega))
  have c2 := clear_calm (d := { d with safe := s3, pend := [] }) rfl g3 ht
  have p3 : ∀ m, m < 512 → pageAt s3 (5 + m * 8) = pg m := fun m hm => by
    rw [e3]
    by_cases e : m ∈ ns
    · obtain ⟨i, hi, rfl⟩ := List.mem_iff_getElem.1 e
      have hg : ns.getD i 0 = ns[i] := by rw [List.getD_eq_getElem?_getD, List.getElem?_eq_getElem hi]; rfl
      have := putAll_page d.safe (homeOf ns) (ns.map pg) ns.length (fun i hi => by have := hlow i hi; omega) hxs (fun i j hi hj hij => apart ns h.up i j hi hj hij) i hi
      rw [map_getD pg ns i hi, homeOf, hg] at this
      exact this
    · rw [putAll_other _ _ _ _ _ (fun i hi => by have := home_off hi e; omega)]
      exact h.home m hm e
  have away : ∀ ss, ss.length = d.safe.length → ss.getD 0 [] = d.safe.getD 0 [] → Good ss 1 4 p t [setL ns] → (∀ j, 4101 ≤ j → ss.getD j [] = d.safe.getD j []) → (∀ m, m < 512 → m ∉ ns → pageAt ss (5 + m * 8) = pg m) → Pgs ss p t ns pg := fun ss h1 h2 h3 h4 h5 =>
    ⟨by rw [h1]; exact hl, by rw [h2]; exact h.mark, by rw [recs_ne hne]; exact h3, fun i hi => by
      rw [← h.spare i hi]
      exact secs_cong (fun j a b => h4 j (by omega)), h5, h.nb, h.up, h.le, h.size⟩
  have back : ∀ ss, ss.length = d.safe.length → ss.getD 0 [] = d.safe.getD 0 [] → Good ss 1 4 (1 - p) (t + 1) [] → (∀ m, m < 512 → pageAt ss (5 + m * 8) = pg m) → Pgs ss (1 - p) (t + 1) [] pg := fun ss h1 h2 h3 h4 =>
    ⟨by rw [h1]; exact hl, by rw [h2]; exact h.mark, h3, fun i hi => absurd hi (Nat.not_lt_zero _), fun m hm _ => h4 m hm, fun n hn => by simp at hn, List.Pairwise.nil, Nat.zero_le _, h.size⟩
  have m2 := c2.may
  have ha : d.acts (homeActs d p t ns (ns.map pg)) = { d with safe := after s3 1 4 p t [setL ns] [], pend := [] } := by
    unfold homeActs
    rw [Dk.acts_app, pages_flushed d _ _ _ hp, ← e3, c2.acts]
  refine ⟨?_, _, ha, back _ (m2.len.trans l3) (by rw [m2.stay 0 (by omega)]; exact o3 0 (by omega)) c2.good (fun m hm => ?_)⟩
  · unfold homeActs
    rw [← e3, List.append_assoc]
    refine fated_stage hp (pages_sole (fun i hi => by have := hlow i hi; omega) hxs (fun i j hi hj hij => apart ns h.up i j hi hj hij)) (fun new hn => ?_) ?_
    · have off : ∀ j, (j < 5 ∨ 4101 ≤ j) → new.getD j [] = d.safe.getD j [] := fun j hj => torn_off hn j (fun i hi => by have := hlow i hi; omega)
      refine Or.inl (away new hn.len (off 0 (by omega)) (g0.stay hn.len (fun j _ b => off j (by omega))) (fun j a => off j (by omega)) (fun m hm hmn => ?_))
      rw [← h.home m hm hmn]
      exact secs_cong (fun j a b => torn_off hn j (fun i hi => by have := home_off hi hmn; omega))
    rw [over_pages, ← e3]
    show Fated { d with safe := s3, pend := [] } (commitActs { d with safe := s3, pend := [] } 1 4 p t [setL ns] []) _
    refine fated_imp c2.fated (fun ss m => ?_)
    have ml : ss.length = d.safe.length := m.len.trans l3
    have mo : ∀ j, j < 1 ∨ 5 ≤ j → ss.getD j [] = s3.getD j [] := m.stay
    have m0 : ss.getD 0 [] = d.safe.getD 0 [] := by rw [mo 0 (by omega), o3 0 (by omega)]
    have ph : ∀ m, m < 512 → pageAt ss (5 + m * 8) = pg m := fun m hm => by
      rw [← p3 m hm]
      exact secs_cong (fun j a b => mo j (by omega))
    rcases m.log with e | e
    · exact Or.inl (away ss ml m0 e (fun j a => by rw [mo j (by omega), o3 j (by omega)]) (fun m hm _ => ph m hm))
    · exact Or.inr (back ss ml m0 e ph)
  · rw [← p3 m hm]
    exact secs_cong (fun j a b => m2.stay j (by omega))
/-- The acts that bring home what is away. -/
def settleActs (d : Dk) (p t : Nat) (ns : List Nat) (pg : Nat → List UInt8) : List Act := if ns = [] then [] else homeActs d p t ns (ns.map pg)
/-- The log's place and turn behind them. -/
def pA (p : Nat) (ns : List Nat) : Nat := if ns = [] then p else 1 - p
def tA (t : Nat) (ns : List Nat) : Nat := if ns = [] then t else t + 1
theorem tA_le (t : Nat) (ns : List Nat) : tA t ns ≤ t + 1 := by unfold tA; split <;> omega
/-- The pages behind a Put. -/
def putPg (ns : List Nat) (X pg : Nat → List UInt8) (m : Nat) : List UInt8 := if m ∈ ns then X m else pg m
theorem left_pgs {d : Dk} {p t : Nat} {ns : List Nat} {X pg : Nat → List UInt8} {ss : List (List UInt8)} (h : Pgs d.safe p t [] pg) (l : Left d p t ns X ss) (hn : ∀ n ∈ ns, n < 512) (hup : ns.Pairwise (· < ·)) (hle : ns.length ≤ 256) (hne : ns ≠ []) (hx : ∀ n ∈ ns, (X n).length = 1024) :
    ∃ p' t' ms, t' ≤ t + 2 ∧ (Pgs ss p' t' ms pg ∨ Pgs ss p' t' ms (putPg ns X pg)) := by
  have sz : ∀ n, n < 512 → (putPg ns X pg n).length = 1024 := fun n h5 => by
    unfold putPg
    split
    · exact hx n (by assumption)
    · exact h.size n h5
  have hh : ∀ m, m < 512 → pageAt d.safe (5 + m * 8) = pg m := fun m hm => h.home m hm (by simp)
  rcases l with l | l | l
  · exact ⟨p, t, [], by omega, Or.inl ⟨by rw [l.len]; exact h.len, by rw [l.mark]; exact h.mark, l.log, fun i hi => absurd hi (Nat.not_lt_zero _), fun m hm _ => by
      rw [← hh m hm]
      exact secs_cong (fun j a b => l.home j (by omega) (by omega)), fun n hn => by simp at hn, List.Pairwise.nil, Nat.zero_le _, h.size⟩⟩
  · exact ⟨1 - p, t + 1, ns, by omega, Or.inr ⟨by rw [l.len]; exact h.len, by rw [l.mark]; exact h.mark, by rw [recs_ne hne]; exact l.log, fun i hi => by
      rw [l.spare i hi, map_getD X ns i hi]
      unfold putPg
      rw [if_pos (mem_getD hi)], fun m hm hmn => by
      rw [l.home m hm hmn, hh m hm]
      unfold putPg
      rw [if_neg hmn], hn, hup, hle, sz⟩⟩
  · exact ⟨p, t + 2, [], by omega, Or.inr ⟨by rw [l.len]; exact h.len, by rw [l.mark]; exact h.mark, l.log, fun i hi => absurd hi (Nat.not_lt_zero _), fun m hm _ => by
      rw [l.home m hm]
      unfold putPg
      split
      · rfl
      · exact hh m hm, fun n hn => by simp at hn, List.Pairwise.nil, Nat.zero_le _, sz⟩⟩
theorem new_pgs {d : Dk} {p t : Nat} {ns : List Nat} {X pg : Nat → List UInt8} {ss : List (List UInt8)} (h : Pgs d.safe p t [] pg) (l : New d p t ns X ss) (hx : ∀ n ∈ ns, (X n).length = 1024) : Pgs ss p (t + 2) [] (putPg ns X pg) := by
  have hh : ∀ m, m < 512 → pageAt d.safe (5 + m * 8) = pg m := fun m hm => h.home m hm (by simp)
  refine ⟨by rw [l.len]; exact h.len, by rw [l.mark]; exact h.mark, l.log, fun i hi => absurd hi (Nat.not_lt_zero _), fun m hm _ => ?_, fun n hn => by simp at hn, List.Pairwise.nil, Nat.zero_le _, fun n h5 => ?_⟩
  · rw [l.home m hm]
    unfold putPg
    split
    · rfl
    · exact hh m hm
  · unfold putPg
    split
    · exact hx n (by assumption)
    · exact h.size n h5
/-- A Put from any state, stopped anywhere: what a crash leaves, and what it has done. -/
theorem put_all {d d1 d' : Dk} {b1 b : Bool} {p t : Nat} {ns ms : List Nat} {X pg : Nat → List UInt8} (hp : d.pend = []) (h : Pgs d.safe p t ns pg) (ht : t + 3 < 18446744073709551616) (hn : ∀ n ∈ ms, n < 512) (hup : ms.Pairwise (· < ·)) (hle : ms.length ≤ 256) (hne : ms ≠ []) (hx : ∀ n ∈ ms, (X n).length = 1024)
    (h1 : d.plan (settleActs d p t ns pg) = (d1, b1)) :
    (b1 = false → ∀ c, ∃ p' t' ks, t' ≤ t + 1 ∧ Pgs (d1.crash c).safe p' t' ks pg) ∧ (b1 = true → d1.pend = [] ∧ Pgs d1.safe (pA p ns) (tA t ns) [] pg ∧ (d1.plan (putActs d1 (pA p ns) (tA t ns) ms (ms.map X)) = (d', b) → (∀ c, ∃ p' t' ks, t' ≤ t + 3 ∧ (Pgs (d'.crash c).safe p' t' ks pg ∨ Pgs (d'.crash c).safe p' t' ks (putPg ms X pg))) ∧ (b = true → d'.pend = [] ∧ Pgs d'.safe (pA p ns) (tA t ns + 2) [] (putPg ms X pg)))) := by
  have fin : ∀ p1 t1, t1 ≤ t + 1 → d1.pend = [] → Pgs d1.safe p1 t1 [] pg → d1.plan (putActs d1 p1 t1 ms (ms.map X)) = (d', b) → (∀ c, ∃ p' t' ks, t' ≤ t + 3 ∧ (Pgs (d'.crash c).safe p' t' ks pg ∨ Pgs (d'.crash c).safe p' t' ks (putPg ms X pg))) ∧ (b = true → d'.pend = [] ∧ Pgs d'.safe p1 (t1 + 2) [] (putPg ms X pg)) := fun p1 t1 hle1 hp1 g1 hpl => by
    have pc := fun c => put_crash hp1 g1.log g1.len hn hup hle hx (by omega) hpl c
    refine ⟨fun c => ?_, fun hb => ?_⟩
    · obtain ⟨p', t', ks, h4, h5⟩ := left_pgs g1 (pc c).1 hn hup hle hne hx
      exact ⟨p', t', ks, by omega, h5⟩
    · subst hb
      have al := Dk.plan_alike hpl
      obtain ⟨s1, s2, s3, s4, q⟩ := put_calm (ns := ms) (xs := ms.map X) hp1 g1.log (by omega)
      rw [q.acts] at al
      refine ⟨al.pend, ?_⟩
      have hc := (pc ⟨[], 0, 0⟩).2 rfl
      rw [Dk.crash_flushed _ al.pend] at hc
      exact new_pgs g1 hc hx
  unfold settleActs at h1
  by_cases e : ns = []
  · rw [if_pos e] at h1
    subst e
    have e1 : d1 = d ∧ b1 = true := by
      have : d.plan [] = (d, true) := rfl
      rw [this, Prod.mk.injEq] at h1
      exact ⟨h1.1.symm, h1.2.symm⟩
    obtain ⟨rfl, rfl⟩ := e1
    exact ⟨(fun e => nomatch e), fun _ => ⟨hp, h, fin p t (by omega) hp h⟩⟩
  · rw [if_neg e] at h1
    have hc := home_calm hp h e (by omega)
    obtain ⟨n, hn', ha, hd, _⟩ := Dk.plan_first (homeActs d p t ns (ns.map pg)) d
    rw [h1] at ha hd
    refine ⟨fun _ c => ?_, fun hb => ?_⟩
    · have := hc.1 n hn' c
      rw [← ha.crash] at this
      rcases this with g | g
      · exact ⟨p, t, ns, by omega, g⟩
      · exact ⟨1 - p, t + 1, [], by omega, g⟩
    · subst hb
      obtain ⟨s', hs, g⟩ := hc.2
      have al := Dk.plan_alike h1
      rw [hs] at al
      have g' : Pgs d1.safe (1 - p) (t + 1) [] pg := by rw [al.safe]; exact g
      have ep : pA p ns = 1 - p := if_neg e
      have et : tA t ns = t + 1 := if_neg e
      rw [ep, et]
      exact ⟨al.pend, g', fin (1 - p) (t + 1) (by omega) al.pend g'⟩
end S
end Go.Proofs.YthjlhngjpbmieaaGreatDoor
