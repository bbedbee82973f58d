/- Put of any sheets on a disk that does not stop. -/
import Derived.Test.YthjlhngjpbmieaaGreatDoorUd
namespace Go.Proofs.YthjlhngjpbmieaaGreatDoor
open Go.RowKit

namespace S
/-- What a Put leaves, step by step. -/
structure PutCalm (d : Dk) (p t : Nat) (ns : List Nat) (xs s1 s2 s3 s4 : List (List UInt8)) : Prop where
  e1 : s1 = putAll d.safe (fun i => 4101 + i * 8) xs ns.length
  e2 : s2 = after s1 1 4 p t [] [setL ns]
  e3 : s3 = putAll s2 (homeOf ns) xs ns.length
  e4 : s4 = after s3 1 4 (1 - p) (t + 1) [setL ns] []
  c1 : Calm { d with safe := s1, pend := [] } 1 4 p t [] [setL ns]
  c2 : Calm { d with safe := s3, pend := [] } 1 4 (1 - p) (t + 1) [setL ns] []
  acts : d.acts (putActs d p t ns xs) = { d with safe := s4, pend := [] }
theorem put_calm {d : Dk} {p t : Nat} {ns : List Nat} {xs : List (List UInt8)} (hp : d.pend = []) (g : Good d.safe 1 4 p t []) (ht : t + 2 < 18446744073709551616) : ∃ s1 s2 s3 s4, PutCalm d p t ns xs s1 s2 s3 s4 := by
  have fit : (enc ([] ++ [setL ns])).length ≤ room 4 := by
    rw [enc_snoc_length, setL_length]
    decide
  have g1 : Good (putAll d.safe (fun i => 4101 + i * 8) xs ns.length) 1 4 p t [] := g.stay (putAll_length _ _ _ _) (fun j _ h2 => putAll_off _ _ _ _ _ (fun i _ => Or.inl (by omega)))
  have c1 := commit_calm (d := { d with safe := putAll d.safe (fun i => 4101 + i * 8) xs ns.length, pend := [] }) (b := setL ns) rfl g1 (by omega) fit
  rw [List.nil_append] at c1
  have g3 : Good (putAll (after (putAll d.safe (fun i => 4101 + i * 8) xs ns.length) 1 4 p t [] [setL ns]) (homeOf ns) xs ns.length) 1 4 (1 - p) (t + 1) [setL ns] := c1.good.stay (putAll_length _ _ _ _) (fun j _ h2 => putAll_off _ _ _ _ _ (fun i _ => Or.inl (by unfold homeOf; omega)))
  have c2 := clear_calm (d := { d with safe := putAll (after (putAll d.safe (fun i => 4101 + i * 8) xs ns.length) 1 4 p t [] [setL ns]) (homeOf ns) xs ns.length, pend := [] }) rfl g3 (by omega)
  refine ⟨_, _, _, _, rfl, rfl, rfl, rfl, c1, c2, ?_⟩
  unfold putActs homeActs
  rw [Dk.acts_app, spTo_eq, pages_flushed d _ xs ns.length hp, Dk.acts_app, c1.acts, Dk.acts_app, pages_flushed _ _ xs ns.length rfl, c2.acts]
theorem PutCalm.off {d : Dk} {p t : Nat} {ns : List Nat} {xs s1 s2 s3 s4 : List (List UInt8)} (h : PutCalm d p t ns xs s1 s2 s3 s4) (j : Nat) (hj : j < 1 ∨ 5 ≤ j) : s4.getD j [] = s3.getD j [] ∧ s2.getD j [] = s1.getD j [] := by
  have m1 := h.c1.may
  have m2 := h.c2.may
  rw [h.e4, h.e2]
  exact ⟨m2.stay j hj, m1.stay j hj⟩
theorem PutCalm.len {d : Dk} {p t : Nat} {ns : List Nat} {xs s1 s2 s3 s4 : List (List UInt8)} (h : PutCalm d p t ns xs s1 s2 s3 s4) : s1.length = d.safe.length ∧ s2.length = d.safe.length ∧ s3.length = d.safe.length ∧ s4.length = d.safe.length := by
  have m1 := h.c1.may.len
  have m2 := h.c2.may.len
  have a : s1.length = d.safe.length := by rw [h.e1]; exact putAll_length _ _ _ _
  have b : s2.length = d.safe.length := by rw [h.e2, m1]; exact a
  have c : s3.length = d.safe.length := by rw [h.e3, putAll_length]; exact b
  exact ⟨a, b, c, by rw [h.e4, m2]; exact c⟩
theorem PutCalm.mark {d : Dk} {p t : Nat} {ns : List Nat} {xs s1 s2 s3 s4 : List (List UInt8)} (h : PutCalm d p t ns xs s1 s2 s3 s4) : s4.getD 0 [] = d.safe.getD 0 [] := by
  rw [(h.off 0 (Or.inl (by omega))).1, h.e3, putAll_off _ _ _ _ _ (fun i _ => Or.inl (by unfold homeOf; omega)), (h.off 0 (Or.inl (by omega))).2, h.e1, putAll_off _ _ _ _ _ (fun i _ => Or.inl (by omega))]
/-- The pages behind it all. -/
theorem PutCalm.home {d : Dk} {p t : Nat} {ns : List Nat} {X : Nat → List UInt8} {s1 s2 s3 s4 : List (List UInt8)} (h : PutCalm d p t ns (ns.map X) s1 s2 s3 s4) (hl : 7680 ≤ d.safe.length) (hn : ∀ n ∈ ns, n < 512) (hpw : ns.Pairwise (· < ·)) (hx : ∀ n ∈ ns, (X n).length = 1024) (m : Nat) (hm : m < 512) : pageAt s4 (5 + m * 8) = if m ∈ ns then X m else pageAt d.safe (5 + m * 8) := by
  have e4 : pageAt s4 (5 + m * 8) = pageAt s3 (5 + m * 8) := secs_cong (fun j h1 h2 => (h.off j (Or.inr (by omega))).1)
  have e2 : pageAt s2 (5 + m * 8) = pageAt s1 (5 + m * 8) := secs_cong (fun j h1 h2 => (h.off j (Or.inr (by omega))).2)
  have hl2 := h.len.2.1
  rw [e4, h.e3]
  by_cases e : m ∈ ns
  · rw [if_pos e]
    obtain ⟨i, hi, rfl⟩ := List.mem_iff_getElem.1 e
    have hg : ns.getD i 0 = ns[i] := by rw [List.getD_eq_getElem?_getD, List.getElem?_eq_getElem hi]; rfl
    have := putAll_page s2 (homeOf ns) (ns.map X) ns.length (fun i hi => by have := getD_lt hn i hi; unfold homeOf; omega) (fun i hi => by rw [map_getD X ns i hi]; exact hx _ (by rw [List.getD_eq_getElem?_getD, List.getElem?_eq_getElem hi]; exact List.getElem_mem hi)) (fun i j hi hj hij => apart ns hpw i j hi hj hij) i hi
    rw [map_getD X ns i hi, homeOf, hg] at this
    exact this
  · rw [if_neg e, putAll_other _ _ _ _ _ (fun i hi => by
      have hne : ns.getD i 0 ≠ m := fun e' => e (by rw [← e', List.getD_eq_getElem?_getD, List.getElem?_eq_getElem hi]; exact List.getElem_mem hi)
      unfold homeOf
      omega), e2, h.e1, putAll_other _ _ _ _ _ (fun i _ => Or.inl (by omega))]
end S
theorem pput_go (w0 w : World) (o : Ow) (d : S.Dk) (p t gs b off cap : Nat) (l : List ShV) (pg X : Nat → List UInt8) (h : Pg w0 w o d p t pg) (hs : StAt w gs o) (h0 : ∀ j u, (l.flatMap encSh)[j]? = some u → w.cell? ⟨b, off + j, none⟩ = some u) (hd : l ≠ []) (hl : l.length ≤ 256) (hp : ∀ x ∈ l, ShOk w o X x) (hn : (l.map (·.1)).Nodup) (hgs : ¬ o.has gs) (ht : t + 2 < 18446744073709551616) :
   Calls Tryz.prog 12 #[.pointer (some ⟨gs, 0, none⟩), .slice (some ⟨b, off, none⟩) l.length cap] w fun e w' => e = .returned (.int .i64 0) ∧ ∃ o' d', o'.g = o.g ∧ Pg w0 w' o' d' p (t + 2) (fun m => if m ∈ S.pgs l then X m else pg m) ∧ StAt w' gs o' ∧ Chg o.has w w' ∧ ∀ k, o'.has k → o.has k ∨ w.heap.size ≤ k := by
  have hpp := h.log.place
  refine (pput_any w0 w o d p t gs b off cap l pg X h.n hs h0 hd hl hp hn hgs ht).mono ?_
  rintro e w' ⟨bb, d', o', ns, rfl, hpm, hup, pa⟩
  have pl := S.Dk.plan_goes (S.putActs d p t ns (ns.map X)) d h.left
  rw [pa.plan] at pl
  obtain ⟨hb, hd'⟩ := pl
  simp only at hb hd'
  subst hb
  obtain ⟨s1, s2, s3, s4, pc⟩ := S.put_calm (ns := ns) (xs := ns.map X) h.pend h.log ht
  rw [pc.acts] at hd'
  have mem : ∀ m, m ∈ ns ↔ m ∈ S.pgs l := fun m => hpm.mem_iff
  have inl : ∀ n ∈ ns, ∃ x ∈ l, n = x.1.toNat := fun n hn => by
    obtain ⟨x, hx, e⟩ := List.mem_map.1 ((mem n).1 hn)
    exact ⟨x, hx, e.symm⟩
  have hn5 : ∀ n ∈ ns, n < 512 := fun n hn => by
    obtain ⟨x, hx, rfl⟩ := inl n hn
    have := (hp x hx).hi
    have := (hp x hx).lo
    omega
  have hx1 : ∀ n ∈ ns, (X n).length = 1024 := fun n hn => by
    obtain ⟨x, hx, rfl⟩ := inl n hn
    exact (hp x hx).size
  have hsafe : d'.safe = s4 := by rw [hd']
  refine ⟨rfl, o', d', pa.ptr, ⟨pa.dk, by rw [hd'], by rw [hd']; exact h.left, by rw [hsafe, pc.len.2.2.2]; exact h.len, by rw [hsafe, pc.mark]; exact h.mark, ?_, fun m hm => ?_, pa.ob, pa.below, h.pos⟩, pa.st, pa.chg, pa.own⟩
  · have := pc.c2.good
    rw [← pc.e4, show 1 - (1 - p) = p by omega] at this
    rw [hsafe]
    exact this
  · rw [hsafe, pc.home h.len hn5 hup hx1 m hm]
    by_cases e : m ∈ ns
    · rw [if_pos e, if_pos ((mem m).1 e)]
    · rw [if_neg e, if_neg (fun e' => e ((mem m).2 e'))]
      exact h.home m hm
end Go.Proofs.YthjlhngjpbmieaaGreatDoor
