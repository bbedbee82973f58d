/- What two unlike texts tell. -/
import Derived.Test.YtlbggkmblkhjoaaDoorWk
import Derived.Test.YtlbggkmblkhjoaaDoorOe
namespace Go.Proofs.YtlbggkmblkhjoaaDoor
open Go.RowKit

theorem climb_all (a : Int) (v u : Value) (bs : List UInt8) (i n : Nat) (ps : List (List UInt8)) (w : World) (hn : n < 18446744073709551616) (hv : SliceAt w v bs) (hl : bs.length + 1 ≤ 140737488355328) (hu : DgAt w u ps) (hps : ps.length ≤ 90000) (hK : KAt w) :
   Calls Tryd.prog 33 #[.int .i64 a, v, .int .u64 (i : Int), .int .u64 (n : Int), u] w fun e w' => Climbed a w w' e (S.climb a bs i n ps) := by
  by_cases h : i < n
  · exact climb_any a v u bs i n ps w h hn hv hl hu hps hK
  · refine (climb_none a v u i n w (by omega)).mono ?_
    rintro e w' ⟨rfl, rfl⟩
    rw [S.climb, if_neg h]
    exact ⟨none, 0, 0, rfl, (fun ts h => nomatch h), Below.refl _ _⟩
theorem bequal_any (v u : Value) (bs cs : List UInt8) (w : World) (hv : SliceAt w v bs) (hu : SliceAt w u cs) :
   Calls Tryd.prog 32 #[v, u] w fun e w' => e = .returned (.bool (bs == cs)) ∧ w = w' := by
  obtain ⟨ao, len, cap, rfl, hlen, _⟩ := hv.form
  obtain ⟨bo, lenb, capb, rfl, hlenb, _⟩ := hu.form
  obtain ⟨Tx, hTx⟩ : ∃ T, T = (⟨bs.toArray⟩ : ByteArray) := ⟨_, rfl⟩
  obtain ⟨Ty, hTy⟩ : ∃ T, T = (⟨cs.toArray⟩ : ByteArray) := ⟨_, rfl⟩
  have c1 : (convert 25 9 (.slice ao len cap)).run Tryd.prog w = .ok (.string Tx) w := by rw [hTx]; exact conv_slice hv
  have c2 : (convert 25 9 (.slice bo lenb capb)).run Tryd.prog w = .ok (.string Ty) w := by rw [hTy]; exact conv_slice hu
  obtain ⟨eb, heb⟩ : ∃ b : Bool, b = (bs == cs) := ⟨_, rfl⟩
  have hb : (Tx.toList == Ty.toList) = eb := by rw [heb, hTx, hTy, ByteArray.toList_eq, ByteArray.toList_eq]
  rw [← heb]
  clear hv hu hlen hlenb hTx hTy heb
  go_enter Tryd.func32, Tryd.ntmps32
  go_wp2
  go_ret
  exact ⟨rfl, rfl⟩
/-- What is told of two texts. -/
def Told2 (w w' : World) (e : Ending) (o : Option (List UInt8 × List UInt8)) : Prop :=
  (∃ xo xl xc yo yl yc, e = .returned (.tuple #[.slice xo xl xc, .slice yo yl yc, .bool o.isSome]) ∧ SliceAt w' (.slice xo xl xc) (o.map Prod.fst |>.getD []) ∧ SliceAt w' (.slice yo yl yc) (o.map Prod.snd |>.getD [])) ∧ Below w.heap.size w w'
theorem SliceAt.nil (w : World) : SliceAt w (.slice none 0 0) [] := Or.inl ⟨rfl, rfl⟩
theorem Told2.none' (w w' : World) (hb : Below w.heap.size w w') : Told2 w w' (.returned (.tuple #[.slice none 0 0, .slice none 0 0, .bool false])) none := ⟨⟨none, 0, 0, none, 0, 0, rfl, SliceAt.nil _, SliceAt.nil _⟩, hb⟩
theorem least_meet (P : Nat → Prop) (n : Nat) (h : P n) : ∃ j, j ≤ n ∧ P j ∧ ∀ k, k < j → ¬ P k := by
  induction n using Nat.strongRecOn with
  | ind n IH =>
    by_cases hk : ∃ k, k < n ∧ P k
    · obtain ⟨k, hk1, hk2⟩ := hk
      obtain ⟨j, h1, h2, h3⟩ := IH k hk1 hk2
      exact ⟨j, by omega, h2, h3⟩
    · exact ⟨n, Nat.le_refl _, h, fun k h1 h2 => hk ⟨k, h1, h2⟩⟩
theorem S.txt_length (a : Int) (d e : List UInt8) : (S.txt a d e).length ≤ 65 := by
  have := S.cw_le a
  simp [S.txt]; omega
theorem S.way_texts (a : Int) : ∀ s f t ps l, S.way a f s t ps = some l → ∀ x ∈ l, x = t ∨ x.length ≤ 65 := by
  intro s
  induction s using Nat.strongRecOn with
  | ind s IH =>
  intro f t ps l h x hx
  by_cases h0 : s = 0
  · subst h0
    rw [S.way_zero] at h
    split at h
    · cases h; exact Or.inl (by simpa using hx)
    · cases h
  · by_cases hs : f % 2 = 0 ∧ f = s
    · rw [S.way_skip a f s t ps h0 hs.1 hs.2] at h
      exact IH (s / 2) (by omega) _ _ _ _ h x hx
    · cases ps with
      | nil => rw [S.way_nil a f s t h0 hs] at h; cases h
      | cons p ps =>
        rw [S.way_cons a f s t p ps h0 hs] at h
        obtain ⟨l', hl', rfl⟩ := Option.map_eq_some_iff.1 h
        rcases List.mem_cons.1 hx with rfl | hx
        · exact Or.inl rfl
        · rcases IH (s / 2) (by omega) _ _ _ _ hl' x hx with e | e
          · right; rw [e]; split <;> exact S.txt_length _ _ _
          · exact Or.inr e
theorem S.climb_fit {a : Int} {b : List UInt8} {i n : Nat} {ps l : List (List UInt8)} (h : S.climb a b i n ps = some l) (hb : b.length + 1 ≤ 140737488355328) (j : Nat) : (l.getD j []).length ≤ 140737488355328 := by
  unfold S.climb at h
  split at h
  · by_cases hj : j < l.length
    · rcases S.way_texts a _ _ _ _ _ h (l.getD j []) (by rw [List.getD_eq_getElem?_getD, List.getElem?_eq_getElem hj]; exact List.getElem_mem hj) with e | e
      · rw [e]; simpa using hb
      · omega
    · rw [List.getD_eq_getElem?_getD, List.getElem?_eq_none (by omega)]; simp
  · cases h
theorem S.climb_len {a : Int} {b : List UInt8} {i n : Nat} {ps l : List (List UInt8)} (h : S.climb a b i n ps = some l) : l.length = V.need i (n - 1) + 1 ∧ l.length = ps.length + 1 := by
  unfold S.climb at h
  split at h
  · have := S.way_need a _ _ _ _ _ h
    omega
  · cases h
theorem S.vColl_climb (a : Int) (b c : List UInt8) (i n : Nat) (ps qs : List (List UInt8)) : S.vColl a b c i n ps qs = if b = c then none else match S.climb a b i n ps, S.climb a c i n qs with | some x, some y => if S.hsh a (S.lastOf x) = S.hsh a (S.lastOf y) then S.coll a x y else none | _, _ => none := by
  unfold S.vColl S.climb
  by_cases h : i < n
  · by_cases hbc : b = c
    · rw [if_neg (fun q => q.2 hbc), if_pos hbc]
    · rw [if_pos ⟨h, hbc⟩, if_neg hbc, if_pos h, if_pos h]
      rfl
  · rw [if_neg (fun q => h q.1), if_neg h, if_neg h]
    split <;> rfl
set_option maxHeartbeats 16000000 in
set_option maxRecDepth 10000 in
theorem collide_any (a : Int) (v u p q : Value) (bs cs : List UInt8) (i n : Nat) (ps qs : List (List UInt8)) (w : World) (hn : n < 18446744073709551616) (hv : SliceAt w v bs) (hu : SliceAt w u cs) (hl : bs.length + 1 ≤ 140737488355328) (hl2 : cs.length + 1 ≤ 140737488355328) (hp : DgAt w p ps) (hps : ps.length ≤ 90000) (hq : DgAt w q qs) (hqs : qs.length ≤ 90000) (hK : KAt w) :
   Calls Tryd.prog 10 #[.int .i64 a, v, u, .int .u64 (i : Int), .int .u64 (n : Int), p, q] w fun e w' => Told2 w w' e (S.vColl a bs cs i n ps qs) := by
  obtain ⟨O, hO⟩ : ∃ O, O = S.vColl a bs cs i n ps qs := ⟨_, rfl⟩
  rw [← hO]
  rw [S.vColl_climb] at hO
  obtain ⟨ao, len, cap, rfl, hlen, _⟩ := hv.form
  obtain ⟨bo, lenb, capb, rfl, hlenb, _⟩ := hu.form
  have hp32 : ∀ d ∈ ps, d.length = 32 := by obtain ⟨_, _, _, _, h, _⟩ := hp; exact h
  have hq32 : ∀ d ∈ qs, d.length = 32 := by obtain ⟨_, _, _, _, h, _⟩ := hq; exact h
  obtain ⟨po, pc, rfl⟩ := hp.form
  obtain ⟨qo, qc, rfl⟩ := hq.form
  have HV := hide hv
  have HU := hide hu
  have HP := hide hp
  have HQ := hide hq
  have H32 := hide (And.intro hp32 hq32)
  have HK := hide hK
  have h0 := hK.pos
  have HL1 := hide hl
  have HL2 := hide hl2
  have HPS := hide hps
  have HQS := hide hqs
  have HO := hide hO
  obtain ⟨pn, hpn⟩ : ∃ m, m = ps.length := ⟨_, rfl⟩
  obtain ⟨qn, hqn⟩ : ∃ m, m = qs.length := ⟨_, rfl⟩
  rw [← hpn] at HP ⊢
  rw [← hqn] at HQ ⊢
  clear hv hu hp hq hp32 hq32 hK hl hl2 hps hqs hO hlen hlenb hpn hqn
  go_enter Tryd.func10, Tryd.ntmps10
  go_wp2_with fail
  refine (bequal_any _ _ bs cs w HV.out HU.out).mono ?_
  rintro e w0 ⟨rfl, rfl⟩
  by_cases hbc : bs = cs
  · rw [show (bs == cs) = true by simp [hbc]]
    have HO2 := hide (show O = none by rw [HO.out, if_pos hbc])
    clear HO hbc
    go_wp2_with fail
    go_ret3
    rw [HO2.out]
    exact Told2.none' _ _ (Below.refl _ _)
  rw [show (bs == cs) = false by simp [hbc]]
  have hO3 := HO.out
  rw [if_neg hbc] at hO3
  have HO3 := hide hO3
  have HBC := hide hbc
  clear HO hO3 hbc
  go_wp2_with fail
  refine (climb_all a _ _ bs i n ps w hn HV.out HL1.out HP.out HPS.out HK.out).mono ?_
  rintro e w1 ⟨so, sl, sc, rfl, hts, hb1⟩
  have HT1 := hide hts
  have HB1 := hide hb1
  clear hts hb1
  go_wp2_with fail
  refine (climb_all a _ _ cs i n qs w1 hn (HU.out.below HB1.out (Nat.le_refl _)) HL2.out (HQ.out.below HB1.out) HQS.out (HK.out.below HB1.out h0)).mono ?_
  rintro e w2 ⟨uo, ul, uc, rfl, hus, hb2⟩
  have HT2 := hide hus
  have HB2 := hide (HB1.out.trans (hb2.mono HB1.out.size))
  have HB12 := hide hb2
  clear hus hb2
  cases hc1 : S.climb a bs i n ps with
  | none =>
    simp only [Option.isSome_none]
    have HO2 := hide (show O = none by rw [HO3.out, hc1])
    clear hc1 HT1 HT2 HO3
    go_wp2_with fail
    go_ret3
    rw [HO2.out]
    exact Told2.none' _ _ HB2.out
  | some ts =>
    simp only [Option.isSome_some]
    cases hc2 : S.climb a cs i n qs with
    | none =>
      simp only [Option.isSome_none]
      have HO2 := hide (show O = none by rw [HO3.out, hc1, hc2])
      clear hc1 hc2 HT1 HT2 HO3
      go_wp2_with fail
      go_ret3
      rw [HO2.out]
      exact Told2.none' _ _ HB2.out
    | some us =>
      simp only [Option.isSome_some]
      have l1 := S.climb_len hc1
      have l2 := S.climb_len hc2
      have W1 := hide ((HT1.out ts hc1).below HB12.out)
      have W2 := hide (HT2.out us hc2)
      have HE := hide (show 1 ≤ ts.length ∧ ts.length ≤ 100000 ∧ 1 ≤ us.length ∧ us.length ≤ 100000 ∧ ts.length = us.length by have := HPS.out; have := HQS.out; omega)
      have hO4 := HO3.out
      rw [hc1, hc2] at hO4
      have FT := hide (And.intro (S.climb_fit hc1 HL1.out) (S.climb_fit hc2 HL2.out))
      have HC := hide (And.intro hc1 hc2)
      have HO4 := hide hO4
      clear l1 l2 hc1 hc2 hO4 HT1 HT2 HO3
      go_wp2_with fail
      refine (top_any a w.heap.size _ ts w2 W1.out HE.out.1 HE.out.2.1).mono ?_
      rintro e w3 ⟨rfl, b3⟩
      obtain ⟨D1, hD1⟩ : ∃ D, D = S.hsh a (S.lastOf ts) := ⟨_, rfl⟩
      have LD1 := hide (show D1.length = 32 by rw [hD1, S.hsh_length])
      rw [← hD1]
      have ED1 := hide hD1
      have W1b := hide (W1.out.below b3)
      have W2b := hide (W2.out.below b3)
      have HB3 := hide (HB2.out.trans (b3.mono HB2.out.size))
      clear hD1 b3 W1 W2
      go_wp2_with fail
      refine (top_any a w1.heap.size _ us w3 W2b.out HE.out.2.2.1 HE.out.2.2.2.1).mono ?_
      rintro e w4 ⟨rfl, b4⟩
      obtain ⟨D2, hD2⟩ : ∃ D, D = S.hsh a (S.lastOf us) := ⟨_, rfl⟩
      have LD2 := hide (show D2.length = 32 by rw [hD2, S.hsh_length])
      rw [← hD2]
      have ED2 := hide hD2
      have W1c := hide (W1b.out.below b4)
      have W2c := hide (W2b.out.below b4)
      have HB4 := hide (HB3.out.trans (b4.mono HB3.out.size))
      obtain ⟨eb, heb⟩ : ∃ b : Bool, b = (D1 == D2) := ⟨_, rfl⟩
      have heqv : ∀ w, (Op.equalIn 10000 23 (.agg (S.v8 D1)) (.agg (S.v8 D2))).run Tryd.prog w = .ok eb w := fun w => equal_dig D1 D2 LD1.out LD2.out eb heb.symm w
      have HEB := hide heb
      clear hD2 b4 W1b W2b heb
      by_cases hdd : D1 = D2
      · have hbt : eb = true := by rw [HEB.out, hdd]; simp
        subst hbt
        have HDD := hide (show S.hsh a (S.lastOf ts) = S.hsh a (S.lastOf us) by rw [← ED1.out, ← ED2.out, hdd])
        clear hdd HEB
        have hlast : ∀ l : List (List UInt8), 1 ≤ l.length → l.getD (l.length - 1) [] = S.lastOf l := fun l _ => by rw [S.lastOf, List.getLast?_eq_getElem?, List.getD_eq_getElem?_getD]
        obtain ⟨j, j1, j2, j3⟩ := least_meet (fun k => S.hsh a (ts.getD k []) = S.hsh a (us.getD k [])) (ts.length - 1) (by
          show S.hsh a (ts.getD (ts.length - 1) []) = S.hsh a (us.getD (ts.length - 1) [])
          rw [hlast ts HE.out.1, HE.out.2.2.2.2, hlast us HE.out.2.2.1]
          exact HDD.out)
        have hcoll : S.coll a ts us = some (ts.getD j [], us.getD j []) := by
          have h1 := HC.out.1
          have h2 := HC.out.2
          unfold S.climb at h1 h2
          split at h1
          · rename_i hin
            rw [if_pos hin] at h2
            exact S.coll_first a _ _ _ _ _ _ ts us h1 h2 H32.out.1 H32.out.2 (by simpa using HBC.out) j (by have := HE.out.1; omega) j3 j2
          · cases h1
        have HO5 := hide (show O = some (ts.getD j [], us.getD j []) by rw [HO4.out]; show (if S.hsh a (S.lastOf ts) = S.hsh a (S.lastOf us) then S.coll a ts us else none) = _; rw [if_pos HDD.out, hcoll])
        have J := hide (And.intro j1 (And.intro j2 j3))
        clear hcoll j1 j2 j3 hlast HO4 HDD
        go_wp2_with fail
        clear heqv
        refine (meeting_any a w.heap.size w1.heap.size _ _ ts us j w4 W1c.out W2c.out HE.out.2.2.2.2 HE.out.2.1 (by have := HE.out.1; have := J.out.1; omega) J.out.2.2 J.out.2.1 (FT.out.1 j) (FT.out.2 j)).mono ?_
        rintro e w5 ⟨x, y, rfl, sx, sy, b5⟩
        obtain ⟨xo, xl, xc, rfl, ex, _⟩ := sx.form
        obtain ⟨yo, yl, yc, rfl, ey, _⟩ := sy.form
        clear ex ey
        have SX := hide sx
        have SY := hide sy
        have HB5 := hide (HB4.out.trans (b5.mono HB4.out.size))
        clear sx sy b5
        go_wp2_with fail
        go_ret3
        rw [HO5.out]
        exact ⟨⟨xo, xl, xc, yo, yl, yc, rfl, SX.out, SY.out⟩, HB5.out⟩
      · have hbt : eb = false := by rw [HEB.out]; simp [hdd]
        subst hbt
        have HO5 := hide (show O = none by rw [HO4.out]; show (if S.hsh a (S.lastOf ts) = S.hsh a (S.lastOf us) then S.coll a ts us else none) = _; rw [← ED1.out, ← ED2.out, if_neg hdd])
        clear hdd HEB HO4
        go_wp2_with fail
        go_ret3
        rw [HO5.out]
        exact Told2.none' _ _ HB4.out
end Go.Proofs.YtlbggkmblkhjoaaDoor
