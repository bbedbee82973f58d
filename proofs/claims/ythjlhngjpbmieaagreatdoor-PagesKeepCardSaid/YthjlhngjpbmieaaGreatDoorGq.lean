/- split: the records of a text, as parts of it. -/
/- sealing: whether a text is one of records, with that seal. -/
/- owns: whether a log may have left a sector so. -/
import Derived.Test.YthjlhngjpbmieaaGreatDoorGp
import Derived.Test.YthjlhngjpbmieaaGreatDoorGa
namespace Go.Proofs.YthjlhngjpbmieaaGreatDoor
open Go.RowKit

namespace S
theorem enc_cons (r : List UInt8) (rs : List (List UInt8)) : enc (r :: rs) = lenOf r.length ++ (r ++ enc rs) := by simp [enc]
theorem rd_len (n : Nat) (h : n < 16777216) : (Rd.mk (lenOf n) 0 0 0).number 3 = (⟨lenOf n, 3, 0, 0⟩, n) := by
  unfold Rd.number Rd.take
  rw [size_3, if_pos rfl, if_pos (by show 0 + 3 ≤ (lenOf n).length; rw [lenOf_length]; omega)]
  show (_, val (((lenOf n).drop 0).take 3)) = _
  rw [List.drop_zero, List.take_of_length_le (by rw [lenOf_length]; omega), lenOf, val_num, Nat.mod_eq_of_lt h]
end S
/-- The values vs are slices that read as these lists. -/
def Reads (w : World) (vs : List Value) (rs : List (List UInt8)) : Prop := vs.length = rs.length ∧ ∀ j, j < rs.length → SliceAt w (vs.getD j default) (rs.getD j [])
theorem Reads.nil (w : World) : Reads w [] [] := ⟨rfl, fun _ hj => absurd hj (Nat.not_lt_zero _)⟩
theorem Reads.snoc {w : World} {vs : List Value} {rs : List (List UInt8)} {v : Value} {r : List UInt8} (h : Reads w vs rs) (hv : SliceAt w v r) : Reads w (vs ++ [v]) (rs ++ [r]) := by
  refine ⟨by simp [h.1], fun j hj => ?_⟩
  simp only [List.length_append, List.length_singleton] at hj
  simp only [List.getD_eq_getElem?_getD]
  by_cases e : j < rs.length
  · rw [List.getElem?_append_left (by rw [h.1]; exact e), List.getElem?_append_left e]
    have := h.2 j e
    simpa only [List.getD_eq_getElem?_getD] using this
  · obtain rfl : j = rs.length := by omega
    have e1 : (vs ++ [v])[rs.length]? = some v := by rw [← h.1]; simp
    rw [e1]
    simpa using hv
theorem Reads.below {w W : World} {vs : List Value} {rs : List (List UInt8)} (h : Reads w vs rs) (hb : Below w.heap.size w W) : Reads W vs rs := ⟨h.1, fun j hj => (h.2 j hj).below hb (Nat.le_refl _)⟩
theorem len_lt (rs : List (List UInt8)) : rs.length ≤ (S.enc rs).length := by
  induction rs with
  | nil => exact Nat.le_refl _
  | cons r rs ih => rw [S.enc_cons]; simp [S.lenOf_length]; omega
set_option maxHeartbeats 4000000 in
set_option maxRecDepth 10000 in
theorem split_any (v : Value) (rs : List (List UInt8)) (w : World) (hv : SliceAt w v (S.enc rs)) (hm : (S.enc rs).length < 1000000) :
   Calls Tryz.prog 69 #[v] w fun e w' => ∃ lv vs, e = .returned (.tuple #[lv, .bool true]) ∧ Lists w' lv vs ∧ Reads w vs rs ∧ (∀ k, lv.ownBlock = some k → w.heap.size ≤ k) ∧ Below w.heap.size w w' := by
  obtain ⟨ao0, n0, c0, rfl, hn0, hmx0⟩ := hv.form
  have HV := hide hv
  have HN0 := hide hn0
  clear hv hn0
  go_enter Tryz.func69, Tryz.ntmps69
  go_wp2_with fail
  go_loopw [0, 4] (fun u l wr => ∃ (ao : Option Addr) (n c : Nat) (dn rest : List (List UInt8)) (vs : List Value), u = .slice ao n c ∧ n = (S.enc rest).length ∧ SliceAt w (.slice ao n c) (S.enc rest) ∧ rs = dn ++ rest ∧ Lists wr l vs ∧ Reads w vs dn ∧ (∀ k, l.ownBlock = some k → w.heap.size ≤ k) ∧ Below w.heap.size w wr) (fun u _ _ => match u with | .slice _ n _ => n | _ => 0)
  case atStart => exact ⟨ao0, n0, c0, [], rs, [], rfl, HN0.out, HV.out, rfl, Or.inl ⟨rfl, rfl⟩, Reads.nil _, (fun k hk => by cases hk), Below.refl _ _⟩
  case round =>
    obtain ⟨ao, n, c, dn, rest, vs, rfl, hn, hu, hrs, hL, hRd, hown, hb⟩ := hrel
    have LS := hide hL
    have RD := hide hRd
    have OW := hide hown
    have BB := hide hb
    have HU := hide hu
    have HRS := hide hrs
    cases rest with
    | nil =>
      obtain rfl : n = 0 := by rw [hn]; rfl
      obtain ⟨al, cl, hl⟩ := hL.shape
      clear hL hRd hown hb hu hrs hn HV
      subst hl
      go_wp2_with fail
      go_ret2
      refine ⟨_, vs, rfl, LS.out, ?_, OW.out, BB.out⟩
      have e := HRS.out
      rw [List.append_nil] at e
      rw [e]
      exact RD.out
    | cons r rest =>
      have hel : (S.enc (r :: rest)).length = 3 + (r.length + (S.enc rest).length) := by rw [S.enc_cons]; simp [S.lenOf_length]
      have htot : (S.enc (r :: rest)).length ≤ (S.enc rs).length := by rw [hrs]; simp [S.enc]
      have hrl : r.length < 1000000 := by omega
      obtain ⟨L, hL'⟩ : ∃ L, L = r.length := ⟨_, rfl⟩
      obtain ⟨M, hM⟩ : ∃ M, M = (S.enc rest).length := ⟨_, rfl⟩
      have hnn : n = 3 + (L + M) := by rw [hn, hel, hL', hM]
      have hLM : L + M < 1000000 := by omega
      have hlc := hu.le_cap
      obtain ⟨bk, off, rfl, hz1, hz2, hz3⟩ := hu.src (by omega)
      clear hz1 hz2 hz3
      have p3 := part_to hu 3 (by omega)
      have e3 : (S.enc (r :: rest)).take 3 = S.lenOf L := by rw [S.enc_cons, ← hL']; exact List.take_left' (S.lenOf_length _)
      rw [e3] at p3
      have f3 := part_from hu hn 3 (by omega)
      have e4 : (S.enc (r :: rest)).drop 3 = r ++ S.enc rest := by rw [S.enc_cons]; exact List.drop_left' (S.lenOf_length _)
      rw [e4] at f3
      obtain ⟨ox, hox⟩ : ∃ ox, ox = if c = 3 then off else off + 3 := ⟨_, rfl⟩
      have hax : (if c = 3 then some (⟨bk, off, none⟩ : Addr) else some ⟨bk, off + 3, none⟩) = some ⟨bk, ox, none⟩ := by rw [hox]; split <;> rfl
      rw [Option.map_some, Addr.add_lit, hax] at f3
      have f3' : SliceAt w (.slice (some ⟨bk, ox, none⟩) (L + M) (c - 3)) (r ++ S.enc rest) := by rw [show L + M = n - 3 from by omega]; exact f3
      have pl := part_to f3' L (by omega)
      have e5 : (r ++ S.enc rest).take L = r := by rw [hL']; exact List.take_left
      rw [e5] at pl
      have fl := part_from f3' (by rw [List.length_append]; omega) L (by omega)
      have e6 : (r ++ S.enc rest).drop L = S.enc rest := by rw [hL']; exact List.drop_left
      rw [e6, show L + M - L = M from by omega] at fl
      obtain ⟨oy, hoy⟩ : ∃ oy, oy = if c - 3 = L then ox else ox + L := ⟨_, rfl⟩
      have hay : (if c - 3 = L then some (⟨bk, ox, none⟩ : Addr) else some ⟨bk, ox + L, none⟩) = some ⟨bk, oy, none⟩ := by rw [hoy]; split <;> rfl
      rw [Option.map_some, Addr.add_lit, hay] at fl
      have P3 := hide p3
      have PL := hide pl
      have FL := hide fl
      have ET := hide (S.rd_len L (by omega))
      have q1 : (0 : Int) < ((3 + (L + M) : Nat) : Int) := by omega
      have q2 : ¬ ((3 + (L + M) : Nat) : Int) < 3 := by omega
      have q3 : (3 : Int) ≤ ((3 + (L + M) : Nat) : Int) := by omega
      have q4 : ((3 + (L + M) : Nat) : Int) ≤ (c : Int) := by omega
      have q5 : (3 : Int) ≤ (c : Int) := by omega
      have HAX := hide hax
      have HAY := hide hay
      have HLR : Hid (L = r.length ∧ M = (S.enc rest).length) := ⟨hL', hM⟩
      obtain ⟨al, cl, hl⟩ := hL.shape
      clear hL hRd hown hb hu hrs hn hel htot hrl p3 e3 f3 e4 f3' pl e5 fl e6 hax hay hox hoy hL' hM HV
      subst hl hnn
      go_wp2_with fail
      refine (newReader_any _ _ wr (P3.out.below BB.out (Nat.le_refl _)) (by rw [S.lenOf_length]; omega)).mono ?_
      rintro e w1 ⟨gd, gx, rfl, g1, x1, r1, b1⟩
      have RD1 := hide r1
      have B1 : Hid (Below wr.heap.size wr w1) := b1
      have G1 : Hid (wr.heap.size ≤ gd) := g1
      clear g1 x1 r1 b1
      go_wp2_with fail
      refine (rnumber_is gd gx w1 ET.out RD1.out).mono ?_
      rintro e w2 ⟨rfl, r2, c2⟩
      have b2 : Below wr.heap.size wr w2 := B1.out.trans (c2.base B1.out.size G1.out)
      have L2 : Hid (Lists w2 (.slice al vs.length cl) vs) := LS.out.kept fun k hk => b2.block k (LS.out.lt hk)
      have B2 : Hid (Below w.heap.size w w2) := BB.out.trans (b2.mono BB.out.size)
      have hs2 : w.heap.size ≤ w2.heap.size := B2.out.size
      clear r2 c2 b2 RD1 B1 G1
      have m1 : ((3 + (L + M) : Nat) : Int) - 3 = ((L + M : Nat) : Int) := by omega
      have m2 : ¬ (((L + M : Nat) : Int) < (L : Int)) := by omega
      have m3 : (L : Int) ≤ ((L + M : Nat) : Int) := by omega
      have m4 : ((L + M : Nat) : Int) ≤ (c : Int) - 3 := by omega
      have n1 : 3 + (L + M) - 3 = L + M := by omega
      have n2 : L + M - L = M := by omega
      have HVL : Hid (vs.length ≤ 1000000) := by
        show vs.length ≤ 1000000
        have h1 := RD.out.1
        have h2 := len_lt rs
        have h3 : dn.length ≤ rs.length := by rw [HRS.out, List.length_append]; omega
        omega
      go_upto_region 7 with fail
      rw [HAX.out]
      go_upto_region 10 with (at_builtin; (refine wpList_append_known rfl (.tmp 23) (.tmp 27) 92 92 rfl _ _ rfl rfl (run_append_list _ (.slice al vs.length cl) _ w2.heap.size vs 92 (L2.out.kept (fun k hk => heap_alloc_old _ _ (L2.out.lt hk))) (heap_alloc_new _ _) rfl HVL.out) ?_; rintro v3 w3 ⟨hL3, hg3, ho3⟩; have HL3 := hide hL3; have HG3 := hide hg3; have HO3 := hide ho3; clear hL3 hg3 ho3))
      obtain ⟨a3, c3, hv3⟩ := HL3.out.shape
      subst hv3
      have B3 : Hid (Below w.heap.size w w3) := ⟨HG3.out.os.trans B2.out.os, HG3.out.tape.trans B2.out.tape, HG3.out.output.trans B2.out.output, by have h1 := HG3.out.size; simp at h1; omega, fun k hk => by
        refine (HG3.out.block k (by simp; omega) (fun e => ?_)).trans ((heap_alloc_old _ _ (by omega)).trans (B2.out.block k hk))
        have := OW.out k e.symm
        omega⟩
      have O3 : Hid (∀ k, (Value.slice a3 (vs ++ [Value.slice (some ⟨bk, ox, none⟩) L (c - 3)]).length c3).ownBlock = some k → w.heap.size ≤ k) := fun k hk => by
        rcases HO3.out with h' | h'
        · exact OW.out k (h' ▸ hk)
        · rw [hk] at h'
          have := Option.some.inj h'
          rw [this]
          simp
          omega
      go_wp2_with fail
      rw [HAY.out]
      go_roundw
      case rel =>
        refine ⟨_, _, _, dn ++ [r], rest, vs ++ [.slice (some ⟨bk, ox, none⟩) L (c - 3)], rfl, HLR.out.2, FL.out, ?_, HL3.out, RD.out.snoc PL.out, O3.out, B3.out⟩
        rw [HRS.out, List.append_assoc]
        rfl
      case measure => simp; omega
end Go.Proofs.YthjlhngjpbmieaaGreatDoor
namespace Go.Proofs.YthjlhngjpbmieaaGreatDoor
open Go.RowKit

theorem wpList_load_when {w : World} {ops : Array Oper} {rest : List Oper} {o : Oper} {a : Act} {Q : Exit → Act → World → Prop} (hw : Region.wanted o (yielded ops a.tmps) = true) (t : TypeId) (x : Operand) (ho : o.op = .load t x) (vx : Value) (hx : a.eval x = vx) (v : Value)
    (hr : (Instr.loadAt t vx).run Tryz.prog w = .ok v w) (h : wpList Tryz.prog ops Q rest (a.put o.dst v) w) : wpList Tryz.prog ops Q (o :: rest) a w := by
  subst hx
  refine wpList_step fun _ hK => ?_
  rw [if_pos hw]
  unfold Oper.wp execOp
  simp only [ho, Sem.run_bind, hr, Result.andThen_ok]
  exact hK _ _ h
theorem load71 {w : World} {g : Nat} {xs : List UInt8} (h : w.heap[g]? = some (.cells (S.v8 xs) 104 (0, 0))) (hl : xs.length = 32) : (Instr.loadAt 104 (.pointer (some ⟨g, 0, none⟩))).run Tryz.prog w = .ok (.agg (S.v8 xs)) w := by
  rw [S.v8_eq] at h ⊢
  exact run_loadAt_mid (P := Tryz.prog) w _ 0 104 _ _ (rangeAt_row h) Tryz.underlying104 rfl (by rw [size71, S.v8l_length, hl])
theorem store71r {w : World} {g : Nat} {xs ys : List UInt8} (h : w.heap[g]? = some (.cells (S.v8 xs) 104 (0, 0))) (hx : xs.length = 32) (hy : ys.length = 32) :
    ∃ w', (Instr.storeAt 104 (.pointer (some ⟨g, 0, none⟩)) (.agg (S.v8 ys))).run Tryz.prog w = .ok () w' ∧ w'.heap[g]? = some (.cells (S.v8 ys) 104 (0, 0)) ∧ Chg (fun k => k = g) w w' := by
  have hr := run_storeVar_row (P := Tryz.prog) w g 104 104 _ (S.v8 ys) h (by rw [size71, S.v8_size, hy]) (by rw [S.v8_size, S.v8_size, hx, hy]) (S.v8_one _)
  refine ⟨w.setRow g (S.v8 ys), ?_, setRow_heap w g _ _ _ _ h, Chg.setRow (p := fun k => k = g) g _ rfl⟩
  simp only [Instr.storeAt, Instr.sureAddr, Sem.run_bind, Sem.run_pure, Result.andThen_ok, hr]
theorem seal_take (rs : List (List UInt8)) (k : Nat) (h : k < rs.length) : S.sealOf (rs.take (k + 1)) = S.sum (S.sealOf (rs.take k) ++ rs.getD k []) := by
  rw [List.take_succ_eq_append_getElem h, S.seal_snoc]
  simp [List.getD_eq_getElem?_getD, h]
set_option maxHeartbeats 4000000 in
set_option maxRecDepth 10000 in
theorem sealing_any (v : Value) (rs : List (List UInt8)) (sl : List UInt8) (w : World) (hv : SliceAt w v (S.enc rs)) (hm : (S.enc rs).length < 1000000) (hl : sl.length = 32) (hK : KAt w) :
   Calls Tryz.prog 91 #[v, .agg (S.v8 sl)] w fun e w' => e = .returned (.bool (S.sealOf rs == sl)) ∧ Below w.heap.size w w' := by
  obtain ⟨C, hC⟩ : ∃ C, C = S.v8 sl := ⟨_, rfl⟩
  obtain ⟨w0, hw0⟩ : ∃ w0, w0 = w.alloc (.cells C 104) := ⟨_, rfl⟩
  have HB : Hid (Below w.heap.size w w0) := by rw [hw0]; exact (Below.refl _ _).alloc (Nat.le_refl _) _
  have r0 : w0.heap[w.heap.size]? = some (.cells (S.v8 sl) 104 (0, 0)) := by rw [hw0, ← hC]; exact heap_alloc_new _ _
  have HV := hide (hv.below HB.out (Nat.le_refl _))
  have K0 := hide (hK.below HB.out hK.pos)
  obtain ⟨ga, hga⟩ : ∃ ga, ga = w.heap.size := ⟨_, rfl⟩
  rw [← hga] at r0
  have R0 := hide r0
  have HGA : Hid (ga = w.heap.size) := hga
  have HK0 : Hid (0 < w.heap.size) := hK.pos
  obtain ⟨ao, n, c, rfl, hz1, hz2⟩ := hv.form
  rw [← hC]
  have HC : Hid (C = S.v8 sl) := hC
  clear hv hK r0 hz1 hz2 hC
  go_enter Tryz.func91, Tryz.ntmps91
  go_wp2_with fail
  rw [← hw0, ← hga]
  clear hw0 hga
  refine (split_any _ rs w0 HV.out hm).mono ?_
  rintro e w1 ⟨lv, vs, rfl, hL, hRd, hOw, b1⟩
  have LS := hide hL
  have RD : Hid (Reads w1 vs rs) := hRd.below b1
  have OW := hide hOw
  have R1 : Hid (w1.heap[ga]? = some (.cells (S.v8 sl) 104 (0, 0))) := (b1.block ga (block_lt_of_row R0.out)).trans R0.out
  have K1 := hide (K0.out.below b1 K0.out.pos)
  have B1 : Hid (Below w.heap.size w w1) := HB.out.trans (b1.mono HB.out.size)
  obtain ⟨al, cl, hlv⟩ := hL.shape
  subst hlv
  have hvl := hRd.1
  have hrl := len_lt rs
  obtain ⟨N, hN⟩ : ∃ N, N = vs.length := ⟨_, rfl⟩
  rw [← hN] at LS hvl ⊢
  have HN : Hid (N = rs.length) := hvl
  have hN1 : N < 1000000 := by omega
  have hal := alloc71 w1
  obtain ⟨w2, hw2⟩ : ∃ w2, w2 = w1.alloc (.cells (S.v8 (S.zeros 32)) 104) := ⟨_, rfl⟩
  rw [← hw2] at hal
  have b2 : Below w1.heap.size w1 w2 := by rw [hw2]; exact (Below.refl _ _).alloc (Nat.le_refl _) _
  have R2 : Hid (w2.heap[w1.heap.size]? = some (.cells (S.v8 (S.zeros 32)) 104 (0, 0))) := by rw [hw2]; exact heap_alloc_new _ _
  have B2 : Hid (Below w1.heap.size w1 w2) := b2
  obtain ⟨gd, hgd⟩ : ∃ gd, gd = w1.heap.size := ⟨_, rfl⟩
  rw [← hgd] at R2 hal
  have HGD : Hid (gd = w1.heap.size) := hgd
  clear hL hRd hOw b1 hvl hrl hw2 b2 hgd hN R0 K0 HV
  go_wp2_with (with_reducible refine at_op ⟨some 7, .alloc 104, 0, "head.go:116", #[], none⟩ ?_; refine wpList_alloc_known rfl 104 rfl _ _ hal ?_)
  clear hal
  go_loopw [17] (fun i wr => ∃ k : Nat, k ≤ N ∧ i = .int .i64 (k : Int) ∧ wr.heap[gd]? = some (.cells (S.v8 (S.sealOf (rs.take k))) 104 (0, 0)) ∧ Below gd w1 wr) (fun i _ => N - (intOf i).toNat)
  case atStart => exact ⟨0, Nat.zero_le _, rfl, R2.out, by rw [HGD.out]; exact B2.out⟩
  case round =>
    obtain ⟨k, hk, rfl, hr, hb⟩ := hrel
    have hgs : gd = w1.heap.size := HGD.out
    have hb' : Below w1.heap.size w1 wr := by rw [← hgs]; exact hb
    have hsl := S.seal_length (rs.take k)
    by_cases hlt : k < N
    · have L3 := LS.out.kept (w' := wr) fun j hj => hb'.block j (LS.out.lt hj)
      obtain ⟨gl, off, cc, hlv, hcap, hcell⟩ := L3.at k (by rw [RD.out.1, ← HN.out]; exact hlt)
      simp only [Value.slice.injEq] at hlv
      obtain ⟨rfl, hz0, rfl⟩ := hlv
      clear hz0
      have hsv := (RD.out.2 k (by rw [← HN.out]; exact hlt)).below hb' (Nat.le_refl _)
      obtain ⟨ax, nx, cx, hx, hz1, hz2⟩ := hsv.form
      rw [hx] at hsv hcell
      have HSV := hide hsv
      have KW := hide (K1.out.below hb' K1.out.pos)
      have hld := load71 hr hsl
      have hrk : (rs.getD k []).length ≤ 1000000000 := by
        have h1 : rs.getD k [] ∈ rs := by
          rw [List.getD_eq_getElem?_getD, List.getElem?_eq_getElem (by rw [← HN.out]; exact hlt)]
          exact List.getElem_mem _
        have h2 : (rs.getD k []).length ≤ (S.enc rs).length := by
          obtain ⟨a, b, e⟩ := List.append_of_mem h1
          have : (S.enc rs).length = (S.enc a).length + ((3 + (rs.getD k []).length) + (S.enc b).length) := by
            conv => lhs; rw [e]
            simp [S.enc, S.lenOf_length]
            omega
          omega
        omega
      have HR := hide hr
      have HBB := hide hb
      have SK := hide (seal_take rs k (by rw [← HN.out]; exact hlt))
      obtain ⟨SL, hSL⟩ : ∃ SL, SL = S.sealOf (rs.take k) := ⟨_, rfl⟩
      rw [← hSL] at hsl hld HR SK
      obtain ⟨DV, hDV⟩ : ∃ DV, DV = S.v8 SL := ⟨_, rfl⟩
      rw [← hDV] at hld
      have HDV : Hid (DV = S.v8 SL) := hDV
      have q1 : (0 : Int) ≤ (k : Int) := by omega
      have q2 : (k : Int) < (N : Int) := by omega
      have q3 : IntKind.i64.wrap ((k : Int) + 1) = (k : Int) + 1 := by rw [IntKind.wrap_i64]; omega
      clear hr hb hb' L3 hsv hx hz1 hz2 hgs hSL hDV hcap
      go_wp2_with (with_reducible refine at_op ⟨some 21, .load 104 (.tmp 7), 104, "head.go:118", #[], none⟩ ?_; refine wpList_load_as rfl 104 (.tmp 7) rfl (.pointer (some ⟨gd, 0, none⟩)) rfl (.agg DV) hld ?_)
      rw [HDV.out]
      refine (sealed_any SL _ _ wr hsl HSV.out hrk KW.out).mono ?_
      rintro e w3 ⟨rfl, b3⟩
      rw [← HDV.out, ← SK.out]
      have r3 : w3.heap[gd]? = some (.cells (S.v8 SL) 104 (0, 0)) := (b3.block gd (block_lt_of_row HR.out)).trans HR.out
      obtain ⟨w4, hst, r4, c4⟩ := store71r (ys := S.sealOf (rs.take (k + 1))) r3 hsl (S.seal_length _)
      have R4 := hide r4
      have B4 : Hid (Below gd w1 w4) := by
        have h1 := HBB.out.trans (b3.mono (Nat.le_of_lt (block_lt_of_row HR.out)))
        exact h1.trans (c4.base (Nat.le_trans (Nat.le_of_eq HGD.out) h1.size) (Nat.le_refl _))
      obtain ⟨D2, hD2⟩ : ∃ D2, D2 = S.v8 (S.sealOf (rs.take (k + 1))) := ⟨_, rfl⟩
      rw [← hD2] at hst ⊢
      clear b3 r3 r4 c4 hld hD2
      go_wp2_with (with_reducible refine at_op ⟨none, .store 104 (.tmp 7) (.tmp 23), 0, "head.go:118", #[⟨2, .data⟩, ⟨2, .chain⟩, ⟨0, .phase⟩, ⟨1, .phase⟩, ⟨2, .phase⟩], none⟩ ?_; refine wpList_store_as rfl 104 (.tmp 7) (.tmp 23) rfl (.pointer (some ⟨gd, 0, none⟩)) (.agg D2) rfl rfl w4 hst ?_)
      go_roundw
      case rel => exact ⟨k + 1, by omega, by go_num, R4.out, B4.out⟩
      case measure => simp [intOf]; omega
    · have q2 : ¬ ((k : Int) < (N : Int)) := by omega
      have eT : rs.take k = rs := List.take_of_length_le (by rw [← HN.out]; omega)
      rw [eT] at hr hsl
      have r5 : wr.heap[ga]? = some (.cells (S.v8 sl) 104 (0, 0)) := (hb'.block ga (block_lt_of_row R1.out)).trans R1.out
      have l1 := load71 hr hsl
      have l2 := load71 r5 hl
      have heq := equal_digests (S.sealOf rs) sl hsl hl wr
      obtain ⟨D1, hD1⟩ : ∃ D, D = S.v8 (S.sealOf rs) := ⟨_, rfl⟩
      rw [← hD1] at l1 heq
      rw [← HC.out] at l2 heq
      obtain ⟨R, hR⟩ : ∃ R, R = (S.sealOf rs == sl) := ⟨_, rfl⟩
      rw [← hR] at heq
      have HRR : Hid (R = (S.sealOf rs == sl)) := hR
      have BF : Hid (Below w.heap.size w wr) := B1.out.trans (hb'.mono B1.out.size)
      clear hr hb hb' hsl eT r5 hgs hD1 hR
      go_wp2_with (first | (with_reducible refine at_op { dst := some 27, op := Op.load 104 (Operand.tmp 7), type := 104, pos := "head.go:120", after := #[⟨1, .guard⟩], guard := some (1, true) } ?_; refine wpList_load_when rfl 104 (.tmp 7) rfl (.pointer (some ⟨gd, 0, none⟩)) rfl (.agg D1) l1 ?_) | (with_reducible refine at_op { dst := some 28, op := Op.load 104 (Operand.tmp 3), type := 104, pos := "head.go:120", after := #[⟨1, .guard⟩], guard := some (1, true) } ?_; refine wpList_load_when rfl 104 (.tmp 3) rfl (.pointer (some ⟨ga, 0, none⟩)) rfl (.agg C) l2 ?_))
      go_ret
      exact ⟨ret_bool HRR.out, BF.out⟩
end Go.Proofs.YthjlhngjpbmieaaGreatDoor
namespace Go.Proofs.YthjlhngjpbmieaaGreatDoor
open Go.RowKit

set_option maxHeartbeats 1600000 in
set_option maxRecDepth 10000 in
theorem owns_any (p : Value) (f c k : Nat) (gb : Nat) (s : List UInt8) (w : World) (hf : f ≤ 100000) (hc : c ≤ 100000) (hk : k ≤ 100000) (hs : w.heap[gb]? = some (.cells (S.v8 s) 5 (0, 0))) (ho : S.Owned f c k s) :
   Calls Tryz.prog 90 #[arv p f c, .int .i64 (k : Int), .slice (some ⟨gb, 0, none⟩) 128 128] w fun e w' => e = .returned (.bool true) ∧ Below w.heap.size w w' := by
  obtain ⟨w0, hw0, HA, HB, HZ⟩ := ar_box w p f c
  obtain ⟨a0, a1, a2⟩ := ar_new w p f c
  have hl := ho.1
  have HS := hide ((HB.out.block gb (block_lt_of_row hs)).trans hs)
  have HO := hide ho
  unfold arv
  clear hs ho
  go_enter Tryz.func90, Tryz.ntmps90
  go_wp2_with fail
  rw [← hw0]
  clear hw0 a0 a1 a2
  refine (tag_any p f c k w0 hf hc hk).mono ?_
  rintro e w1 ⟨gt, rfl, g1, r1, b1⟩
  have HTG := hide (slice_row r1 (S.tag_length _ _ _).symm (by rw [S.tag_length]; omega))
  have HSB := hide (slice_row ((b1.block gb (block_lt_of_row HS.out)).trans HS.out) hl.symm (by rw [hl]; omega))
  have B1 : Hid (Below w.heap.size w w1) := HB.out.trans (b1.mono HB.out.size)
  clear g1 r1 b1 HS
  go_wp2_with fail
  refine (prefix_any _ _ _ _ w1 HSB.out HTG.out).mono ?_
  rintro e w9 ⟨rfl, rfl⟩
  by_cases ht : S.tag f c k <+: s
  · rw [decide_eq_true ht]
    clear ht
    go_wp2_with fail
    go_ret
    exact ⟨rfl, B1.out⟩
  · rw [decide_eq_false ht]
    have hq : s.take (S.trimTo s s.length) <+: S.tag f c k := by
      rcases HO.out.asks with h | h
      · exact absurd h ht
      · exact h
    rw [hl] at hq
    have HQ := hide hq
    have hle := S.trimTo_le s 128
    have HP := hide (part_to HSB.out (S.trimTo s 128) hle)
    clear ht hq
    go_wp2_with fail
    refine (trimRight_any gb 0 128 128 s w1 (by omega) HSB.out).mono ?_
    rintro e w9 ⟨rfl, rfl⟩
    obtain ⟨m, hm⟩ : ∃ m, m = S.trimTo s 128 := ⟨_, rfl⟩
    rw [← hm] at HP HQ hle ⊢
    clear hm
    go_wp2_with fail
    refine (prefix_any _ _ _ _ w1 HTG.out HP.out).mono ?_
    rintro e w9 ⟨rfl, rfl⟩
    rw [decide_eq_true HQ.out]
    go_wp2_with fail
    go_ret
    exact ⟨rfl, B1.out⟩
end Go.Proofs.YthjlhngjpbmieaaGreatDoor
