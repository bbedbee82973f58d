/- Put of any sheets, on a disk that may stop. -/
import Derived.Test.YthjlhngjpbmieaaGreatDoorUb
import Derived.Test.YthjlhngjpbmieaaGreatDoorJf
namespace Go.Proofs.YthjlhngjpbmieaaGreatDoor
open Go.RowKit

namespace S
/-- What Put does. -/
def putActs (d : Dk) (p t : Nat) (ns : List Nat) (xs : List (List UInt8)) : List Act :=
  (spTo xs ns.length ++ [.flush]) ++ (commitActs { d with safe := putAll d.safe (fun i => 4101 + i * 8) xs ns.length, pend := [] } 1 4 p t [] [setL ns] ++ homeActs { d with safe := after (putAll d.safe (fun i => 4101 + i * 8) xs ns.length) 1 4 p t [] [setL ns], pend := [] } (1 - p) (t + 1) ns xs)
theorem commitActs_safe {d e : Dk} (h : d.safe = e.safe) (f c p t : Nat) (rs rs' : List (List UInt8)) : commitActs d f c p t rs rs' = commitActs e f c p t rs rs' := by
  unfold commitActs
  rw [h]
theorem homeActs_safe {d e : Dk} (h : d.safe = e.safe) (p t : Nat) (ns : List Nat) (xs : List (List UInt8)) : homeActs d p t ns xs = homeActs e p t ns xs := by
  unfold homeActs
  rw [commitActs_safe (d := { d with safe := putAll d.safe (homeOf ns) xs ns.length, pend := [] }) (e := { e with safe := putAll e.safe (homeOf ns) xs ns.length, pend := [] }) (by rw [h])]
theorem pgs_up (d : List ShV) (h : d.Pairwise (fun x y => x.1 < y.1)) (hp : ∀ x ∈ d, 0 ≤ x.1) : (pgs d).Pairwise (· < ·) := by
  unfold pgs
  rw [List.pairwise_map]
  exact h.imp_of_mem (fun {a b} ha hb hab => by have := hp a ha; have := hp b hb; omega)
theorem map_getD (X : Nat → List UInt8) (ns : List Nat) (i : Nat) (hi : i < ns.length) : (ns.map X).getD i [] = X (ns.getD i 0) := by
  rw [List.getD_eq_getElem?_getD, List.getD_eq_getElem?_getD, List.getElem?_map, List.getElem?_eq_getElem hi]
  rfl
end S
/-- Behind a Put, wherever it stopped. -/
structure PutA (w0 w w' : World) (gs : Nat) (o o' : Ow) (d d' : S.Dk) (b : Bool) (p t : Nat) (ns : List Nat) (xs : List (List UInt8)) : Prop where
  plan : d.plan (S.putActs d p t ns xs) = (d', b)
  dk : Dsk w' o' d'
  ptr : o'.g = o.g
  ob : ∀ k, o'.has k → w0.heap.size ≤ k
  below : Below w0.heap.size w0 w'
  st : StAt w' gs o'
  chg : Chg o.has w w'
  own : ∀ k, o'.has k → o.has k ∨ w.heap.size ≤ k
/-- A sheet to be put: a good page, and a list of the length of a page. -/
structure ShOk (w : World) (o : Ow) (X : Nat → List UInt8) (y : ShV) : Prop where
  lo : 0 ≤ y.1
  hi : y.1 < 512
  len : y.2.2.1 = 1024
  at_ : ∃ bk off, y.2.1 = some ⟨bk, off, none⟩ ∧ ¬ o.has bk ∧ bk < w.heap.size
  val : SliceAt w y.list (X y.1.toNat)
theorem ShOk.size {w : World} {o : Ow} {X : Nat → List UInt8} {y : ShV} (h : ShOk w o X y) : (X y.1.toNat).length = 1024 := by
  obtain ⟨_, _, _, e, e2, _⟩ := h.val.form
  simp only [ShV.list, Value.slice.injEq] at e
  have := h.len
  omega
theorem ShOk.below {w W : World} {o : Ow} {X : Nat → List UInt8} {y : ShV} (h : ShOk w o X y) (hb : Below w.heap.size w W) : ShOk W o X y := by
  obtain ⟨bk, off, h1, h2, h3⟩ := h.at_
  exact ⟨h.lo, h.hi, h.len, ⟨bk, off, h1, h2, Nat.lt_of_lt_of_le h3 hb.size⟩, h.val.below hb (Nat.le_refl _)⟩
set_option maxHeartbeats 16000000 in
set_option maxRecDepth 10000 in
theorem pput_any (w0 w : World) (o : Ow) (d : S.Dk) (p t gs b off cap : Nat) (l : List ShV) (pg X : Nat → List UInt8) (h : Pn w0 w o d p t pg) (hs : StAt w gs o) (h0 : ∀ j u, (l.flatMap encSh)[j]? = some u → w.cell? ⟨b, off + j, none⟩ = some u) (hd : l ≠ []) (hl : l.length ≤ 256) (hp : ∀ x ∈ l, ShOk w o X x) (hn : (l.map (·.1)).Nodup) (hgs : ¬ o.has gs) (ht : t + 2 < 18446744073709551616) :
   Calls Tryz.prog 12 #[.pointer (some ⟨gs, 0, none⟩), .slice (some ⟨b, off, none⟩) l.length cap] w fun e w' => ∃ bb d' o' ns, e = .returned (.int .i64 (S.why bb)) ∧ ns.Perm (S.pgs l) ∧ ns.Pairwise (· < ·) ∧ PutA w0 w w' gs o o' d d' bb p t ns (ns.map X) := by
  have P0 := hide h
  have S0 := hide hs
  have H0 := hide h0
  have HD := hide hd
  have HL := hide hl
  have HP := hide hp
  have HN := hide hn
  have NGS := hide hgs
  have HLT : Hid (∀ k, o.has k → k < w.heap.size) := h.dk.dk.lt
  have HP1 := h.log.place
  have HGSL : Hid (gs < w.heap.size) := block_lt_of_row hs
  have q1 : ¬ (l.length : Int) = 0 := fun e => hd (List.length_eq_zero_iff.1 (by omega))
  have q2 : ((l.length : Int) == 0) = false := beq_false_of_ne q1
  clear h hs h0 hd hl hp hn hgs
  go_enter Tryz.func12, Tryz.ntmps12
  go_wp2_with fail
  refine (inOrder_any b off cap l w H0.out HD.out HL.out (fun x hx => ⟨(HP.out x hx).lo, (HP.out x hx).hi, (HP.out x hx).len⟩) HN.out).mono ?_
  rintro e w1 ⟨g1, c1, l2, rfl, hg1, hpm, hpw, hs1, b1⟩
  have P1 := hide (P0.out.then b1)
  have ST1 : Hid (StAt w1 gs o) := (b1.block gs (block_lt_of_row S0.out)).trans S0.out
  have SH1 := hide hs1
  have B1 := hide b1
  have NG1 : Hid (¬ o.has g1) := fun e => by have := HLT.out _ e; omega
  have HP2 : Hid (∀ x ∈ l2, ShOk w1 o X x) := fun x hx => (HP.out x (hpm.mem_iff.1 hx)).below b1
  have LL : Hid (l2.length = l.length) := hpm.length_eq
  have HQ : Hid (∀ x ∈ l2, 0 ≤ x.1 ∧ x.1 < 512 ∧ x.2.2.1 = 1024) := fun x hx => ⟨(HP2.out x hx).lo, (HP2.out x hx).hi, (HP2.out x hx).len⟩
  obtain ⟨ns, hns⟩ : ∃ ns, ns = S.pgs l2 := ⟨_, rfl⟩
  have HNS := hide hns
  have NSP : Hid (ns.Perm (S.pgs l)) := by rw [hns]; exact hpm.map _
  have NSU : Hid (ns.Pairwise (· < ·)) := by rw [hns]; exact S.pgs_up l2 hpw (fun x hx => (HP2.out x hx).lo)
  have NSL : Hid (ns.length = l.length) := by rw [hns]; unfold S.pgs; show (l2.map _).length = _; rw [List.length_map]; exact LL.out
  have NSB : Hid (∀ n ∈ ns, n < 512) := fun n hn => by
    rw [hns] at hn
    obtain ⟨x, hx, rfl⟩ := List.mem_map.1 hn
    have := (HP2.out x hx).hi
    have := (HP2.out x hx).lo
    omega
  have NSN : Hid (ns ≠ []) := fun e => HD.out (List.length_eq_zero_iff.1 (by rw [← NSL.out, e]; rfl))
  have NSX : Hid (∀ n ∈ ns, (X n).length = 1024) := fun n hn => by
    rw [hns] at hn
    obtain ⟨x, hx, rfl⟩ := List.mem_map.1 hn
    exact (HP2.out x hx).size
  obtain ⟨xs, hxs⟩ : ∃ xs, xs = ns.map X := ⟨_, rfl⟩
  have XSG : Hid (∀ i, i < ns.length → xs.getD i [] = X (ns.getD i 0)) := fun i hi => by rw [hxs]; exact S.map_getD X ns i hi
  have XSL : Hid (∀ i, i < ns.length → (xs.getD i []).length = 1024) := fun i hi => by
    rw [XSG.out i hi]
    refine NSX.out _ ?_
    rw [List.getD_eq_getElem?_getD, List.getElem?_eq_getElem hi, Option.getD_some]
    exact List.getElem_mem hi
  have HXS := hide hxs
  have LN : Hid (ns.length ≤ 256) := by show ns.length ≤ 256; rw [NSL.out]; exact HL.out
  clear hg1 hs1 b1 hpm hpw hns hxs P0 S0 H0 HP
  go_wp2_with fail
  refine (settled_n w0 w1 o d p t gs pg P1.out ST1.out).mono ?_
  rintro e w2 ⟨g, tv, rfl, hlo, hgb, htb, hp2, hst2, b2⟩
  have LO2 := hide hlo
  have P2 := hide hp2
  have ST2 := hide hst2
  have SH2 := hide (SH1.out.below b2)
  have HP3 : Hid (∀ x ∈ l2, ShOk w2 o X x) := fun x hx => (HP2.out x hx).below b2
  have B2 := hide (B1.out.trans (b2.mono B1.out.size))
  have hs1 := B1.out.size
  have GW : Hid (w.heap.size ≤ g ∧ ∀ k, tv.ownBlock = some k → w.heap.size ≤ k) := ⟨by omega, fun k hk => by have := htb k hk; omega⟩
  clear hlo hgb htb hp2 hst2 b2 P1 ST1 SH1 B1 hs1 HP2
  have c2 := st_cell ST2.out
  go_wp2_with fail
  clear c2
  have PS := putSpares_any o d g1 c1 l2 xs w2 P2.out.dk.dk P2.out.len SH2.out NG1.out (by rw [LL.out]; exact HL.out) (fun i y hy => by
    have hil : i < l2.length := (List.getElem?_eq_some_iff.1 hy).1
    have ok := HP3.out y (List.mem_of_getElem? hy)
    obtain ⟨bk, bo, e1, e2, e3⟩ := ok.at_
    refine ⟨ok.lo, bk, bo, e1, ok.len, ?_, e2, e3⟩
    have hin : i < ns.length := by rw [NSL.out, ← LL.out]; exact hil
    have : ns.getD i 0 = y.1.toNat := by
      rw [HNS.out]
      unfold S.pgs
      rw [List.getD_eq_getElem?_getD, List.getElem?_map, hy]
      rfl
    rw [XSG.out i hin, this]
    exact ok.val) (by rw [P2.out.pend]; simp)
  rw [LL.out, ← NSL.out, show o.ptr = .pointer (some ⟨o.g, 0, none⟩) from rfl] at PS
  rw [← NSL.out]
  refine PS.mono ?_
  intro e w3 hdo
  obtain ⟨b3, d3, o3, rfl, h1, h2, h3⟩ := hdo.start
  have PL3 := hide h1
  have ST3 : Hid (w3.heap[gs]? = some (.cells #[.pointer (some ⟨o.g, 0, none⟩)] 69 (0, 0))) := h3.chg.row ST2.out NGS.out
  have SH3 : Hid (ShR w3 g1 l2) := by
    obtain ⟨cur, x1, x2⟩ := SH2.out.row
    exact ⟨cur, h3.chg.row x1 NG1.out, x2⟩
  have C3 : Hid (Chg o.has w w3) := (Chg.ofBelow' B2.out).trans h3.chg (fun _ _ e => e)
  have OWN3 : Hid (∀ k, o3.has k → o.has k ∨ w.heap.size ≤ k) := fun k e => by
    rcases h3.own k e with e | e
    · exact Or.inl e
    · exact Or.inr (Nat.le_trans B2.out.size e)
  have PT3 : Hid (o3.g = o.g) := h3.g
  have DK3 := hide (LO2.out.log.dk.to h2 h3)
  have OB3 : Hid (∀ k, o3.has k → w0.heap.size ≤ k) := fun k e => by
    rcases h3.own k e with e | e
    · exact P2.out.ob k e
    · exact Nat.le_trans P2.out.below.size e
  have BL3 : Hid (Below w0.heap.size w0 w3) := P2.out.below.trans (h3.chg.below _ P2.out.below.size (fun k hk e => by have := P2.out.ob k e; omega))
  have H2 := hide h2
  have H3 := hide h3
  clear PS hdo h1 h2 h3 SH2 HP3
  cases b3 with
  | false =>
    have E : S.why false = 13 := rfl
    rw [E]
    go_wp2_with fail
    go_ret
    refine ⟨false, d3, o3, ns, rfl, NSP.out, NSU.out, ?_⟩
    rw [← HXS.out]
    refine ⟨?_, DK3.out, PT3.out, OB3.out, BL3.out, ?_, C3.out, OWN3.out⟩
    · unfold S.putActs
      exact S.Dk.plan_no PL3.out
    · show w3.heap[gs]? = some (.cells #[.pointer (some ⟨o3.g, 0, none⟩)] 69 (0, 0))
      rw [PT3.out]
      exact ST3.out
  | true =>
  have E : S.why true = 0 := rfl
  rw [E]
  have fl := S.Dk.plan_flushed (f := fun i => 4101 + i * 8) (xs := xs) (k := ns.length) P2.out.pend (by have := PL3.out; rw [S.spTo_eq] at this; exact this)
  have FL := hide fl
  have LEN3 : Hid (d3.safe.length = d.safe.length) := by show d3.safe.length = d.safe.length; rw [fl.1]; exact S.putAll_length _ _ _ _
  have LO3 : Hid (Lo w0 w3 o3 d3 g 1 4 p t [] tv) := LO2.out.beside H2.out H3.out fl.2 LEN3.out (fun j h1 h2 => by rw [fl.1]; exact S.putAll_off _ _ _ _ _ (fun i hi => Or.inl (by omega)))
  clear fl LO2 ST2 B2 H2 H3
  go_wp2_with fail
  have SO := setOf_any g1 c1 l2 w3 SH3.out HQ.out (by rw [LL.out]; exact HL.out)
  rw [← HNS.out, LL.out, ← NSL.out] at SO
  refine SO.mono ?_
  rintro e w4 ⟨rfl, b4⟩
  clear SO
  have hal := alloc57 w4
  obtain ⟨w5, hst, r5, b5⟩ := made57 w4 (S.setL ns) (S.setL_length ns)
  have B35 := hide (b4.trans (b5.mono b4.size))
  have LO5 := hide (LO3.out.then B35.out)
  have ST5 : Hid (w5.heap[gs]? = some (.cells #[.pointer (some ⟨o.g, 0, none⟩)] 69 (0, 0))) := (B35.out.block gs (block_lt_of_row ST3.out)).trans ST3.out
  have RX5 := hide r5
  have C5 : Hid (Chg o.has w w5) := C3.out.trans (Chg.ofBelow' (p := fun _ => False) B35.out) (fun _ _ e => e.elim)
  have h34 := b4.size
  have hg3 := block_lt_of_row LO3.out.log.lg.row
  have NXG : Hid (¬ (w4.heap.size = g ∨ tv.ownBlock = some w4.heap.size) ∧ ¬ o3.has w4.heap.size) := ⟨fun e => by
    rcases e with e | e
    · omega
    · have := LO3.out.log.lg.text.lt e; omega, fun e => by have := LO3.out.log.dk.dk.lt _ e; omega⟩
  obtain ⟨w4', hw4'⟩ : ∃ w4', w4' = w4.alloc (.cells (S.v8 (S.zeros 64)) 65) := ⟨_, rfl⟩
  rw [← hw4'] at hal hst
  obtain ⟨gx, hgx⟩ : ∃ gx, gx = w4.heap.size := ⟨_, rfl⟩
  rw [← hgx] at hal hst RX5 NXG
  obtain ⟨Z, hZ⟩ : ∃ Z, Z = S.v8 (S.setL ns) := ⟨_, rfl⟩
  rw [← hZ] at hst ⊢
  clear r5 b5 b4 hw4' hgx hZ LO3 SH3 h34 hg3
  go_wp2_with (first | (with_reducible refine at_op ⟨some 10, .alloc 65, 0, "pages.go:86", #[], none⟩ ?_; refine wpList_alloc_known rfl 65 rfl (.pointer (some ⟨gx, 0, none⟩)) w4' hal ?_) | (with_reducible refine at_op ⟨none, .store 65 (.tmp 10) (.tmp 40), 0, "pages.go:86", #[⟨2, .data⟩, ⟨1, .data⟩, ⟨1, .chain⟩, ⟨0, .phase⟩, ⟨1, .phase⟩, ⟨2, .phase⟩], none⟩ ?_; refine wpList_store_as rfl 65 (.tmp 10) (.tmp 40) rfl (.pointer (some ⟨gx, 0, none⟩)) (.agg Z) rfl rfl w5 hst ?_))
  clear hal hst
  have KP5 : Hid (∀ W, Chg (fun k => k = g ∨ tv.ownBlock = some k) w5 W → SliceAt W (.slice (some ⟨gx, 0, none⟩) 64 64) (S.setL ns)) := fun W hW => set_row (hW.row RX5.out NXG.out.1) (S.setL_length ns)
  have NE : Hid (S.setL ns ≠ []) := fun e => by have h := S.setL_length ns; rw [e] at h; simp at h
  have FIT : Hid ((S.setL ns).length ≤ S.room 4 - (S.enc []).length - 3) := by show (S.setL ns).length ≤ S.room 4 - (S.enc []).length - 3; rw [S.setL_length]; decide
  refine (commit_any o3 d3 g 1 4 p t [] tv (some ⟨gx, 0, none⟩) 64 64 (S.setL ns) w5 LO5.out.log (by omega) KP5.out NE.out FIT.out).mono ?_
  rintro e w6 ⟨b6, d6, o6, tv6, x⟩
  have hgsl := block_lt_of_row ST5.out
  have hgxl := block_lt_of_row RX5.out
  have n1 : ¬ (o3.has gs ∨ gs = g ∨ tv.ownBlock = some gs) := fun e => by
    have h1 := HGSL.out
    rcases e with e | e | e
    · rcases OWN3.out _ e with e | e
      · exact NGS.out e
      · omega
    · have := GW.out.1; omega
    · have := GW.out.2 _ e; omega
  have n2 : ¬ (o3.has gx ∨ gx = g ∨ tv.ownBlock = some gx) := fun e => by
    rcases e with e | e
    · exact NXG.out.2 e
    · exact NXG.out.1 e
  have ST6 : Hid (w6.heap[gs]? = some (.cells #[.pointer (some ⟨o.g, 0, none⟩)] 69 (0, 0))) := x.moved.chg.row ST5.out n1
  have RX6 : Hid (w6.heap[gx]? = some (.cells (S.v8 (S.setL ns)) 65 (0, 0))) := x.moved.chg.row RX5.out n2
  have C6 : Hid (Chg o.has w w6) := C5.out.trans x.moved.chg (fun j hj e => by
    rcases e with e | e | e
    · rcases OWN3.out j e with e | e
      · exact e
      · omega
    · have := GW.out.1; omega
    · have := GW.out.2 j e; omega)
  have OWN6 : Hid (∀ k, o6.has k → o.has k ∨ w.heap.size ≤ k) := fun k e => by
    rcases x.moved.own k e with e | e
    · exact OWN3.out k e
    · exact Or.inr (Nat.le_trans C5.out.size e)
  have PT6 : Hid (o6.g = o.g) := x.moved.ptr.trans PT3.out
  have NS6 : Hid (¬ (o6.has gs ∨ gs = g ∨ tv6.ownBlock = some gs)) := fun e => by
    rcases e with e | e | e
    · rcases x.moved.own _ e with e | e
      · exact n1 (Or.inl e)
      · omega
    · exact n1 (Or.inr (Or.inl e))
    · rcases x.moved.text _ e with e | e
      · exact n1 (Or.inr (Or.inr e))
      · omega
  have NX6 : Hid (¬ (o6.has gx ∨ gx = g ∨ tv6.ownBlock = some gx)) := fun e => by
    rcases e with e | e | e
    · rcases x.moved.own _ e with e | e
      · exact n2 (Or.inl e)
      · omega
    · exact n2 (Or.inr (Or.inl e))
    · rcases x.moved.text _ e with e | e
      · exact n2 (Or.inr (Or.inr e))
      · omega
  have GW6 : Hid (w.heap.size ≤ g ∧ ∀ k, tv6.ownBlock = some k → w.heap.size ≤ k) := ⟨GW.out.1, fun k hk => by
    rcases x.moved.text k hk with e | e
    · exact GW.out.2 k e
    · exact Nat.le_trans C5.out.size e⟩
  have OB6 : Hid (∀ k, o6.has k → w0.heap.size ≤ k) := fun k e => by
    rcases x.moved.own k e with e | e
    · exact OB3.out k e
    · exact Nat.le_trans LO5.out.below.size e
  have BL6 : Hid (Below w0.heap.size w0 w6) := LO5.out.below.trans (x.moved.chg.below _ LO5.out.below.size (fun k hk e => by
    rcases e with e | e | e
    · have := LO5.out.ob k e; omega
    · have := LO5.out.gb; omega
    · have := LO5.out.tb k e; omega))
  have DK6 := hide x.dk
  have PL6 : Hid (d3.plan (S.commitActs { d with safe := S.putAll d.safe (fun i => 4101 + i * 8) xs ns.length, pend := [] } 1 4 p t [] [S.setL ns]) = (d6, b6)) := by
    show d3.plan (S.commitActs _ 1 4 p t [] [S.setL ns]) = (d6, b6)
    rw [S.commitActs_safe (e := d3) (by rw [FL.out.1])]
    exact x.plan
  obtain rfl := x.ret
  cases b6 with
  | false =>
    have E : S.why false = 13 := rfl
    rw [E]
    clear x n1 n2 hgsl hgxl
    go_wp2_with fail
    go_ret
    refine ⟨false, d6, o6, ns, rfl, NSP.out, NSU.out, ?_⟩
    rw [← HXS.out]
    refine ⟨?_, DK6.out, PT6.out, OB6.out, BL6.out, ?_, C6.out, OWN6.out⟩
    · unfold S.putActs
      rw [S.Dk.plan_yes PL3.out]
      exact S.Dk.plan_no PL6.out
    · show w6.heap[gs]? = some (.cells #[.pointer (some ⟨o6.g, 0, none⟩)] 69 (0, 0))
      rw [PT6.out]
      exact ST6.out
  | true =>
  have E : S.why true = 0 := rfl
  rw [E]
  have cm := S.commit_calm (b := S.setL ns) LO5.out.log.pend LO5.out.log.good (by omega) (by rw [S.enc_snoc_length]; have := FIT.out; have e := S.setL_length ns; have e2 : S.room 4 = 240 := rfl; have e3 : (S.enc []).length = 0 := rfl; omega)
  have my := cm.may
  have al := S.Dk.plan_alike x.plan
  rw [show ([] : List (List UInt8)) ++ [S.setL ns] = [S.setL ns] from rfl] at al
  rw [show ([] : List (List UInt8)) ++ [S.setL ns] = [S.setL ns] from rfl] at cm my
  rw [cm.acts] at al
  have hsf : d6.safe = S.after d3.safe 1 4 p t [] [S.setL ns] := al.safe
  have LO6 : Hid (Lo w0 w6 o6 d6 g 1 4 (1 - p) (t + 1) [S.setL ns] tv6) := LO5.out.did x al.pend (by rw [hsf]; exact cm.good)
  have MY : Hid (d6.safe.length = d3.safe.length ∧ ∀ j, j < 1 ∨ 5 ≤ j → d6.safe.getD j [] = d3.safe.getD j []) := by rw [hsf]; exact ⟨my.len, fun j hj => my.stay j hj⟩
  have SF6 : Hid (d6.safe = S.after (S.putAll d.safe (fun i => 4101 + i * 8) xs ns.length) 1 4 p t [] [S.setL ns]) := by show d6.safe = _; rw [hsf, FL.out.1]
  have LEN6 : Hid (7680 ≤ d6.safe.length) := by show 7680 ≤ d6.safe.length; rw [MY.out.1, LEN3.out]; exact P2.out.len
  have SP6 : Hid (∀ i, i < ns.length → (xs.getD i []).length = 1024 ∧ S.pageAt d6.safe (4101 + i * 8) = xs.getD i []) := fun i hi => by
    refine ⟨XSL.out i hi, ?_⟩
    have e1 : S.pageAt d6.safe (4101 + i * 8) = S.pageAt d3.safe (4101 + i * 8) := S.secs_cong (fun j h1 h2 => MY.out.2 j (Or.inr (by omega)))
    rw [e1, FL.out.1]
    exact S.putAll_page d.safe (fun i => 4101 + i * 8) xs ns.length (fun i hi => by have := P2.out.len; have := LN.out; show 4101 + i * 8 + 8 ≤ _; omega) XSL.out (fun i j _ _ hij => by show 4101 + i * 8 + 8 ≤ 4101 + j * 8 ∨ 4101 + j * 8 + 8 ≤ 4101 + i * 8; omega) i hi
  clear x my al cm hsf n1 n2 hgsl hgxl GW LO5 ST5 RX5 C5 OWN3 PT3 KP5 NE FIT NXG MY LEN3 P2
  have GW := GW6
  clear GW6
  go_upto_region 16 with fail
  refine wp_region_noPanic ?_
  refine wp_region_held_drew (S := (fun W => W.heap[gs]? = some (.cells #[.pointer (some ⟨o.g, 0, none⟩)] 69 (0, 0)) ∧ W.heap[gx]? = some (.cells (S.v8 (S.setL ns)) 65 (0, 0)))) follows ⟨ST6.out, RX6.out⟩ (fun hHeld => ?_)
  have LOd := hide (LO6.out.then (Below.refl w6.heap.size w6).drew)
  have C6d : Hid (Chg o.has w w6.drew) := C6.out.drew
  clear LO6 C6 ST6 RX6
  generalize w6.drew = Z1 at LOd C6d hHeld ⊢
  refine tk 0 ?_ rfl (Or.inl ⟨by rfl, ?_⟩) ?_
  rotate_left
  · intro w hSw
    clear hSw
    go_simp
    all_goals with_reducible rfl
  simp only [Act.put, List.setIfInBounds_toArray, List.set_cons_zero, List.set_cons_succ]
  refine tk 1 ?_ rfl (Or.inl ⟨by rfl, ?_⟩) ?_
  rotate_left
  · intro w hSw
    clear hSw
    go_simp
    all_goals with_reducible rfl
  simp only [Act.put, List.setIfInBounds_toArray, List.set_cons_zero, List.set_cons_succ]
  refine tk 2 ?_ rfl (Or.inl ⟨by rfl, ?_⟩) ?_
  rotate_left
  · intro w hSw
    clear hSw
    go_simp
    all_goals with_reducible rfl
  simp only [Act.put, List.setIfInBounds_toArray, List.set_cons_zero, List.set_cons_succ]
  refine tk 3 ?_ rfl (Or.inl ⟨by rfl, ?_⟩) ?_
  rotate_left
  · intro w hSw
    have c0 := st_cell hSw.1
    clear hSw
    go_simp
    all_goals with_reducible rfl
  simp only [Act.put, List.setIfInBounds_toArray, List.set_cons_zero, List.set_cons_succ]
  refine tk 4 ?_ rfl (Or.inl ⟨by rfl, ?_⟩) ?_
  rotate_left
  · intro w hSw
    clear hSw
    go_simp
    all_goals with_reducible rfl
  simp only [Act.put, List.setIfInBounds_toArray, List.set_cons_zero, List.set_cons_succ]
  refine wpAnyH_take (i := 5) (oi := ⟨_, _, _, _, _, _⟩) (v := .agg (S.v8 (S.setL ns))) rfl (by kernel_rfl) (by kernel_rfl) (by kernel_rfl) (fun _ _ _ h => h) (yieldsIf_load57 (by kernel_rfl) (.tmp 10) rfl gx rfl (S.setL_length ns) (fun W hW => hW.2)) (by assumption) ?_
  simp only [Act.put, List.setIfInBounds_toArray, List.set_cons_zero, List.set_cons_succ]
  refine wpAnyH_ready (rs := [6]) (by kernel_rfl) (by simp) ?_
  refine AllReadyH.cons (o := { dst := some 53, op := Op.call { callee := Callee.value (Operand.func 35), args := #[Operand.tmp 50, Operand.tmp 51, Operand.tmp 52], argTypes := #[22, 63, 65] }, type := 26, pos := "pages.go:90", after := #[⟨3, .data⟩, ⟨4, .data⟩, ⟨5, .data⟩], guard := none }) rfl (fun K hK => ?_) AllReadyH.nil
  go_simp
  have BH := bringHome_any w0 Z1 o6 d6 g (1 - p) (t + 1) tv6 ns xs LOd.out LEN6.out NSB.out NSU.out NSN.out LN.out SP6.out (by omega)
  rw [show o6.ptr = .pointer (some ⟨o.g, 0, none⟩) by unfold Ow.ptr; rw [PT6.out]] at BH
  refine BH.mono ?_
  rintro e Z2 ⟨b7, d7, o7, rfl, hh⟩
  have a2 : Z2.heap[gs]? = some (.cells #[.pointer (some ⟨o.g, 0, none⟩)] 69 (0, 0)) ∧ Z2.heap[gx]? = some (.cells (S.v8 (S.setL ns)) 65 (0, 0)) := ⟨hh.chg.row hHeld.1 NS6.out, hh.chg.row hHeld.2 NX6.out⟩
  have ST7 : Hid (StAt Z2 gs o7) := by
    show Z2.heap[gs]? = some (.cells #[.pointer (some ⟨o7.g, 0, none⟩)] 69 (0, 0))
    rw [hh.ptr, PT6.out]
    exact a2.1
  have PA : Hid (PutA w0 w Z2 gs o o7 d d7 b7 p t ns xs) := ⟨by
    unfold S.putActs
    rw [S.Dk.plan_yes PL3.out, S.Dk.plan_yes PL6.out, S.homeActs_safe (e := d6) (by rw [SF6.out])]
    exact hh.plan, hh.dk, hh.ptr.trans PT6.out, hh.ob, hh.below, ST7.out, C6d.out.trans hh.chg (fun j hj e => by rcases e with e | e | e; rcases OWN6.out j e with e | e; exact e; omega; have := GW.out.1; omega; have := GW.out.2 j e; omega), fun k e => by rcases hh.own k e with e | e; exact OWN6.out k e; exact Or.inr (Nat.le_trans C6d.out.size e)⟩
  clear BH hh hHeld LOd C6d
  generalize hy : S.why b7 = y
  have HY := hide hy
  clear hy
  refine hK.out _ _ a2 (fun hHeld => ?_)
  clear hK K
  try simp only [Act.put, List.setIfInBounds_toArray, List.set_cons_zero, List.set_cons_succ]
  clear a2
  refine tk 7 ?_ rfl (Or.inl ⟨by rfl, ?_⟩) ?_
  rotate_left
  · intro w hSw
    clear hSw
    go_simp
    all_goals with_reducible rfl
  simp only [Act.put, List.setIfInBounds_toArray, List.set_cons_zero, List.set_cons_succ]
  refine wpAnyH_done (by kernel_rfl) ?_ _
  refine NoPanic.normal ?_
  clear hHeld
  go_wp2_with fail
  go_ret
  exact ⟨b7, d7, o7, ns, by rw [HY.out]; rfl, NSP.out, NSU.out, by rw [← HXS.out]; exact PA.out⟩
end Go.Proofs.YthjlhngjpbmieaaGreatDoor
namespace Go.Proofs.YthjlhngjpbmieaaGreatDoor
open Go.RowKit

namespace S
/-- What a Put leaves, step by step. -/
structure PutCalm (d : Dk) (p t : Nat) (ns : List Nat) (xs s1 s2 s3 s4 : List (List UInt8)) : Prop where
  e1 : s1 = putAll d.safe (fun i => 4101 + i * 8) xs ns.length
  e2 : s2 = after s1 1 4 p t [] [setL ns]
  e3 : s3 = putAll s2 (homeOf ns) xs ns.length
  e4 : s4 = after s3 1 4 (1 - p) (t + 1) [setL ns] []
  c1 : Calm { d with safe := s1, pend := [] } 1 4 p t [] [setL ns]
  c2 : Calm { d with safe := s3, pend := [] } 1 4 (1 - p) (t + 1) [setL ns] []
  acts : d.acts (putActs d p t ns xs) = { d with safe := s4, pend := [] }
theorem put_calm {d : Dk} {p t : Nat} {ns : List Nat} {xs : List (List UInt8)} (hp : d.pend = []) (g : Good d.safe 1 4 p t []) (ht : t + 2 < 18446744073709551616) : ∃ s1 s2 s3 s4, PutCalm d p t ns xs s1 s2 s3 s4 := by
  have fit : (enc ([] ++ [setL ns])).length ≤ room 4 := by
    rw [enc_snoc_length, setL_length]
    decide
  have g1 : Good (putAll d.safe (fun i => 4101 + i * 8) xs ns.length) 1 4 p t [] := g.stay (putAll_length _ _ _ _) (fun j _ h2 => putAll_off _ _ _ _ _ (fun i _ => Or.inl (by omega)))
  have c1 := commit_calm (d := { d with safe := putAll d.safe (fun i => 4101 + i * 8) xs ns.length, pend := [] }) (b := setL ns) rfl g1 (by omega) fit
  rw [List.nil_append] at c1
  have g3 : Good (putAll (after (putAll d.safe (fun i => 4101 + i * 8) xs ns.length) 1 4 p t [] [setL ns]) (homeOf ns) xs ns.length) 1 4 (1 - p) (t + 1) [setL ns] := c1.good.stay (putAll_length _ _ _ _) (fun j _ h2 => putAll_off _ _ _ _ _ (fun i _ => Or.inl (by unfold homeOf; omega)))
  have c2 := clear_calm (d := { d with safe := putAll (after (putAll d.safe (fun i => 4101 + i * 8) xs ns.length) 1 4 p t [] [setL ns]) (homeOf ns) xs ns.length, pend := [] }) rfl g3 (by omega)
  refine ⟨_, _, _, _, rfl, rfl, rfl, rfl, c1, c2, ?_⟩
  unfold putActs homeActs
  rw [Dk.acts_app, spTo_eq, pages_flushed d _ xs ns.length hp, Dk.acts_app, c1.acts, Dk.acts_app, pages_flushed _ _ xs ns.length rfl, c2.acts]
theorem PutCalm.off {d : Dk} {p t : Nat} {ns : List Nat} {xs s1 s2 s3 s4 : List (List UInt8)} (h : PutCalm d p t ns xs s1 s2 s3 s4) (j : Nat) (hj : j < 1 ∨ 5 ≤ j) : s4.getD j [] = s3.getD j [] ∧ s2.getD j [] = s1.getD j [] := by
  have m1 := h.c1.may
  have m2 := h.c2.may
  rw [h.e4, h.e2]
  exact ⟨m2.stay j hj, m1.stay j hj⟩
theorem PutCalm.len {d : Dk} {p t : Nat} {ns : List Nat} {xs s1 s2 s3 s4 : List (List UInt8)} (h : PutCalm d p t ns xs s1 s2 s3 s4) : s1.length = d.safe.length ∧ s2.length = d.safe.length ∧ s3.length = d.safe.length ∧ s4.length = d.safe.length := by
  have m1 := h.c1.may.len
  have m2 := h.c2.may.len
  have a : s1.length = d.safe.length := by rw [h.e1]; exact putAll_length _ _ _ _
  have b : s2.length = d.safe.length := by rw [h.e2, m1]; exact a
  have c : s3.length = d.safe.length := by rw [h.e3, putAll_length]; exact b
  exact ⟨a, b, c, by rw [h.e4, m2]; exact c⟩
theorem PutCalm.mark {d : Dk} {p t : Nat} {ns : List Nat} {xs s1 s2 s3 s4 : List (List UInt8)} (h : PutCalm d p t ns xs s1 s2 s3 s4) : s4.getD 0 [] = d.safe.getD 0 [] := by
  rw [(h.off 0 (Or.inl (by omega))).1, h.e3, putAll_off _ _ _ _ _ (fun i _ => Or.inl (by unfold homeOf; omega)), (h.off 0 (Or.inl (by omega))).2, h.e1, putAll_off _ _ _ _ _ (fun i _ => Or.inl (by omega))]
/-- The pages behind it all. -/
theorem PutCalm.home {d : Dk} {p t : Nat} {ns : List Nat} {X : Nat → List UInt8} {s1 s2 s3 s4 : List (List UInt8)} (h : PutCalm d p t ns (ns.map X) s1 s2 s3 s4) (hl : 7680 ≤ d.safe.length) (hn : ∀ n ∈ ns, n < 512) (hpw : ns.Pairwise (· < ·)) (hx : ∀ n ∈ ns, (X n).length = 1024) (m : Nat) (hm : m < 512) : pageAt s4 (5 + m * 8) = if m ∈ ns then X m else pageAt d.safe (5 + m * 8) := by
  have e4 : pageAt s4 (5 + m * 8) = pageAt s3 (5 + m * 8) := secs_cong (fun j h1 h2 => (h.off j (Or.inr (by omega))).1)
  have e2 : pageAt s2 (5 + m * 8) = pageAt s1 (5 + m * 8) := secs_cong (fun j h1 h2 => (h.off j (Or.inr (by omega))).2)
  have hl2 := h.len.2.1
  rw [e4, h.e3]
  by_cases e : m ∈ ns
  · rw [if_pos e]
    obtain ⟨i, hi, rfl⟩ := List.mem_iff_getElem.1 e
    have hg : ns.getD i 0 = ns[i] := by rw [List.getD_eq_getElem?_getD, List.getElem?_eq_getElem hi]; rfl
    have := putAll_page s2 (homeOf ns) (ns.map X) ns.length (fun i hi => by have := getD_lt hn i hi; unfold homeOf; omega) (fun i hi => by rw [map_getD X ns i hi]; exact hx _ (by rw [List.getD_eq_getElem?_getD, List.getElem?_eq_getElem hi]; exact List.getElem_mem hi)) (fun i j hi hj hij => apart ns hpw i j hi hj hij) i hi
    rw [map_getD X ns i hi, homeOf, hg] at this
    exact this
  · rw [if_neg e, putAll_other _ _ _ _ _ (fun i hi => by
      have hne : ns.getD i 0 ≠ m := fun e' => e (by rw [← e', List.getD_eq_getElem?_getD, List.getElem?_eq_getElem hi]; exact List.getElem_mem hi)
      unfold homeOf
      omega), e2, h.e1, putAll_other _ _ _ _ _ (fun i _ => Or.inl (by omega))]
end S
theorem pput_go (w0 w : World) (o : Ow) (d : S.Dk) (p t gs b off cap : Nat) (l : List ShV) (pg X : Nat → List UInt8) (h : Pg w0 w o d p t pg) (hs : StAt w gs o) (h0 : ∀ j u, (l.flatMap encSh)[j]? = some u → w.cell? ⟨b, off + j, none⟩ = some u) (hd : l ≠ []) (hl : l.length ≤ 256) (hp : ∀ x ∈ l, ShOk w o X x) (hn : (l.map (·.1)).Nodup) (hgs : ¬ o.has gs) (ht : t + 2 < 18446744073709551616) :
   Calls Tryz.prog 12 #[.pointer (some ⟨gs, 0, none⟩), .slice (some ⟨b, off, none⟩) l.length cap] w fun e w' => e = .returned (.int .i64 0) ∧ ∃ o' d', o'.g = o.g ∧ Pg w0 w' o' d' p (t + 2) (fun m => if m ∈ S.pgs l then X m else pg m) ∧ StAt w' gs o' ∧ Chg o.has w w' ∧ ∀ k, o'.has k → o.has k ∨ w.heap.size ≤ k := by
  have hpp := h.log.place
  refine (pput_any w0 w o d p t gs b off cap l pg X h.n hs h0 hd hl hp hn hgs ht).mono ?_
  rintro e w' ⟨bb, d', o', ns, rfl, hpm, hup, pa⟩
  have pl := S.Dk.plan_goes (S.putActs d p t ns (ns.map X)) d h.left
  rw [pa.plan] at pl
  obtain ⟨hb, hd'⟩ := pl
  simp only at hb hd'
  subst hb
  obtain ⟨s1, s2, s3, s4, pc⟩ := S.put_calm (ns := ns) (xs := ns.map X) h.pend h.log ht
  rw [pc.acts] at hd'
  have mem : ∀ m, m ∈ ns ↔ m ∈ S.pgs l := fun m => hpm.mem_iff
  have inl : ∀ n ∈ ns, ∃ x ∈ l, n = x.1.toNat := fun n hn => by
    obtain ⟨x, hx, e⟩ := List.mem_map.1 ((mem n).1 hn)
    exact ⟨x, hx, e.symm⟩
  have hn5 : ∀ n ∈ ns, n < 512 := fun n hn => by
    obtain ⟨x, hx, rfl⟩ := inl n hn
    have := (hp x hx).hi
    have := (hp x hx).lo
    omega
  have hx1 : ∀ n ∈ ns, (X n).length = 1024 := fun n hn => by
    obtain ⟨x, hx, rfl⟩ := inl n hn
    exact (hp x hx).size
  have hsafe : d'.safe = s4 := by rw [hd']
  refine ⟨rfl, o', d', pa.ptr, ⟨pa.dk, by rw [hd'], by rw [hd']; exact h.left, by rw [hsafe, pc.len.2.2.2]; exact h.len, by rw [hsafe, pc.mark]; exact h.mark, ?_, fun m hm => ?_, pa.ob, pa.below, h.pos⟩, pa.st, pa.chg, pa.own⟩
  · have := pc.c2.good
    rw [← pc.e4, show 1 - (1 - p) = p by omega] at this
    rw [hsafe]
    exact this
  · rw [hsafe, pc.home h.len hn5 hup hx1 m hm]
    by_cases e : m ∈ ns
    · rw [if_pos e, if_pos ((mem m).1 e)]
    · rw [if_neg e, if_neg (fun e' => e ((mem m).2 e'))]
      exact h.home m hm
end Go.Proofs.YthjlhngjpbmieaaGreatDoor
