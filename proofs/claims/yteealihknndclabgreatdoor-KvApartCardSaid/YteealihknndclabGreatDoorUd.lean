/- Put of any sheets, on a disk that may stop. -/
import Derived.Test.YteealihknndclabGreatDoorTf
import Derived.Test.YteealihknndclabGreatDoorJa
import Derived.Test.YteealihknndclabGreatDoorBy
namespace Go.Proofs.YteealihknndclabGreatDoor
open Go.RowKit

namespace S
def j4 (d : Dk) (p t : Nat) (ns : List Nat) (xs : List (List UInt8)) : List Act :=
 (oN xs ns.length ++ [.flush]) ++ (commitActs { d with safe := bN d.safe (fun i => 4101 + i * 8) xs ns.length, pend := [] } 1 4 p t [] [aL ns] ++ fH { d with safe := after (bN d.safe (fun i => 4101 + i * 8) xs ns.length) 1 4 p t [] [aL ns], pend := [] } (1 - p) (t + 1) ns xs)
theorem kQ {d e : Dk} (h : d.safe = e.safe) (f c p t : Nat) (rs rs' : List (List UInt8)) : commitActs d f c p t rs rs' = commitActs e f c p t rs rs' := by
 unfold commitActs
 rw [h]
theorem tT {d e : Dk} (h : d.safe = e.safe) (p t : Nat) (ns : List Nat) (xs : List (List UInt8)) : fH d p t ns xs = fH e p t ns xs := by
 unfold fH
 rw [kQ (d := { d with safe := bN d.safe (bP ns) xs ns.length, pend := [] }) (e := { e with safe := bN e.safe (bP ns) xs ns.length, pend := [] }) (by rw [h])]
theorem pgs_up (d : List ShV) (h : d.Pairwise (fun x y => x.1 < y.1)) (hp : ∀ x ∈ d, 0 <= x.1) : (pgs d).Pairwise (· < ·) := by
 unfold pgs
 rw [List.pairwise_map]
 exact h.imp_of_mem (fun {a b} ha hb hab => by have := hp a ha; have := hp b hb; omega)
theorem lm (X : Nat -> List UInt8) (ns : List Nat) (i : Nat) (hi : i < ns.length) : (ns.map X).getD i [] = X (ns.getD i 0) := by
 rw [List.getD_eq_getElem?_getD, List.getD_eq_getElem?_getD, List.getElem?_map, List.getElem?_eq_getElem hi]
 rfl
end S
structure PutA (w0 w w' : World) (gs : Nat) (o o' : Ow) (d d' : S.Dk) (b : Bool) (p t : Nat) (ns : List Nat) (xs : List (List UInt8)) : Prop where
 plan : d.plan (S.j4 d p t ns xs) = (d', b)
 dk : Dsk w' o' d'
 ptr : o'.g = o.g
 ob : ∀ k, o'.has k -> w0.heap.size <= k
 below : Below w0.heap.size w0 w'
 st : eD w' gs o'
 chg : Chg o.has w w'
 own : ∀ k, o'.has k -> o.has k \/ w.heap.size <= k
structure wJ (w : World) (o : Ow) (X : Nat -> List UInt8) (y : ShV) : Prop where
 lo : 0 <= y.1
 hi : y.1 < 512
 len : y.2.2.1 = 1024
 at_ : ∃ bk off, y.2.1 = some ⟨bk, off, none⟩ /\ ¬ o.has bk /\ bk < w.heap.size
 val : SliceAt w y.list (X y.1.toNat)
theorem wJ.size {w : World} {o : Ow} {X : Nat -> List UInt8} {y : ShV} (h : wJ w o X y) : (X y.1.toNat).length = 1024 := by
 obtain ⟨_, _, _, e, e2, _⟩ := h.val.form
 simp only [ShV.list, Value.slice.injEq] at e
 have := h.len
 omega
theorem wJ.below {w W : World} {o : Ow} {X : Nat -> List UInt8} {y : ShV} (h : wJ w o X y) (hb : Below w.heap.size w W) : wJ W o X y := by
 obtain ⟨bk, off, h1, h2, h3⟩ := h.at_
 exact ⟨h.lo, h.hi, h.len, ⟨bk, off, h1, h2, Nat.lt_of_lt_of_le h3 hb.size⟩, h.val.below hb (lr _)⟩
set_option maxHeartbeats 16000000 in
set_option maxRecDepth 10000 in
theorem Ex (w0 w : World) (o : Ow) (d : S.Dk) (p t gs b off cap : Nat) (l : List ShV) (pg X : Nat -> List UInt8) (h : Pn w0 w o d p t pg) (hs : eD w gs o) (h0 : ∀ j u, (l.flatMap dm)[j]? = some u -> w.cell? ⟨b, off + j, none⟩ = some u) (hd : l ≠ []) (hl : l.length <= 256) (hp : ∀ x ∈ l, wJ w o X x) (hn : (l.map (·.1)).Nodup) (hgs : ¬ o.has gs) (ht : t + 2 < 18446744073709551616) :
  Calls Tryz.prog 34 #[.pointer (some ⟨gs, 0, none⟩), .slice (some ⟨b, off, none⟩) l.length cap] w fun e w' => ∃ bb d' o' ns, e = .returned (.int .i64 (S.why bb)) /\ ns.Perm (S.pgs l) /\ ns.Pairwise (· < ·) /\ PutA w0 w w' gs o o' d d' bb p t ns (ns.map X) := by
 have P0 := hide h
 have S0 := hide hs
 have H0 := hide h0
 have HD := hide hd
 have HL := hide hl
 have HP := hide hp
 have HN := hide hn
 have NGS := hide hgs
 have HLT : Hid (∀ k, o.has k -> k < w.heap.size) := h.dk.dk.lt
 have HP1 := h.log.place
 have HGSL : Hid (gs < w.heap.size) := aa hs
 have q1 : ¬ (l.length : Int) = 0 := fun e => hd (List.length_eq_zero_iff.1 (by omega))
 have q2 : ((l.length : Int) == 0) = false := beq_false_of_ne q1
 clear h hs h0 hd hl hp hn hgs
 go_enter Tryz.func34, Tryz.ntmps34
 go_wp2_with fail
 refine (x9 b off cap l w H0.out HD.out HL.out (fun x hx => ⟨(HP.out x hx).lo, (HP.out x hx).hi, (HP.out x hx).len⟩) HN.out).mono ?_
 rintro e w1 ⟨g1, c1, l2, rfl, hg1, hpm, hpw, hs1, b1⟩
 have P1 := hide (P0.out.then b1)
 have ST1 : Hid (eD w1 gs o) := (b1.block gs (aa S0.out)).trans S0.out
 have SH1 := hide hs1
 have B1 := hide b1
 have NG1 : Hid (¬ o.has g1) := fun e => by have := HLT.out _ e; omega
 have HP2 : Hid (∀ x ∈ l2, wJ w1 o X x) := fun x hx => (HP.out x (hpm.mem_iff.1 hx)).below b1
 have LL : Hid (l2.length = l.length) := hpm.length_eq
 have HQ : Hid (∀ x ∈ l2, 0 <= x.1 /\ x.1 < 512 /\ x.2.2.1 = 1024) := fun x hx => ⟨(HP2.out x hx).lo, (HP2.out x hx).hi, (HP2.out x hx).len⟩
 obtain ⟨ns, hns⟩ : ∃ ns, ns = S.pgs l2 := ⟨_, rfl⟩
 have HNS := hide hns
 have NSP : Hid (ns.Perm (S.pgs l)) := by rw [hns]; exact hpm.map _
 have NSU : Hid (ns.Pairwise (· < ·)) := by rw [hns]; exact S.pgs_up l2 hpw (fun x hx => (HP2.out x hx).lo)
 have NSL : Hid (ns.length = l.length) := by rw [hns]; unfold S.pgs; show (l2.map _).length = _; rw [List.length_map]; exact LL.out
 have NSB : Hid (∀ n ∈ ns, n < 512) := fun n hn => by
  rw [hns] at hn
  obtain ⟨x, hx, rfl⟩ := List.mem_map.1 hn
  have := (HP2.out x hx).hi
  have := (HP2.out x hx).lo
  omega
 have NSN : Hid (ns ≠ []) := fun e => HD.out (List.length_eq_zero_iff.1 (by rw [<- NSL.out, e]; rfl))
 have NSX : Hid (∀ n ∈ ns, (X n).length = 1024) := fun n hn => by
  rw [hns] at hn
  obtain ⟨x, hx, rfl⟩ := List.mem_map.1 hn
  exact (HP2.out x hx).size
 obtain ⟨xs, hxs⟩ : ∃ xs, xs = ns.map X := ⟨_, rfl⟩
 have XSG : Hid (∀ i, i < ns.length -> xs.getD i [] = X (ns.getD i 0)) := fun i hi => by rw [hxs]; exact S.lm X ns i hi
 have XSL : Hid (∀ i, i < ns.length -> (xs.getD i []).length = 1024) := fun i hi => by
  rw [XSG.out i hi]
  refine NSX.out _ ?_
  rw [List.getD_eq_getElem?_getD, List.getElem?_eq_getElem hi, Option.getD_some]
  exact List.getElem_mem hi
 have HXS := hide hxs
 have LN : Hid (ns.length <= 256) := by show ns.length <= 256; rw [NSL.out]; exact HL.out
 clear hg1 hs1 b1 hpm hpw hns hxs P0 S0 H0 HP
 go_wp2_with fail
 refine (Bp w0 w1 o d p t gs pg P1.out ST1.out).mono ?_
 rintro e w2 ⟨g, tv, rfl, hlo, hgb, htb, hp2, jl, b2⟩
 have LO2 := hide hlo
 have P2 := hide hp2
 have ST2 := hide jl
 have SH2 := hide (SH1.out.below b2)
 have HP3 : Hid (∀ x ∈ l2, wJ w2 o X x) := fun x hx => (HP2.out x hx).below b2
 have B2 := hide (B1.out.trans (b2.mono B1.out.size))
 have hs1 := B1.out.size
 have GW : Hid (w.heap.size <= g /\ ∀ k, tv.ownBlock = some k -> w.heap.size <= k) := ⟨by omega, fun k hk => by have := htb k hk; omega⟩
 clear hlo hgb htb hp2 jl b2 P1 ST1 SH1 B1 hs1 HP2
 have c2 := iQ ST2.out
 go_wp2_with fail
 clear c2
 have PS := tJ o d g1 c1 l2 xs w2 P2.out.dk.dk P2.out.len SH2.out NG1.out (by rw [LL.out]; exact HL.out) (fun i y hy => by
  have hil : i < l2.length := (List.getElem?_eq_some_iff.1 hy).1
  have ok := HP3.out y (List.mem_of_getElem? hy)
  obtain ⟨bk, bo, e1, e2, e3⟩ := ok.at_
  refine ⟨ok.lo, bk, bo, e1, ok.len, ?_, e2, e3⟩
  have hin : i < ns.length := by rw [NSL.out, <- LL.out]; exact hil
  have : ns.getD i 0 = y.1.toNat := by
   rw [HNS.out]
   unfold S.pgs
   rw [List.getD_eq_getElem?_getD, List.getElem?_map, hy]
   rfl
  rw [XSG.out i hin, this]
  exact ok.val) (by rw [P2.out.pend]; simp)
 rw [LL.out, <- NSL.out, show o.ptr = .pointer (some ⟨o.g, 0, none⟩) from rfl] at PS
 rw [<- NSL.out]
 refine PS.mono ?_
 intro e w3 hdo
 obtain ⟨b3, d3, o3, rfl, h1, h2, h3⟩ := hdo.start
 have PL3 := hide h1
 have ST3 : Hid (w3.heap[gs]? = some (.cells #[.pointer (some ⟨o.g, 0, none⟩)] 134 (0, 0))) := h3.chg.row ST2.out NGS.out
 have SH3 : Hid (ShR w3 g1 l2) := by
  obtain ⟨cur, x1, x2⟩ := SH2.out.row
  exact ⟨cur, h3.chg.row x1 NG1.out, x2⟩
 have C3 : Hid (Chg o.has w w3) := (Chg.ofBelow' B2.out).trans h3.chg (fun _ _ e => e)
 have Gq : Hid (∀ k, o3.has k -> o.has k \/ w.heap.size <= k) := fun k e => by
  rcases h3.own k e with e | e
  ·exact Or.inl e
  ·exact Or.inr (ltr B2.out.size e)
 have PT3 : Hid (o3.g = o.g) := h3.g
 have DK3 := hide (LO2.out.log.dk.to h2 h3)
 have OB3 : Hid (∀ k, o3.has k -> w0.heap.size <= k) := fun k e => by
  rcases h3.own k e with e | e
  ·exact P2.out.ob k e
  ·exact ltr P2.out.below.size e
 have BL3 : Hid (Below w0.heap.size w0 w3) := P2.out.below.trans (h3.chg.below _ P2.out.below.size (fun k hk e => by have := P2.out.ob k e; omega))
 have H2 := hide h2
 have H3 := hide h3
 clear PS hdo h1 h2 h3 SH2 HP3
 cases b3 with
 | false =>
  have E : S.why false = 13 := rfl
  rw [E]
  go_wp2_with fail
  go_ret
  refine ⟨false, d3, o3, ns, rfl, NSP.out, NSU.out, ?_⟩
  rw [<- HXS.out]
  refine ⟨?_, DK3.out, PT3.out, OB3.out, BL3.out, ?_, C3.out, Gq.out⟩
  ·unfold S.j4
   exact S.Dk.plan_no PL3.out
  ·show w3.heap[gs]? = some (.cells #[.pointer (some ⟨o3.g, 0, none⟩)] 134 (0, 0))
   rw [PT3.out]
   exact ST3.out
 | true =>
 have E : S.why true = 0 := rfl
 rw [E]
 have fl := S.Dk.plan_flushed (f := fun i => 4101 + i * 8) (xs := xs) (k := ns.length) P2.out.pend (by have := PL3.out; rw [S.Ah] at this; exact this)
 have FL := hide fl
 have LEN3 : Hid (d3.safe.length = d.safe.length) := by show d3.safe.length = d.safe.length; rw [fl.1]; exact S.dZ _ _ _ _
 have LO3 : Hid (Lo w0 w3 o3 d3 g 1 4 p t [] tv) := LO2.out.beside H2.out H3.out fl.2 LEN3.out (fun j h1 h2 => by rw [fl.1]; exact S.fT _ _ _ _ _ (fun i hi => Or.inl (by omega)))
 clear fl LO2 ST2 B2 H2 H3
 go_wp2_with fail
 have SO := Bq g1 c1 l2 w3 SH3.out HQ.out (by rw [LL.out]; exact HL.out)
 rw [<- HNS.out, LL.out, <- NSL.out] at SO
 refine SO.mono ?_
 rintro e w4 ⟨rfl, b4⟩
 clear SO
 have hal := dV w4
 obtain ⟨w5, hst, r5, b5⟩ := lq w4 (S.aL ns) (S.aF ns)
 have B35 := hide (b4.trans (b5.mono b4.size))
 have LO5 := hide (LO3.out.then B35.out)
 have ST5 : Hid (w5.heap[gs]? = some (.cells #[.pointer (some ⟨o.g, 0, none⟩)] 134 (0, 0))) := (B35.out.block gs (aa ST3.out)).trans ST3.out
 have RX5 := hide r5
 have C5 : Hid (Chg o.has w w5) := C3.out.trans (Chg.ofBelow' (p := fun _ => False) B35.out) (fun _ _ e => e.elim)
 have h34 := b4.size
 have hg3 := aa LO3.out.log.lg.row
 have NXG : Hid (¬ (w4.heap.size = g \/ tv.ownBlock = some w4.heap.size) /\ ¬ o3.has w4.heap.size) := ⟨fun e => by
  rcases e with e | e
  ·omega
  ·have := LO3.out.log.lg.text.lt e; omega, fun e => by have := LO3.out.log.dk.dk.lt _ e; omega⟩
 obtain ⟨w4', hw4'⟩ : ∃ w4', w4' = w4.alloc (.cells (S.v8 (S.zeros 64)) 135) := ⟨_, rfl⟩
 rw [<- hw4'] at hal hst
 obtain ⟨gx, hgx⟩ : ∃ gx, gx = w4.heap.size := ⟨_, rfl⟩
 rw [<- hgx] at hal hst RX5 NXG
 obtain ⟨Z, hZ⟩ : ∃ Z, Z = S.v8 (S.aL ns) := ⟨_, rfl⟩
 rw [<- hZ] at hst ⊢
 clear r5 b5 b4 hw4' hgx hZ LO3 SH3 h34 hg3
 go_wp2_with (first | (with_reducible refine au ⟨some 10, .alloc 135, 0, "pages.go:86", #[], none⟩ ?_; refine ah rfl 135 rfl (.pointer (some ⟨gx, 0, none⟩)) w4' hal ?_) | (with_reducible refine au ⟨none, .store 135 (.tmp 10) (.tmp 40), 0, "pages.go:86", #[{ on := 2, ground := Ground.data }, { on := 1, ground := Ground.data }, { on := 1, ground := Ground.chain }, { on := 0, ground := Ground.phase }, { on := 1, ground := Ground.phase }, { on := 2, ground := Ground.phase }], none⟩ ?_; refine ai rfl 135 (.tmp 10) (.tmp 40) rfl (.pointer (some ⟨gx, 0, none⟩)) (.agg Z) rfl rfl w5 hst ?_))
 clear hal hst
 have KP5 : Hid (∀ W, Chg (fun k => k = g \/ tv.ownBlock = some k) w5 W -> SliceAt W (.slice (some ⟨gx, 0, none⟩) 64 64) (S.aL ns)) := fun W hW => set_row (hW.row RX5.out NXG.out.1) (S.aF ns)
 have NE : Hid (S.aL ns ≠ []) := fun e => by have h := S.aF ns; rw [e] at h; simp at h
 have FIT : Hid ((S.aL ns).length <= S.room 4 - (S.enc []).length - 3) := by show (S.aL ns).length <= S.room 4 - (S.enc []).length - 3; rw [S.aF]; decide
 refine (zN o3 d3 g 1 4 p t [] tv (some ⟨gx, 0, none⟩) 64 64 (S.aL ns) w5 LO5.out.log (by omega) KP5.out NE.out FIT.out).mono ?_
 rintro e w6 ⟨b6, d6, o6, tv6, x⟩
 have hgsl := aa ST5.out
 have hgxl := aa RX5.out
 have n1 : ¬ (o3.has gs \/ gs = g \/ tv.ownBlock = some gs) := fun e => by
  have h1 := HGSL.out
  rcases e with e | e | e
  ·rcases Gq.out _ e with e | e
   ·exact NGS.out e
   ·omega
  ·have := GW.out.1; omega
  ·have := GW.out.2 _ e; omega
 have n2 : ¬ (o3.has gx \/ gx = g \/ tv.ownBlock = some gx) := fun e => by
  rcases e with e | e
  ·exact NXG.out.2 e
  ·exact NXG.out.1 e
 have ST6 : Hid (w6.heap[gs]? = some (.cells #[.pointer (some ⟨o.g, 0, none⟩)] 134 (0, 0))) := x.moved.chg.row ST5.out n1
 have RX6 : Hid (w6.heap[gx]? = some (.cells (S.v8 (S.aL ns)) 135 (0, 0))) := x.moved.chg.row RX5.out n2
 have C6 : Hid (Chg o.has w w6) := C5.out.trans x.moved.chg (fun j hj e => by
  rcases e with e | e | e
  ·rcases Gq.out j e with e | e
   ·exact e
   ·omega
  ·have := GW.out.1; omega
  ·have := GW.out.2 j e; omega)
 have OWN6 : Hid (∀ k, o6.has k -> o.has k \/ w.heap.size <= k) := fun k e => by
  rcases x.moved.own k e with e | e
  ·exact Gq.out k e
  ·exact Or.inr (ltr C5.out.size e)
 have PT6 : Hid (o6.g = o.g) := x.moved.ptr.trans PT3.out
 have NS6 : Hid (¬ (o6.has gs \/ gs = g \/ tv6.ownBlock = some gs)) := fun e => by
  rcases e with e | e | e
  ·rcases x.moved.own _ e with e | e
   ·exact n1 (Or.inl e)
   ·omega
  ·exact n1 (Or.inr (Or.inl e))
  ·rcases x.moved.text _ e with e | e
   ·exact n1 (Or.inr (Or.inr e))
   ·omega
 have NX6 : Hid (¬ (o6.has gx \/ gx = g \/ tv6.ownBlock = some gx)) := fun e => by
  rcases e with e | e | e
  ·rcases x.moved.own _ e with e | e
   ·exact n2 (Or.inl e)
   ·omega
  ·exact n2 (Or.inr (Or.inl e))
  ·rcases x.moved.text _ e with e | e
   ·exact n2 (Or.inr (Or.inr e))
   ·omega
 have GW6 : Hid (w.heap.size <= g /\ ∀ k, tv6.ownBlock = some k -> w.heap.size <= k) := ⟨GW.out.1, fun k hk => by
  rcases x.moved.text k hk with e | e
  ·exact GW.out.2 k e
  ·exact ltr C5.out.size e⟩
 have OB6 : Hid (∀ k, o6.has k -> w0.heap.size <= k) := fun k e => by
  rcases x.moved.own k e with e | e
  ·exact OB3.out k e
  ·exact ltr LO5.out.below.size e
 have BL6 : Hid (Below w0.heap.size w0 w6) := LO5.out.below.trans (x.moved.chg.below _ LO5.out.below.size (fun k hk e => by
  rcases e with e | e | e
  ·have := LO5.out.ob k e; omega
  ·have := LO5.out.gb; omega
  ·have := LO5.out.tb k e; omega))
 have DK6 := hide x.dk
 have PL6 : Hid (d3.plan (S.commitActs { d with safe := S.bN d.safe (fun i => 4101 + i * 8) xs ns.length, pend := [] } 1 4 p t [] [S.aL ns]) = (d6, b6)) := by
  show d3.plan (S.commitActs _ 1 4 p t [] [S.aL ns]) = (d6, b6)
  rw [S.kQ (e := d3) (by rw [FL.out.1])]
  exact x.plan
 obtain rfl := x.ret
 cases b6 with
 | false =>
  have E : S.why false = 13 := rfl
  rw [E]
  clear x n1 n2 hgsl hgxl
  go_wp2_with fail
  go_ret
  refine ⟨false, d6, o6, ns, rfl, NSP.out, NSU.out, ?_⟩
  rw [<- HXS.out]
  refine ⟨?_, DK6.out, PT6.out, OB6.out, BL6.out, ?_, C6.out, OWN6.out⟩
  ·unfold S.j4
   rw [S.Dk.plan_yes PL3.out]
   exact S.Dk.plan_no PL6.out
  ·show w6.heap[gs]? = some (.cells #[.pointer (some ⟨o6.g, 0, none⟩)] 134 (0, 0))
   rw [PT6.out]
   exact ST6.out
 | true =>
 have E : S.why true = 0 := rfl
 rw [E]
 have cm := S.qA (b := S.aL ns) LO5.out.log.pend LO5.out.log.good (by omega) (by rw [S.fM]; have := FIT.out; have e := S.aF ns; have e2 : S.room 4 = 240 := rfl; have e3 : (S.enc []).length = 0 := rfl; omega)
 have my := cm.may
 have al := S.Dk.plan_alike x.plan
 rw [show ([] : List (List UInt8)) ++ [S.aL ns] = [S.aL ns] from rfl] at al
 rw [show ([] : List (List UInt8)) ++ [S.aL ns] = [S.aL ns] from rfl] at cm my
 rw [cm.acts] at al
 have hsf : d6.safe = S.after d3.safe 1 4 p t [] [S.aL ns] := al.safe
 have LO6 : Hid (Lo w0 w6 o6 d6 g 1 4 (1 - p) (t + 1) [S.aL ns] tv6) := LO5.out.did x al.pend (by rw [hsf]; exact cm.good)
 have MY : Hid (d6.safe.length = d3.safe.length /\ ∀ j, j < 1 \/ 5 <= j -> d6.safe.getD j [] = d3.safe.getD j []) := by rw [hsf]; exact ⟨my.len, fun j hj => my.stay j hj⟩
 have SF6 : Hid (d6.safe = S.after (S.bN d.safe (fun i => 4101 + i * 8) xs ns.length) 1 4 p t [] [S.aL ns]) := by show d6.safe = _; rw [hsf, FL.out.1]
 have LEN6 : Hid (7680 <= d6.safe.length) := by show 7680 <= d6.safe.length; rw [MY.out.1, LEN3.out]; exact P2.out.len
 have SP6 : Hid (∀ i, i < ns.length -> (xs.getD i []).length = 1024 /\ S.bT d6.safe (4101 + i * 8) = xs.getD i []) := fun i hi => by
  refine ⟨XSL.out i hi, ?_⟩
  have e1 : S.bT d6.safe (4101 + i * 8) = S.bT d3.safe (4101 + i * 8) := S.jO (fun j h1 h2 => MY.out.2 j (Or.inr (by omega)))
  rw [e1, FL.out.1]
  exact S.qh d.safe (fun i => 4101 + i * 8) xs ns.length (fun i hi => by have := P2.out.len; have := LN.out; show 4101 + i * 8 + 8 <= _; omega) XSL.out (fun i j _ _ hij => by show 4101 + i * 8 + 8 <= 4101 + j * 8 \/ 4101 + j * 8 + 8 <= 4101 + i * 8; omega) i hi
 clear x my al cm hsf n1 n2 hgsl hgxl GW LO5 ST5 RX5 C5 Gq PT3 KP5 NE FIT NXG MY LEN3 P2
 have GW := GW6
 clear GW6
 go_upto_region 16 with fail
 refine wp_region_noPanic ?_
 refine wp_region_held_drew (S := (fun W => W.heap[gs]? = some (.cells #[.pointer (some ⟨o.g, 0, none⟩)] 134 (0, 0)) /\ W.heap[gx]? = some (.cells (S.v8 (S.aL ns)) 135 (0, 0)))) follows ⟨ST6.out, RX6.out⟩ (fun hHeld => ?_)
 have LOd := hide (LO6.out.then (Below.refl w6.heap.size w6).drew)
 have C6d : Hid (Chg o.has w w6.drew) := C6.out.drew
 clear LO6 C6 ST6 RX6
 generalize w6.drew = Z1 at LOd C6d hHeld ⊢
 refine tq 0 ?_
 simp only [uA]
 refine tq 1 ?_
 simp only [uA]
 refine tq 2 ?_
 simp only [uA]
 refine tk 3 ?_ rfl (Or.inl ⟨by rfl, ?_⟩) ?_
 rotate_left
 ·intro w hSw
  have c0 := iQ hSw.1
  clear hSw
  go_simp
  all_goals with_reducible rfl
 simp only [uA]
 refine tq 4 ?_
 simp only [uA]
 refine wpAnyH_take (i := 5) (oi := ⟨_, _, _, _, _, _⟩) (v := .agg (S.v8 (S.aL ns))) rfl (by kernel_rfl) (by kernel_rfl) (by kernel_rfl) (fun _ _ _ h => h) (dQ (by kernel_rfl) (.tmp 10) rfl gx rfl (S.aF ns) (fun W hW => hW.2)) (by assumption) ?_
 simp only [uA]
 refine r1 6 fun K hK => ?_
 go_simp
 have BH := uf w0 Z1 o6 d6 g (1 - p) (t + 1) tv6 ns xs LOd.out LEN6.out NSB.out NSU.out NSN.out LN.out SP6.out (by omega)
 rw [show o6.ptr = .pointer (some ⟨o.g, 0, none⟩) by unfold Ow.ptr; rw [PT6.out]] at BH
 refine BH.mono ?_
 rintro e Z2 ⟨b7, d7, o7, rfl, hh⟩
 have a2 : Z2.heap[gs]? = some (.cells #[.pointer (some ⟨o.g, 0, none⟩)] 134 (0, 0)) /\ Z2.heap[gx]? = some (.cells (S.v8 (S.aL ns)) 135 (0, 0)) := ⟨hh.chg.row hHeld.1 NS6.out, hh.chg.row hHeld.2 NX6.out⟩
 have ST7 : Hid (eD Z2 gs o7) := by
  show Z2.heap[gs]? = some (.cells #[.pointer (some ⟨o7.g, 0, none⟩)] 134 (0, 0))
  rw [hh.ptr, PT6.out]
  exact a2.1
 have PA : Hid (PutA w0 w Z2 gs o o7 d d7 b7 p t ns xs) := ⟨by
  unfold S.j4
  rw [S.Dk.plan_yes PL3.out, S.Dk.plan_yes PL6.out, S.tT (e := d6) (by rw [SF6.out])]
  exact hh.plan, hh.dk, hh.ptr.trans PT6.out, hh.ob, hh.below, ST7.out, C6d.out.trans hh.chg (fun j hj e => by rcases e with e | e | e; rcases OWN6.out j e with e | e; exact e; omega; have := GW.out.1; omega; have := GW.out.2 j e; omega), fun k e => by rcases hh.own k e with e | e; exact OWN6.out k e; exact Or.inr (ltr C6d.out.size e)⟩
 clear BH hh hHeld LOd C6d
 generalize hy : S.why b7 = y
 have HY := hide hy
 clear hy
 refine hK.out _ _ a2 (fun hHeld => ?_)
 clear hK K
 try simp only [uA]
 clear a2
 refine tq 7 ?_
 simp only [uA]
 refine wpAnyH_done (by kernel_rfl) ?_ _
 refine NoPanic.normal ?_
 clear hHeld
 go_wp2_with fail
 go_ret
 exact ⟨b7, d7, o7, ns, by rw [HY.out]; rfl, NSP.out, NSU.out, by rw [<- HXS.out]; exact PA.out⟩
namespace S
structure ja (d : Dk) (p t : Nat) (ns : List Nat) (xs s1 s2 s3 s4 : List (List UInt8)) : Prop where
 e1 : s1 = bN d.safe (fun i => 4101 + i * 8) xs ns.length
 e2 : s2 = after s1 1 4 p t [] [aL ns]
 e3 : s3 = bN s2 (bP ns) xs ns.length
 e4 : s4 = after s3 1 4 (1 - p) (t + 1) [aL ns] []
 c1 : Calm { d with safe := s1, pend := [] } 1 4 p t [] [aL ns]
 c2 : Calm { d with safe := s3, pend := [] } 1 4 (1 - p) (t + 1) [aL ns] []
 acts : d.acts (j4 d p t ns xs) = { d with safe := s4, pend := [] }
theorem Eu {d : Dk} {p t : Nat} {ns : List Nat} {xs : List (List UInt8)} (hp : d.pend = []) (g : Good d.safe 1 4 p t []) (ht : t + 2 < 18446744073709551616) : ∃ s1 s2 s3 s4, ja d p t ns xs s1 s2 s3 s4 := by
 have fit : (enc ([] ++ [aL ns])).length <= room 4 := by
  rw [fM, aF]
  decide
 have g1 : Good (bN d.safe (fun i => 4101 + i * 8) xs ns.length) 1 4 p t [] := g.stay (dZ _ _ _ _) (fun j _ h2 => fT _ _ _ _ _ (fun i _ => Or.inl (by omega)))
 have c1 := qA (d := { d with safe := bN d.safe (fun i => 4101 + i * 8) xs ns.length, pend := [] }) (b := aL ns) rfl g1 (by omega) fit
 rw [List.nil_append] at c1
 have g3 : Good (bN (after (bN d.safe (fun i => 4101 + i * 8) xs ns.length) 1 4 p t [] [aL ns]) (bP ns) xs ns.length) 1 4 (1 - p) (t + 1) [aL ns] := c1.good.stay (dZ _ _ _ _) (fun j _ h2 => fT _ _ _ _ _ (fun i _ => Or.inl (by unfold bP; omega)))
 have c2 := sP (d := { d with safe := bN (after (bN d.safe (fun i => 4101 + i * 8) xs ns.length) 1 4 p t [] [aL ns]) (bP ns) xs ns.length, pend := [] }) rfl g3 (by omega)
 refine ⟨_, _, _, _, rfl, rfl, rfl, rfl, c1, c2, ?_⟩
 unfold j4 fH
 rw [Dk.acts_app, Ah, jE d _ xs ns.length hp, Dk.acts_app, c1.acts, Dk.acts_app, jE _ _ xs ns.length rfl, c2.acts]
theorem ja.off {d : Dk} {p t : Nat} {ns : List Nat} {xs s1 s2 s3 s4 : List (List UInt8)} (h : ja d p t ns xs s1 s2 s3 s4) (j : Nat) (hj : j < 1 \/ 5 <= j) : s4.getD j [] = s3.getD j [] /\ s2.getD j [] = s1.getD j [] := by
 have m1 := h.c1.may
 have m2 := h.c2.may
 rw [h.e4, h.e2]
 exact ⟨m2.stay j hj, m1.stay j hj⟩
theorem ja.len {d : Dk} {p t : Nat} {ns : List Nat} {xs s1 s2 s3 s4 : List (List UInt8)} (h : ja d p t ns xs s1 s2 s3 s4) : s1.length = d.safe.length /\ s2.length = d.safe.length /\ s3.length = d.safe.length /\ s4.length = d.safe.length := by
 have m1 := h.c1.may.len
 have m2 := h.c2.may.len
 have a : s1.length = d.safe.length := by rw [h.e1]; exact dZ _ _ _ _
 have b : s2.length = d.safe.length := by rw [h.e2, m1]; exact a
 have c : s3.length = d.safe.length := by rw [h.e3, dZ]; exact b
 exact ⟨a, b, c, by rw [h.e4, m2]; exact c⟩
theorem ja.mark {d : Dk} {p t : Nat} {ns : List Nat} {xs s1 s2 s3 s4 : List (List UInt8)} (h : ja d p t ns xs s1 s2 s3 s4) : s4.getD 0 [] = d.safe.getD 0 [] := by
 rw [(h.off 0 (Or.inl (by omega))).1, h.e3, fT _ _ _ _ _ (fun i _ => Or.inl (by unfold bP; omega)), (h.off 0 (Or.inl (by omega))).2, h.e1, fT _ _ _ _ _ (fun i _ => Or.inl (by omega))]
theorem ja.home {d : Dk} {p t : Nat} {ns : List Nat} {X : Nat -> List UInt8} {s1 s2 s3 s4 : List (List UInt8)} (h : ja d p t ns (ns.map X) s1 s2 s3 s4) (hl : 7680 <= d.safe.length) (hn : ∀ n ∈ ns, n < 512) (hpw : ns.Pairwise (· < ·)) (hx : ∀ n ∈ ns, (X n).length = 1024) (m : Nat) (hm : m < 512) : bT s4 (5 + m * 8) = if m ∈ ns then X m else bT d.safe (5 + m * 8) := by
 have e4 : bT s4 (5 + m * 8) = bT s3 (5 + m * 8) := jO (fun j h1 h2 => (h.off j (Or.inr (by omega))).1)
 have e2 : bT s2 (5 + m * 8) = bT s1 (5 + m * 8) := jO (fun j h1 h2 => (h.off j (Or.inr (by omega))).2)
 have hl2 := h.len.2.1
 rw [e4, h.e3]
 by_cases e : m ∈ ns
 ·rw [if_pos e]
  obtain ⟨i, hi, rfl⟩ := List.mem_iff_getElem.1 e
  have hg : ns.getD i 0 = ns[i] := by rw [List.getD_eq_getElem?_getD, List.getElem?_eq_getElem hi]; rfl
  have := qh s2 (bP ns) (ns.map X) ns.length (fun i hi => by have := getD_lt hn i hi; unfold bP; omega) (fun i hi => by rw [lm X ns i hi]; exact hx _ (by rw [List.getD_eq_getElem?_getD, List.getElem?_eq_getElem hi]; exact List.getElem_mem hi)) (fun i j hi hj hij => apart ns hpw i j hi hj hij) i hi
  rw [lm X ns i hi, bP, hg] at this
  exact this
 ·rw [if_neg e, jZ _ _ _ _ _ (fun i hi => by
   have hne : ns.getD i 0 ≠ m := fun e' => e (by rw [<- e', List.getD_eq_getElem?_getD, List.getElem?_eq_getElem hi]; exact List.getElem_mem hi)
   unfold bP
   omega), e2, h.e1, jZ _ _ _ _ _ (fun i _ => Or.inl (by omega))]
end S
theorem Ap (w0 w : World) (o : Ow) (d : S.Dk) (p t gs b off cap : Nat) (l : List ShV) (pg X : Nat -> List UInt8) (h : Pg w0 w o d p t pg) (hs : eD w gs o) (h0 : ∀ j u, (l.flatMap dm)[j]? = some u -> w.cell? ⟨b, off + j, none⟩ = some u) (hd : l ≠ []) (hl : l.length <= 256) (hp : ∀ x ∈ l, wJ w o X x) (hn : (l.map (·.1)).Nodup) (hgs : ¬ o.has gs) (ht : t + 2 < 18446744073709551616) :
  Calls Tryz.prog 34 #[.pointer (some ⟨gs, 0, none⟩), .slice (some ⟨b, off, none⟩) l.length cap] w fun e w' => e = .returned (.int .i64 0) /\ ∃ o' d', o'.g = o.g /\ Pg w0 w' o' d' p (t + 2) (fun m => if m ∈ S.pgs l then X m else pg m) /\ eD w' gs o' /\ Chg o.has w w' /\ ∀ k, o'.has k -> o.has k \/ w.heap.size <= k := by
 have hpp := h.log.place
 refine (Ex w0 w o d p t gs b off cap l pg X h.n hs h0 hd hl hp hn hgs ht).mono ?_
 rintro e w' ⟨bb, d', o', ns, rfl, hpm, hup, pa⟩
 have pl := S.Dk.plan_goes (S.j4 d p t ns (ns.map X)) d h.left
 rw [pa.plan] at pl
 obtain ⟨hb, hd'⟩ := pl
 simp only at hb hd'
 subst hb
 obtain ⟨s1, s2, s3, s4, pc⟩ := S.Eu (ns := ns) (xs := ns.map X) h.pend h.log ht
 rw [pc.acts] at hd'
 have mem : ∀ m, m ∈ ns ↔ m ∈ S.pgs l := fun m => hpm.mem_iff
 have inl : ∀ n ∈ ns, ∃ x ∈ l, n = x.1.toNat := fun n hn => by
  obtain ⟨x, hx, e⟩ := List.mem_map.1 ((mem n).1 hn)
  exact ⟨x, hx, e.symm⟩
 have hn5 : ∀ n ∈ ns, n < 512 := fun n hn => by
  obtain ⟨x, hx, rfl⟩ := inl n hn
  have := (hp x hx).hi
  have := (hp x hx).lo
  omega
 have hx1 : ∀ n ∈ ns, (X n).length = 1024 := fun n hn => by
  obtain ⟨x, hx, rfl⟩ := inl n hn
  exact (hp x hx).size
 have Ay : d'.safe = s4 := by rw [hd']
 refine ⟨rfl, o', d', pa.ptr, ⟨pa.dk, by rw [hd'], by rw [hd']; exact h.left, by rw [Ay, pc.len.2.2.2]; exact h.len, by rw [Ay, pc.mark]; exact h.mark, ?_, fun m hm => ?_, pa.ob, pa.below, h.pos⟩, pa.st, pa.chg, pa.own⟩
 ·have := pc.c2.good
  rw [<- pc.e4, show 1 - (1 - p) = p by omega] at this
  rw [Ay]
  exact this
 ·rw [Ay, pc.home h.len hn5 hup hx1 m hm]
  by_cases e : m ∈ ns
  ·rw [if_pos e, if_pos ((mem m).1 e)]
  ·rw [if_neg e, if_neg (fun e' => e ((mem m).2 e'))]
   exact h.home m hm
end Go.Proofs.YteealihknndclabGreatDoor
namespace Go.Proofs.YteealihknndclabGreatDoor
namespace S
def ones (x : UInt8) : Nat := (if x.toNat.testBit 0 then 1 else 0) + (if x.toNat.testBit 1 then 1 else 0) + (if x.toNat.testBit 2 then 1 else 0) + (if x.toNat.testBit 3 then 1 else 0) + (if x.toNat.testBit 4 then 1 else 0) + (if x.toNat.testBit 5 then 1 else 0) + (if x.toNat.testBit 6 then 1 else 0) + (if x.toNat.testBit 7 then 1 else 0)
def cnt (s : List UInt8) : Nat := (s.map ones).sum
theorem ones_or : ∀ (r : Fin 8) (x : Fin 256), x.val.testBit r.val = false -> ones (UInt8.ofNat x.val ||| UInt8.ofNat (2 ^ r.val)) = ones (UInt8.ofNat x.val) + 1 := by decide +kernel
theorem sum_set (l : List Nat) (i y : Nat) (h : i < l.length) : (l.set i y).sum + l.getD i 0 = l.sum + y := by
 induction l generalizing i with
 | nil => simp at h
 | cons a l ih =>
  cases i with
  | zero => simp; omega
  | succ i =>
   have := ih i (by simpa using h)
   simp [List.getD_eq_getElem?_getD] at this ⊢
   omega
theorem Df (s : List UInt8) (n : Nat) (hs : s.length = 64) (hn : n < 512) (hb : bit s n = false) : cnt (bF s n) = cnt s + 1 := by
 have hi : n / 8 < (s.map ones).length := by rw [List.length_map]; omega
 have hx : (s.map ones).getD (n / 8) 0 = ones (s.getD (n / 8) 0) := by
  rw [List.getD_eq_getElem?_getD, List.getD_eq_getElem?_getD, List.getElem?_map, List.getElem?_eq_getElem (by omega)]
  rfl
 have h := sum_set (s.map ones) (n / 8) (ones (s.getD (n / 8) 0 ||| UInt8.ofNat (2 ^ (n % 8)))) hi
 rw [qQ, <- Nat.testBit_eq_decide_div_mod_eq] at hb
 have ho := ones_or ⟨n % 8, Nat.mod_lt _ (by omega)⟩ ⟨(s.getD (n / 8) 0).toNat, (s.getD (n / 8) 0).toNat_lt⟩ hb
 simp only [UInt8.ofNat_toNat] at ho
 rw [hx, ho] at h
 unfold cnt bF
 rw [List.map_set, ho]
 omega
theorem De : cnt (zeros 64) = 0 := by decide +kernel
theorem Dg (ns : List Nat) (s : List UInt8) (hs : s.length = 64) (h : ∀ n ∈ ns, n < 512 /\ bit s n = false) (hd : ns.Pairwise (· < ·)) : cnt (ns.foldl bF s) = cnt s + ns.length := by
 induction ns generalizing s with
 | nil => rfl
 | cons n r ih =>
  rw [List.pairwise_cons] at hd
  have hn := h n List.mem_cons_self
  rw [List.foldl_cons, ih (bF s n) (by rw [dF]; exact hs) (fun m hm => ?_) hd.2, Df s n hs hn.1 hn.2, List.length_cons]
  ·omega
  ·have hm' := h m (List.mem_cons_of_mem _ hm)
   refine ⟨hm'.1, ?_⟩
   rw [uW s hs n m hn.1, hm'.2, Bool.false_or]
   have := hd.1 m hm
   exact decide_eq_false (by omega)
theorem Gb (ns : List Nat) (h : ∀ n ∈ ns, n < 512) (hd : ns.Pairwise (· < ·)) : cnt (aL ns) = ns.length := by
 unfold aL
 rw [Dg ns _ (zeros_length _) (fun n hn => ⟨h n hn, mE n⟩) hd, De, Nat.zero_add]
end S
end Go.Proofs.YteealihknndclabGreatDoor
namespace Go.Proofs.YteealihknndclabGreatDoor
open Go.RowKit

theorem iK {w : World} {ops : Array Oper} {rest : List Oper} {o : Oper} {a : Act} {Q : Exit -> Act -> World -> Prop} (hgd : o.guard = none) (t : TypeId) (x y : Operand) (ho : o.op = .index t x y) (vx vy : Value) (hx : a.eval x = vx) (hy : a.eval y = vy) (v : Value)
  (hr : (Instr.index t vx vy).run Tryz.prog w = .ok v w) (h : wpList Tryz.prog ops Q rest (a.put o.dst v) w) : wpList Tryz.prog ops Q (o :: rest) a w := by
 subst hx hy
 exact wpList_plain hgd fun _ hK => by
  unfold Oper.wp execOp
  simp only [ho, Sem.run_bind, hr, Result.andThen_ok]
  exact hK _ _ h
namespace S
theorem vP (x : UInt8) : ones x <= 8 := by
 have h : ∀ b : Bool, (if b = true then 1 else 0) <= 1 := by decide
 unfold ones
 have h0 := h (x.toNat.testBit 0)
 have h1 := h (x.toNat.testBit 1)
 have h2 := h (x.toNat.testBit 2)
 have h3 := h (x.toNat.testBit 3)
 have h4 := h (x.toNat.testBit 4)
 have h5 := h (x.toNat.testBit 5)
 have h6 := h (x.toNat.testBit 6)
 have h7 := h (x.toNat.testBit 7)
 omega
def kg : ByteArray := { data := (([0, 1, 1, 2, 1, 2, 2, 3, 1, 2, 2, 3, 2, 3, 3, 4, 1, 2, 2, 3, 2, 3, 3, 4, 2, 3, 3, 4, 3, 4, 4, 5, 1, 2, 2, 3, 2, 3, 3, 4, 2, 3, 3, 4, 3, 4, 4, 5, 2, 3, 3, 4, 3, 4, 4, 5, 3, 4, 4, 5, 4, 5, 5, 6].append [1, 2, 2, 3, 2, 3, 3, 4, 2, 3, 3, 4, 3, 4, 4, 5, 2, 3, 3, 4, 3, 4, 4, 5, 3, 4, 4, 5, 4, 5, 5, 6, 2, 3, 3, 4, 3, 4, 4, 5, 3, 4, 4, 5, 4, 5, 5, 6, 3, 4, 4, 5, 4, 5, 5, 6, 4, 5, 5, 6, 5, 6, 6, 7]).append ([1, 2, 2, 3, 2, 3, 3, 4, 2, 3, 3, 4, 3, 4, 4, 5, 2, 3, 3, 4, 3, 4, 4, 5, 3, 4, 4, 5, 4, 5, 5, 6, 2, 3, 3, 4, 3, 4, 4, 5, 3, 4, 4, 5, 4, 5, 5, 6, 3, 4, 4, 5, 4, 5, 5, 6, 4, 5, 5, 6, 5, 6, 6, 7].append [2, 3, 3, 4, 3, 4, 4, 5, 3, 4, 4, 5, 4, 5, 5, 6, 3, 4, 4, 5, 4, 5, 5, 6, 4, 5, 5, 6, 5, 6, 6, 7, 3, 4, 4, 5, 4, 5, 5, 6, 4, 5, 5, 6, 5, 6, 6, 7, 4, 5, 5, 6, 5, 6, 6, 7, 5, 6, 6, 7, 6, 7, 7, 8])).toArray }
theorem za : ∀ n : Fin 256, (kg.get! n.val).toNat = ones (UInt8.ofNat n.val) := by decide +kernel
theorem vQ : kg.size = 256 := by decide +kernel
end S
set_option maxRecDepth 10000 in
theorem y9 (x : UInt8) (W : World) : (Instr.index 9 (.string S.kg) (.int .u8 (x.toNat : Int))).run Tryz.prog W = .ok (.int .u8 (S.ones x : Int)) W := by
 rw [run_index_string (P := Tryz.prog) (w := W) 9 S.kg .u8 (x.toNat : Int) Tryz.underlying9]
 have hx := x.toNat_lt
 have hs := S.vQ
 have h0 : 0 <= (x.toNat : Int) /\ (x.toNat : Int) < S.kg.size := ⟨by omega, by omega⟩
 rw [dif_pos h0]
 have h := S.za ⟨x.toNat, hx⟩
 simp only [UInt8.ofNat_toNat] at h
 congr 2
 rw [<- h]
 have hl : x.toNat < S.kg.size := by omega
 simp [ByteArray.get!, getElem!_pos, hl]
 rfl
set_option maxRecDepth 10000 in
theorem EH (x : UInt8) (w : World) : Calls Tryz.prog 186 #[.int .u8 (x.toNat : Int)] w fun e w' => e = .returned (.int .i64 (S.ones x : Int)) /\ w = w' := by
 have hi := y9 x w
 obtain ⟨m, hm⟩ : ∃ m : Nat, m = S.ones x := ⟨_, rfl⟩
 have hb : m <= 8 := by rw [hm]; exact S.vP x
 rw [<- hm] at hi ⊢
 have q1 : IntKind.i64.wrap (m : Int) = (m : Int) := by rw [IntKind.wrap_i64]; omega
 clear hm
 go_enter Tryz.func186, Tryz.ntmps186
 go_wp2_with (with_reducible refine au { dst := some 4, op := Op.index 9 (Operand.const (Value.string { data := (([0, 1, 1, 2, 1, 2, 2, 3, 1, 2, 2, 3, 2, 3, 3, 4, 1, 2, 2, 3, 2, 3, 3, 4, 2, 3, 3, 4, 3, 4, 4, 5, 1, 2, 2, 3, 2, 3, 3, 4, 2, 3, 3, 4, 3, 4, 4, 5, 2, 3, 3, 4, 3, 4, 4, 5, 3, 4, 4, 5, 4, 5, 5, 6].append [1, 2, 2, 3, 2, 3, 3, 4, 2, 3, 3, 4, 3, 4, 4, 5, 2, 3, 3, 4, 3, 4, 4, 5, 3, 4, 4, 5, 4, 5, 5, 6, 2, 3, 3, 4, 3, 4, 4, 5, 3, 4, 4, 5, 4, 5, 5, 6, 3, 4, 4, 5, 4, 5, 5, 6, 4, 5, 5, 6, 5, 6, 6, 7]).append ([1, 2, 2, 3, 2, 3, 3, 4, 2, 3, 3, 4, 3, 4, 4, 5, 2, 3, 3, 4, 3, 4, 4, 5, 3, 4, 4, 5, 4, 5, 5, 6, 2, 3, 3, 4, 3, 4, 4, 5, 3, 4, 4, 5, 4, 5, 5, 6, 3, 4, 4, 5, 4, 5, 5, 6, 4, 5, 5, 6, 5, 6, 6, 7].append [2, 3, 3, 4, 3, 4, 4, 5, 3, 4, 4, 5, 4, 5, 5, 6, 3, 4, 4, 5, 4, 5, 5, 6, 4, 5, 5, 6, 5, 6, 6, 7, 3, 4, 4, 5, 4, 5, 5, 6, 4, 5, 5, 6, 5, 6, 6, 7, 4, 5, 5, 6, 5, 6, 6, 7, 5, 6, 6, 7, 6, 7, 7, 8])).toArray })) (Operand.tmp 3), type := 5, pos := "bits.go:126", after := #[{ on := 0, ground := Ground.data }], guard := none } ?_; refine iK rfl 9 _ (.tmp 3) rfl (.string S.kg) (.int .u8 (x.toNat : Int)) rfl rfl (.int .u8 (m : Int)) hi ?_)
 go_ret
 exact ⟨rfl, rfl⟩
theorem index57 (s : List UInt8) (k : Nat) (W : World) (hs : s.length = 64) (hk : k < 64) : (Instr.index 135 (.agg (S.v8 s)) (.int .i64 (k : Int))).run Tryz.prog W = .ok (.int .u8 ((s.getD k 0).toNat : Int)) W := by
 have h0 : (S.v8 s)[k]? = some (.int .u8 ((s.getD k 0).toNat : Int)) := by
  unfold S.v8
  rw [List.getElem?_toArray, List.getElem?_map, List.getD_eq_getElem?_getD, List.getElem?_eq_getElem (by omega)]
  rfl
 have h1 : (0 : Int) <= (k : Int) /\ (k : Int) < (64 : Nat) := ⟨by omega, by omega⟩
 have ha : (isAgg 5).run Tryz.prog W = .ok false W := by kernel_rfl
 have hp : (part 5 (S.v8 s) k).run Tryz.prog W = .ok (.int .u8 ((s.getD k 0).toNat : Int)) W := by
  unfold part
  simp only [Sem.run_bind, ha, Result.andThen_ok, h0]
  rfl
 rw [List.getD_eq_getElem?_getD] at hp
 simp [Instr.index, asIntOf, run_underlying Tryz.underlying135, hk, hp]
namespace S
theorem Ga (s : List UInt8) (k : Nat) (h : k < s.length) : cnt (s.take (k + 1)) = cnt (s.take k) + ones (s.getD k 0) := by
 unfold cnt
 rw [List.take_add_one, List.map_append, List.sum_append, List.getD_eq_getElem?_getD, List.getElem?_eq_getElem h]
 simp
theorem cnt_le (s : List UInt8) : cnt s <= s.length * 8 := by
 induction s with
 | nil => simp [cnt]
 | cons x s ih =>
  have := vP x
  unfold cnt at ih ⊢
  rw [List.map_cons, List.sum_cons, List.length_cons]
  omega
end S
set_option maxHeartbeats 1000000 in
set_option maxRecDepth 10000 in
theorem Ee (s : List UInt8) (Z : Array Value) (w : World) (hZ : Z = S.v8 s) (hs : s.length = 64) : Calls Tryz.prog 157 #[.agg Z] w fun e w' => e = .returned (.int .i64 (S.cnt s : Int)) /\ Below w.heap.size w w' := by
 obtain ⟨w1, hw1⟩ : ∃ w1, w1 = w.alloc (.cells Z 135) := ⟨_, rfl⟩
 have B1 : Hid (Below w.heap.size w w1) := by rw [hw1]; exact ba ..
 have r1 : w1.heap[w.heap.size]? = some (.cells (S.v8 s) 135 (0, 0)) := by rw [hw1, hZ]; exact heap_alloc_new _ _
 have ld := iM r1 hs
 rw [<- hZ] at ld
 have HZ := hide hZ
 have HS := hide hs
 have HW := hide hw1
 obtain ⟨g1, hg1⟩ : ∃ g1, g1 = w.heap.size := ⟨_, rfl⟩
 rw [<- hg1] at ld
 have HG := hide hg1
 clear r1 hZ hs hw1 hg1
 go_enter Tryz.func157, Tryz.ntmps157
 go_wp2_with (rw [<- HW.out, <- HG.out]; with_reducible refine au ⟨some 6, .load 135 (.tmp 1), 135, "set.go:38", #[], none⟩ ?_; refine ay rfl 135 (.tmp 1) rfl (.pointer (some ⟨g1, 0, none⟩)) rfl (.agg Z) ld ?_)
 clear ld
 go_loopw [3, 7] (fun n i wr => ∃ k : Nat, k <= 64 /\ i = .int .i64 (k : Int) /\ n = .int .i64 (S.cnt (s.take k) : Int) /\ w1 = wr) (fun _ i _ => 64 - (intOf i).toNat)
 case atStart => exact ⟨0, by omega, rfl, rfl, rfl⟩
 case round =>
 obtain ⟨k, hk, rfl, rfl, rfl⟩ := hrel
 by_cases hlt : k < 64
 ·have q1 : (k : Int) < 64 := by omega
  have q2 : IntKind.i64.wrap ((k : Int) + 1) = (k : Int) + 1 := by rw [IntKind.wrap_i64]; omega
  have hi := index57 s k w1 HS.out hlt
  rw [<- HZ.out] at hi
  have CT := hide (S.Ga s k (by rw [HS.out]; exact hlt))
  obtain ⟨x, hx⟩ : ∃ x, x = s.getD k 0 := ⟨_, rfl⟩
  rw [<- hx] at hi CT
  have hb := S.cnt_le (s.take k)
  have hb2 : (s.take k).length <= 64 := by rw [List.length_take]; omega
  obtain ⟨a, ha⟩ : ∃ a, a = S.cnt (s.take k) := ⟨_, rfl⟩
  rw [<- ha] at CT hb ⊢
  have hox := S.vP x
  have q3 : IntKind.i64.wrap ((a : Int) + (S.ones x : Int)) = (a : Int) + (S.ones x : Int) := by rw [IntKind.wrap_i64]; omega
  clear hx ha hb2
  go_wp2_with (with_reducible refine au ⟨some 9, .index 135 (.tmp 6) (.tmp 7), 5, "set.go:38", #[], none⟩ ?_; refine iK rfl 135 (.tmp 6) (.tmp 7) rfl (.agg Z) (.int .i64 (k : Int)) rfl rfl (.int .u8 (x.toNat : Int)) hi ?_)
  clear hi
  refine (EH x w1).mono ?_
  rintro e w2 ⟨rfl, rfl⟩
  go_wp2_with fail
  go_roundw
  case rel => exact ⟨k + 1, by omega, by go_num, by rw [CT.out]; go_num, trivial⟩
  case measure => simp [intOf]; omega
 ·obtain rfl : k = 64 := by omega
  have e : s.take 64 = s := List.take_of_length_le (by rw [HS.out]; exact lr _)
  rw [e]
  have q1 : ¬ ((64 : Int) < 64) := by omega
  go_wp2_with fail
  go_ret
  exact ⟨rfl, B1.out⟩
set_option maxHeartbeats 4000000 in
set_option maxRecDepth 10000 in
theorem Bt (gl off cl gz oz cz : Nat) (z : List UInt8) (w : World) (hc : w.cell? ⟨gl, off, none⟩ = some (.slice (some ⟨gz, oz, none⟩) 64 cz)) (hv : SliceAt w (.slice (some ⟨gz, oz, none⟩) 64 cz) z) (h1 : 0 < S.cnt z) (h2 : S.cnt z <= 256) :
  Calls Tryz.prog 117 #[.slice (some ⟨gl, off, none⟩) 1 cl] w fun e w' => e = .returned (.tuple #[.agg (S.v8 z), .bool true]) /\ Below w.heap.size w w' := by
 have gV := dV w
 obtain ⟨w1, hw1⟩ : ∃ w1, w1 = w.alloc (.cells (S.v8 (S.zeros 64)) 135) := ⟨_, rfl⟩
 have fF := dV w1
 obtain ⟨w2, hw2⟩ : ∃ w2, w2 = w1.alloc (.cells (S.v8 (S.zeros 64)) 135) := ⟨_, rfl⟩
 have b1 : Below w.heap.size w w1 := by rw [hw1]; exact ba ..
 have b2 : Below w1.heap.size w1 w2 := by rw [hw2]; exact ba ..
 have r1 : w1.heap[w.heap.size]? = some (.cells (S.v8 (S.zeros 64)) 135 (0, 0)) := by rw [hw1]; exact heap_alloc_new _ _
 have r2 : w2.heap[w1.heap.size]? = some (.cells (S.v8 (S.zeros 64)) 135 (0, 0)) := by rw [hw2]; exact heap_alloc_new _ _
 have R2 := hide r2
 have R12 : Hid (w2.heap[w.heap.size]? = some (.cells (S.v8 (S.zeros 64)) 135 (0, 0))) := (b2.block _ (aa r1)).trans r1
 have b12 := b1.trans (b2.mono b1.size)
 have B2 := hide b12
 have hgl : gl < w.heap.size := World.block_lt_of_cell? w _ hc
 have C2 : Hid (w2.cell? ⟨gl, off, none⟩ = some (.slice (some ⟨gz, oz, none⟩) 64 cz)) := (b12.cell (p := ⟨gl, off, none⟩) hgl).trans hc
 have V2 := hide (hv.below b12 (lr _))
 have HZL : Hid (z.length = 64) := by obtain ⟨_, _, _, e, e2, _⟩ := hv.form; simp only [Value.slice.injEq] at e; show z.length = 64; omega
 rw [<- hw1] at gV
 rw [<- hw2] at fF
 obtain ⟨g1, hg1⟩ : ∃ g1, g1 = w.heap.size := ⟨_, rfl⟩
 obtain ⟨g2, hg2⟩ : ∃ g2, g2 = w1.heap.size := ⟨_, rfl⟩
 have hs1 := aa r1
 have HG12 : Hid (g1 < g2) := by show g1 < g2; omega
 have HG2 : Hid (w.heap.size <= g2) := by show w.heap.size <= g2; omega
 have HGL : Hid (gl < g2) := by show gl < g2; omega
 have HG1 : Hid (w.heap.size <= g1) := by show w.heap.size <= g1; omega
 rw [<- hg1] at gV R12
 rw [<- hg2] at fF R2
 obtain ⟨n, hn⟩ : ∃ n : Nat, n = S.cnt z := ⟨_, rfl⟩
 have HNN := hide hn
 have q1 : (0 : Int) < (n : Int) := by omega
 have q2 : (n : Int) <= 256 := by omega
 have c2 := C2.out
 clear b1 b2 r1 r2 b12 hw1 hw2 hg1 hg2 hgl hs1 hc hv h1 h2 hn
 go_enter Tryz.func117, Tryz.ntmps117
 go_upto_region 6 with (first | (with_reducible refine au ⟨some 2, .alloc 135, 0, "set.go:23", #[], none⟩ ?_; refine ah rfl 135 rfl (.pointer (some ⟨g1, 0, none⟩)) w1 gV ?_) | (with_reducible refine au ⟨some 4, .alloc 135, 0, "set.go:24", #[], none⟩ ?_; refine ah rfl 135 rfl (.pointer (some ⟨g2, 0, none⟩)) w2 fF ?_))
 clear gV fF c2
 refine wp_region_noPanic ?_
 refine wp_region_held_drew (S := (fun W => W.cell? ⟨gl, off, none⟩ = some (.slice (some ⟨gz, oz, none⟩) 64 cz))) follows C2.out (fun hHeld => ?_)
 have R1d : Hid (w2.drew.heap[g1]? = some (.cells (S.v8 (S.zeros 64)) 135 (0, 0))) := R12.out
 have R2d : Hid (w2.drew.heap[g2]? = some (.cells (S.v8 (S.zeros 64)) 135 (0, 0))) := R2.out
 have V2d := hide (V2.out.below (Below.refl w2.heap.size w2).drew (lr _))
 have B2d : Hid (Below w.heap.size w w2.drew) := B2.out.drew
 have HS2 : Hid (g2 < w2.drew.heap.size) := aa R2d.out
 clear R12 R2 V2 B2 C2
 generalize w2.drew = Z1 at R1d R2d V2d B2d HS2 hHeld ⊢
 refine tq 0 ?_
 simp only [uA]
 refine tq 1 ?_
 simp only [uA]
 refine tq 2 ?_
 simp only [uA]
 refine tk 3 ?_ rfl (Or.inl ⟨by rfl, ?_⟩) ?_
 rotate_left
 ·intro w hSw
  have c0 := hSw
  clear hSw
  go_simp
  all_goals with_reducible rfl
 simp only [uA]
 obtain ⟨ao, ln, cp, hve, hzl, hmx, hsrc⟩ := V2d.out.shape
 simp only [Value.slice.injEq] at hve
 obtain ⟨rfl, rfl, rfl⟩ := hve
 have HS := hide hsrc
 have HN : Hid ((S.v8l z).length = Nat.min 64 64) := by show (S.v8l z).length = Nat.min 64 64; rw [S.ae, HZL.out]; rfl
 have HF : Hid (0 + (S.v8l z).length <= (S.v8l (S.zeros 64)).length) := by show 0 + (S.v8l z).length <= (S.v8l (S.zeros 64)).length; rw [S.ae, S.ae, S.zeros_length, HZL.out]; exact lr _
 clear hzl hmx hsrc V2d
 refine r1 4 fun K hK => ?_
 refine step_copy_splice rfl (.tmp 23) (.tmp 26) 22 22 rfl 5 Tryz.underlying22 kP _ _ _ _ _ _ rfl rfl g2 0 (S.v8l (S.zeros 64)) 135 (by rw [<- S.jL]; exact R2d.out) (S.v8l z) HN.out (eZ _ HS.out (Below.refl _ _)) HF.out (S.df _) g2 Z1 (Below.refl _ _) (lr _) ?_
 intro w4 HG4 hB4
 have R4 := hide (jg HG4)
 have EZ : splice (S.zeros 64) 0 z = z := by unfold splice; simp [S.zeros, HZL.out]
 rw [EZ] at R4
 have R14 : Hid (w4.heap[g1]? = some (.cells (S.v8 (S.zeros 64)) 135 (0, 0))) := (hB4.block g1 HG12.out).trans R1d.out
 have B4 : Hid (Below w.heap.size w w4) := B2d.out.trans (hB4.mono HG2.out)
 have a4 : w4.cell? ⟨gl, off, none⟩ = some (.slice (some ⟨gz, oz, none⟩) 64 cz) := (hB4.cell (p := ⟨gl, off, none⟩) HGL.out).trans hHeld
 clear HG4 hB4 EZ hHeld R1d R2d B2d HS HN HF HS2
 refine hK.out _ _ a4 (fun hHeld => ?_)
 clear hK K
 try simp only [uA]
 clear a4
 refine wpAnyH_done (by kernel_rfl) ?_ _
 refine NoPanic.normal ?_
 clear hHeld
 have ld := iM R4.out HZL.out
 obtain ⟨Z, hZ⟩ : ∃ Z, Z = S.v8 z := ⟨_, rfl⟩
 rw [<- hZ] at ld
 have HZ := hide hZ
 clear hZ
 go_wp2_with (with_reducible refine au ⟨some 28, .load 135 (.tmp 4), 135, "set.go:32", #[], none⟩ ?_; refine ay rfl 135 (.tmp 4) rfl (.pointer (some ⟨g2, 0, none⟩)) rfl (.agg Z) ld ?_)
 clear ld
 refine (Ee z Z w4 HZ.out HZL.out).mono ?_
 rintro e w5 ⟨rfl, b5⟩
 rw [<- HNN.out]
 have R5 : w5.heap[g2]? = some (.cells (S.v8 z) 135 (0, 0)) := (b5.block g2 (aa R4.out)).trans R4.out
 have R15 : w5.heap[g1]? = some (.cells (S.v8 (S.zeros 64)) 135 (0, 0)) := (b5.block g1 (aa R14.out)).trans R14.out
 have b15 := B4.out.trans (b5.mono B4.out.size)
 have ld := iM R5 HZL.out
 rw [<- HZ.out] at ld
 obtain ⟨w6, hst, r6, c6⟩ := jW (ys := z) R15 (S.zeros_length _) HZL.out
 have R6 := hide r6
 have B6 : Hid (Below w.heap.size w w6) := b15.trans (c6.base b15.size HG1.out)
 rw [<- HZ.out] at hst
 clear b5 R5 R15 b15 r6 c6 R4 R14 B4
 go_wp2_with (first | (with_reducible refine au ⟨some 30, .load 135 (.tmp 4), 135, "set.go:33", #[], none⟩ ?_; refine ay rfl 135 (.tmp 4) rfl (.pointer (some ⟨g2, 0, none⟩)) rfl (.agg Z) ld ?_) | (with_reducible refine au ⟨none, .store 135 (.tmp 2) (.tmp 30), 0, "set.go:33", #[{ on := 0, ground := Ground.data }, { on := 3, ground := Ground.chain }, { on := 0, ground := Ground.phase }, { on := 1, ground := Ground.textOnly Departure.lateStores }, { on := 2, ground := Ground.textOnly Departure.lateStores }, { on := 3, ground := Ground.textOnly Departure.lateStores }, { on := 4, ground := Ground.textOnly Departure.lateStores }, { on := 5, ground := Ground.textOnly Departure.lateStores }, { on := 6, ground := Ground.textOnly Departure.lateStores }], none⟩ ?_; refine ai rfl 135 (.tmp 2) (.tmp 30) rfl (.pointer (some ⟨g1, 0, none⟩)) (.agg Z) rfl rfl w6 hst ?_))
 rw [HZ.out]
 refine bodyPost_ret (aW Tryz.results117 _ _ g1 (.agg (S.v8 z)) rfl (jd R6.out HZL.out)) rfl ⟨rfl, B6.out⟩
namespace S
def fK (s : List UInt8) (n : Nat) : List UInt8 := s.set (n / 8) (s.getD (n / 8) 0 &&& ~~~ (UInt8.ofNat (2 ^ (n % 8))))
theorem wO (r : Nat) (h : r < 8) : (2 : Int) ^ r % 256 = (((UInt8.ofNat (2 ^ r)).toNat : Nat) : Int) := by
 match r, h with
 | 0, _ => rfl
 | 1, _ => rfl
 | 2, _ => rfl
 | 3, _ => rfl
 | 4, _ => rfl
 | 5, _ => rfl
 | 6, _ => rfl
 | 7, _ => rfl
theorem ED (r : Nat) (x : UInt8) (h : r < 8) : bits BinOp.or IntKind.u8 (x.toNat : Int) ((2 : Int) ^ r % 256) = ((x ||| UInt8.ofNat (2 ^ r)).toNat : Int) := by
 rw [wO r h, u8_or_nat _ _ (UInt8.toNat_lt x) (UInt8.toNat_lt _), UInt8.toNat_or]
theorem Fe : ∀ (r : Fin 8) (x : Fin 256), bits BinOp.andNot IntKind.u8 (((UInt8.ofNat x.val).toNat : Nat) : Int) ((((UInt8.ofNat (2 ^ r.val)).toNat : Nat)) : Int) = (((UInt8.ofNat x.val) &&& ~~~ (UInt8.ofNat (2 ^ r.val))).toNat : Int) := by decide +kernel
theorem zk (r : Nat) (x : UInt8) (h : r < 8) : bits BinOp.andNot IntKind.u8 (x.toNat : Int) ((2 : Int) ^ r % 256) = ((x &&& ~~~ UInt8.ofNat (2 ^ r)).toNat : Int) := by
 have := Fe ⟨r, h⟩ ⟨x.toNat, UInt8.toNat_lt x⟩
 simp only [UInt8.ofNat_toNat] at this
 rw [wO r h]
 exact this
theorem xor_all : ∀ n : Fin 256, bits BinOp.xor IntKind.u8 IntKind.u8.max (((UInt8.ofNat n.val).toNat : Nat) : Int) = ((~~~ (UInt8.ofNat n.val)).toNat : Int) := by decide +kernel
theorem xor_max (x : UInt8) : bits BinOp.xor IntKind.u8 IntKind.u8.max (x.toNat : Int) = ((~~~ x).toNat : Int) := by
 have := xor_all ⟨x.toNat, UInt8.toNat_lt x⟩
 simp only [UInt8.ofNat_toNat] at this
 exact this
def pW : ByteArray := { data := (([8, 0, 1, 0, 2, 0, 1, 0, 3, 0, 1, 0, 2, 0, 1, 0, 4, 0, 1, 0, 2, 0, 1, 0, 3, 0, 1, 0, 2, 0, 1, 0, 5, 0, 1, 0, 2, 0, 1, 0, 3, 0, 1, 0, 2, 0, 1, 0, 4, 0, 1, 0, 2, 0, 1, 0, 3, 0, 1, 0, 2, 0, 1, 0].append [6, 0, 1, 0, 2, 0, 1, 0, 3, 0, 1, 0, 2, 0, 1, 0, 4, 0, 1, 0, 2, 0, 1, 0, 3, 0, 1, 0, 2, 0, 1, 0, 5, 0, 1, 0, 2, 0, 1, 0, 3, 0, 1, 0, 2, 0, 1, 0, 4, 0, 1, 0, 2, 0, 1, 0, 3, 0, 1, 0, 2, 0, 1, 0]).append ([7, 0, 1, 0, 2, 0, 1, 0, 3, 0, 1, 0, 2, 0, 1, 0, 4, 0, 1, 0, 2, 0, 1, 0, 3, 0, 1, 0, 2, 0, 1, 0, 5, 0, 1, 0, 2, 0, 1, 0, 3, 0, 1, 0, 2, 0, 1, 0, 4, 0, 1, 0, 2, 0, 1, 0, 3, 0, 1, 0, 2, 0, 1, 0].append [6, 0, 1, 0, 2, 0, 1, 0, 3, 0, 1, 0, 2, 0, 1, 0, 4, 0, 1, 0, 2, 0, 1, 0, 3, 0, 1, 0, 2, 0, 1, 0, 5, 0, 1, 0, 2, 0, 1, 0, 3, 0, 1, 0, 2, 0, 1, 0, 4, 0, 1, 0, 2, 0, 1, 0, 3, 0, 1, 0, 2, 0, 1, 0])).toArray }
def tz (x : UInt8) : Nat := (pW.get! x.toNat).toNat
theorem yH : pW.size = 256 := by decide +kernel
theorem tz_le' : ∀ n : Fin 256, (pW.get! n.val).toNat <= 8 := by decide +kernel
theorem tz_le (x : UInt8) : tz x <= 8 := tz_le' ⟨x.toNat, UInt8.toNat_lt x⟩
def lC (s : List UInt8) (i : Nat) : Nat -> Option Nat
 | 0 => none
 | n + 1 => if s.getD i 0 = 255 then lC s (i + 1) n else some (8 * i + tz (~~~ (s.getD i 0)))
def sI (s : List UInt8) : Option Nat := lC s 0 64
end S
set_option maxRecDepth 10000 in
theorem DN (x : UInt8) (W : World) : (Instr.index 9 (.string S.pW) (.int .u8 (x.toNat : Int))).run Tryz.prog W = .ok (.int .u8 (S.tz x : Int)) W := by
 rw [run_index_string (P := Tryz.prog) (w := W) 9 S.pW .u8 (x.toNat : Int) Tryz.underlying9]
 have hx := x.toNat_lt
 have hs := S.yH
 have h0 : 0 <= (x.toNat : Int) /\ (x.toNat : Int) < S.pW.size := ⟨by omega, by omega⟩
 rw [dif_pos h0]
 unfold S.tz
 congr 2
 have hl : x.toNat < S.pW.size := by omega
 simp [ByteArray.get!, getElem!_pos, hl]
 rfl
set_option maxRecDepth 10000 in
theorem tz_any (x : UInt8) (w : World) : Calls Tryz.prog 135 #[.int .u8 (x.toNat : Int)] w fun e w' => e = .returned (.int .i64 (S.tz x : Int)) /\ w = w' := by
 have hi := DN x w
 obtain ⟨m, hm⟩ : ∃ m : Nat, m = S.tz x := ⟨_, rfl⟩
 have hb : m <= 8 := by rw [hm]; exact S.tz_le x
 rw [<- hm] at hi ⊢
 have q1 : IntKind.i64.wrap (m : Int) = (m : Int) := by rw [IntKind.wrap_i64]; omega
 clear hm
 go_enter Tryz.func135, Tryz.ntmps135
 go_wp2_with (with_reducible refine au { dst := some 4, op := Op.index 9 (Operand.const (Value.string { data := (([8, 0, 1, 0, 2, 0, 1, 0, 3, 0, 1, 0, 2, 0, 1, 0, 4, 0, 1, 0, 2, 0, 1, 0, 3, 0, 1, 0, 2, 0, 1, 0, 5, 0, 1, 0, 2, 0, 1, 0, 3, 0, 1, 0, 2, 0, 1, 0, 4, 0, 1, 0, 2, 0, 1, 0, 3, 0, 1, 0, 2, 0, 1, 0].append [6, 0, 1, 0, 2, 0, 1, 0, 3, 0, 1, 0, 2, 0, 1, 0, 4, 0, 1, 0, 2, 0, 1, 0, 3, 0, 1, 0, 2, 0, 1, 0, 5, 0, 1, 0, 2, 0, 1, 0, 3, 0, 1, 0, 2, 0, 1, 0, 4, 0, 1, 0, 2, 0, 1, 0, 3, 0, 1, 0, 2, 0, 1, 0]).append ([7, 0, 1, 0, 2, 0, 1, 0, 3, 0, 1, 0, 2, 0, 1, 0, 4, 0, 1, 0, 2, 0, 1, 0, 3, 0, 1, 0, 2, 0, 1, 0, 5, 0, 1, 0, 2, 0, 1, 0, 3, 0, 1, 0, 2, 0, 1, 0, 4, 0, 1, 0, 2, 0, 1, 0, 3, 0, 1, 0, 2, 0, 1, 0].append [6, 0, 1, 0, 2, 0, 1, 0, 3, 0, 1, 0, 2, 0, 1, 0, 4, 0, 1, 0, 2, 0, 1, 0, 3, 0, 1, 0, 2, 0, 1, 0, 5, 0, 1, 0, 2, 0, 1, 0, 3, 0, 1, 0, 2, 0, 1, 0, 4, 0, 1, 0, 2, 0, 1, 0, 3, 0, 1, 0, 2, 0, 1, 0])).toArray })) (Operand.tmp 3), type := 5, pos := "bits.go:68", after := #[{ on := 0, ground := Ground.data }], guard := none } ?_; refine iK rfl 9 _ (.tmp 3) rfl (.string S.pW) (.int .u8 (x.toNat : Int)) rfl rfl (.int .u8 (m : Int)) hi ?_)
 go_ret
 exact ⟨rfl, rfl⟩

set_option maxHeartbeats 1000000 in
set_option maxRecDepth 10000 in
theorem wI (g off n : Nat) (x : UInt8) (w : World) (hc : w.cell? ⟨g, off + n / 8, none⟩ = some (.int .u8 (x.toNat : Int))) (hf : w.frozen? ⟨g, off + n / 8, none⟩ = false) (hn : n < 512) :
  Calls Tryz.prog 72 #[.pointer (some ⟨g, off, none⟩), .int .i64 (n : Int)] w fun e w' => e = .returned (.tuple #[]) /\ ∃ q, w' = (w.setCell ⟨g, off + n / 8, none⟩ (.int .u8 ((x ||| UInt8.ofNat (2 ^ (n % 8))).toNat : Int))).drewN q := by
 obtain ⟨q, hq⟩ : ∃ q : Nat, q = n / 8 := ⟨_, rfl⟩
 obtain ⟨r, hr⟩ : ∃ r : Nat, r = n % 8 := ⟨_, rfl⟩
 rw [<- hq] at hc hf ⊢
 rw [<- hr]
 have hr8 : r < 8 := by omega
 have hq64 : q < 64 := by omega
 have q1 : (n : Int) / 8 = (q : Int) := by omega
 have q2 : (n : Int) % 8 = (r : Int) := by omega
 have q3 : (0 : Int) <= (q : Int) := by omega
 have q4 : (q : Int) < 64 := by omega
 have q5 : (0 : Int) <= (r : Int) := by omega
 have q6 : (r : Int) < 8 := by omega
 have q7 : (0 : Int) <= (n : Int) := by omega
 have q8 : IntKind.i64.wrap (q : Int) = (q : Int) := by rw [IntKind.wrap_i64]; omega
 have q9 : IntKind.i64.wrap (r : Int) = (r : Int) := by rw [IntKind.wrap_i64]; omega
 have q10 : (n : Int).tmod 8 = (r : Int) := by rw [Int.tmod_eq_emod_of_nonneg q7]; exact q2
 have Q11 := hide (S.ED r x hr8)
 clear hq hr hn
 go_enter Tryz.func72, Tryz.ntmps72
 go_region
 rw [Q11.out]
 go_end0
 exact ⟨rfl, 1, rfl⟩

set_option maxHeartbeats 1000000 in
set_option maxRecDepth 10000 in
theorem F7 (g off n : Nat) (x : UInt8) (w : World) (hc : w.cell? ⟨g, off + n / 8, none⟩ = some (.int .u8 (x.toNat : Int))) (hf : w.frozen? ⟨g, off + n / 8, none⟩ = false) (hn : n < 512) :
  Calls Tryz.prog 161 #[.pointer (some ⟨g, off, none⟩), .int .i64 (n : Int)] w fun e w' => e = .returned (.tuple #[]) /\ ∃ q, w' = (w.setCell ⟨g, off + n / 8, none⟩ (.int .u8 ((x &&& ~~~ UInt8.ofNat (2 ^ (n % 8))).toNat : Int))).drewN q := by
 obtain ⟨q, hq⟩ : ∃ q : Nat, q = n / 8 := ⟨_, rfl⟩
 obtain ⟨r, hr⟩ : ∃ r : Nat, r = n % 8 := ⟨_, rfl⟩
 rw [<- hq] at hc hf ⊢
 rw [<- hr]
 have hr8 : r < 8 := by omega
 have hq64 : q < 64 := by omega
 have q1 : (n : Int) / 8 = (q : Int) := by omega
 have q2 : (n : Int) % 8 = (r : Int) := by omega
 have q3 : (0 : Int) <= (q : Int) := by omega
 have q4 : (q : Int) < 64 := by omega
 have q5 : (0 : Int) <= (r : Int) := by omega
 have q6 : (r : Int) < 8 := by omega
 have q7 : (0 : Int) <= (n : Int) := by omega
 have q8 : IntKind.i64.wrap (q : Int) = (q : Int) := by rw [IntKind.wrap_i64]; omega
 have q9 : IntKind.i64.wrap (r : Int) = (r : Int) := by rw [IntKind.wrap_i64]; omega
 have q10 : (n : Int).tmod 8 = (r : Int) := by rw [Int.tmod_eq_emod_of_nonneg q7]; exact q2
 have Q11 := hide (S.zk r x hr8)
 clear hq hr hn
 go_enter Tryz.func161, Tryz.ntmps161
 go_region
 rw [Q11.out]
 go_end0
 exact ⟨rfl, 1, rfl⟩

set_option maxHeartbeats 1000000 in
set_option maxRecDepth 10000 in
theorem yc (g off : Nat) (s : List UInt8) (w : World) (hc : ∀ j, j < 64 -> w.cell? ⟨g, off + j, none⟩ = some (.int .u8 ((s.getD j 0).toNat : Int))) :
  Calls Tryz.prog 88 #[.pointer (some ⟨g, off, none⟩)] w fun e w' => e = .returned (.tuple #[.int .i64 (((S.sI s).getD 0 : Nat) : Int), .bool (S.sI s).isSome]) /\ ∃ q, w' = w.drewN q := by
 have HC := hide hc
 obtain ⟨fo, hfo⟩ : ∃ fo, fo = S.sI s := ⟨_, rfl⟩
 rw [<- hfo]
 have HFO := hide hfo
 clear hc hfo
 go_enter Tryz.func88, Tryz.ntmps88
 go_wp2_with fail
 go_loopw [7] (fun i wr => ∃ k : Nat, k <= 64 /\ i = .int .i64 (k : Int) /\ Hid (∃ q, wr = w.drewN q) /\ Hid (fo = S.lC s k (64 - k))) (fun i _ => 64 - (intOf i).toNat)
 case atStart => exact ⟨0, by omega, rfl, ⟨0, rfl⟩, HFO.out⟩
 case round =>
 obtain ⟨k, hk, rfl, hw, hF⟩ := hrel
 by_cases hlt : k < 64
 ·have c0 : wr.cell? ⟨g, off + k, none⟩ = some (.int .u8 ((s.getD k 0).toNat : Int)) := by
   obtain ⟨q, hwq⟩ := hw.out
   rw [hwq]
   exact HC.out k hlt
  have HW : Hid (∃ q, wr.drew = w.drewN q) := by
   obtain ⟨q, hwq⟩ := hw.out
   exact ⟨q + 1, by rw [hwq]; rfl⟩
  obtain ⟨x, hx⟩ : ∃ x, x = s.getD k 0 := ⟨_, rfl⟩
  rw [<- hx] at c0
  have hkI : (k : Int) < 64 := by omega
  have hk0 : (0 : Int) <= (k : Int) := by omega
  have hF2 := hF.out
  rw [show 64 - k = (63 - k) + 1 by omega] at hF2
  unfold S.lC at hF2
  rw [<- hx] at hF2
  have HX := hide hx
  clear hF hx hw
  by_cases h255 : x = 255
  ·subst h255
   rw [if_pos rfl] at hF2
   have HF := hide hF2
   clear hF2
   go_wp2_with fail
   go_region
   go_wp2_with fail
   go_roundw
   case rel => exact ⟨k + 1, by omega, by go_num, HW, by show fo = S.lC s (k + 1) (64 - (k + 1)); rw [show 64 - (k + 1) = 63 - k by omega]; exact HF.out⟩
   case measure => simp [intOf]; omega
  ·rw [if_neg h255] at hF2
   have HF := hide hF2
   have hx5 : ¬ (x.toNat : Int) = 255 := fun e => h255 (UInt8.toNat_inj.1 (by show x.toNat = 255; omega))
   have hx6 : ((x.toNat : Int) == 255) = false := beq_false_of_ne hx5
   clear hF2
   go_wp2_with fail
   go_region
   go_wp2_with fail
   rw [S.xor_max x]
   refine (tz_any (~~~ x) wr.drew).mono ?_
   rintro e w1 ⟨rfl, rfl⟩
   have htz := S.tz_le (~~~ x)
   generalize S.tz (~~~ x) = m at HF htz ⊢
   go_wp2_with fail
   go_ret2
   exact ⟨by rw [HF.out]; simp, HW.out⟩
 ·obtain rfl : k = 64 := by omega
  have HF : Hid (fo = none) := hF.out
  have q1 : ¬ ((64 : Int) < 64) := by omega
  go_wp2_with fail
  go_ret2
  exact ⟨by rw [HF.out]; rfl, hw.out⟩
end Go.Proofs.YteealihknndclabGreatDoor
namespace Go.Proofs.YteealihknndclabGreatDoor
namespace S
def recs (ns : List Nat) : List (List UInt8) := if ns = [] then [] else [aL ns]
theorem recs_ne {ns : List Nat} (h : ns ≠ []) : recs ns = [aL ns] := if_neg h
structure Pgs (ss : List (List UInt8)) (p t : Nat) (ns : List Nat) (pg : Nat -> List UInt8) : Prop where
 len : 7680 <= ss.length
 mark : ss.getD 0 [] = fC
 log : Good ss 1 4 p t (recs ns)
 spare : ∀ i, i < ns.length -> bT ss (4101 + i * 8) = pg (ns.getD i 0)
 home : ∀ m, m < 512 -> m ∉ ns -> bT ss (5 + m * 8) = pg m
 nb : ∀ n ∈ ns, n < 512
 up : ns.Pairwise (· < ·)
 le : ns.length <= 256
 size : ∀ n, n < 512 -> (pg n).length = 1024
end S
end Go.Proofs.YteealihknndclabGreatDoor
