/- A tree of one leaf beside memory that changes; a book of bytes behind it. -/
import Derived.Test.YteealihknndclaaGreatDoorEd
import Derived.Test.YteealihknndclaaGreatDoorEi
import Derived.Test.YteealihknndclaaGreatDoorWkp
namespace Go.Proofs.YteealihknndclaaGreatDoor
open Go.RowKit Go.Shelf
theorem BtO.chgd {q : Nat -> Prop} {w0 w W : World} {o : Ow} {gt gs n : Nat} {es : List S.Ent} (h : BtO w0 w o gt gs n es) (hc : Chg q w W) (hq : ∀ k, (o.has k \/ k < w0.heap.size) -> ¬ q k) (hgt : ¬ q gt) (hgs : ¬ q gs) : BtO w0 W o gt gs n es := by
 obtain ⟨d, p, t, pg, h1, h2, h3, h4, h5, h6⟩ := h
 exact ⟨d, p, t, pg, ⟨h1.pgs.chgd hc hq, h1.size, h1.leaf⟩, hc.row h2 hgt, hc.row h3 hgs, h4, h5, h6⟩
theorem BtO.lt {w0 w : World} {o : Ow} {gt gs n : Nat} {es : List S.Ent} (h : BtO w0 w o gt gs n es) : gt < w.heap.size /\ gs < w.heap.size /\ (∀ k, o.has k -> k < w.heap.size) := by
 obtain ⟨d, p, t, pg, h1, h2, h3, _⟩ := h
 exact ⟨aa h2, aa h3, fun k hk => h1.pgs.dk.dk.lt k hk⟩
theorem BtO.k {w0 w : World} {o : Ow} {gt gs n : Nat} {es : List S.Ent} (h : BtO w0 w o gt gs n es) : KAt w := by
 obtain ⟨d, p, t, pg, h1, _⟩ := h
 exact h1.pgs.dk.k
theorem srt_one (c : S.Cg) : S.srt [c] = [c] := by
 unfold S.srt
 simp [«Sort».insertionSort, «Sort».insOuter]
theorem EB (k v : List UInt8) : S.mrg [] (S.lasts [⟨k, v, false⟩]) = [⟨k, v, 0⟩] := by
 simp [S.lasts, srt_one, ja, iG, S.mrg, S.rank]
theorem one_ok (k v : List UInt8) (hk0 : k ≠ []) (hk : k.length <= 40) (hv : v.length <= 400) : S.bS 0 (S.mrg [] (S.lasts [⟨k, v, false⟩])) := by
 rw [EB]
 refine ⟨fun x hx => ?_, List.pairwise_singleton _ _, by omega, ?_, fun _ x hx => ?_, fun h => absurd rfl h⟩
 ·obtain rfl := List.mem_singleton.1 hx
  exact ⟨hk, hv, by show 0 < 65536; decide, rfl⟩
 ·simp [S.gJ, S.esz]; omega
 ·obtain rfl := List.mem_singleton.1 hx
  exact hk0
theorem aO.above {w W : World} {gB base top : Nat} {vl vw : Value} {es : List Entry} (h : aO w gB base top vl vw es) (hs : w.heap.size <= W.heap.size) (hb : ∀ k c t f, base <= k -> w.heap[k]? = some (.cells c t f) -> W.heap[k]? = w.heap[k]?) : aO W gB base top vl vw es := by
 have ht := h.top_le
 have hl : ∀ {v : Value} {vs : List Value}, Lists w v vs -> (∀ k, v.ownBlock = some k -> base <= k) -> Lists W v vs := fun {v vs} hL hB => hL.kept fun k hk => by
  rcases hL with ⟨rfl, _⟩ | ⟨g, off, c, cur, rfl, h1, _⟩
  ·simp [Value.ownBlock] at hk
  ·simp [Value.ownBlock] at hk
   subst hk
   exact hb _ _ _ _ (hB _ rfl) h1
 have hu : ∀ {v : Value} {bs : List UInt8}, bu w v bs -> (∀ k, v.ownBlock = some k -> base <= k) -> bu W v bs := fun {v bs} hU hB => hU.kept fun k hk => by
  rcases hU.2 with ⟨rfl, _⟩ | ⟨g, c, cur, rfl, _, h1, _⟩
  ·simp [Value.ownBlock] at hk
  ·simp [Value.ownBlock] at hk
   subst hk
   exact hb _ _ _ _ (hB _ rfl) h1
 exact ⟨(hb gB _ _ _ h.lo h.row).trans h.row, h.lo, h.hi, ltr ht hs, hl h.lists (fun k hk => (h.vlSep k hk).1), hl h.was (fun k hk => (h.vwSep k hk).1), h.vlSep, h.vwSep,
  fun e he => by
   have q := h.ents e he
   exact ⟨⟨fun b c => by obtain ⟨cur, q1, q2⟩ := q.ed.1 b c; exact ⟨cur, (hb b _ _ _ (q.at_ b c).1 q1).trans q1, q2⟩, q.ed.2⟩, q.at_, hu q.cp q.cpLo, q.cpAt, q.cpLo, q.capl, q.bsl⟩, h.nodup, h.few⟩
theorem aO.below {w W : World} {gB base top : Nat} {vl vw : Value} {es : List Entry} (h : aO w gB base top vl vw es) (hb : Below w.heap.size w W) : aO W gB base top vl vw es := h.above hb.size fun k _ _ _ _ hk => hb.block k (aa hk)
theorem aO.put {w : World} {gB base top : Nat} {vl vw : Value} {es : List Entry} {l : Nat} {o o' : Obj} (h : aO w gB base top vl vw es) (hl : w.heap[l]? = some o) (hn : o.isCells = false) : aO (w.putObj l o') gB base top vl vw es :=
 h.above (by rw [World.putObj_size]; exact lr _) fun k c t f _ hk => (gL hk hl hn).trans hk.symm
theorem zL {w : World} {gB : Nat} (h : w.heap[gB]? = some (.cells #[.slice none 0 0, .slice none 0 0, .int .i64 0, .bool false] 55 (0, 0))) : aO w gB gB (gB + 1) (.slice none 0 0) (.slice none 0 0) [] :=
 ⟨h, lr _, Nat.lt_succ_self _, aa h, Or.inl ⟨rfl, rfl⟩, Or.inl ⟨rfl, rfl⟩, fun k hk => by simp [Value.ownBlock] at hk, fun k hk => by simp [Value.ownBlock] at hk, fun e he => by simp at he, by simp, by simp⟩
def Got (w : World) (lo : Nat) (u : Value) (bs : List UInt8) : Prop := (u = .slice none 0 0 /\ bs = []) \/ ∃ q, u = .slice (some ⟨q, 0, none⟩) bs.length bs.length /\ lo <= q /\ w.heap[q]? = some (.cells (S.v8 bs) 5 (0, 0))
theorem Got.sliceAt {w : World} {lo : Nat} {u : Value} {bs : List UInt8} (h : Got w lo u bs) (hl : bs.length <= 100000) : SliceAt w u bs := by
 rcases h with ⟨rfl, rfl⟩ | ⟨q, rfl, _, h3⟩
 ·exact Or.inl ⟨rfl, rfl⟩
 ·exact ay h3 rfl (by omega)
theorem nK (H : Nat -> Prop) (gB base top lo : Nat) (vl vw u : Value) (bs : List UInt8) (es : List Entry) (w : World) (hbk : aO w gB base top vl vw es) (hu : Got w lo u bs) (hlo : base <= lo) (hl : bs.length <= 100000) (vN : es.length < 100) (hH : jf H vl vw es) (hHn : ∀ k, w.heap.size <= k -> ¬ H k)
  (hno : ∀ q, u.ownBlock = some q -> ¬ H q /\ q ≠ gB /\ vl.ownBlock ≠ some q /\ vw.ownBlock ≠ some q /\ ∀ e ∈ es, e.g ≠ some q) :
  Calls Tryz.prog 24 #[.pointer (some ⟨gB, 0, none⟩), u] w fun e w' => e = .returned (.tuple #[]) /\ ∃ vl' vw' es', aO w' gB base w'.heap.size vl' vw' es' /\ es'.length <= es.length + 1 /\ jf H vl' vw' es' /\ lL gB vl vw w vl' vw' w' := by
 rcases hu with ⟨rfl, rfl⟩ | ⟨q, rfl, h2, h3⟩
 ·exact xD H gB base top 0 none none vl vw [] es w hbk ⟨fun b e => (by cases e), fun _ => ⟨rfl, rfl⟩⟩ rfl (fun b e => (by cases e)) (fun b e => (by cases e)) (by omega) (by simp) vN hH hHn (fun b e => (by cases e))
 ·have hq := hno q rfl
  exact xD H gB base top bs.length (some q) _ vl vw bs es w hbk ⟨fun b e => (by cases e; exact ⟨_, h3, by simp [S.v8], lr _, by show List.take bs.length (S.v8l bs) = S.v8l bs; exact List.take_of_length_le (by rw [S.ae]; exact lr _)⟩), fun e => (by cases e)⟩ rfl (fun b e => (by cases e; exact hq.2)) (fun b e => (by cases e; omega)) (by omega) (by omega) vN hH hHn (fun b e => (by cases e; exact hq.1))
end Go.Proofs.YteealihknndclaaGreatDoor
namespace Go.Proofs.YteealihknndclaaGreatDoor
open Go.RowKit Go.Shelf
attribute [local go_sem] Oper.semAt_some
def Aft (gB gw m : Nat) (W : World) : Prop := ∃ top vl vw es, aO W gB gB top vl vw es /\ es.length <= m /\ jf (fun k => k = gw) vl vw es
theorem Aft.below {gB gw m : Nat} {w W : World} (h : Aft gB gw m w) (hb : Below w.heap.size w W) : Aft gB gw m W := by
 obtain ⟨top, vl, vw, es, h1, h2, h3⟩ := h
 exact ⟨top, vl, vw, es, h1.below hb, h2, h3⟩
theorem Aft.put {gB gw m : Nat} {w : World} {l : Nat} {o o' : Obj} (h : Aft gB gw m w) (hl : w.heap[l]? = some o) (hn : o.isCells = false) : Aft gB gw m (w.putObj l o') := by
 obtain ⟨top, vl, vw, es, h1, h2, h3⟩ := h
 exact ⟨top, vl, vw, es, h1.put hl hn, h2, h3⟩
set_option maxHeartbeats 16000000 in
set_option maxRecDepth 100000 in
theorem qO (u0 u1 u2 u3 u4 u5 u6 u7 u8 u9 u10 u12 u13 u14 u15 u16 u17 u18 u19 u20 u21 u22 u23 u24 u25 u26 u27 u28 u29 u30 u31 u32 u33 u34 u35 u36 u37 u38 u39 u40 u41 u42 u43 u44 u45 u46 u47 u48 u49 u50 u51 u52 u53 u54 u55 u56 u57 u58 u59 u60 u61 u62 u63 u64 u65 u66 u67 u68 u69 u70 u71 u72 u73 u74 u75 u76 u77 u78 u79 u80 u81 u82 u83 u84 u85 u86 u87 u88 u90 u91 u92 u93 u94 u95 u96 u97 u98 u99 u100 u101 u102 u103 u104 u105 u106 u107 u108 u109 u110 u111 u112 u113 u114 u115 u116 : Value) (ds : List Deferred) (B gs gt g3 g4 g5 gB gw top : Nat) (pg : Nat -> List UInt8) (key val : List UInt8) (vl vw : Value) (es : List Entry) (W : World) (Q : Exit -> Act -> World -> Prop)
  (hR : Rds B W gs pg) (hL : S.nU pg [⟨key, val, 0⟩]) (hT : kL W gt gs) (h3 : W.heap[g3]? = some (.cells #[.pointer (some ⟨gt, 0, none⟩)] 23 (0, 0))) (h4 : W.heap[g4]? = some (.cells #[.slice none 0 0] 32 (0, 0))) (h5 : W.heap[g5]? = some (.cells #[.slice none 0 0] 32 (0, 0)))
  (hbk : aO W gB gB top vl vw es) (ht5 : top <= g5) (vN : es.length <= 90) (hno : jf (fun k => k = gw) vl vw es) (hgw : gw < W.heap.size) (hkl : key.length <= 1000) (hvl : val.length <= 1000)
  (hdone : ∀ D W', W.heap.size <= D -> W'.heap[D]? = some (.deferred (some [])) -> Chg (fun k => k = gB \/ vl.ownBlock = some k \/ vw.ownBlock = some k) W W' -> Aft gB gw (es.length + 2) W' -> Q .normal { tmps := ((u0 :: u1 :: u2 :: u3 :: u4 :: u5 :: u6 :: u7 :: u8 :: u9 :: u10 :: (Value.pointer (some ⟨gB, 0, none⟩)) :: u12 :: u13 :: u14 :: u15 :: u16 :: u17 :: u18 :: u19 :: u20 :: u21 :: u22 :: u23 :: u24 :: u25 :: u26 :: u27 :: u28 :: u29 :: u30 :: u31 :: u32 :: u33 :: u34 :: u35 :: u36 :: u37 :: u38 :: u39 :: u40 :: u41 :: u42 :: u43 :: u44 :: u45 :: u46 :: u47 :: u48 :: u49 :: u50 :: u51 :: u52 :: u53 :: u54 :: u55 :: u56 :: u57 :: u58 :: u59 :: u60 :: u61 :: u62 :: u63 :: u64 :: u65 :: u66 :: u67 :: u68 :: u69 :: u70 :: u71 :: u72 :: u73 :: u74 :: u75 :: u76 :: u77 :: u78 :: u79 :: u80 :: u81 :: u82 :: u83 :: u84 :: u85 :: u86 :: u87 :: u88 :: (Value.func (.func 51) #[] #[.pointer (some ⟨g4, 0, none⟩), .pointer (some ⟨g5, 0, none⟩), .pointer (some ⟨g3, 0, none⟩)]) :: u90 :: u91 :: u92 :: u93 :: u94 :: u95 :: u96 :: u97 :: u98 :: u99 :: u100 :: u101 :: u102 :: u103 :: u104 :: u105 :: u106 :: u107 :: u108 :: u109 :: u110 :: u111 :: u112 :: u113 :: u114 :: u115 :: u116 :: [] : List Value)).toArray, defers := { target := .collected D, args := #[] } :: ds } W') :
  (Code.rangeFunc (Operand.tmp 89) #[90] (Code.region 30 #[{ dst := some 17, op := Op.alloc 46, type := 0, pos := "law.go:346", after := #[], guard := none }, { dst := none, op := Op.store 46 (Operand.tmp 17) (Operand.tmp 90), type := 0, pos := "law.go:346", after := #[{ on := 0, ground := Ground.data }, { on := 0, ground := Ground.phase }], guard := none }] false) (Code.block 7 ((Code.region 31 #[{ dst := some 91, op := Op.fieldAddr 46 (Operand.tmp 17) 0, type := 0, pos := "law.go:347", after := #[], guard := none }, { dst := some 92, op := Op.load 32 (Operand.tmp 91), type := 32, pos := "law.go:347", after := #[{ on := 0, ground := Ground.data }], guard := none }, { dst := some 93, op := Op.call { callee := Callee.value (Operand.func 24), args := #[Operand.tmp 11, Operand.tmp 92], argTypes := #[55, 32] }, type := 0, pos := "law.go:347", after := #[{ on := 1, ground := Ground.data }], guard := none }] false).seq (Code.region 32 #[{ dst := some 94, op := Op.fieldAddr 46 (Operand.tmp 17) 1, type := 0, pos := "law.go:348", after := #[], guard := none }, { dst := some 95, op := Op.load 32 (Operand.tmp 94), type := 32, pos := "law.go:348", after := #[{ on := 0, ground := Ground.data }], guard := none }, { dst := some 96, op := Op.call { callee := Callee.value (Operand.func 24), args := #[Operand.tmp 11, Operand.tmp 95], argTypes := #[55, 32] }, type := 0, pos := "law.go:348", after := #[{ on := 1, ground := Ground.data }], guard := none }] false)))).wp Tryz.prog Q { tmps := ((u0 :: u1 :: u2 :: u3 :: u4 :: u5 :: u6 :: u7 :: u8 :: u9 :: u10 :: (Value.pointer (some ⟨gB, 0, none⟩)) :: u12 :: u13 :: u14 :: u15 :: u16 :: u17 :: u18 :: u19 :: u20 :: u21 :: u22 :: u23 :: u24 :: u25 :: u26 :: u27 :: u28 :: u29 :: u30 :: u31 :: u32 :: u33 :: u34 :: u35 :: u36 :: u37 :: u38 :: u39 :: u40 :: u41 :: u42 :: u43 :: u44 :: u45 :: u46 :: u47 :: u48 :: u49 :: u50 :: u51 :: u52 :: u53 :: u54 :: u55 :: u56 :: u57 :: u58 :: u59 :: u60 :: u61 :: u62 :: u63 :: u64 :: u65 :: u66 :: u67 :: u68 :: u69 :: u70 :: u71 :: u72 :: u73 :: u74 :: u75 :: u76 :: u77 :: u78 :: u79 :: u80 :: u81 :: u82 :: u83 :: u84 :: u85 :: u86 :: u87 :: u88 :: (Value.func (.func 51) #[] #[.pointer (some ⟨g4, 0, none⟩), .pointer (some ⟨g5, 0, none⟩), .pointer (some ⟨g3, 0, none⟩)]) :: u90 :: u91 :: u92 :: u93 :: u94 :: u95 :: u96 :: u97 :: u98 :: u99 :: u100 :: u101 :: u102 :: u103 :: u104 :: u105 :: u106 :: u107 :: u108 :: u109 :: u110 :: u111 :: u112 :: u113 :: u114 :: u115 :: u116 :: [] : List Value)).toArray, defers := ds } W := by
 have HDN := hide hdone
 have HBK := hide hbk
 have HNO := hide hno
 have HFEW := hide vN
 have HKL := hide hkl
 have HVL := hide hvl
 have HGW := hide hgw
 have QB : Hid (∀ k, (k = gB \/ vl.ownBlock = some k \/ vw.ownBlock = some k) -> gB <= k /\ k < top) := fun k hk => by
  rcases hk with rfl | hk | hk
  ·exact ⟨lr _, hbk.hi⟩
  ·exact ⟨(hbk.vlSep k hk).1, (hbk.vlSep k hk).2.1⟩
  ·exact ⟨(hbk.vwSep k hk).1, (hbk.vwSep k hk).2.1⟩
 have HSEQ := hide (tT 1 B gs gt g4 g5 g3 pg [⟨key, val, 0⟩] (fun k => k = gB \/ vl.ownBlock = some k \/ vw.ownBlock = some k) W hR hL hT h4 h5 h3 (fun k hk => by have := (QB.out k hk).2; have := hbk.top_le; omega) (fun hk => by have := (QB.out _ hk).2; omega))
 clear hR hL hT h3 h4 h5 hbk ht5 vN hno hdone hgw hkl hvl
 refine tZ (fun T hT => ?_)
 have HTT := hide hT
 clear hT
 refine (wpIn_wide (n := 2)).1 (l6 (n := 2) (w0 := W) (gf := 51) (lb := #[.pointer (some ⟨g4, 0, none⟩), .pointer (some ⟨g5, 0, none⟩), .pointer (some ⟨g3, 0, none⟩)]) (by rw [HTT.out]; rfl) (enters_of Tryz.func51 (by kernel_rfl) rfl) HSEQ.out (Below.refl _ _) (fun _ => rfl) (fun k hk => by have := (QB.out k hk).2; have := HBK.out.top_le; omega)
  (fun pre V => Chg (fun k => k = gB \/ vl.ownBlock = some k \/ vw.ownBlock = some k) W V /\ ((pre = [] /\ aO V gB gB top vl vw es) \/ (pre.length = 1 /\ Aft gB gw (es.length + 2) V))) (fun _ _ _ => False)
  (fun s A V h hb => ⟨h.1.trans (q := fun _ => False) (Chg.ofBelow' hb) (fun _ _ e => e.elim), h.2.imp (fun h => ⟨h.1, h.2.below hb⟩) (fun h => ⟨h.1, h.2.below hb⟩)⟩) (fun c s A V h hb => h) (fun s A l o o' h hl ho hc => ⟨h.1.putObj hl, h.2.imp (fun h => ⟨h.1, h.2.put ho hc⟩) (fun h => ⟨h.1, h.2.put ho hc⟩)⟩) (fun c s A l o o' h hl ho hc => h) (fun pre => jC.bare _ _ _ pre) (fun pre s A V h hb => jC.grows _ _ _ _ h hb) ⟨Chg.refl _ _, Or.inl ⟨rfl, HBK.out⟩⟩
  (fun x a' V => ∃ gx, V.heap[gx]? = some (.cells #[.slice x.ka x.kn x.kc, .slice x.va x.vn x.vc] 46 (0, 0)) /\ a' = { tmps := (T.setIfInBounds 90 (.agg #[.slice x.ka x.kn x.kc, .slice x.va x.vn x.vc])).setIfInBounds 17 (.pointer (some ⟨gx, 0, none⟩)), defers := [] })
  (fun x s A l o o' h hl ho hc => by obtain ⟨gx, h1, h2⟩ := h; exact ⟨gx, gL h1 ho hc, h2⟩) ?assign ?body ?done ?stop)
 case assign =>
  rintro l pre x V K hI hp hK
  obtain ⟨ka, kn, kc, va, vn, vc', px, nd⟩ := x
  have hT2 : ∀ (T : Array Value), ((#[90] : Array Tmp).zip (um ⟨ka, kn, kc, va, vn, vc', px, nd⟩)).foldl (fun t (p, v) => t.setIfInBounds p v) T = T.setIfInBounds 90 (.agg #[.slice ka kn kc, .slice va vn vc']) := fun T => by simp [um]
  rw [hT2]
  have hK2 := hK _ (V.alloc (.cells #[.slice ka kn kc, .slice va vn vc'] 46 (0, 0))) ((Below.refl _ V).alloc (lr _) _) ⟨V.heap.size, heap_alloc_new _ _, rfl⟩
  clear hK hT2 hp hI
  have HK2 := hide hK2
  clear hK2
  have hT := HTT.out
  subst hT
  simp only [List.setIfInBounds_toArray, List.set_cons_zero, List.set_cons_succ] at HK2 ⊢
  gi_wp2
  exact HK2.out
 case body =>
  rintro l pre x a' V ⟨hI1, hI2⟩ ⟨en, hen, hnew⟩ ⟨gx, hgx, rfl⟩
  obtain ⟨ka, kn, kc, va, vn, vc', px, nd⟩ := x
  rcases hI2 with ⟨rfl, hbk⟩ | ⟨hp1, _⟩
  ·obtain rfl : en = ⟨key, val, 0⟩ := by simpa using hen.symm
   have GK : Hid (Got V W.heap.size (.slice ka kn kc) key) := by
    obtain ⟨q, e1, e2, e3, e4, e5⟩ := hnew.key
    simp only at e1 e2 e3 e5
    rw [e1, e2, e3]
    exact Or.inr ⟨q, rfl, e4, e5⟩
   have GV : Hid (Got V W.heap.size (.slice va vn vc') val) := by
    rcases hnew.val with ⟨e1, e2, e3, e4⟩ | ⟨q, e1, e2, e3, e4, e5, _⟩
    ·simp only at e1 e2 e3 e4
     rw [e1, e2, e3]
     exact Or.inl ⟨rfl, e4⟩
    ·simp only at e1 e2 e3 e5
     rw [e1, e2, e3]
     exact Or.inr ⟨q, rfl, e4, e5⟩
   have NV : Hid (∀ q, (Value.slice va vn vc').ownBlock = some q -> W.heap.size <= q /\ q < V.heap.size /\ (Value.slice ka kn kc).ownBlock ≠ some q) := fun q hq => by
    obtain ⟨p, f1, f2, f3, f4, f5⟩ := hnew.key
    simp only at f1
    rcases hnew.val with ⟨e1, e2, e3, e4⟩ | ⟨q', e1, e2, e3, e4, e5, e6⟩
    ·simp only at e1; rw [e1] at hq; simp [Value.ownBlock] at hq
    ·simp only at e1
     rw [e1] at hq
     simp [Value.ownBlock] at hq
     subst hq
     refine ⟨e4, aa e5, ?_⟩
     rw [f1]
     simp only [Value.ownBlock, ne_eq, Option.some.injEq]
     intro c
     have e7 : ka ≠ some ⟨q', 0, none⟩ := e6
     exact e7 (by rw [f1, c])
   have NK : Hid (∀ q, (Value.slice ka kn kc).ownBlock = some q -> W.heap.size <= q /\ q < V.heap.size) := fun q hq => by
    obtain ⟨p, f1, f2, f3, f4, f5⟩ := hnew.key
    simp only at f1
    rw [f1] at hq
    simp [Value.ownBlock] at hq
    subst hq
    exact ⟨f4, aa f5⟩
   have HB := hide hbk
   have TL : Hid (top <= W.heap.size) := HBK.out.top_le
   have HC := hide hI1
   obtain ⟨cp0, cp1⟩ := aR hgx
   have HG := hide hgx
   clear hnew hen hbk hI1 hgx
   have N1 : Hid (jf (fun k => k = gw \/ (Value.slice va vn vc').ownBlock = some k) vl vw es) := ⟨fun k hk c => by
     rcases c with c | c
     ·exact HNO.out.vl k hk c
     ·have := (NV.out k c).1; have := (HB.out.vlSep k hk).2.1; have := TL.out; omega, fun k hk c => by
     rcases c with c | c
     ·exact HNO.out.vw k hk c
     ·have := (NV.out k c).1; have := (HB.out.vwSep k hk).2.1; have := TL.out; omega, fun e he => ⟨fun b hb c => by
     rcases c with c | c
     ·exact (HNO.out.ents e he).1 b hb c
     ·have := (NV.out b c).1; have := ((HB.out.ents e he).at_ b hb).2.1; have := TL.out; omega, fun k hk c => by
     rcases c with c | c
     ·exact (HNO.out.ents e he).2 k hk c
     ·have := (NV.out k c).1; have := ((HB.out.ents e he).cpAt k hk).1; have := TL.out; omega⟩⟩
   have hT := HTT.out
   subst hT
   simp only [List.setIfInBounds_toArray, List.set_cons_zero, List.set_cons_succ]
   gi_wp2_with fail
   refine ⟨trivial, by simp [Fence.wide], (CallsIn.inRound l (callsIn_wide.2 (nK (fun k => k = gw \/ (Value.slice va vn vc').ownBlock = some k) gB gB top W.heap.size vl vw (.slice ka kn kc) key es V HB.out GK.out (by have := HB.out.hi; have := TL.out; omega) (by have := HKL.out; omega) (by have := HFEW.out; omega) N1.out (fun k hk c => by
    rcases c with c | c
    ·have := HC.out.size; have := HGW.out; omega
    ·have := (NV.out k c).2.1; omega)
    (fun q hq => by
     have h1 := NK.out q hq
     have := TL.out
     refine ⟨fun c => ?_, by have := HB.out.hi; omega, fun c => by have := (HB.out.vlSep q c).2.1; omega, fun c => by have := (HB.out.vwSep q c).2.1; omega, fun e he c => by have := ((HB.out.ents e he).at_ q c).2.1; omega⟩
     rcases c with c | c
     ·have := HGW.out; omega
     ·exact (NV.out q c).2.2 hq)))).mono ?_⟩
   rintro e V1 ⟨rfl, vl1, vw1, es1, hb1, hl1, hn1, hk1⟩
   have HB1 := hide hb1
   have HL1 := hide hl1
   have HN1 := hide hn1
   have HK1 := hide hk1
   have PV : Hid (∀ q, (Value.slice va vn vc').ownBlock = some q -> q < V.heap.size /\ q ≠ gB /\ vl.ownBlock ≠ some q /\ vw.ownBlock ≠ some q) := fun q hq => by
    have h1 := NV.out q hq
    have := TL.out
    exact ⟨h1.2.1, by have := HB.out.hi; omega, fun c => by have := (HB.out.vlSep q c).2.1; omega, fun c => by have := (HB.out.vwSep q c).2.1; omega⟩
   have GV1 : Hid (Got V1 W.heap.size (.slice va vn vc') val) := by
    rcases GV.out with h | ⟨q, h1, h2, h3⟩
    ·exact Or.inl h
    ·have hp := PV.out q (by rw [h1]; rfl)
     exact Or.inr ⟨q, h1, h2, (hk1.fr.block q hp.1 hp.2.1 hp.2.2.1 hp.2.2.2).trans h3⟩
   have cx1 : V1.cell? ⟨gx, 1, none⟩ = some (.slice va vn vc') := by
    have hx := HG.out
    have hs := aa hx
    rw [cell_of_row V1 gx 1 _ _ _ ((hk1.fr.block gx hs (fun c => by rw [c, HB.out.row] at hx; cases hx) (fun c => by
     have hL := HB.out.lists
     rcases hL with ⟨rfl, _⟩ | ⟨g, of', c', cur, rfl, r1, _⟩
     ·simp [Value.ownBlock] at c
     ·simp [Value.ownBlock] at c
      rw [<- c, r1] at hx; cases hx) (fun c => by
     have hL := HB.out.was
     rcases hL with ⟨rfl, _⟩ | ⟨g, of', c', cur, rfl, r1, _⟩
     ·simp [Value.ownBlock] at c
     ·simp [Value.ownBlock] at c
      rw [<- c, r1] at hx; cases hx)).trans hx)]
    rfl
   clear hb1 hl1 hn1 hk1 cp0 cp1
   gi_wp2_with fail
   refine ⟨trivial, by simp [Fence.wide], (CallsIn.inRound l (callsIn_wide.2 (nK (fun k => k = gw) gB gB _ W.heap.size vl1 vw1 (.slice va vn vc') val es1 V1 HB1.out GV1.out (by have := HB.out.hi; have := TL.out; omega) (by have := HVL.out; omega) (by have := HFEW.out; have := HL1.out; omega) ⟨fun k hk c => HN1.out.vl k hk (Or.inl c), fun k hk c => HN1.out.vw k hk (Or.inl c), fun e he => ⟨fun b hb c => (HN1.out.ents e he).1 b hb (Or.inl c), fun k hk c => (HN1.out.ents e he).2 k hk (Or.inl c)⟩⟩ (fun k hk c => by have := HK1.out.fr.size; have := HC.out.size; have := HGW.out; omega)
    (fun q hq => ⟨fun c => by have := (NV.out q hq).1; have := HGW.out; omega, (PV.out q hq).2.1, fun c => HN1.out.vl q c (Or.inr hq), fun c => HN1.out.vw q c (Or.inr hq), fun e he c => (HN1.out.ents e he).1 q c (Or.inr hq)⟩)))).mono ?_⟩
   rintro e V2 ⟨rfl, vl2, vw2, es2, hb2, hl2, hn2, hk2⟩
   have CF : Chg (fun k => k = gB \/ vl.ownBlock = some k \/ vw.ownBlock = some k) V V2 := by
    have f1 := HK1.out.fr
    have f2 := hk2.fr
    refine ⟨f2.os.trans f1.os, f2.tape.trans f1.tape, f2.output.trans f1.output, ltr f1.size f2.size, fun k hk hn => ?_⟩
    refine (f2.block k (Nat.lt_of_lt_of_le hk f1.size) (fun c => hn (Or.inl c)) (fun c => ?_) (fun c => ?_)).trans (f1.block k hk (fun c => hn (Or.inl c)) (fun c => hn (Or.inr (Or.inl c))) (fun c => hn (Or.inr (Or.inr c))))
    ·rcases HK1.out.ol k c with e | e
     ·exact hn (Or.inr (Or.inl e))
     ·omega
    ·rcases HK1.out.ow k c with e | e
     ·exact hn (Or.inr (Or.inr e))
     ·omega
   have AF : Aft gB gw (es.length + 2) V2 := ⟨_, vl2, vw2, es2, hb2, by have := HL1.out; omega, hn2⟩
   clear hb2 hl2 hn2 hk2 cx1
   gi_wp2
   exact ⟨CF, HC.out.trans CF (fun k hk e => e), Or.inr ⟨rfl, AF⟩⟩
  ·rw [hp1] at hen
   simp at hen
 case done =>
  rintro D xs V hD hxs ⟨hI1, hI2⟩ hKD
  have hT := HTT.out
  subst hT
  rcases hI2 with ⟨rfl, _⟩ | ⟨_, ha⟩
  ·simp at hxs
  ·exact HDN.out D V hD hKD hI1 ha
 case stop =>
  rintro D c pre V _ _ h _
  exact h.elim
end Go.Proofs.YteealihknndclaaGreatDoor
