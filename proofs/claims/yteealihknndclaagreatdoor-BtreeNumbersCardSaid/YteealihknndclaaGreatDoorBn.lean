/- A tree of one leaf: the leaf, Get, Len. -/
import Derived.Test.YteealihknndclaaGreatDoorBj
namespace Go.Proofs.YteealihknndclaaGreatDoor
open Go.RowKit

namespace S
def u01 : List UInt8 := 3 :: zeros 63
theorem u01_length : u01.length = 64 := rfl
structure Leaf (pg : Nat → List UInt8) (es : List Ent) : Prop where
 head : pg 0 = sheetB (headB es.length 1 0 u01)
 node : pg 1 = sheetB (nodeB 0 es)
 ok : NodeOk 0 es
def lhd (n : Nat) : Hh := ⟨n, 1, 0, u01⟩
theorem lhd_ok {n : Nat} (h : n ≤ 1000000) : (lhd n).Ok := ⟨by show n < 4294967296; omega, ⟨by show 0 < 1; omega, by show 1 < 65536; omega⟩, by show 0 < 256; omega, rfl⟩
theorem rank_mem2 {ks : List (List UInt8)} (h : up ks) (k : List UInt8) (hm : k ∈ ks) : ∃ hi : rank ks k < ks.length, ks[rank ks k] = k := by
 obtain ⟨j, hj, rfl⟩ := List.getElem_of_mem hm
 have e : rank ks ks[j] = j := rank_at ks ks[j] j (by omega) (fun i hi hij => up_lt h hj hij) (fun i hi hij => by
  rcases Nat.eq_or_lt_of_le hij with e | e
  ·subst e; rw [kcmp_self]; omega
  ·have := up_lt h hi e
   rw [kcmp_swap]
   omega)
 exact ⟨by rw [e]; exact hj, by simp only [e]⟩
end S
theorem readHead_0 (B gs : Nat) (pg : Nat → List UInt8) (es : List S.Ent) (w : World) (hr : Rds B w gs pg) (hl : S.Leaf pg es) :
  Calls Tryz.prog 46 #[.pointer (some ⟨gs, 0, none⟩)] w fun e w' => e = .returned (.tuple #[hhv (S.lhd es.length), .int .i64 0]) ∧ Below w.heap.size w w' :=
 readHead_any B gs pg (S.lhd es.length) w hr (S.lhd_ok (by have := hl.ok.len; omega)) hl.head
set_option maxHeartbeats 4000000 in
set_option maxRecDepth 10000 in
theorem leafOf_0 (B gs : Nat) (pg : Nat → List UInt8) (es : List S.Ent) (kv : Value) (w : World) (hr : Rds B w gs pg) (hl : S.Leaf pg es) (hk : ∃ ao n c, kv = .slice ao n c) :
  Calls Tryz.prog 53 #[.pointer (some ⟨gs, 0, none⟩), kv] w fun e w' => ∃ g, e = .returned (.tuple #[.pointer (some ⟨g, 0, none⟩), .slice none 0 0, .int .i64 0]) ∧ NodeNew w.heap.size w' g 0 es ∧ Below w.heap.size w w' := by
 obtain ⟨ao, kn, kc, rfl⟩ := hk
 have H := hide hr
 have HL := hide hl
 clear hr hl
 go_enter Tryz.func53, Tryz.ntmps53
 go_wp2_with fail
 refine (readHead_0 B gs pg es w H.out HL.out).mono ?_
 rintro e w1 ⟨rfl, b1⟩
 have hal := alloc105 w1
 obtain ⟨w2, hst, a2, b2⟩ := made105 w1 (S.lhd es.length) rfl
 have B2 := hide (b1.trans (b2.mono b1.size))
 have H2 := hide ((H.out.below b1).below b2)
 have A2 := hide a2
 obtain ⟨gh, hgh⟩ : ∃ gh, gh = w1.heap.size := ⟨_, rfl⟩
 rw [← hgh] at hal hst A2
 obtain ⟨HC0, hHC0⟩ : ∃ X, X = (S.hhc S.Hh.none).toArray := ⟨_, rfl⟩
 rw [← hHC0] at hal hst
 obtain ⟨HV, hHV⟩ : ∃ X, X = hhv (S.lhd es.length) := ⟨_, rfl⟩
 rw [← hHV] at hst ⊢
 have c1 : w2.cell? ⟨gh, 1, none⟩ = some (.int .i64 1) := A2.out.root
 have c2 : w2.cell? ⟨gh, 2, none⟩ = some (.int .i64 0) := A2.out.lv
 clear b1 b2 a2 hgh hHC0 hHV H
 go_wp2_with (first | (with_reducible refine at_op ⟨some 7, .alloc 105, 0, "node.go:113", #[], none⟩ ?_; refine wpList_alloc_known rfl 105 rfl (.pointer (some ⟨gh, 0, none⟩)) (w1.alloc (.cells HC0 105)) hal ?_) | (with_reducible refine at_op ⟨none, .store 105 (.tmp 7) (.tmp 15), 0, "node.go:113", #[{ on := 5, ground := Ground.data }, { on := 3, ground := Ground.data }, { on := 1, ground := Ground.chain }, { on := 0, ground := Ground.phase }, { on := 1, ground := Ground.phase }, { on := 2, ground := Ground.phase }, { on := 3, ground := Ground.phase }, { on := 4, ground := Ground.textOnly Departure.lateStores }, { on := 5, ground := Ground.phase }], none⟩ ?_; refine wpList_store_as rfl 105 (.tmp 7) (.tmp 15) rfl (.pointer (some ⟨gh, 0, none⟩)) HV rfl rfl w2 hst ?_))
 clear hal hst c1 c2
 refine (readNode_any B gs 1 0 pg es w2 H2.out (by omega) HL.out.node HL.out.ok).mono ?_
 rintro e w3 ⟨gn, rfl, n3, b3⟩
 have N3 : Hid (NodeNew w.heap.size w3 gn 0 es) := by
  obtain ⟨⟨v, d, h1, h2, h3, h4⟩, h5⟩ := n3
  have hb := B2.out.size
  refine ⟨⟨v, d, h1, ⟨h2.1, ?_⟩, h3, fun i x e hx he => ⟨(h4 i x e hx he).1.mono hb, (h4 i x e hx he).2⟩⟩, by omega⟩
  rcases h2.2 with h0 | ⟨g, cap, cur, e1, e2, e3⟩
  ·exact Or.inl h0
  ·exact Or.inr ⟨g, cap, cur, e1, by omega, e3⟩
 have B3 := hide (B2.out.trans (b3.mono B2.out.size))
 have c0 : w3.cell? ⟨gn, 0, none⟩ = some (.int .i64 0) := by obtain ⟨v, d, h1, _⟩ := n3.is; exact (cells2 h1).1
 clear n3 b3 H2 B2 A2
 go_wp2_with fail
 go_loopw [8, 9, 10] (fun s8 s9 s10 wr => s8 = .int .i64 0 ∧ s9 = .slice none 0 0 ∧ s10 = .pointer (some ⟨gn, 0, none⟩) ∧ wr = w3) (fun _ _ _ _ => 0)
 case atStart => exact ⟨rfl, rfl, rfl, rfl⟩
 case round =>
  obtain ⟨rfl, rfl, rfl, rfl⟩ := hrel
  go_wp2_with fail
  go_ret3
  exact ⟨gn, rfl, N3.out, B3.out⟩

def TrAt (w : World) (gt gs : Nat) : Prop := w.heap[gt]? = some (.cells #[.pointer (some ⟨gs, 0, none⟩)] 96 (0, 0))
theorem tr_cell {w : World} {gt gs : Nat} (h : TrAt w gt gs) : w.cell? ⟨gt, 0, none⟩ = some (.pointer (some ⟨gs, 0, none⟩)) := by rw [cell_of_row w gt 0 _ _ _ h]; rfl
set_option maxHeartbeats 4000000 in
set_option maxRecDepth 10000 in
theorem len_0 (B gt gs : Nat) (pg : Nat → List UInt8) (es : List S.Ent) (w : World) (hr : Rds B w gs pg) (ht : TrAt w gt gs) (hl : S.Leaf pg es) :
  Calls Tryz.prog 14 #[.pointer (some ⟨gt, 0, none⟩)] w fun e w' => e = .returned (.int .i64 (es.length : Int)) ∧ Below w.heap.size w w' := by
 have H := hide hr
 have HL := hide hl
 have c0 := tr_cell ht
 clear hr hl ht
 obtain ⟨n, hn⟩ : ∃ n, n = es.length := ⟨_, rfl⟩
 rw [← hn]
 have HN := hide hn
 clear hn
 go_enter Tryz.func14, Tryz.ntmps14
 go_wp2_with fail
 refine (readHead_0 B gs pg es w H.out HL.out).mono ?_
 rintro e w1 ⟨rfl, b1⟩
 have hal := alloc105 w1
 obtain ⟨w2, hst, a2, b2⟩ := made105 w1 (S.lhd es.length) rfl
 have B2 := hide (b1.trans (b2.mono b1.size))
 obtain ⟨gh, hgh⟩ : ∃ gh, gh = w1.heap.size := ⟨_, rfl⟩
 rw [← hgh] at hal hst a2
 obtain ⟨HC0, hHC0⟩ : ∃ X, X = (S.hhc S.Hh.none).toArray := ⟨_, rfl⟩
 rw [← hHC0] at hal hst
 obtain ⟨HV, hHV⟩ : ∃ X, X = hhv (S.lhd es.length) := ⟨_, rfl⟩
 rw [← hHV] at hst ⊢
 have c1 : w2.cell? ⟨gh, 0, none⟩ = some (.int .i64 (n : Int)) := by rw [HN.out]; exact a2.cnt
 clear b1 b2 a2 hgh hHC0 hHV H c0
 go_wp2_with (first | (with_reducible refine at_op ⟨some 3, .alloc 105, 0, "btree.go:107", #[], none⟩ ?_; refine wpList_alloc_known rfl 105 rfl (.pointer (some ⟨gh, 0, none⟩)) (w1.alloc (.cells HC0 105)) hal ?_) | (with_reducible refine at_op ⟨none, .store 105 (.tmp 3) (.tmp 11), 0, "btree.go:107", #[{ on := 8, ground := Ground.data }, { on := 6, ground := Ground.data }, { on := 4, ground := Ground.chain }, { on := 0, ground := Ground.phase }, { on := 1, ground := Ground.phase }, { on := 2, ground := Ground.phase }, { on := 3, ground := Ground.phase }, { on := 4, ground := Ground.phase }, { on := 5, ground := Ground.phase }, { on := 6, ground := Ground.phase }, { on := 7, ground := Ground.textOnly Departure.lateStores }, { on := 8, ground := Ground.phase }], none⟩ ?_; refine wpList_store_as rfl 105 (.tmp 3) (.tmp 11) rfl (.pointer (some ⟨gh, 0, none⟩)) HV rfl rfl w2 hst ?_))
 go_ret
 exact ⟨rfl, B2.out⟩
structure GotIs (B : Nat) (w : World) (es : List S.Ent) (key : List UInt8) (v : Value) (ok : Bool) : Prop where
 yes : ∀ x ∈ es, x.key = key → ok = true ∧ ((v = .slice none 0 0 ∧ x.val = []) ∨ ∃ q, v = .slice (some ⟨q, 0, none⟩) x.val.length x.val.length ∧ B ≤ q ∧ w.heap[q]? = some (.cells (S.v8 x.val) 5 (0, 0)))
 no : key ∉ es.map (·.key) → ok = false ∧ v = .slice none 0 0
theorem S.NodeOk.same {lv : Nat} {es : List S.Ent} (h : S.NodeOk lv es) {i j : Nat} (hi : i < es.length) (hj : j < es.length) (e : es[i].key = es[j].key) : i = j := by
 rcases Nat.lt_trichotomy i j with h1 | h1 | h1
 ·have := h.lt hj h1
  rw [e, S.kcmp_self] at this
  omega
 ·exact h1
 ·have := h.lt hi h1
  rw [e, S.kcmp_self] at this
  omega
set_option maxHeartbeats 4000000 in
set_option maxRecDepth 10000 in
theorem get_0 (B gt gs : Nat) (pg : Nat → List UInt8) (es : List S.Ent) (kv : Value) (key : List UInt8) (w : World) (hr : Rds B w gs pg) (ht : TrAt w gt gs) (hl : S.Leaf pg es) (hk : SliceAt w kv key) :
  Calls Tryz.prog 23 #[.pointer (some ⟨gt, 0, none⟩), kv] w fun e w' => ∃ v ok, e = .returned (.tuple #[v, .bool ok]) ∧ GotIs w.heap.size w' es key v ok ∧ Below w.heap.size w w' := by
 have H := hide hr
 have HL := hide hl
 have HK := hide hk
 have c0 := tr_cell ht
 obtain ⟨ao, kn, kc, rfl, z1, z2⟩ := hk.form
 clear hr hl ht hk z1 z2
 go_enter Tryz.func23, Tryz.ntmps23
 go_wp2_with fail
 refine (leafOf_0 B gs pg es _ w H.out HL.out ⟨_, _, _, rfl⟩).mono ?_
 rintro e w1 ⟨gn, rfl, n1, b1⟩
 have N1 := hide n1
 have B1 := hide b1
 have ND := hide (n1.node HL.out.ok.ent (by have := HL.out.ok.len; omega))
 have K1 := hide (HK.out.below b1 (Nat.le_refl _))
 clear n1 b1 c0 H
 go_wp2_with fail
 refine (find_any gn 0 _ es key w1 ND.out K1.out HL.out.ok.up).mono ?_
 rintro e w2 ⟨rfl, b2⟩
 have N2 := hide (N1.out.below b2)
 have B2 := hide (B1.out.trans (b2.mono B1.out.size))
 clear b2 N1 B1 ND K1
 by_cases hm : key ∈ es.map (·.key)
 ·obtain ⟨r, hrr, hi, he⟩ : ∃ r, r = S.rank (es.map (·.key)) key ∧ ∃ hi : r < es.length, es[r].key = key := by
   obtain ⟨hi, he⟩ := S.rank_mem2 HL.out.ok.up key hm
   exact ⟨_, rfl, by simpa using hi, by simpa using he⟩
  rw [decide_eq_true hm, ← hrr]
  obtain ⟨v, d, h1, h2, h3, h4⟩ := N2.out.is
  have hd : r < d.length := by omega
  have hel := h2.els (by have := HL.out.ok.len; omega)
  obtain ⟨b, off, cap, hv, hcap, hb, hc⟩ := hel.at encEn_len r d[r] (List.getElem?_eq_getElem hd)
  subst hv
  obtain ⟨t0, t1, t2, t3⟩ := bcell hc
  have ⟨hen, _⟩ := h4 r d[r] es[r] (List.getElem?_eq_getElem hd) (List.getElem?_eq_getElem hi)
  obtain ⟨g0, g1⟩ := cells2 h1
  obtain ⟨dn, hdn⟩ : ∃ dn, dn = d.length := ⟨_, rfl⟩
  rw [← hdn] at g1 hd hcap
  have hrI : (r : Int) < (dn : Int) := by omega
  have hr0 : (0 : Int) ≤ (r : Int) := by omega
  have hdI : (dn : Int) ≤ 254 := by have := HL.out.ok.len; omega
  have HEK := hide he
  obtain ⟨x, hx⟩ : ∃ x, x = d[r] := ⟨_, rfl⟩
  rw [← hx] at t0 t1 t2 t3 hen
  have HE := hide hen
  obtain ⟨ka, kn', kc', va, vn, vc, pgx, nd⟩ := x
  simp only at t1
  clear t0 t2 t3 hen he hx h1 h2 h3 h4 hel hc hb N2 hdn hrr hm g0
  go_wp2_with fail
  go_ret2
  refine ⟨_, true, rfl, ⟨fun y hy e => ⟨rfl, ?_⟩, fun hn => ?_⟩, B2.out⟩
  ·obtain ⟨j, hj, rfl⟩ := List.getElem_of_mem hy
   obtain rfl : j = r := HL.out.ok.same hj hi (by rw [e, HEK.out])
   rcases HE.out.val with ⟨a, b, c, e2⟩ | ⟨q, a, b, c, h5, h6, _⟩
   ·simp only at a b c
    subst a b c
    exact Or.inl ⟨rfl, e2⟩
   ·simp only at a b c
    subst a b c
    exact Or.inr ⟨q, rfl, h5, h6⟩
  ·exact absurd (List.mem_map.2 ⟨es[r], List.getElem_mem hi, HEK.out⟩) hn
 ·rw [decide_eq_false hm]
  have HM := hide hm
  generalize S.rank (es.map (·.key)) key = r
  clear hm
  go_wp2_with fail
  go_ret2
  exact ⟨_, false, rfl, ⟨fun x hx e => absurd (List.mem_map.2 ⟨x, hx, e⟩) HM.out, fun _ => ⟨rfl, rfl⟩⟩, B2.out⟩
set_option maxRecDepth 10000 in
theorem esize_any (ka va nd : Option Addr) (kn kc vn vc : Nat) (pg : Int) (w : World) (h1 : kn ≤ 1000000) (h2 : vn ≤ 1000000) :
  Calls Tryz.prog 150 #[.agg #[.slice ka kn kc, .slice va vn vc, .int .i64 pg, .pointer nd]] w fun e w' => e = .returned (.int .i64 ((4 + kn + vn : Nat) : Int)) ∧ Below w.heap.size w w' := by
 go_enter Tryz.func150, Tryz.ntmps150
 go_wp2_with fail
 go_ret
 exact ⟨by simp, (Below.refl _ _).alloc (Nat.le_refl _) _⟩
namespace S
theorem essz_take {es : List Ent} {k : Nat} {x : Ent} (hx : es[k]? = some x) : essz (es.take (k + 1)) = essz (es.take k) + esz x := by
 unfold essz
 rw [List.take_add_one, hx]
 simp
theorem essz_take_le (es : List Ent) (k : Nat) : essz (es.take k) ≤ essz es := by
 have h : essz es = essz (es.take k) + essz (es.drop k) := by
  unfold essz
  rw [← List.sum_append, ← List.map_append, List.take_append_drop]
 omega
end S
theorem node_at {w : World} {v : Value} {d : List EnV} {es : List S.Ent} (h2 : Els encEn w v d) (h3 : EnsAre w d es) (i : Nat) (hi : i < es.length) : ∃ b off cap x, v = .slice (some ⟨b, off, none⟩) es.length cap ∧ es.length ≤ cap ∧ d[i]? = some x ∧ b < w.heap.size ∧ EnIs w x es[i] ∧ (w.cell? ⟨b, off + i * 4, none⟩ = some (.slice x.ka x.kn x.kc) ∧ w.cell? ⟨b, off + i * 4 + 1, none⟩ = some (.slice x.va x.vn x.vc) ∧ w.cell? ⟨b, off + i * 4 + 2, none⟩ = some (.int .i64 x.pg) ∧ w.cell? ⟨b, off + i * 4 + 3, none⟩ = some (.pointer x.nd)) := by
 have hL := h3.1
 have hd1 : i < d.length := by omega
 obtain ⟨b, off, cap, e, q1, q2, q3⟩ := h2.at encEn_len i d[i] (List.getElem?_eq_getElem hd1)
 rw [hL] at e q1
 exact ⟨b, off, cap, d[i], e, q1, List.getElem?_eq_getElem hd1, q2, h3.2 i _ _ (List.getElem?_eq_getElem hd1) (List.getElem?_eq_getElem hi), bcell q3⟩
theorem EnIs.kn {w : World} {x : EnV} {e : S.Ent} (h : EnIs w x e) : x.kn = e.key.length := by obtain ⟨_, _, _, h1, h2, _⟩ := h.key.form; injection h1 with _ h1 _; exact h1.trans h2
theorem EnIs.vn {w : World} {x : EnV} {e : S.Ent} (h : EnIs w x e) : x.vn = e.val.length := by obtain ⟨_, _, _, h1, h2, _⟩ := h.val.form; injection h1 with _ h1 _; exact h1.trans h2
set_option maxHeartbeats 2000000 in
set_option maxRecDepth 10000 in
theorem nsize_any (g lv : Nat) (es : List S.Ent) (w : World) (hn : NodeIs w g lv es) (ho : ∀ x ∈ es, S.EntOk lv x) (hs : S.essz es ≤ 1000000) (hl : es.length ≤ 100000) :
  Calls Tryz.prog 94 #[.pointer (some ⟨g, 0, none⟩)] w fun e w' => e = .returned (.int .i64 (S.essz es : Int)) ∧ Below w.heap.size w w' := by
 obtain ⟨v, d, h1, h2, h3⟩ := hn.is
 obtain ⟨ao, cap, rfl, _⟩ := h2.form
 have AT := hide (node_at h2 h3)
 have HO := hide ho
 have HS := hide hs
 have hL := h3.1
 rw [hL] at h1 AT
 obtain ⟨c0, c1⟩ := cells2 h1
 obtain ⟨n, hnn⟩ : ∃ n, n = es.length := ⟨_, rfl⟩
 obtain ⟨sz, hsz⟩ : ∃ sz, sz = S.essz es := ⟨_, rfl⟩
 rw [← hnn] at c1 hl
 rw [← hsz]
 have HN := hide hnn
 have HSZ := hide hsz
 clear hn ho hs h1 h2 h3 hL hnn hsz
 go_enter Tryz.func94, Tryz.ntmps94
 go_wp2_with fail
 clear c0 c1
 go_loopw [3, 11] (fun s i wr => ∃ k : Nat, k ≤ n ∧ i = .int .i64 (k : Int) ∧ s = .int .i64 (S.essz (es.take k) : Int) ∧ Hid (Below w.heap.size w wr)) (fun _ i _ => n - (intOf i).toNat)
 case atStart => exact ⟨0, by omega, rfl, rfl, Below.refl _ _⟩
 case round =>
 obtain ⟨k, hk, rfl, rfl, BW⟩ := hrel
 by_cases hlt : k < n
 ·have hke : k < es.length := by have := HN.out; omega
  obtain ⟨b, off, cap', x, hv, hcap, hx, hb, hi, t0, t1, t2, t3⟩ := AT.out k hke
  injection hv with hv1 hv2 hv3
  subst hv1 hv3
  have u0 := (BW.out.cell (p := ⟨b, off + k * 4, none⟩) hb).trans t0
  have u1 := (BW.out.cell (p := ⟨b, off + k * 4 + 1, none⟩) hb).trans t1
  have u2 := (BW.out.cell (p := ⟨b, off + k * 4 + 2, none⟩) hb).trans t2
  have u3 := (BW.out.cell (p := ⟨b, off + k * 4 + 3, none⟩) hb).trans t3
  have KN := hide hi.kn
  have VN := hide hi.vn
  have ok := HO.out _ (List.getElem_mem hke)
  have hk1 := ok.key
  have hv1 := ok.val
  have ST := hide (S.essz_take (List.getElem?_eq_getElem hke))
  have hle := S.essz_take_le es k
  have hle2 := S.essz_take_le es (k + 1)
  obtain ⟨a, ha⟩ : ∃ a, a = S.essz (es.take k) := ⟨_, rfl⟩
  obtain ⟨a2, ha2⟩ : ∃ a2, a2 = S.essz (es.take (k + 1)) := ⟨_, rfl⟩
  rw [← ha] at hle ST ⊢
  rw [← ha2] at hle2 ST
  have HA2 := hide ha2
  obtain ⟨ka, kn, kc, va, vn, vc, pg, nd⟩ := x
  simp only at u0 u1 u2 u3
  have hkI : (k : Int) < (n : Int) := by omega
  have hk0 : (0 : Int) ≤ (k : Int) := by omega
  have qk : kn ≤ 40 := by have := KN.out; simp only at this; omega
  have qv : vn ≤ 400 := by have := VN.out; simp only at this; omega
  have qa : a ≤ 1000000 := by have := HS.out; omega
  have EA : Hid (a2 = a + (4 + kn + vn)) := by
   have h1 := ST.out
   have h2 := KN.out
   have h3 := VN.out
   simp only at h2 h3
   show a2 = a + (4 + kn + vn)
   rw [h1, h2, h3]
   rfl
  clear t0 t1 t2 t3 hi hx hv2 ok hk1 hv1 ha ha2 hle hle2 hcap
  go_upto_region 5 with fail
  obtain ⟨W, hW⟩ : ∃ W, W = wr.alloc (.cells #[.slice ka kn kc, .slice va vn vc, .int .i64 pg, .pointer nd] 126) := ⟨_, rfl⟩
  rw [← hW]
  have bW : Below wr.heap.size wr W := by rw [hW]; exact (Below.refl _ _).alloc (Nat.le_refl _) _
  have rW : W.heap[wr.heap.size]? = some (.cells #[.slice ka kn kc, .slice va vn vc, .int .i64 pg, .pointer nd] 126 (0, 0)) := by rw [hW]; exact heap_alloc_new _ _
  obtain ⟨gb, hgb⟩ : ∃ gb, gb = wr.heap.size := ⟨_, rfl⟩
  rw [← hgb] at rW ⊢
  obtain ⟨x0, x1, x2, x3⟩ := cells4 rW
  have BWW := hide (BW.out.trans (bW.mono BW.out.size))
  clear hW bW rW hgb u0 u1 u2 u3 BW
  go_wp2_with fail
  refine (esize_any ka va nd kn kc vn vc pg W (by omega) (by omega)).mono ?_
  rintro e W2 ⟨rfl, b2⟩
  have B2 := hide (BWW.out.trans (b2.mono BWW.out.size))
  clear b2 BWW x0 x1 x2 x3
  obtain ⟨m, hm⟩ : ∃ m, m = 4 + kn + vn := ⟨_, rfl⟩
  rw [← hm] at EA ⊢
  have qm : m ≤ 1000000 := by omega
  clear hm
  go_wp2_with fail
  go_roundw
  case rel => exact ⟨k + 1, by omega, by go_num, by rw [← HA2.out, EA.out]; go_num, B2⟩
  case measure => simp [intOf]; omega
 ·obtain rfl : k = n := by omega
  have e : es.take k = es := List.take_of_length_le (by have := HN.out; omega)
  rw [e, ← HSZ.out]
  clear e
  go_wp2_with fail
  go_ret
  exact ⟨rfl, BW.out⟩
set_option maxHeartbeats 2000000 in
set_option maxRecDepth 10000 in
theorem below_nil (v : Value) (w : World) (hv : ∃ ao n c, v = .slice ao n c) : Calls Tryz.prog 52 #[v, .slice none 0 0] w fun e w' => e = .returned (.bool true) ∧ w = w' := by
 obtain ⟨ao, n, c, rfl⟩ := hv
 go_enter Tryz.func52, Tryz.ntmps52
 go_wp2_with fail
 go_ret
 exact ⟨rfl, rfl⟩
set_option maxHeartbeats 2000000 in
set_option maxRecDepth 10000 in
theorem isBetween_0 (g : Nat) (es : List S.Ent) (w : World) (hn : NodeIs w g 0 es) (ho : S.NodeOk 0 es) :
  Calls Tryz.prog 92 #[.pointer (some ⟨g, 0, none⟩), .slice none 0 0, .slice none 0 0] w fun e w' => e = .returned (.bool true) ∧ Below w.heap.size w w' := by
 obtain ⟨v, d, h1, h2, h3⟩ := hn.is
 obtain ⟨ao, cap, rfl, _⟩ := h2.form
 have AT := hide (node_at h2 h3)
 have HO := hide ho
 have hlen := ho.len
 have hL := h3.1
 rw [hL] at h1 AT
 obtain ⟨c0, c1⟩ := cells2 h1
 obtain ⟨n, hnn⟩ : ∃ n, n = es.length := ⟨_, rfl⟩
 rw [← hnn] at c1 hlen
 have HN := hide hnn
 clear hn ho h1 h2 h3 hL hnn
 rcases Nat.eq_zero_or_pos n with e0 | e0
 ·subst e0
  go_enter Tryz.func92, Tryz.ntmps92
  go_wp2_with fail
  go_ret
  exact ⟨rfl, Below.refl _ _⟩
 ·have h0e : 0 < es.length := by have := HN.out; omega
  have hle : n - 1 < es.length := by have := HN.out; omega
  obtain ⟨b, off, cap', x, hv, hcap, hx, hb, hi, t0, t1, t2, t3⟩ := AT.out 0 h0e
  obtain ⟨b', off', cap'', y, hv', _, hy, _, hj, s0, s1, s2, s3⟩ := AT.out (n - 1) hle
  injection hv with hv1 hv2 hv3
  injection hv' with hw1 hw2 hw3
  subst hv1 hv3
  injection hw1 with hw1
  injection hw1 with hw4 hw5
  subst hw4 hw5 hw3
  have KX := hide hi.key
  have kpos : 0 < S.kcmp es[0].key [] := by
   have : es[0].key ≠ [] := HO.out.leaf rfl _ (List.getElem_mem h0e)
   cases hk : es[0].key with
   | nil => exact absurd hk this
   | cons a l => rw [S.kcmp_ln]; omega
  have NIL : Hid (SliceAt w (.slice none 0 0) []) := Or.inl ⟨rfl, rfl⟩
  obtain ⟨c, hc⟩ : ∃ c, c = S.kcmp es[0].key [] := ⟨_, rfl⟩
  rw [← hc] at kpos
  have CQ : Hid (Calls Tryz.prog 79 #[.slice x.ka x.kn x.kc, .slice none 0 0] w fun e w' => e = .returned (.int .i64 c) ∧ w = w') := by rw [hc]; exact compare_any _ _ _ _ w KX.out NIL.out
  obtain ⟨ka, kn, kc, va, vn, vc, pg, nd⟩ := x
  obtain ⟨ka', kn', kc', va', vn', vc', pg', nd'⟩ := y
  simp only [Nat.zero_mul, Nat.add_zero] at t0
  simp only at s0
  have hc1 : decide (0 ≤ c) = true := decide_eq_true (by omega)
  have hc2 : 0 ≤ c := by omega
  have hz : ¬ (n : Int) = 0 := by omega
  have hz2 : ((n : Int) == 0) = false := beq_false_of_ne hz
  have q0 : (0 : Int) < (n : Int) := by omega
  have qk1 : (n : Int) - 1 = ((n - 1 : Nat) : Int) := by omega
  obtain ⟨k1, hk1⟩ : ∃ k1, k1 = n - 1 := ⟨_, rfl⟩
  rw [← hk1] at s0 qk1
  have qk2 : (0 : Int) ≤ (k1 : Int) := by omega
  have qk3 : (k1 : Int) < (n : Int) := by omega
  clear t1 t2 t3 s1 s2 s3 hi hj hx hy hv2 hw2 kpos hc hk1 AT
  go_enter Tryz.func92, Tryz.ntmps92
  go_wp2_with (first | (go_at_call 79; refine CQ.out.mono ?_; rintro e w1 ⟨rfl, rfl⟩) | (go_at_call 52; refine (below_nil _ _ ⟨_, _, _, rfl⟩).mono ?_; rintro e w1 ⟨rfl, rfl⟩))
  go_ret
  exact ⟨rfl, Below.refl _ _⟩
structure ChV where
 ka : Option Addr
 kn : Nat
 kc : Nat
 va : Option Addr
 vn : Nat
 vc : Nat
 dr : Bool
def encCh (x : ChV) : List Value := [.slice x.ka x.kn x.kc, .slice x.va x.vn x.vc, .bool x.dr]
theorem encCh_len (x : ChV) : (encCh x).length = 3 := rfl
def ChV.good (x : ChV) : Bool := decide (1 ≤ x.kn) && decide (x.kn ≤ 40) && decide (x.vn ≤ 400)
theorem ccell {w : World} {b off i : Nat} {x : ChV} (h : ∀ (r : Nat) u, (encCh x)[r]? = some u → w.cell? ⟨b, off + (i * 3 + r), none⟩ = some u) :
  w.cell? ⟨b, off + i * 3, none⟩ = some (.slice x.ka x.kn x.kc) ∧ w.cell? ⟨b, off + i * 3 + 1, none⟩ = some (.slice x.va x.vn x.vc) ∧ w.cell? ⟨b, off + i * 3 + 2, none⟩ = some (.bool x.dr) :=
 ⟨h 0 _ rfl, by rw [Nat.add_assoc]; exact h 1 _ rfl, by rw [Nat.add_assoc]; exact h 2 _ rfl⟩
theorem cells3c {w : World} {g : Nat} {a b c : Value} {t : TypeId} (h : w.heap[g]? = some (.cells #[a, b, c] t (0, 0))) : w.cell? ⟨g, 0, none⟩ = some a ∧ w.cell? ⟨g, 1, none⟩ = some b ∧ w.cell? ⟨g, 2, none⟩ = some c :=
 ⟨by rw [cell_of_row w g 0 _ _ _ h]; rfl, by rw [cell_of_row w g 1 _ _ _ h]; rfl, by rw [cell_of_row w g 2 _ _ _ h]; rfl⟩
set_option maxHeartbeats 4000000 in
set_option maxRecDepth 10000 in
theorem permitted_any (v : Value) (d : List ChV) (w : World) (hd : Els encCh w v d) :
  Calls Tryz.prog 42 #[v] w fun e w' => e = .returned (.bool (d.all ChV.good && decide (d.length ≤ 80))) ∧ Below w.heap.size w w' := by
 have HD := hide hd
 obtain ⟨ao, cap, rfl, hbig⟩ := hd.form
 obtain ⟨n, hn⟩ : ∃ n, n = d.length := ⟨_, rfl⟩
 obtain ⟨r, hr⟩ : ∃ r, r = (d.all ChV.good && decide (d.length ≤ 80)) := ⟨_, rfl⟩
 rw [← hr]
 rw [← hn] at hbig ⊢
 have HN := hide hn
 have HR := hide hr
 clear hd hr hn
 go_enter Tryz.func42, Tryz.ntmps42
 go_wp2_with fail
 go_loopw [7] (fun i wr => ∃ k : Nat, k ≤ n ∧ i = .int .i64 (k : Int) ∧ Hid (Below w.heap.size w wr) ∧ Hid ((d.take k).all ChV.good = true)) (fun i _ => n - (intOf i).toNat)
 case atStart => exact ⟨0, by omega, rfl, Below.refl _ _, rfl⟩
 case round =>
 obtain ⟨k, hk, rfl, BW, AL⟩ := hrel
 by_cases hlt : k < n
 ·have hkd : k < d.length := by have := HN.out; omega
  obtain ⟨b, off, cap', hv, hcap, hb, hc⟩ := HD.out.at encCh_len k d[k] (List.getElem?_eq_getElem hkd)
  injection hv with hv1 hv2 hv3
  subst hv1 hv3
  obtain ⟨t0, t1, t2⟩ := ccell hc
  have u0 := (BW.out.cell (p := ⟨b, off + k * 3, none⟩) hb).trans t0
  have u1 := (BW.out.cell (p := ⟨b, off + k * 3 + 1, none⟩) hb).trans t1
  have u2 := (BW.out.cell (p := ⟨b, off + k * 3 + 2, none⟩) hb).trans t2
  have hkI : (k : Int) < (n : Int) := by omega
  have hk0 : (0 : Int) ≤ (k : Int) := by omega
  obtain ⟨x, hx⟩ : ∃ x, x = d[k] := ⟨_, rfl⟩
  rw [← hx] at u0 u1 u2
  have AT : Hid (d[k]? = some x) := by rw [hx]; exact List.getElem?_eq_getElem hkd
  obtain ⟨ka, kn, kc, va, vn, vc, dr⟩ := x
  simp only at u0 u1 u2
  clear t0 t1 t2 hc hx hv2 hcap
  go_upto_region 4 with fail
  obtain ⟨W, hW⟩ : ∃ W, W = wr.alloc (.cells #[.slice ka kn kc, .slice va vn vc, .bool dr] 34) := ⟨_, rfl⟩
  rw [← hW]
  have bW : Below wr.heap.size wr W := by rw [hW]; exact (Below.refl _ _).alloc (Nat.le_refl _) _
  have rW : W.heap[wr.heap.size]? = some (.cells #[.slice ka kn kc, .slice va vn vc, .bool dr] 34 (0, 0)) := by rw [hW]; exact heap_alloc_new _ _
  obtain ⟨gb, hgb⟩ : ∃ gb, gb = wr.heap.size := ⟨_, rfl⟩
  rw [← hgb] at rW ⊢
  obtain ⟨x0, x1, x2⟩ := cells3c rW
  have BWW := hide (BW.out.trans (bW.mono BW.out.size))
  clear hW bW rW hgb u0 u1 u2 BW
  have NO : Hid (¬ (1 ≤ kn ∧ kn ≤ 40 ∧ vn ≤ 400) → r = false) := fun hno => by
   rw [HR.out]
   have : d.all ChV.good = false := by
    rw [List.all_eq_false]
    refine ⟨_, List.mem_of_getElem? AT.out, ?_⟩
    simp [ChV.good]
    omega
   rw [this]
   rfl
  by_cases h1 : kn < 1
  ·have q1 : decide ((kn : Int) < 1) = true := decide_eq_true (by omega)
   have q2 : (kn : Int) < 1 := by omega
   have q3 : (kn : Int) = 0 := by omega
   have hr0 := NO.out (by omega)
   subst hr0
   clear q3
   go_wp2_with fail
   go_ret
   exact ⟨rfl, BWW.out⟩
  ·have q1 : decide ((kn : Int) < 1) = false := decide_eq_false (by omega)
   have q2 : ¬ (kn : Int) < 1 := by omega
   by_cases h2 : 40 < kn
   ·have q3 : decide ((40 : Int) < (kn : Int)) = true := decide_eq_true (by omega)
    have q4 : (40 : Int) < (kn : Int) := by omega
    have hr0 := NO.out (by omega)
    subst hr0
    go_wp2_with fail
    go_ret
    exact ⟨rfl, BWW.out⟩
   ·have q3 : decide ((40 : Int) < (kn : Int)) = false := decide_eq_false (by omega)
    have q4 : ¬ (40 : Int) < (kn : Int) := by omega
    by_cases h3 : 400 < vn
    ·have q5 : decide ((400 : Int) < (vn : Int)) = true := decide_eq_true (by omega)
     have q6 : (400 : Int) < (vn : Int) := by omega
     have hr0 := NO.out (by omega)
     subst hr0
     go_wp2_with fail
     go_ret
     exact ⟨rfl, BWW.out⟩
    ·have q5 : decide ((400 : Int) < (vn : Int)) = false := decide_eq_false (by omega)
     have q6 : ¬ (400 : Int) < (vn : Int) := by omega
     have AL2 : Hid ((d.take (k + 1)).all ChV.good = true) := by
      show (d.take (k + 1)).all ChV.good = true
      rw [List.take_add_one, AT.out, List.all_append, AL.out]
      simp [ChV.good]
      omega
     go_wp2_with fail
     go_roundw
     case rel => exact ⟨k + 1, by omega, by go_num, BWW, AL2⟩
     case measure => simp [intOf]; omega
 ·obtain rfl : k = n := by omega
  have HRR : Hid (r = decide (k ≤ 80)) := by
   show r = decide (k ≤ 80)
   have e : d.take k = d := List.take_of_length_le (by have := HN.out; omega)
   have a := AL.out
   rw [e] at a
   rw [HR.out, a, HN.out, Bool.true_and]
  go_wp2_with fail
  go_ret
  refine ⟨?_, BW.out⟩
  rw [HRR.out]
  simp
  try omega
namespace S
structure Cg where
 key : List UInt8
 val : List UInt8
 dr : Bool
def mrg : List Ent → List Cg → List Ent
 | es, [] => es
 | es, c :: l => es.take (rank (es.map (·.key)) c.key) ++ ((if c.dr then [] else [⟨c.key, c.val, 0⟩]) ++ mrg (es.drop (rank (es.map (·.key)) c.key + if c.key ∈ es.map (·.key) then 1 else 0)) l)
theorem rank_le (ks : List (List UInt8)) (k : List UInt8) : rank ks k ≤ ks.length := List.countP_le_length
end S
structure ChIs (w : World) (x : ChV) (c : S.Cg) : Prop where
 key : SliceAt w (.slice x.ka x.kn x.kc) c.key
 val : SliceAt w (.slice x.va x.vn x.vc) c.val
 dr : x.dr = c.dr
def ChsAre (w : World) (d : List ChV) (cs : List S.Cg) : Prop := d.length = cs.length ∧ ∀ (i : Nat) x c, d[i]? = some x → cs[i]? = some c → ChIs w x c
theorem ChIs.below {w W : World} {x : ChV} {c : S.Cg} (h : ChIs w x c) (hb : Below w.heap.size w W) : ChIs W x c := ⟨h.key.below hb (Nat.le_refl _), h.val.below hb (Nat.le_refl _), h.dr⟩
theorem ChsAre.below {w W : World} {d : List ChV} {cs : List S.Cg} (h : ChsAre w d cs) (hb : Below w.heap.size w W) : ChsAre W d cs := ⟨h.1, fun i x e hx he => (h.2 i x e hx he).below hb⟩
theorem EnsAre.app {w : World} {d d' : List EnV} {es es' : List S.Ent} (h : EnsAre w d es) (h' : EnsAre w d' es') : EnsAre w (d ++ d') (es ++ es') := by
 refine ⟨by rw [List.length_append, List.length_append, h.1, h'.1], fun i x e hx he => ?_⟩
 by_cases hi : i < d.length
 ·rw [List.getElem?_append_left hi] at hx
  rw [List.getElem?_append_left (by rw [← h.1]; exact hi)] at he
  exact h.2 i x e hx he
 ·rw [List.getElem?_append_right (by omega)] at hx
  rw [List.getElem?_append_right (by have := h.1; omega), ← h.1] at he
  exact h'.2 _ x e hx he
theorem EnsAre.take {w : World} {d : List EnV} {es : List S.Ent} (h : EnsAre w d es) (n : Nat) : EnsAre w (d.take n) (es.take n) := by
 refine ⟨by rw [List.length_take, List.length_take, h.1], fun i x e hx he => ?_⟩
 rw [List.getElem?_take] at hx he
 split at hx
 ·rename_i hi; rw [if_pos hi] at he; exact h.2 i x e hx he
 ·cases hx
theorem EnsAre.drop {w : World} {d : List EnV} {es : List S.Ent} (h : EnsAre w d es) (n : Nat) : EnsAre w (d.drop n) (es.drop n) := by
 refine ⟨by rw [List.length_drop, List.length_drop, h.1], fun i x e hx he => ?_⟩
 rw [List.getElem?_drop] at hx he
 exact h.2 _ x e hx he
theorem EnsAre.one {w : World} {x : EnV} {e : S.Ent} (h : EnIs w x e) : EnsAre w [x] [e] := by
 refine ⟨rfl, fun i y f hy hf => ?_⟩
 match i, hy, hf with
 | 0, hy, hf => simp at hy hf; subst hy hf; exact h
 | i + 1, hy, hf => simp at hy
theorem flat_drop (d : List EnV) (i j : Nat) (hi : i ≤ d.length) : ((d.drop i).flatMap encEn)[j]? = (d.flatMap encEn)[i * 4 + j]? := by
 conv => rhs; rw [← List.take_append_drop i d]
 rw [List.flatMap_append, List.getElem?_append_right (by rw [flatEn_length, List.length_take]; omega), flatEn_length, List.length_take]
 congr 1
 omega
theorem flat_take (d : List EnV) (i j : Nat) (u : Value) (h : ((d.take i).flatMap encEn)[j]? = some u) : (d.flatMap encEn)[j]? = some u := by
 rw [← List.take_append_drop i d, List.flatMap_append]
 rw [List.getElem?_append_left (List.getElem?_eq_some_iff.1 h).1]
 exact h
theorem under122 : Tryz.prog.underlying 122 = some (.slice (Tryz.prog.elem 122)) := by simp [Program.elem, Tryz.underlying122]
theorem sz126 (W : World) : (sizeOf 126).run Tryz.prog W = .ok 4 W := by
 obtain ⟨i, hi, hz0, hz1, hz2⟩ := info_parts info126
 go_simp

theorem size122 (W : World) : (sizeOf (Tryz.prog.elem 122)).run Tryz.prog W = .ok 4 W := by
 have e : Tryz.prog.elem 122 = 126 := by simp [Program.elem, Tryz.underlying122]
 rw [e]
 exact sz126 W
theorem els_from {w : World} {ao : Option Addr} {n cap : Nat} {d : List EnV} (h : Els encEn w (.slice ao n cap) d) (i : Nat) (hi : i ≤ n) :
  ∃ ao' cap', (∀ W, (Instr.slice 122 (.slice ao n cap) (some (.int .i64 (i : Int))) none none).run Tryz.prog W = .ok (.slice ao' (n - i) cap') W) ∧ Els encEn w (.slice ao' (n - i) cap') (d.drop i) := by
 refine ⟨if cap = i then ao else ao.map (·.add (i * 4)), cap - i, fun W => ?_, ?_⟩
 ·rw [run_slice_l W 122 ao n cap under122 .i64 _ (by omega) (by omega), size122]
  rfl
 ·rcases h with ⟨h, rfl⟩ | ⟨a, c, h, rfl⟩ | ⟨b, off, c, h, h1, h2, h3, h4⟩
  ·injection h with ha hb hc
   subst ha hb hc
   obtain rfl : i = 0 := by omega
   exact Or.inl ⟨rfl, rfl⟩
  ·injection h with ha hb hc
   subst ha hb hc
   obtain rfl : i = 0 := by omega
   rw [List.drop_nil]
   split
   ·exact Or.inr (Or.inl ⟨_, _, rfl, rfl⟩)
   ·exact Or.inr (Or.inl ⟨_, _, rfl, rfl⟩)
  ·injection h with ha hb hc
   subst ha hb hc
   by_cases hc : cap = i
   ·rw [if_pos hc]
    have e : d.drop i = [] := List.drop_eq_nil_of_le (by omega)
    rw [e, show d.length - i = 0 by omega]
    exact Or.inr (Or.inl ⟨_, _, rfl, rfl⟩)
   ·rw [if_neg hc]
    refine Or.inr (Or.inr ⟨b, off + i * 4, cap - i, ?_, ?_, ?_, h3, fun j u hu => ?_⟩)
    ·rw [List.length_drop]; simp [Addr.add_lit]
    ·rw [List.length_drop]; omega
    ·rw [List.length_drop]; omega
    ·rw [flat_drop d i j hi] at hu
     rw [Nat.add_assoc]
     exact h4 _ u hu
theorem els_upto {w : World} {ao : Option Addr} {n cap : Nat} {d : List EnV} (h : Els encEn w (.slice ao n cap) d) (i : Nat) (hi : i ≤ n) :
  ∃ ao' cap', (∀ W, (Instr.slice 122 (.slice ao n cap) none (some (.int .i64 (i : Int))) none).run Tryz.prog W = .ok (.slice ao' i cap') W) ∧ Els encEn w (.slice ao' i cap') (d.take i) := by
 have hcap : n ≤ cap := by
  rcases h with ⟨h, rfl⟩ | ⟨a, c, h, rfl⟩ | ⟨b, off, c, h, h1, h2, h3, h4⟩ <;> injection h with ha hb hc <;> omega
 refine ⟨if cap = 0 then ao else ao.map (·.add (0 * 4)), cap, fun W => ?_, ?_⟩
 ·rw [run_slice_h W 122 ao n cap under122 .i64 _ (by omega) (by omega), size122]
  rfl
 ·rcases h with ⟨h, rfl⟩ | ⟨a, c, h, rfl⟩ | ⟨b, off, c, h, h1, h2, h3, h4⟩
  ·injection h with ha hb hc
   subst ha hb hc
   obtain rfl : i = 0 := by omega
   exact Or.inl ⟨rfl, rfl⟩
  ·injection h with ha hb hc
   subst ha hb hc
   obtain rfl : i = 0 := by omega
   rw [List.take_nil]
   split
   ·exact Or.inr (Or.inl ⟨_, _, rfl, rfl⟩)
   ·exact Or.inr (Or.inl ⟨_, _, rfl, rfl⟩)
  ·injection h with ha hb hc
   subst ha hb hc
   by_cases hc : cap = 0
   ·obtain rfl : i = 0 := by omega
    rw [if_pos hc]
    exact Or.inr (Or.inl ⟨_, _, rfl, rfl⟩)
   ·rw [if_neg hc]
    have e : (d.take i).length = i := by rw [List.length_take]; omega
    refine Or.inr (Or.inr ⟨b, off, cap, ?_, ?_, ?_, h3, fun j u hu => h4 j u (flat_take d i j u hu)⟩)
    ·rw [e]; simp [Addr.add_lit]
    ·omega
    ·omega
structure Mg (w wr : World) (d : List EnV) (dc : List ChV) (vp vo : Value) (k : Nat) (es : List S.Ent) (cs : List S.Cg) : Prop where
 is : ∃ dp ep dd eo, Els encEn w vp dp ∧ (∀ W, EnsAre W d es → ChsAre W dc cs → EnsAre W dp ep) ∧ (∀ x ∈ dp, x.nd = none) ∧ S.up (ep.map (·.key)) ∧ EnRow w.heap.size wr vo dd ∧ (∀ W, EnsAre W d es → ChsAre W dc cs → EnsAre W dd eo) ∧ (∀ x ∈ dd, x.nd = none) ∧ eo.length + ep.length ≤ es.length + k ∧ eo ++ S.mrg ep (cs.drop k) = S.mrg es cs
 base : Below w.heap.size w wr
set_option maxHeartbeats 4000000 in
set_option maxRecDepth 10000 in
theorem merged_any (v l : Value) (d : List EnV) (es : List S.Ent) (dc : List ChV) (cs : List S.Cg) (w : World) (hd : Els encEn w v d) (he : EnsAre w d es) (hnd : ∀ x ∈ d, x.nd = none) (hu : S.up (es.map (·.key)))
  (hl : Els encCh w l dc) (hc : ChsAre w dc cs) (hlen : es.length + cs.length ≤ 10000) :
  Calls Tryz.prog 117 #[v, l] w fun e w' => ∃ u d', e = .returned u ∧ EnRow w.heap.size w' u d' ∧ (∀ W, EnsAre W d es → ChsAre W dc cs → EnsAre W d' (S.mrg es cs)) ∧ (∀ x ∈ d', x.nd = none) ∧ Below w.heap.size w w' := by
 have M0 : Hid (Mg w w d dc v (.slice none 0 0) 0 es cs) := ⟨⟨d, es, [], [], hd, fun _ a _ => a, hnd, hu, EnRow.nil _ _, fun _ _ _ => ⟨rfl, fun i x e hx => by simp at hx⟩, by simp, by simp, by simp⟩, Below.refl _ _⟩
 have HL := hide hl
 have HEE := hide he
 have HC := hide hc
 obtain ⟨vo, vcap, rfl, _⟩ := hd.form
 obtain ⟨lo, lcap, rfl, hbig⟩ := hl.form
 obtain ⟨n, hn⟩ : ∃ n, n = dc.length := ⟨_, rfl⟩
 obtain ⟨vn, hvn⟩ : ∃ vn, vn = d.length := ⟨_, rfl⟩
 rw [← hn] at hbig ⊢
 rw [← hvn] at M0 ⊢
 have HN := hide hn
 have NC : Hid (n = cs.length) := by rw [hn]; exact hc.1
 have HLEN := hide hlen
 clear hd he hnd hu hl hc hlen hn hvn
 go_enter Tryz.func117, Tryz.ntmps117
 go_wp2_with fail
 go_loopw [0, 5, 13] (fun a b i wr => ∃ k : Nat, k ≤ n ∧ i = .int .i64 (k : Int) ∧ (∃ ao x y, a = .slice ao x y) ∧ (∃ bo x y, b = .slice bo x y) ∧ Hid (Mg w wr d dc a b k es cs)) (fun _ _ i _ => n - (intOf i).toNat)
 case atStart => exact ⟨0, by omega, rfl, ⟨_, _, _, rfl⟩, ⟨_, _, _, rfl⟩, M0⟩
 case round =>
 clear M0
 obtain ⟨k, hk, rfl, ⟨ao, pn, pc, rfl⟩, ⟨bo, on, oc, rfl⟩, M⟩ := hrel
 obtain ⟨dp, ep, dd, eo, m1, m2, m3, m4, m5, m6, m7, m8, m9⟩ := M.out.is
 have BW := hide M.out.base
 have M1 := hide m1
 have M2g := hide m2
 have M2 := hide (m2 w HEE.out HC.out)
 have M3 := hide m3
 have M4 := hide m4
 have M5 := hide m5
 have M6g := hide m6
 have M6 := hide (m6 w HEE.out HC.out)
 have M7 := hide m7
 have M8 := hide m8
 have M9 := hide m9
 have PN : Hid (pn = ep.length) := by
  obtain ⟨_, _, e, _⟩ := m1.form
  injection e with _ e _
  rw [e]; exact M2.out.1
 clear m1 m2 m3 m4 m5 m6 m7 m8 m9 M
 by_cases hlt : k < n
 ·have hkd : k < dc.length := by have := HN.out; omega
  have hkc : k < cs.length := by have := NC.out; omega
  obtain ⟨b, off, cap', hv, hcap, hb, hcl⟩ := HL.out.at encCh_len k dc[k] (List.getElem?_eq_getElem hkd)
  have CI := hide (HC.out.2 k dc[k] cs[k] (List.getElem?_eq_getElem hkd) (List.getElem?_eq_getElem hkc))
  injection hv with hv1 hv2 hv3
  subst hv1 hv3
  obtain ⟨t0, t1, t2⟩ := ccell hcl
  have u0 := (BW.out.cell (p := ⟨b, off + k * 3, none⟩) hb).trans t0
  have u1 := (BW.out.cell (p := ⟨b, off + k * 3 + 1, none⟩) hb).trans t1
  have u2 := (BW.out.cell (p := ⟨b, off + k * 3 + 2, none⟩) hb).trans t2
  have hkI : (k : Int) < (n : Int) := by omega
  have hk0 : (0 : Int) ≤ (k : Int) := by omega
  obtain ⟨x, hx⟩ : ∃ x, x = dc[k] := ⟨_, rfl⟩
  rw [← hx] at u0 u1 u2 CI
  obtain ⟨c, hc⟩ : ∃ c, c = cs[k] := ⟨_, rfl⟩
  rw [← hc] at CI
  have DR : Hid (cs.drop k = c :: cs.drop (k + 1)) := by rw [hc]; exact List.drop_eq_getElem_cons hkc
  have CIg : Hid (∀ W, ChsAre W dc cs → ChIs W x c) := fun W h => h.2 k x c (by rw [hx]; exact List.getElem?_eq_getElem hkd) (by rw [hc]; exact List.getElem?_eq_getElem hkc)
  obtain ⟨ka, kn, kc, va, vn', vc, dr⟩ := x
  simp only at u0 u1 u2
  have DRC : Hid (dr = c.dr) := CI.out.dr
  have CK : Hid (SliceAt w (.slice ka kn kc) c.key) := CI.out.key
  have CV : Hid (SliceAt w (.slice va vn' vc) c.val) := CI.out.val
  clear t0 t1 t2 hcl hx hc hv2 hcap CI
  go_upto_region 5 with fail
  obtain ⟨W, hW⟩ : ∃ W, W = wr.alloc (.cells #[.slice ka kn kc, .slice va vn' vc, .bool dr] 34) := ⟨_, rfl⟩
  rw [← hW]
  have bW : Below wr.heap.size wr W := by rw [hW]; exact (Below.refl _ _).alloc (Nat.le_refl _) _
  have rW : W.heap[wr.heap.size]? = some (.cells #[.slice ka kn kc, .slice va vn' vc, .bool dr] 34 (0, 0)) := by rw [hW]; exact heap_alloc_new _ _
  obtain ⟨gb, hgb⟩ : ∃ gb, gb = wr.heap.size := ⟨_, rfl⟩
  rw [← hgb] at rW ⊢
  have RW := hide rW
  have M5W := hide (M5.out.below bW)
  have BWW := hide (BW.out.trans (bW.mono BW.out.size))
  clear hW bW rW hgb u0 u1 u2 BW M5
  go_upto_region 6 with fail
  obtain ⟨X, hX⟩ : ∃ X, X = W.alloc (.cells #[.int .i64 0, .slice ao pn pc] 124) := ⟨_, rfl⟩
  rw [← hX]
  have bX : Below W.heap.size W X := by rw [hX]; exact (Below.refl _ _).alloc (Nat.le_refl _) _
  have rX : X.heap[W.heap.size]? = some (.cells #[.int .i64 0, .slice ao pn pc] 124 (0, 0)) := by rw [hX]; exact heap_alloc_new _ _
  obtain ⟨gc, hgc⟩ : ∃ gc, gc = W.heap.size := ⟨_, rfl⟩
  rw [← hgc] at rX ⊢
  have RX := hide ((bX.block gb (block_lt_of_row RW.out)).trans RW.out)
  have M5X := hide (M5W.out.below bX)
  have BWX := hide (BWW.out.trans (bX.mono BWW.out.size))
  have NX : Hid (NodeIs X gc 0 ep) := ⟨_, dp, rX, M1.out.below (BWX.out), M2.out.below BWX.out⟩
  obtain ⟨x0, x1, x2⟩ := cells3c RX.out
  clear hX bX rX hgc RW M5W BWW
  go_upto_region 7 with fail
  refine (find_any gc 0 _ ep c.key X NX.out (CK.out.below BWX.out (Nat.le_refl _)) M4.out).mono ?_
  rintro e Y ⟨rfl, b2⟩
  have RY := hide ((b2.block gb (block_lt_of_row RX.out)).trans RX.out)
  have M5Y := hide (M5X.out.below b2)
  have BWY := hide (BWX.out.trans (b2.mono BWX.out.size))
  obtain ⟨i, hi⟩ : ∃ i, i = S.rank (ep.map (·.key)) c.key := ⟨_, rfl⟩
  obtain ⟨fo, hfo⟩ : ∃ fo, fo = decide (c.key ∈ ep.map (·.key)) := ⟨_, rfl⟩
  rw [← hi, ← hfo]
  have HI := hide hi
  have HFO := hide hfo
  have IL : Hid (i ≤ pn) := by rw [hi]; have := S.rank_le (ep.map (·.key)) c.key; rw [List.length_map] at this; have := PN.out; show S.rank _ _ ≤ pn; omega
  have FP : Hid (fo = true → i < pn) := fun h => by
   rw [HFO.out] at h
   have hm := of_decide_eq_true h
   have h1 := IL.out
   have h2 : i ≠ pn := fun e => by
    have h3 : (ep.map (·.key)).countP (fun a => decide (S.kcmp a c.key < 0)) = (ep.map (·.key)).length := by rw [List.length_map, ← PN.out, ← e]; exact HI.out.symm
    have h4 := List.countP_eq_length.1 h3 _ hm
    rw [S.kcmp_self] at h4
    simp at h4
   omega
  clear b2 hi hfo x0 x1 x2 NX RX M5X BWX
  go_upto_region 7 with fail
  obtain ⟨ua, uc, SL1, EL1⟩ := els_upto M1.out i IL.out
  obtain ⟨fa, fc, SL2, EL2⟩ := els_from M1.out i IL.out
  have E1 := hide EL1
  have E2 := hide EL2
  clear EL1 EL2
  have APP := hide (run_append_ens Y w.heap.size (.slice bo on oc) (.slice ua i uc) dd (dp.take i) 122 M5Y.out (E1.out.below BWY.out) (by have h1 := M8.out; have h2 := M6.out.1; have h3 := HLEN.out; have h4 := NC.out; have h5 := M2.out.1; rw [List.length_take]; omega) BWY.out.size)
  go_upto_region 8 with (at_builtin; (refine wpList_append_known rfl (.tmp 25) (.tmp 28) 122 122 rfl _ _ rfl rfl APP.out ?_; rintro v4 Z2 ⟨e4, c4⟩; have E4 := hide e4; have C4 := hide c4; clear e4 c4))
  have RY2 : Hid (Z2.heap[gb]? = some (.cells #[.slice ka kn kc, .slice va vn' vc, .bool dr] 34 (0, 0))) := C4.out.row RY.out (M5Y.out.apart RY.out (by decide))
  have BW2 : Hid (Below w.heap.size w Z2) := BWY.out.trans (C4.out.below _ BWY.out.size (fun j hj e => by have := (M5Y.out.blk e).1; omega))
  clear C4 APP RY M5Y BWY SL1
  obtain ⟨x0, x1, x2⟩ := cells3c RY2.out
  obtain ⟨pn2, hpn2⟩ : ∃ pn2, pn2 = pn - i := ⟨_, rfl⟩
  rw [← hpn2] at SL2 E2
  have HP2 := hide hpn2
  clear hpn2
  cases hfo : fo with
  | true =>
   subst hfo
   have hp1 : Hid (1 ≤ pn2) := by have := FP.out rfl; have := HP2.out; show 1 ≤ pn2; omega
   obtain ⟨ga, gcp, SL3', EL3⟩ := els_from E2.out 1 hp1.out
   have SL3 : ∀ W, (Instr.slice 122 (.slice fa pn2 fc) (some (.int .i64 1)) none none).run Tryz.prog W = .ok (.slice ga (pn2 - 1) gcp) W := SL3'
   have E3 : Hid (Els encEn w (.slice ga (pn2 - 1) gcp) (dp.drop (i + 1))) := by rw [List.drop_drop] at EL3; exact EL3
   have MR : Hid (S.mrg ep (cs.drop k) = ep.take i ++ ((if c.dr then [] else [⟨c.key, c.val, 0⟩]) ++ S.mrg (ep.drop (i + 1)) (cs.drop (k + 1)))) := by
    show S.mrg ep (cs.drop k) = _
    rw [DR.out, S.mrg, ← HI.out, if_pos (of_decide_eq_true HFO.out.symm)]
   clear EL3 SL3'
   obtain ⟨pn3, hpn3⟩ : ∃ pn3, pn3 = pn2 - 1 := ⟨_, rfl⟩
   rw [← hpn3] at SL3 E3
   clear hpn3 hp1
   cases hdr : dr with
   | false =>
    subst hdr
    obtain ⟨Y3, hY3⟩ : ∃ Y3 : EnV, Y3 = ⟨ka, kn, kc, va, vn', vc, 0, none⟩ := ⟨_, rfl⟩
    obtain ⟨Z3, hZ3⟩ : ∃ Z3, Z3 = Z2.alloc (.cells #[.slice ka kn kc, .slice va vn' vc, .int .i64 0, .pointer none] 126) := ⟨_, rfl⟩
    have HZ3 := hide hZ3
    have b3 : Below Z2.heap.size Z2 Z3 := by rw [hZ3]; exact (Below.refl _ _).alloc (Nat.le_refl _) _
    have r3 : Z3.heap[Z2.heap.size]? = some (.cells (encEn Y3).toArray 126 (0, 0)) := by rw [hZ3, hY3]; exact heap_alloc_new _ _
    have BW3 := hide (BW2.out.trans (b3.mono BW2.out.size))
    have M53 := hide (E4.out.below b3)
    have EI : Hid (∀ W, ChsAre W dc cs → EnIs W Y3 ⟨c.key, c.val, 0⟩) := fun W h => by rw [hY3]; exact ⟨(CIg.out W h).key, (CIg.out W h).val, rfl⟩
    have YN : Hid (Y3.nd = none) := by rw [hY3]; rfl
    have APP := hide (run_append_ens Z3 w.heap.size v4 (.slice (some ⟨Z2.heap.size, 0, none⟩) 1 1) (dd ++ dp.take i) [Y3] 122 M53.out (one_els r3) (by have h1 := M8.out; have h2 := M6.out.1; have h3 := HLEN.out; have h4 := NC.out; have h5 := M2.out.1; rw [List.length_append, List.length_take]; simp; omega) BW3.out.size)
    clear b3 r3 hZ3 hY3
    go_wp2_with (at_builtin; (rw [← HZ3.out]; refine wpList_append_known rfl (.tmp 39) (.tmp 45) 122 122 rfl _ _ rfl rfl APP.out ?_; rintro v5 Z4 ⟨e5, c5⟩; have E5 := hide e5; have C5 := hide c5; clear e5 c5))
    have BW4 : Hid (Below w.heap.size w Z4) := BW3.out.trans (C5.out.below _ BW3.out.size (fun j hj e => by have := (M53.out.blk e).1; omega))
    have MM : Hid (Mg w Z4 d dc (.slice ga pn3 gcp) v5 (k + 1) es cs) := by
     refine ⟨⟨dp.drop (i + 1), ep.drop (i + 1), dd ++ dp.take i ++ [Y3], eo ++ ep.take i ++ [⟨c.key, c.val, 0⟩], E3.out, fun W a b => (M2g.out W a b).drop _, fun x hx => M3.out x (List.mem_of_mem_drop hx), ?_, E5.out, fun W a b => ((M6g.out W a b).app ((M2g.out W a b).take i)).app (EnsAre.one (EI.out W b)), ?_, ?_, ?_⟩, BW4.out⟩
     ·rw [List.map_drop]; exact List.Pairwise.sublist (List.drop_sublist _ _) M4.out
     ·intro x hx
      rcases List.mem_append.1 hx with hx | hx
      ·rcases List.mem_append.1 hx with hx | hx
       ·exact M7.out x hx
       ·exact M3.out x (List.mem_of_mem_take hx)
      ·simp at hx; rw [hx]; exact YN.out
     ·have h1 := M8.out; have h2 := IL.out; have h3 := PN.out
      simp only [List.length_append, List.length_take, List.length_drop, List.length_cons, List.length_nil]
      omega
     ·rw [← M9.out, MR.out, ← DRC.out]
      simp [List.append_assoc]
    obtain ⟨o5, oc5, hv5⟩ := E5.out.form
    subst hv5
    obtain ⟨n5, hn5⟩ : ∃ n5, n5 = (dd ++ dp.take i ++ [Y3]).length := ⟨_, rfl⟩
    rw [← hn5] at MM ⊢
    clear hn5 E5 C5 APP M53 BW3 E4
    go_wp2_with fail
    go_roundw
    case rel => exact ⟨k + 1, by omega, by go_num, ⟨_, _, _, rfl⟩, ⟨_, _, _, rfl⟩, MM⟩
    case measure => simp [intOf]; omega
   | true =>
    subst hdr
    have MM : Hid (Mg w Z2 d dc (.slice ga pn3 gcp) v4 (k + 1) es cs) := by
     refine ⟨⟨dp.drop (i + 1), ep.drop (i + 1), dd ++ dp.take i, eo ++ ep.take i, E3.out, fun W a b => (M2g.out W a b).drop _, fun x hx => M3.out x (List.mem_of_mem_drop hx), ?_, E4.out, fun W a b => (M6g.out W a b).app ((M2g.out W a b).take i), ?_, ?_, ?_⟩, BW2.out⟩
     ·rw [List.map_drop]; exact List.Pairwise.sublist (List.drop_sublist _ _) M4.out
     ·intro x hx
      rcases List.mem_append.1 hx with hx | hx
      ·exact M7.out x hx
      ·exact M3.out x (List.mem_of_mem_take hx)
     ·have h1 := M8.out; have h2 := IL.out; have h3 := PN.out
      simp only [List.length_append, List.length_take, List.length_drop]
      omega
     ·rw [← M9.out, MR.out, ← DRC.out]
      simp [List.append_assoc]
    obtain ⟨o5, oc5, hv5⟩ := E4.out.form
    subst hv5
    obtain ⟨n5, hn5⟩ : ∃ n5, n5 = (dd ++ dp.take i).length := ⟨_, rfl⟩
    rw [← hn5] at MM ⊢
    clear hn5 E4
    go_wp2_with fail
    go_roundw
    case rel => exact ⟨k + 1, by omega, by go_num, ⟨_, _, _, rfl⟩, ⟨_, _, _, rfl⟩, MM⟩
    case measure => simp [intOf]; omega
  | false =>
   subst hfo
   have MR : Hid (S.mrg ep (cs.drop k) = ep.take i ++ ((if c.dr then [] else [⟨c.key, c.val, 0⟩]) ++ S.mrg (ep.drop i) (cs.drop (k + 1)))) := by
    show S.mrg ep (cs.drop k) = _
    rw [DR.out, S.mrg, ← HI.out, if_neg (of_decide_eq_false HFO.out.symm)]
    rfl
   cases hdr : dr with
   | false =>
    subst hdr
    obtain ⟨Y3, hY3⟩ : ∃ Y3 : EnV, Y3 = ⟨ka, kn, kc, va, vn', vc, 0, none⟩ := ⟨_, rfl⟩
    obtain ⟨Z3, hZ3⟩ : ∃ Z3, Z3 = Z2.alloc (.cells #[.slice ka kn kc, .slice va vn' vc, .int .i64 0, .pointer none] 126) := ⟨_, rfl⟩
    have HZ3 := hide hZ3
    have b3 : Below Z2.heap.size Z2 Z3 := by rw [hZ3]; exact (Below.refl _ _).alloc (Nat.le_refl _) _
    have r3 : Z3.heap[Z2.heap.size]? = some (.cells (encEn Y3).toArray 126 (0, 0)) := by rw [hZ3, hY3]; exact heap_alloc_new _ _
    have BW3 := hide (BW2.out.trans (b3.mono BW2.out.size))
    have M53 := hide (E4.out.below b3)
    have EI : Hid (∀ W, ChsAre W dc cs → EnIs W Y3 ⟨c.key, c.val, 0⟩) := fun W h => by rw [hY3]; exact ⟨(CIg.out W h).key, (CIg.out W h).val, rfl⟩
    have YN : Hid (Y3.nd = none) := by rw [hY3]; rfl
    have APP := hide (run_append_ens Z3 w.heap.size v4 (.slice (some ⟨Z2.heap.size, 0, none⟩) 1 1) (dd ++ dp.take i) [Y3] 122 M53.out (one_els r3) (by have h1 := M8.out; have h2 := M6.out.1; have h3 := HLEN.out; have h4 := NC.out; have h5 := M2.out.1; rw [List.length_append, List.length_take]; simp; omega) BW3.out.size)
    clear b3 r3 hZ3 hY3
    go_wp2_with (at_builtin; (rw [← HZ3.out]; refine wpList_append_known rfl (.tmp 39) (.tmp 45) 122 122 rfl _ _ rfl rfl APP.out ?_; rintro v5 Z4 ⟨e5, c5⟩; have E5 := hide e5; have C5 := hide c5; clear e5 c5))
    have BW4 : Hid (Below w.heap.size w Z4) := BW3.out.trans (C5.out.below _ BW3.out.size (fun j hj e => by have := (M53.out.blk e).1; omega))
    have MM : Hid (Mg w Z4 d dc (.slice fa pn2 fc) v5 (k + 1) es cs) := by
     refine ⟨⟨dp.drop (i), ep.drop (i), dd ++ dp.take i ++ [Y3], eo ++ ep.take i ++ [⟨c.key, c.val, 0⟩], E2.out, fun W a b => (M2g.out W a b).drop _, fun x hx => M3.out x (List.mem_of_mem_drop hx), ?_, E5.out, fun W a b => ((M6g.out W a b).app ((M2g.out W a b).take i)).app (EnsAre.one (EI.out W b)), ?_, ?_, ?_⟩, BW4.out⟩
     ·rw [List.map_drop]; exact List.Pairwise.sublist (List.drop_sublist _ _) M4.out
     ·intro x hx
      rcases List.mem_append.1 hx with hx | hx
      ·rcases List.mem_append.1 hx with hx | hx
       ·exact M7.out x hx
       ·exact M3.out x (List.mem_of_mem_take hx)
      ·simp at hx; rw [hx]; exact YN.out
     ·have h1 := M8.out; have h2 := IL.out; have h3 := PN.out
      simp only [List.length_append, List.length_take, List.length_drop, List.length_cons, List.length_nil]
      omega
     ·rw [← M9.out, MR.out, ← DRC.out]
      simp [List.append_assoc]
    obtain ⟨o5, oc5, hv5⟩ := E5.out.form
    subst hv5
    obtain ⟨n5, hn5⟩ : ∃ n5, n5 = (dd ++ dp.take i ++ [Y3]).length := ⟨_, rfl⟩
    rw [← hn5] at MM ⊢
    clear hn5 E5 C5 APP M53 BW3 E4
    go_wp2_with fail
    go_roundw
    case rel => exact ⟨k + 1, by omega, by go_num, ⟨_, _, _, rfl⟩, ⟨_, _, _, rfl⟩, MM⟩
    case measure => simp [intOf]; omega
   | true =>
    subst hdr
    have MM : Hid (Mg w Z2 d dc (.slice fa pn2 fc) v4 (k + 1) es cs) := by
     refine ⟨⟨dp.drop (i), ep.drop (i), dd ++ dp.take i, eo ++ ep.take i, E2.out, fun W a b => (M2g.out W a b).drop _, fun x hx => M3.out x (List.mem_of_mem_drop hx), ?_, E4.out, fun W a b => (M6g.out W a b).app ((M2g.out W a b).take i), ?_, ?_, ?_⟩, BW2.out⟩
     ·rw [List.map_drop]; exact List.Pairwise.sublist (List.drop_sublist _ _) M4.out
     ·intro x hx
      rcases List.mem_append.1 hx with hx | hx
      ·exact M7.out x hx
      ·exact M3.out x (List.mem_of_mem_take hx)
     ·have h1 := M8.out; have h2 := IL.out; have h3 := PN.out
      simp only [List.length_append, List.length_take, List.length_drop]
      omega
     ·rw [← M9.out, MR.out, ← DRC.out]
      simp [List.append_assoc]
    obtain ⟨o5, oc5, hv5⟩ := E4.out.form
    subst hv5
    obtain ⟨n5, hn5⟩ : ∃ n5, n5 = (dd ++ dp.take i).length := ⟨_, rfl⟩
    rw [← hn5] at MM ⊢
    clear hn5 E4
    go_wp2_with fail
    go_roundw
    case rel => exact ⟨k + 1, by omega, by go_num, ⟨_, _, _, rfl⟩, ⟨_, _, _, rfl⟩, MM⟩
    case measure => simp [intOf]; omega
 ·obtain rfl : k = n := by omega
  have APP := hide (run_append_ens wr w.heap.size (.slice bo on oc) (.slice ao pn pc) dd dp 122 M5.out (M1.out.below BW.out) (by have h1 := M8.out; have h2 := M6.out.1; have h3 := HLEN.out; have h4 := NC.out; have h5 := M2.out.1; omega) BW.out.size)
  go_wp2_with (at_builtin; (refine wpList_append_known rfl (.tmp 48) (.tmp 49) 122 122 rfl _ _ rfl rfl APP.out ?_; rintro v4 Z2 ⟨e4, c4⟩; have E4 := hide e4; have C4 := hide c4; clear e4 c4))
  have BW2 : Hid (Below w.heap.size w Z2) := BW.out.trans (C4.out.below _ BW.out.size (fun j hj e => by have := (M5.out.blk e).1; omega))
  have FIN : eo ++ ep = S.mrg es cs := by
   have h := M9.out
   rw [List.drop_of_length_le (by have := NC.out; omega)] at h
   simpa [S.mrg] using h
  have ND : ∀ x ∈ dd ++ dp, x.nd = none := fun x hx => (List.mem_append.1 hx).elim (M7.out x) (M3.out x)
  have EA : ∀ W, EnsAre W d es → ChsAre W dc cs → EnsAre W (dd ++ dp) (S.mrg es cs) := fun W a b => by rw [← FIN]; exact (M6g.out W a b).app (M2g.out W a b)
  obtain ⟨o4, oc4, hv4⟩ := E4.out.form
  subst hv4
  go_ret
  exact ⟨_, _, rfl, E4.out, EA, ND, BW2.out⟩
end Go.Proofs.YteealihknndclaaGreatDoor
