/- A log of a law's own; begun, record. -/
/- Commit and Clear on a disk that does not stop; in plain words what each leaves. -/
/- same: whether two lists of records are one; record; begun. -/
/- record; begun: an empty log on a disk of its own; known. -/
/- known: some of chapter 4's runs. -/
import Derived.Test.YtfjkddjdmlnbnaaDoorGv
namespace Go.Proofs.YtfjkddjdmlnbnaaDoor
open Go.RowKit

/-- A log on a disk, both made behind the world w0. -/
structure Lo (w0 w : World) (o : Ow) (d : S.Dk) (g f c p t : Nat) (rs : List (List UInt8)) (tv : Value) : Prop where
  log : LogIs w o d g f c p t rs tv
  ob : ∀ k, o.has k → w0.heap.size ≤ k
  gb : w0.heap.size ≤ g
  tb : ∀ k, tv.ownBlock = some k → w0.heap.size ≤ k
  below : Below w0.heap.size w0 w
  pos : 0 < w0.heap.size
theorem LogIs.below {w W : World} {o : Ow} {d : S.Dk} {g f c p t : Nat} {rs : List (List UInt8)} {tv : Value} (h : LogIs w o d g f c p t rs tv) (hb : Below w.heap.size w W) : LogIs W o d g f c p t rs tv :=
  ⟨h.dk.below hb, h.pend, h.good, h.lg.below hb, h.no, h.pos, h.far, h.tpos⟩
theorem Lo.then {w0 w W : World} {o : Ow} {d : S.Dk} {g f c p t : Nat} {rs : List (List UInt8)} {tv : Value} (h : Lo w0 w o d g f c p t rs tv) (hb : Below w.heap.size w W) : Lo w0 W o d g f c p t rs tv :=
  ⟨h.log.below hb, h.ob, h.gb, h.tb, h.below.trans (hb.mono h.below.size), h.pos⟩
/-- No block of a disk is one of bytes. -/
theorem DkIs.bytes {w : World} {o : Ow} {d : S.Dk} {k : Nat} {cur : Array Value} (h : DkIs w o d) (hr : w.heap[k]? = some (.cells cur 5 (0, 0))) : ¬ o.has k := by
  rintro (rfl | rfl | rfl | e)
  · rw [h.row] at hr
    injection hr with hr
    injection hr with _ hty
    exact absurd hty (by decide)
  · obtain ⟨c, h1, _⟩ := h.safe.row
    rw [h1] at hr
    injection hr with hr
    injection hr with _ hty
    exact absurd hty (by decide)
  · obtain ⟨c, h1, _⟩ := h.seen.row
    rw [h1] at hr
    injection hr with hr
    injection hr with _ hty
    exact absurd hty (by decide)
  · rcases h.pend.2 with ⟨h1, _⟩ | ⟨g, cap, cc, h1, _, h2, _⟩
    · rw [h1] at e
      cases e
    · rw [h1] at e
      simp only [Value.ownBlock, Option.some.injEq] at e
      subst e
      rw [h2] at hr
      injection hr with hr
      injection hr with _ hty
      exact absurd hty (by decide)
theorem URow.block {w : World} {u : Value} {bs : List UInt8} {k : Nat} (h : URow w u bs) (hk : u.ownBlock = some k) : ∃ cur, w.heap[k]? = some (.cells cur 5 (0, 0)) := by
  rcases h.2 with ⟨h1, _⟩ | ⟨g, cap, cc, h1, _, h2, _⟩
  · rw [h1] at hk
    cases hk
  · rw [h1] at hk
    simp only [Value.ownBlock, Option.some.injEq] at hk
    subst hk
    exact ⟨cc, h2⟩
/-- Behind a Commit or a Clear that was done. -/
theorem Lo.did {w0 w w' : World} {o : Ow} {d : S.Dk} {g f c p t : Nat} {rs rs' : List (List UInt8)} {tv : Value} {e : Ending} {d' : S.Dk} {o' : Ow} {tv' : Value} (h : Lo w0 w o d g f c p t rs tv) (x : Did d (S.commitActs d f c p t rs rs') o g f c t rs rs' tv w e w' true d' o' tv') (hp : d'.pend = []) (hg : S.Good d'.safe f c (1 - p) (t + 1) rs') : Lo w0 w' o' d' g f c (1 - p) (t + 1) rs' tv' := by
  have hpt : o'.ptr = o.ptr := by unfold Ow.ptr; rw [x.moved.ptr]
  have hob : ∀ k, o'.has k → w0.heap.size ≤ k := fun k hk => by
    rcases x.moved.own k hk with e | e
    · exact h.ob k e
    · exact Nat.le_trans h.below.size e
  have htb : ∀ k, tv'.ownBlock = some k → w0.heap.size ≤ k := fun k hk => by
    rcases x.moved.text k hk with e | e
    · exact h.tb k e
    · exact Nat.le_trans h.below.size e
  have hgw := block_lt_of_row h.log.lg.row
  refine ⟨⟨x.dk, hp, hg, by rw [hpt]; exact x.yes rfl, fun e => ?_, h.log.pos, fun k hk e => ?_, fun e => ?_⟩, hob, h.gb, htb, h.below.trans (x.moved.chg.below _ h.below.size (fun k hk e => ?_)), h.pos⟩
  · rcases x.moved.own g e with e | e
    · exact h.log.no e
    · omega
  · obtain ⟨cur, hr⟩ := (x.yes rfl).text.block hk
    exact x.dk.dk.bytes hr e
  · have := htb 0 e
    have := h.pos
    omega
  · rcases e with e | e | e
    · have := h.ob k e; omega
    · have := h.gb; omega
    · have := h.tb k e; omega
end Go.Proofs.YtfjkddjdmlnbnaaDoor
namespace Go.Proofs.YtfjkddjdmlnbnaaDoor
open Go.RowKit

namespace S
/-- The sectors behind a call. -/
def after (ss : List (List UInt8)) (f c p t : Nat) (rs rs' : List (List UInt8)) : List (List UInt8) := changed f c p ss (putWs f c (enc rs') (enc rs).length) (hdOf (t + 1) rs')
/-- What a call does, stopped anywhere or done. -/
structure Calm (d : Dk) (f c p t : Nat) (rs rs' : List (List UInt8)) : Prop where
  fated : Fated d (commitActs d f c p t rs rs') (May d.safe f c p t rs rs')
  good : Good (after d.safe f c p t rs rs') f c (1 - p) (t + 1) rs'
  acts : d.acts (commitActs d f c p t rs rs') = { d with safe := after d.safe f c p t rs rs', pend := [] }
theorem commit_calm {d : Dk} {f c p t : Nat} {rs : List (List UInt8)} {b : List UInt8} (hd : d.pend = []) (g : Good d.safe f c p t rs) (ht : t + 1 < 18446744073709551616) (hr : (enc (rs ++ [b])).length ≤ S.room c) : Calm d f c p t rs (rs ++ [b]) := by
  have hl := enc_snoc_length rs b
  have hw : ∀ ss, ss.length = d.safe.length → Good ss f c p t rs → TextFor f c p t rs (rs ++ [b]) (putWs f c (enc (rs ++ [b])) (enc rs).length) ss := fun ss _ gs => by
    unfold putWs
    rw [if_neg (by omega)]
    exact textFor gs (enc_snoc rs b) hr _ _ rfl (by omega)
  have h := change_fated hd g ht hr hw
  exact ⟨h.1, h.2, change_acts hd⟩
theorem clear_calm {d : Dk} {f c p t : Nat} {rs : List (List UInt8)} (hd : d.pend = []) (g : Good d.safe f c p t rs) (ht : t + 1 < 18446744073709551616) : Calm d f c p t rs [] := by
  have hw : ∀ ss, ss.length = d.safe.length → Good ss f c p t rs → TextFor f c p t rs [] (putWs f c (enc []) (enc rs).length) ss := fun ss _ gs => by
    unfold putWs
    rw [if_pos (show (enc []).length ≤ _ from Nat.zero_le _)]
    exact textFor_none gs
  have h := change_fated hd g ht (Nat.zero_le _) hw
  exact ⟨h.1, h.2, change_acts hd⟩
theorem Calm.may {d : Dk} {f c p t : Nat} {rs rs' : List (List UInt8)} (h : Calm d f c p t rs rs') : May d.safe f c p t rs rs' (after d.safe f c p t rs rs') := by
  have := h.fated _ (Nat.le_refl _) ⟨[], 0, 0⟩
  rw [List.take_length, h.acts, Dk.crash_flushed _ rfl] at this
  exact this
theorem Calm.plan {d : Dk} {f c p t : Nat} {rs rs' : List (List UInt8)} (h : Calm d f c p t rs rs') (hl : d.left = none) : d.plan (commitActs d f c p t rs rs') = ({ d with safe := after d.safe f c p t rs rs', pend := [] }, true) := by
  have := Dk.plan_goes (commitActs d f c p t rs rs') d hl
  rw [← h.acts, ← this.2, ← this.1]
end S
/-- Behind a call that was done. -/
structure Went (w0 w : World) (o : Ow) (d : S.Dk) (g f c p t : Nat) (rs rs' : List (List UInt8)) (tv : Value) (w' : World) (o' : Ow) (tv' : Value) : Prop where
  lo : Lo w0 w' o' { d with safe := S.after d.safe f c p t rs rs', pend := [] } g f c (1 - p) (t + 1) rs' tv'
  moved : LogTo o g tv w o' tv' w'
theorem commit_go (w0 w : World) (o : Ow) (d : S.Dk) (g f c p t : Nat) (rs : List (List UInt8)) (tv : Value) (bo : Option Addr) (n bc : Nat) (b : List UInt8) (hL : Lo w0 w o d g f c p t rs tv) (hl : d.left = none) (ht : t + 1 < 18446744073709551616)
    (hv : ∀ W, Chg (fun k => k = g ∨ tv.ownBlock = some k) w W → SliceAt W (.slice bo n bc) b) (hb : b ≠ []) (hfit : b.length ≤ S.room c - (S.enc rs).length - 3) :
   Calls Tryd.prog 11 #[.pointer (some ⟨g, 0, none⟩), .slice bo n bc] w fun e w' => e = .returned (.int .i64 0) ∧ ∃ o' tv', Went w0 w o d g f c p t rs (rs ++ [b]) tv w' o' tv' := by
  have hpos := List.length_pos_iff.2 hb
  have cm := S.commit_calm (b := b) hL.log.pend hL.log.good ht (by rw [S.enc_snoc_length]; omega)
  refine (commit_any o d g f c p t rs tv bo n bc b w hL.log ht hv hb hfit).mono ?_
  rintro e w' ⟨bb, d', o', tv', x⟩
  have hp := x.plan
  rw [cm.plan hl, Prod.mk.injEq] at hp
  obtain ⟨rfl, rfl⟩ := hp
  exact ⟨x.ret, o', tv', hL.did x rfl cm.good, x.moved⟩
theorem clear_go (w0 w : World) (o : Ow) (d : S.Dk) (g f c p t : Nat) (rs : List (List UInt8)) (tv : Value) (hL : Lo w0 w o d g f c p t rs tv) (hl : d.left = none) (ht : t + 1 < 18446744073709551616) :
   Calls Tryd.prog 26 #[.pointer (some ⟨g, 0, none⟩)] w fun e w' => e = .returned (.int .i64 0) ∧ ∃ o' tv', Went w0 w o d g f c p t rs [] tv w' o' tv' := by
  have cm := S.clear_calm hL.log.pend hL.log.good ht
  refine (clear_any o d g f c p t rs tv w hL.log ht).mono ?_
  rintro e w' ⟨bb, d', o', tv', x⟩
  have hp := x.plan
  rw [cm.plan hl, Prod.mk.injEq] at hp
  obtain ⟨rfl, rfl⟩ := hp
  exact ⟨x.ret, o', tv', hL.did x rfl cm.good, x.moved⟩
theorem LgIs.has {w : World} {g : Nat} {p : Value} {f c t : Nat} {rs : List (List UInt8)} {tv : Value} (h : LgIs w g p f c t rs tv) (hm : (S.enc rs).length ≤ 10000000) : LgHas w g p f c t rs tv true := ⟨h.row, ⟨_, h.text, List.prefix_refl _, hm⟩, h.sep⟩
theorem records_go (w0 w : World) (o : Ow) (d : S.Dk) (g f c p t : Nat) (rs : List (List UInt8)) (tv : Value) (hL : Lo w0 w o d g f c p t rs tv) (hne : ∀ r ∈ rs, r ≠ []) :
   Calls Tryd.prog 13 #[.pointer (some ⟨g, 0, none⟩)] w fun e w' => ∃ lv us, e = .returned lv ∧ Recs w w' lv us rs ∧ Below w.heap.size w w' := by
  have h1 := hL.log.good.room
  have h2 := S.room_le hL.log.good.most
  exact records_any o.ptr f c t g rs tv true w (hL.log.lg.has (by omega)) hL.log.good.hd (by omega) hne
theorem open_go (w0 w : World) (o : Ow) (d : S.Dk) (f c p t : Nat) (rs : List (List UInt8)) (hd : Dsk w o d) (hp : d.pend = []) (hg : S.Good d.safe f c p t rs) (ho : ∀ k, o.has k → w0.heap.size ≤ k) (hb : Below w0.heap.size w0 w) (h0 : 0 < w0.heap.size) :
   Calls Tryd.prog 15 #[o.ptr, .int .i64 (f : Int), .int .i64 (c : Int)] w fun e w' => ∃ g tv, e = .returned (.tuple #[.pointer (some ⟨g, 0, none⟩), .int .i64 0]) ∧ Lo w0 w' o d g f c p t rs tv ∧ w.heap.size ≤ g ∧ (∀ k, tv.ownBlock = some k → w.heap.size ≤ k) ∧ Below w.heap.size w w' := by
  refine (open_yes o d f c p t rs w hd (by rw [S.Dk.seen_flushed _ hp]; exact hg)).mono ?_
  rintro e w' ⟨g, tv, rfl, hl, hgb, htb, hbb⟩
  have hs := hb.size
  refine ⟨g, tv, rfl, ⟨⟨hd.below hbb, hp, hg, hl, fun e => ?_, by omega, fun k hk e => ?_, fun e => ?_⟩, ho, by omega, fun k hk => by have := htb k hk; omega, hb.trans (hbb.mono hs), h0⟩, hgb, htb, hbb⟩
  · have := hd.dk.lt g e; omega
  · have := hd.dk.lt k e; have := htb k hk; omega
  · have := htb 0 e; omega
end Go.Proofs.YtfjkddjdmlnbnaaDoor
namespace Go.Proofs.YtfjkddjdmlnbnaaDoor
open Go.RowKit

theorem yieldsIf_conv {ops : Array Oper} {T : World → Prop} {op : Oper} {a : Act} (hw : Region.wanted op (yielded ops a.tmps) = true) (x : Operand) (ho : op.op = .convert 29 9 x) (v : Value) (hx : a.eval x = v) (bs : List UInt8) (hS : ∀ w, T w → SliceAt w v bs) : YieldsIf Tryd.prog ops T op (.string ⟨bs.toArray⟩) a :=
  Or.inl ⟨hw, fun w hw' => by
    unfold execOp
    simp only [ho, Sem.run_bind, hx, conv_slice (hS w hw'), Result.andThen_ok, Sem.run_pure]⟩
/-- A [][]byte that reads as these lists. -/
def LsAt (w : World) (v : Value) (rs : List (List UInt8)) : Prop := ∃ vs, Lists w v vs ∧ Reads w vs rs
theorem LsAt.below {w W : World} {v : Value} {rs : List (List UInt8)} (h : LsAt w v rs) (hb : Below w.heap.size w W) : LsAt W v rs := by
  obtain ⟨vs, h1, h2⟩ := h
  exact ⟨vs, h1.kept fun k hk => hb.block k (h1.lt hk), h2.below hb⟩
theorem str_ne (xs ys : List UInt8) : (!(xs == ys)) = decide (xs ≠ ys) := by
  by_cases h : xs = ys <;> simp [h]
set_option maxHeartbeats 4000000 in
set_option maxRecDepth 10000 in
theorem sameL_any (v u : Value) (rs ss : List (List UInt8)) (w : World) (hv : LsAt w v rs) (hu : LsAt w u ss) (hm : rs.length ≤ 1000000) :
   Calls Tryd.prog 17 #[v, u] w fun e w' => e = .returned (.bool (decide (rs = ss))) ∧ Still w w' := by
  obtain ⟨vs, hL, hR⟩ := hv
  obtain ⟨us, hL2, hR2⟩ := hu
  obtain ⟨ao, c, hva⟩ := hL.shape
  obtain ⟨ao2, c2, hua⟩ := hL2.shape
  subst hva hua
  have HL := hide hL
  have HL2 := hide hL2
  have HR := hide hR
  have HR2 := hide hR2
  obtain ⟨N, hN⟩ : ∃ N, N = vs.length := ⟨_, rfl⟩
  obtain ⟨M, hM⟩ : ∃ M, M = us.length := ⟨_, rfl⟩
  rw [← hN] at HL ⊢
  rw [← hM] at HL2 ⊢
  have HN : Hid (N = rs.length ∧ N = vs.length) := ⟨hN.trans hR.1, hN⟩
  have HM : Hid (M = ss.length ∧ M = us.length) := ⟨hM.trans hR2.1, hM⟩
  have hN6 : N ≤ 1000000 := by rw [hN, hR.1]; exact hm
  clear hL hL2 hR hR2 hN hM
  by_cases hnm : N = M
  · subst hnm
    go_enter Tryd.func17, Tryd.ntmps17
    go_wp2_with fail
    go_loopw [5] (fun i wr => ∃ k : Nat, k ≤ N ∧ i = .int .i64 (k : Int) ∧ (∀ j, j < k → rs.getD j [] = ss.getD j []) ∧ Still w wr) (fun i _ => N - (intOf i).toNat)
    case atStart => exact ⟨0, Nat.zero_le _, rfl, (fun j hj => absurd hj (Nat.not_lt_zero _)), Still.refl _⟩
    case round =>
      obtain ⟨k, hk, rfl, hE, hS⟩ := hrel
      have HE := hide hE
      have ST := hide hS
      clear hE hS
      by_cases hlt : k < N
      · obtain ⟨gl, off, cc, hlv, hcap, hcell⟩ := HL.out.at k (by rw [← HN.out.2]; exact hlt)
        simp only [Value.slice.injEq] at hlv
        obtain ⟨rfl, hz0, rfl⟩ := hlv
        obtain ⟨gl2, off2, cc2, hlv2, hcap2, hcell2⟩ := HL2.out.at k (by rw [← HM.out.2]; exact hlt)
        simp only [Value.slice.injEq] at hlv2
        obtain ⟨rfl, hz1, rfl⟩ := hlv2
        have s1 := HR.out.2 k (by rw [← HN.out.1]; exact hlt)
        have s2 := HR2.out.2 k (by rw [← HM.out.1]; exact hlt)
        obtain ⟨a1, n1, d1, e1, hz2, hz3⟩ := s1.form
        obtain ⟨a2, n2, d2, e2, hz4, hz5⟩ := s2.form
        rw [e1] at s1 hcell
        rw [e2] at s2 hcell2
        obtain ⟨X, hX⟩ : ∃ X, X = rs.getD k [] := ⟨_, rfl⟩
        obtain ⟨Y, hY⟩ : ∃ Y, Y = ss.getD k [] := ⟨_, rfl⟩
        rw [← hX] at s1
        rw [← hY] at s2
        have HXY : Hid (X = rs.getD k [] ∧ Y = ss.getD k []) := ⟨hX, hY⟩
        have S1 := hide s1
        have S2 := hide s2
        have C1 := hide hcell
        have C2 := hide hcell2
        have q1 : (0 : Int) ≤ (k : Int) := by omega
        have q2 : (k : Int) < (N : Int) := by omega
        have q3 : IntKind.i64.wrap ((k : Int) + 1) = (k : Int) + 1 := by rw [IntKind.wrap_i64]; omega
        clear hcap hcap2 hz0 hz1 hz2 hz3 hz4 hz5 e1 e2 s1 s2 hX hY hcell hcell2
        go_upto_region 6 with fail
        refine wp_region_noPanic ?_
        refine wp_region_held_drew (S := (fun W => W.heap = w.heap)) follows ST.out.1 (fun hHeld => ?_)
        have STd : Hid (Still w wr.drew) := ST.out.drew
        clear ST
        generalize wr.drew = Z1 at STd hHeld ⊢
        refine wpAnyH_take (i := 0) (oi := { dst := some 17, op := Op.move (Operand.tmp 0), type := 31, pos := "law.go:43", after := #[], guard := none }) (v := ?_) rfl (by kernel_rfl) (by kernel_rfl) (by kernel_rfl) (fun _ _ _ h => h) (Or.inl ⟨by rfl, ?_⟩) (by assumption) ?_
        rotate_left
        · intro w hSw
          clear hSw
          go_simp
          all_goals with_reducible rfl
        simp only [Act.put, List.setIfInBounds_toArray, List.set_cons_zero, List.set_cons_succ]
        refine wpAnyH_take (i := 1) (oi := { dst := some 18, op := Op.move (Operand.tmp 5), type := 3, pos := "law.go:43", after := #[], guard := none }) (v := ?_) rfl (by kernel_rfl) (by kernel_rfl) (by kernel_rfl) (fun _ _ _ h => h) (Or.inl ⟨by rfl, ?_⟩) (by assumption) ?_
        rotate_left
        · intro w hSw
          clear hSw
          go_simp
          all_goals with_reducible rfl
        simp only [Act.put, List.setIfInBounds_toArray, List.set_cons_zero, List.set_cons_succ]
        refine wpAnyH_take (i := 2) (oi := { dst := some 19, op := Op.indexAddr 31 (Operand.tmp 17) (Operand.tmp 18), type := 0, pos := "law.go:43", after := #[{ on := 0, ground := Ground.data }, { on := 1, ground := Ground.data }], guard := none }) (v := ?_) rfl (by kernel_rfl) (by kernel_rfl) (by kernel_rfl) (fun _ _ _ h => h) (Or.inl ⟨by rfl, ?_⟩) (by assumption) ?_
        rotate_left
        · intro w hSw
          clear hSw
          go_simp
          all_goals with_reducible rfl
        simp only [Act.put, List.setIfInBounds_toArray, List.set_cons_zero, List.set_cons_succ]
        refine wpAnyH_take (i := 3) (oi := { dst := some 20, op := Op.load 29 (Operand.tmp 19), type := 29, pos := "law.go:43", after := #[{ on := 2, ground := Ground.data }], guard := none }) (v := ?_) rfl (by kernel_rfl) (by kernel_rfl) (by kernel_rfl) (fun _ _ _ h => h) (Or.inl ⟨by rfl, ?_⟩) (by assumption) ?_
        rotate_left
        · intro w hSw
          have c1 := (World.cell?_of_block (a := ⟨gl, off + k, none⟩) (by rw [hSw])).trans C1.out
          clear hSw
          go_simp
          all_goals with_reducible rfl
        simp only [Act.put, List.setIfInBounds_toArray, List.set_cons_zero, List.set_cons_succ]
        refine wpAnyH_take (i := 4) (oi := { dst := some 21, op := Op.convert 29 9 (Operand.tmp 20), type := 9, pos := "law.go:43", after := #[{ on := 3, ground := Ground.data }], guard := none }) (v := .string ⟨(X).toArray⟩) rfl (by kernel_rfl) (by kernel_rfl) (by kernel_rfl) (fun _ _ _ h => h) (yieldsIf_conv (by kernel_rfl) (.tmp 20) rfl (.slice a1 n1 d1) rfl (X) (fun W hW => S1.out.of_heap hW)) (by assumption) ?_
        simp only [Act.put, List.setIfInBounds_toArray, List.set_cons_zero, List.set_cons_succ]
        refine wpAnyH_take (i := 5) (oi := { dst := some 22, op := Op.move (Operand.tmp 1), type := 31, pos := "law.go:43", after := #[], guard := none }) (v := ?_) rfl (by kernel_rfl) (by kernel_rfl) (by kernel_rfl) (fun _ _ _ h => h) (Or.inl ⟨by rfl, ?_⟩) (by assumption) ?_
        rotate_left
        · intro w hSw
          clear hSw
          go_simp
          all_goals with_reducible rfl
        simp only [Act.put, List.setIfInBounds_toArray, List.set_cons_zero, List.set_cons_succ]
        refine wpAnyH_take (i := 6) (oi := { dst := some 23, op := Op.move (Operand.tmp 5), type := 3, pos := "law.go:43", after := #[], guard := none }) (v := ?_) rfl (by kernel_rfl) (by kernel_rfl) (by kernel_rfl) (fun _ _ _ h => h) (Or.inl ⟨by rfl, ?_⟩) (by assumption) ?_
        rotate_left
        · intro w hSw
          clear hSw
          go_simp
          all_goals with_reducible rfl
        simp only [Act.put, List.setIfInBounds_toArray, List.set_cons_zero, List.set_cons_succ]
        refine wpAnyH_take (i := 7) (oi := { dst := some 24, op := Op.indexAddr 31 (Operand.tmp 22) (Operand.tmp 23), type := 0, pos := "law.go:43", after := #[{ on := 5, ground := Ground.data }, { on := 6, ground := Ground.data }], guard := none }) (v := ?_) rfl (by kernel_rfl) (by kernel_rfl) (by kernel_rfl) (fun _ _ _ h => h) (Or.inl ⟨by rfl, ?_⟩) (by assumption) ?_
        rotate_left
        · intro w hSw
          clear hSw
          go_simp
          all_goals with_reducible rfl
        simp only [Act.put, List.setIfInBounds_toArray, List.set_cons_zero, List.set_cons_succ]
        refine wpAnyH_take (i := 8) (oi := { dst := some 25, op := Op.load 29 (Operand.tmp 24), type := 29, pos := "law.go:43", after := #[{ on := 7, ground := Ground.data }], guard := none }) (v := ?_) rfl (by kernel_rfl) (by kernel_rfl) (by kernel_rfl) (fun _ _ _ h => h) (Or.inl ⟨by rfl, ?_⟩) (by assumption) ?_
        rotate_left
        · intro w hSw
          have c2 := (World.cell?_of_block (a := ⟨gl2, off2 + k, none⟩) (by rw [hSw])).trans C2.out
          clear hSw
          go_simp
          all_goals with_reducible rfl
        simp only [Act.put, List.setIfInBounds_toArray, List.set_cons_zero, List.set_cons_succ]
        refine wpAnyH_take (i := 9) (oi := { dst := some 26, op := Op.convert 29 9 (Operand.tmp 25), type := 9, pos := "law.go:43", after := #[{ on := 8, ground := Ground.data }], guard := none }) (v := .string ⟨(Y).toArray⟩) rfl (by kernel_rfl) (by kernel_rfl) (by kernel_rfl) (fun _ _ _ h => h) (yieldsIf_conv (by kernel_rfl) (.tmp 25) rfl (.slice a2 n2 d2) rfl (Y) (fun W hW => S2.out.of_heap hW)) (by assumption) ?_
        simp only [Act.put, List.setIfInBounds_toArray, List.set_cons_zero, List.set_cons_succ]
        refine wpAnyH_take (i := 10) (oi := { dst := some 27, op := Op.binOp BinOp.neq 9 (Operand.tmp 21) (Operand.tmp 26) 9, type := 4, pos := "law.go:43", after := #[{ on := 4, ground := Ground.data }, { on := 9, ground := Ground.data }], guard := none }) (v := ?_) rfl (by kernel_rfl) (by kernel_rfl) (by kernel_rfl) (fun _ _ _ h => h) (Or.inl ⟨by rfl, ?_⟩) (by assumption) ?_
        rotate_left
        · intro w hSw
          clear hSw
          go_simp
          all_goals with_reducible rfl
        simp only [Act.put, List.setIfInBounds_toArray, List.set_cons_zero, List.set_cons_succ]
        refine wpAnyH_done (by kernel_rfl) ?_ _
        refine NoPanic.normal ?_
        clear hHeld
        have hne := str_ne X Y
        by_cases hxy : X = Y
        · rw [decide_eq_false (fun h => h hxy)] at hne
          rw [hne]
          have HE2 : Hid (∀ j, j < k + 1 → rs.getD j [] = ss.getD j []) := fun j hj => by
            by_cases e : j = k
            · rw [e, ← HXY.out.1, ← HXY.out.2]; exact hxy
            · exact HE.out j (by omega)
          clear hxy hne
          go_wp2_with fail
          go_roundw
          case rel => exact ⟨k + 1, by omega, by go_num, HE2.out, STd.out⟩
          case measure => simp [intOf]; omega
        · rw [decide_eq_true hxy] at hne
          rw [hne]
          have HF : Hid (decide (rs = ss) = false) := by
            refine decide_eq_false fun e => hxy ?_
            rw [HXY.out.1, HXY.out.2, e]
          clear hxy hne
          go_wp2_with fail
          go_ret
          exact ⟨by rw [HF.out]; rfl, STd.out⟩
      · have q2 : ¬ ((k : Int) < (N : Int)) := by omega
        have HT : Hid (decide (rs = ss) = true) := by
          refine decide_eq_true (List.ext_getElem (by rw [← HN.out.1, ← HM.out.1]) fun j h1 h2 => ?_)
          have := HE.out j (by rw [← HN.out.1] at h1; omega)
          rw [List.getD_eq_getElem?_getD, List.getD_eq_getElem?_getD, List.getElem?_eq_getElem h1, List.getElem?_eq_getElem h2] at this
          simpa using this
        go_wp2_with fail
        go_ret
        exact ⟨by rw [HT.out]; rfl, ST.out⟩
  · have q : ¬ (N : Int) = (M : Int) := by omega
    have q' : ((N : Int) == (M : Int)) = false := beq_false_of_ne q
    have HF : Hid (decide (rs = ss) = false) := by
      refine decide_eq_false fun e => hnm ?_
      rw [HN.out.1, HM.out.1, e]
    clear hnm
    go_enter Tryd.func17, Tryd.ntmps17
    go_wp2_with fail
    go_ret
    exact ⟨by rw [HF.out]; rfl, Still.refl _⟩
end Go.Proofs.YtfjkddjdmlnbnaaDoor
namespace Go.Proofs.YtfjkddjdmlnbnaaDoor
open Go.RowKit

namespace S
/-- The statements' record: so many bytes. -/
def rec (n : Nat) (c : UInt8) : List UInt8 := (List.range n).map fun i => c + UInt8.ofNat (i * i)
theorem rec_length (n : Nat) (c : UInt8) : (rec n c).length = n := by simp [rec]
theorem rec_ne (n : Nat) (c : UInt8) (h : 0 < n) : rec n c ≠ [] := fun e => by have := rec_length n c; rw [e] at this; simp at this; omega
/-- The first k bytes are there. -/
def recTo (n : Nat) (c : UInt8) (k : Nat) : List UInt8 := rec k c ++ zeros (n - k)
theorem recTo_length (n : Nat) (c : UInt8) (k : Nat) (h : k ≤ n) : (recTo n c k).length = n := by simp [recTo, rec_length, zeros_length]; omega
theorem recTo_set (n : Nat) (c : UInt8) (k : Nat) (h : k < n) : (recTo n c k).set k (c + UInt8.ofNat (k * k)) = recTo n c (k + 1) := by
  unfold recTo
  have e : zeros (n - k) = 0 :: zeros (n - (k + 1)) := by
    unfold zeros
    rw [show n - k = (n - (k + 1)) + 1 from by omega, List.replicate_succ]
  have e2 : rec (k + 1) c = rec k c ++ [c + UInt8.ofNat (k * k)] := by simp [rec, List.range_succ]
  rw [List.set_append_right _ _ (by rw [rec_length]; omega), rec_length, Nat.sub_self, e, List.set_cons_zero, e2, List.append_assoc]
  rfl
end S
theorem sq_byte (c : UInt8) (k : Nat) : ((c.toNat : Int) + (k : Int) * (k : Int)) % 256 = ((c + UInt8.ofNat (k * k)).toNat : Int) := by
  have h : (k : Int) * (k : Int) = ((k * k : Nat) : Int) := by simp
  rw [h, UInt8.toNat_add, UInt8.toNat_ofNat']
  generalize k * k = m
  omega
set_option maxHeartbeats 1600000 in
set_option maxRecDepth 10000 in
theorem record_any (n : Nat) (c : UInt8) (w : World) (hn : n ≤ 100000) :
   Calls Tryd.prog 20 #[.int .i64 (n : Int), .int .u8 (c.toNat : Int)] w fun e w' => ∃ g, e = .returned (.slice (some ⟨g, 0, none⟩) n n) ∧ w.heap.size ≤ g ∧ w'.heap[g]? = some (.cells (S.v8 (S.rec n c)) 5 (0, 0)) ∧ Below w.heap.size w w' := by
  have hmk : ∀ w : World, (Instr.makeSlice 29 (.int .i64 (n : Int)) (.int .i64 (n : Int))).run Tryd.prog w = .ok (.slice (some ⟨w.heap.size, 0, none⟩) n n) (w.alloc (.cells (S.v8 (S.zeros n)) 5)) := fun w => make_bytes_big n (by omega) w
  obtain ⟨w1, hw1⟩ : ∃ w1, w1 = w.alloc (.cells (S.v8 (S.zeros n)) 5) := ⟨_, rfl⟩
  have R1 : Hid (w1.heap[w.heap.size]? = some (.cells (S.v8 (S.recTo n c 0)) 5 (0, 0))) := by
    have e : S.recTo n c 0 = S.zeros n := by simp [S.recTo, S.rec]
    rw [hw1, e]; exact heap_alloc_new _ _
  have B1 : Hid (Below w.heap.size w w1) := by rw [hw1]; exact (Below.refl _ _).alloc (Nat.le_refl _) _
  obtain ⟨g, hg⟩ : ∃ g, g = w.heap.size := ⟨_, rfl⟩
  rw [← hg] at R1
  have HG := hide hg
  go_enter Tryd.func20, Tryd.ntmps20
  go_upto_region 2 with fail
  rw [← hw1, ← hg]
  clear hw1 hg hmk
  go_wp2_with fail
  go_loopw [6] (fun i wr => ∃ k : Nat, k ≤ n ∧ i = .int .i64 (k : Int) ∧ wr.heap[g]? = some (.cells (S.v8 (S.recTo n c k)) 5 (0, 0)) ∧ Below w.heap.size w wr) (fun i _ => n - (intOf i).toNat)
  case atStart => exact ⟨0, Nat.zero_le _, rfl, R1.out, B1.out⟩
  case round =>
    obtain ⟨k, hk, rfl, hr, hb⟩ := hrel
    by_cases hlt : k < n
    · have hll := S.recTo_length n c k hk
      have c1 := v8_cell hr k (by omega)
      have f1 := frozen_of_row _ _ k _ _ hr
      have V1 := hide (v8_set hr k (c + UInt8.ofNat (k * k)))
      rw [S.recTo_set n c k hlt] at V1
      have V3 := hide (hb.setCell (p := ⟨g, k, none⟩) (by rw [HG.out]; exact Nat.le_refl _) (.int .u8 ((c + UInt8.ofNat (k * k)).toNat : Int)))
      have q1 : (0 : Int) ≤ (k : Int) := by omega
      have q2 : (k : Int) < (n : Int) := by omega
      have q4 : IntKind.i64.wrap ((k : Int) + 1) = (k : Int) + 1 := by rw [IntKind.wrap_i64]; omega
      have hkk : k * k ≤ 10000000000 := by
        have := Nat.mul_le_mul (show k ≤ 100000 by omega) (show k ≤ 100000 by omega)
        omega
      have q5 : IntKind.i64.wrap ((k : Int) * (k : Int)) = (k : Int) * (k : Int) := by
        have h : (k : Int) * (k : Int) = ((k * k : Nat) : Int) := by simp
        rw [h, IntKind.wrap_i64]
        omega
      have q6 := sq_byte c k
      obtain ⟨y, hy⟩ : ∃ y : UInt8, y = c + UInt8.ofNat (k * k) := ⟨_, rfl⟩
      rw [← hy] at q6 V1 V3
      clear hr hb hll hy hkk
      go_wp2
      go_roundw
      case rel => exact ⟨k + 1, by omega, by go_num, V1.out, V3.out⟩
      case measure => simp [intOf]; omega
    · obtain rfl : k = n := by omega
      have q2 : ¬ ((k : Int) < (k : Int)) := by omega
      have e : S.recTo k c k = S.rec k c := by simp [S.recTo, S.zeros]
      rw [e] at hr
      have A := hide hr
      have B := hide hb
      clear hr hb e
      go_wp2
      go_ret
      exact ⟨g, rfl, by rw [HG.out]; exact Nat.le_refl _, A.out, B.out⟩
/-- The disk of a log that was begun. -/
def S.begunDk (n f c : Nat) : S.Dk := { safe := S.formed (List.replicate n (S.zeros 128)) f c, pend := [], left := none }
set_option maxHeartbeats 4000000 in
set_option maxRecDepth 10000 in
theorem begun_any (n f c : Nat) (w0 w : World) (hn : n ≤ 8192) (hf : f + c ≤ n) (h4 : 4 ≤ c) (hb : Below w0.heap.size w0 w) (h0 : 0 < w0.heap.size) (hK : KAt w) :
   Calls Tryd.prog 9 #[.int .i64 (n : Int), .int .i64 (f : Int), .int .i64 (c : Int)] w fun e w' => ∃ o g tv, e = .returned (.tuple #[o.ptr, .pointer (some ⟨g, 0, none⟩), .bool true]) ∧ Lo w0 w' o (S.begunDk n f c) g f c 0 0 [] tv ∧ (∀ k, o.has k → w.heap.size ≤ k) ∧ w.heap.size ≤ g ∧ (∀ k, tv.ownBlock = some k → w.heap.size ≤ k) ∧ Below w.heap.size w w' := by
  have HB := hide hb
  have HK := hide hK
  have HH0 := hide h0
  have HF : Hid (f + c ≤ n) := hf
  clear hb hK h0 hf
  go_enter Tryd.func9, Tryd.ntmps9
  go_wp2_with fail
  refine (new_any n w (by have := HF.out; omega) hn).mono ?_
  rintro e w1 ⟨o, rfl, hd, ho, b1⟩
  have hs0 := HB.out.size
  have HD1 : Hid (Dsk w1 o (S.Dk.new n)) := ⟨hd, HK.out.below b1 HK.out.pos, fun e => by have := ho 0 e; have := HH0.out; omega⟩
  have HO := hide ho
  have B1 := hide b1
  have hptr : o.ptr = .pointer (some ⟨o.g, 0, none⟩) := rfl
  rw [hptr]
  clear hd ho b1
  go_wp2_with fail
  rw [← hptr]
  have hz : ∀ k, 2 ≤ k → k < c → (S.Dk.new n).seen.getD (f + k) [] = S.zeros 128 := fun k _ h2 => by
    show (List.replicate n (S.zeros 128)).getD (f + k) [] = _
    rw [List.getD_eq_getElem?_getD, List.getElem?_replicate, if_pos (by have := HF.out; omega)]
    rfl
  have HZ := hide hz
  refine (format_yes o (S.Dk.new n) f c w1 HD1.out (by show f + c ≤ (List.replicate n (S.zeros 128)).length; simp; exact HF.out) h4 (Nat.zero_le _) HZ.out).mono ?_
  rintro e w2 ⟨rfl, o2, h2, h3⟩
  have pg := S.Dk.plan_goes (S.fmtActs f c) (S.Dk.new n) rfl
  have pd : (S.Dk.new n).plan (S.fmtActs f c) = (S.begunDk n f c, true) := by
    rw [← pg.1, ← show (S.Dk.new n).acts (S.fmtActs f c) = S.begunDk n f c from S.fmt_acts _ _ _, ← pg.2]
  rw [pd] at h2 ⊢
  have e0 : S.why (S.begunDk n f c, true).2 = 0 := rfl
  rw [e0]
  have HD2 := hide (HD1.out.to h2 h3)
  have HO2 : Hid (∀ k, o2.has k → w.heap.size ≤ k) := fun k hk => by
    rcases h3.own k hk with e | e
    · exact HO.out k e
    · exact Nat.le_trans B1.out.size e
  have B2 : Hid (Below w.heap.size w w2) := B1.out.trans (h3.chg.below _ B1.out.size (fun k hk e => by have := HO.out k e; omega))
  have HPT : Hid (o2.ptr = o.ptr) := by show o2.ptr = o.ptr; unfold Ow.ptr; rw [h3.g]
  have HG : Hid (S.Good (S.begunDk n f c).safe f c 0 0 []) := S.formed_good (by simp; exact HF.out) h4 (by have := HF.out; omega) (fun k h1 h2 => hz k h1 h2)
  clear hz h2 h3 pg pd e0 hptr
  have hptr : o2.ptr = .pointer (some ⟨o2.g, 0, none⟩) := rfl
  rw [← HPT.out, hptr]
  go_wp2_with fail
  rw [← hptr]
  refine (open_go w0 w2 o2 (S.begunDk n f c) f c 0 0 [] HD2.out rfl HG.out (fun k hk => Nat.le_trans HB.out.size (HO2.out k hk)) (HB.out.trans (B2.out.mono HB.out.size)) HH0.out).mono ?_
  rintro e w3 ⟨g, tv, rfl, hlo, hg, ht, b3⟩
  have LO := hide hlo
  have GB : Hid (w.heap.size ≤ g) := Nat.le_trans B2.out.size hg
  have TB : Hid (∀ k, tv.ownBlock = some k → w.heap.size ≤ k) := fun k hk => Nat.le_trans B2.out.size (ht k hk)
  have B3 := hide (B2.out.trans (b3.mono B2.out.size))
  clear hlo hg ht b3
  go_wp2_with fail
  go_ret3
  exact ⟨o2, g, tv, rfl, LO.out, HO2.out, GB.out, TB.out, B3.out⟩
end Go.Proofs.YtfjkddjdmlnbnaaDoor
namespace Go.Proofs.YtfjkddjdmlnbnaaDoor
open Go.RowKit

theorem Recs.ls {w0 w : World} {lv : Value} {us : List Value} {rs : List (List UInt8)} (h : Recs w0 w lv us rs) (hm : (S.enc rs).length ≤ 10000000) : LsAt w lv rs := ⟨us, h.lists, h.reads fun _ hr => Nat.le_trans (mem_enc hr) (by omega)⟩
theorem one_ls {w : World} {gy : Nat} {x : Value} {xs : List UInt8} (h : w.heap[gy]? = some (.cells #[x] 29 (0, 0))) (hx : SliceAt w x xs) : LsAt w (.slice (some ⟨gy, 0, none⟩) 1 1) [xs] := by
  refine ⟨[x], Or.inr ⟨gy, 0, 1, #[x], rfl, h, by simp, by simp, fun j y hy => ?_⟩, rfl, fun j hj => ?_⟩
  · rw [Nat.zero_add]
    simpa using hy
  · obtain rfl : j = 0 := by simpa using hj
    exact hx
theorem slice_mark {w : World} {g : Nat} {xs : List UInt8} {fr : Nat × Nat} (h : w.heap[g]? = some (.cells (S.v8 xs) 5 fr)) (hl : xs.length ≤ 140737488355328) : SliceAt w (.slice (some ⟨g, 0, none⟩) xs.length xs.length) xs :=
  Or.inr (Or.inr ⟨g, 0, xs.length, rfl, Nat.le_refl _, hl, block_lt_of_row h, fun j hj => by
    rw [Nat.zero_add, cell_of_row w g j _ 5 fr h]
    simp [S.v8, hj]⟩)
/-- A slice of a block that no log's call changes. -/
theorem keeps_row {w : World} {g gx : Nat} {tv : Value} {xs : List UInt8} {fr : Nat × Nat} (hx : w.heap[gx]? = some (.cells (S.v8 xs) 5 fr)) (hg : gx ≠ g) (ht : tv.ownBlock ≠ some gx) (hl : xs.length ≤ 1000000) :
    ∀ W, Chg (fun k => k = g ∨ tv.ownBlock = some k) w W → SliceAt W (.slice (some ⟨gx, 0, none⟩) xs.length xs.length) xs := fun W hW =>
  slice_mark (hW.row hx (fun e => by rcases e with e | e; exact hg e; exact ht e)) (by omega)
set_option maxHeartbeats 4000000 in
set_option maxRecDepth 10000 in
theorem known_any (w : World) (hK : KAt w) : Calls Tryd.prog 19 #[] w fun e w' => e = .returned (.bool true) ∧ Below w.heap.size w w' := by
  have HK := hide hK
  have HP : Hid (0 < w.heap.size) := hK.pos
  have kc := fun (w : World) (C : Array Value) (n c : Nat) => Lib.run_convert_bytes_const (P := Tryd.prog) w 29 5 C n c Tryd.underlying29 Tryd.underlying5
  clear hK
  go_enter Tryd.func19, Tryd.ntmps19
  go_wp2_with fail
  refine (begun_any 20 2 16 w w (by omega) (by omega) (by omega) (Below.refl _ _) HP.out HK.out).mono ?_
  rintro e w1 ⟨o, g, tv, rfl, hlo, hob, hgb, htb, b1⟩
  have B1 := hide b1
  obtain ⟨w2, hw2⟩ : ∃ w2, w2 = w1.alloc (.cells #[.int .u8 97] 5 (1, 2)) := ⟨_, rfl⟩
  have b2 : Below w1.heap.size w1 w2 := by rw [hw2]; exact (Below.refl _ _).alloc (Nat.le_refl _) _
  have r2 : w2.heap[w1.heap.size]? = some (.cells (S.v8 [97]) 5 (1, 2)) := by rw [hw2]; exact heap_alloc_new _ _
  have LO2 := hide (hlo.then b2)
  have hgl : g < w1.heap.size := block_lt_of_row hlo.log.lg.row
  have htl : ∀ k, tv.ownBlock = some k → k < w1.heap.size := fun k hk => hlo.log.lg.text.lt hk
  have KP := hide (keeps_row (g := g) (tv := tv) r2 (by omega) (fun e => by have := htl _ e; omega) (by simp))
  obtain ⟨gx, hgx⟩ : ∃ gx, gx = w1.heap.size := ⟨_, rfl⟩
  rw [← hgx] at KP
  clear hlo hob hgb htb b1 b2 r2 hgl htl
  go_wp2_with fail
  rw [← hw2, ← hgx]
  clear hw2 hgx
  refine (commit_go w w2 o _ g 2 16 0 0 [] tv (some ⟨gx, 0, none⟩) 1 1 [97] LO2.out rfl (by omega) KP.out (by simp) (by decide)).mono ?_
  rintro e w3 ⟨rfl, o3, tv3, wt⟩
  have WT := hide wt
  have hpt : o3.ptr = o.ptr := by unfold Ow.ptr; rw [wt.moved.ptr]
  rw [← hpt]
  clear wt hpt
  go_wp2_with fail
  refine (open_go w w3 o3 _ 2 16 _ _ _ WT.out.lo.log.dk rfl WT.out.lo.log.good WT.out.lo.ob WT.out.lo.below HP.out).mono ?_
  rintro e w4 ⟨g4, tv4, rfl, hlo4, hg4, ht4, b4⟩
  have LO4 := hide hlo4
  have LL4 := hide (WT.out.lo.then b4)
  clear hlo4 hg4 ht4 b4
  go_wp2_with fail
  refine (records_go w w4 o3 _ g4 2 16 _ _ _ tv4 LO4.out (by simp)).mono ?_
  rintro e w5 ⟨lv, us, rfl, hrec, b5⟩
  have LS5 := hide (hrec.ls (by decide))
  have LL5 := hide (LL4.out.then b5)
  obtain ⟨al, cl, hlv⟩ := hrec.lists.shape
  subst hlv
  obtain ⟨w6, hw6⟩ : ∃ w6, w6 = w5.alloc (.cells #[.int .u8 97] 5 (1, 2)) := ⟨_, rfl⟩
  have b56 : Below w5.heap.size w5 w6 := by rw [hw6]; exact (Below.refl _ _).alloc (Nat.le_refl _) _
  have r6 : w6.heap[w5.heap.size]? = some (.cells (S.v8 [97]) 5 (1, 2)) := by rw [hw6]; exact heap_alloc_new _ _
  have z6 : w6.heap.size = w5.heap.size + 1 := by rw [hw6]; simp
  obtain ⟨w7, hw7⟩ : ∃ w7, w7 = w6.alloc (.cells #[.slice (some ⟨w5.heap.size, 0, none⟩) 1 1] 29) := ⟨_, rfl⟩
  have b67 : Below w6.heap.size w6 w7 := by rw [hw7]; exact (Below.refl _ _).alloc (Nat.le_refl _) _
  have r7 : w7.heap[w6.heap.size]? = some (.cells #[.slice (some ⟨w5.heap.size, 0, none⟩) 1 1] 29 (0, 0)) := by rw [hw7]; exact heap_alloc_new _ _
  have b57 := b56.trans (b67.mono b56.size)
  have LSA := hide (LS5.out.below b57)
  have LSB : Hid (LsAt w7 (.slice (some ⟨w5.heap.size + 1, 0, none⟩) 1 1) [[97]]) := by rw [← z6]; exact one_ls r7 (slice_mark ((b67.block _ (block_lt_of_row r6)).trans r6) (by simp))
  have LL7 := hide (LL5.out.then b57)
  obtain ⟨lvv, hlvv⟩ : ∃ v, v = Value.slice al us.length cl := ⟨_, rfl⟩
  have HU1 : Hid (us.length = 1) := hrec.copies.len
  rw [HU1.out] at LSA ⊢
  rw [hw6] at hw7
  clear hrec b5 b56 r6 z6 b67 r7 b57 hw6 hlvv
  go_wp2_with fail
  rw [← hw7]
  clear hw7
  refine (sameL_any _ _ _ _ w7 LSA.out LSB.out (by simp)).mono ?_
  rintro e w8 ⟨rfl, st8⟩
  have LL8 := hide (LL7.out.then (st8.below _))
  have E1 : decide ([] ++ [[97]] = [[(97 : UInt8)]]) = true := by decide
  rw [E1]
  clear st8 E1
  go_wp2_with fail
  refine (commit_arg g none 0 w8).mono ?_
  rintro e w9 ⟨rfl, rfl⟩
  go_wp2_with fail
  go_ret
  exact ⟨rfl, LL8.out.below⟩
end Go.Proofs.YtfjkddjdmlnbnaaDoor
