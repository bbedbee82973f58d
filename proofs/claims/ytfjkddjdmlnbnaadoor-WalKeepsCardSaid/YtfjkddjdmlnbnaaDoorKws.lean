/- WalKeeps: the world object; lists that stay; what a call leaves. -/
import Derived.Test.YtfjkddjdmlnbnaaDoorLch
import Derived.Test.YtfjkddjdmlnbnaaDoorRoomy
import Derived.Test.YtfjkddjdmlnbnaaDoorIntact
namespace Go.Proofs.YtfjkddjdmlnbnaaDoor
open Go.RowKit

/-- A [][]byte that reads as these lists whatever becomes of q's blocks. -/
structure LsOf (w : World) (q : Nat → Prop) (lv : Value) (vs : List Value) (rs : List (List UInt8)) : Prop where
  lists : Lists w lv vs
  own : ∀ k, lv.ownBlock = some k → ¬ q k
  reads : ∀ W, Chg q w W → Reads W vs rs
theorem LsOf.now {w : World} {q : Nat → Prop} {lv : Value} {vs : List Value} {rs : List (List UInt8)} (h : LsOf w q lv vs rs) : LsAt w lv rs := ⟨vs, h.lists, h.reads w (Chg.refl _ _)⟩
theorem LsOf.chg {w W : World} {q q1 : Nat → Prop} {lv : Value} {vs : List Value} {rs : List (List UInt8)} (h : LsOf w q lv vs rs) (hc : Chg q w W) (hq : ∀ k, q1 k → q k ∨ w.heap.size ≤ k) : LsOf W q1 lv vs rs :=
  ⟨h.lists.kept fun k hk => hc.block k (h.lists.lt hk) (h.own k hk), fun k hk e => by
    rcases hq k e with e | e
    · exact h.own k hk e
    · have := h.lists.lt hk; omega, fun W' hW => h.reads W' (hc.trans hW (fun j hj e => by
    rcases hq j e with e | e
    · exact e
    · omega))⟩
theorem LsOf.below {w W : World} {q : Nat → Prop} {lv : Value} {vs : List Value} {rs : List (List UInt8)} (h : LsOf w q lv vs rs) (hb : Below w.heap.size w W) : LsOf W q lv vs rs := h.chg (Chg.ofBelow' hb) (fun _ e => Or.inl e)
theorem LsOf.less {w : World} {q q1 : Nat → Prop} {lv : Value} {vs : List Value} {rs : List (List UInt8)} (h : LsOf w q lv vs rs) (hq : ∀ k, q1 k → q k) : LsOf w q1 lv vs rs := h.chg (Chg.refl _ _) (fun k e => Or.inl (hq k e))
theorem lsOf_nil (w : World) (q : Nat → Prop) : LsOf w q (.slice none 0 0) [] [] := ⟨Or.inl ⟨rfl, rfl⟩, fun k hk => by simp [Value.ownBlock] at hk, fun W _ => ⟨rfl, fun j hj => by cases hj⟩⟩
theorem Recs.of {w0 w : World} {q : Nat → Prop} {lv : Value} {us : List Value} {rs : List (List UInt8)} (h : Recs w0 w lv us rs) (hm : (S.enc rs).length ≤ 10000000) (hq : ∀ k, w0.heap.size ≤ k → ¬ q k) : LsOf w q lv us rs :=
  ⟨h.lists, fun k hk => hq k (h.own k hk), fun W hc => ⟨h.copies.len, fun j hj => by
    obtain ⟨gj, cj, e, ⟨cur, h1, h2, h3, h4⟩, hge⟩ := h.copies.new j hj
    rw [e]
    have hr : Room W gj cj (rs.getD j []) := ⟨cur, hc.row h1 (hq gj hge), h2, h3, h4⟩
    exact hr.sliceAt (by have := mem_enc (rs := rs) (r := rs.getD j []) (by rw [List.getD_eq_getElem?_getD, List.getElem?_eq_getElem hj]; exact List.getElem_mem _); omega)⟩⟩
theorem Reads.ones {w : World} {vs : List Value} {rs : List (List UInt8)} (h : Reads w vs rs) : ∀ x ∈ vs, x.oneCell' = true := fun x hx => by
  obtain ⟨j, hj, rfl⟩ := List.getElem_of_mem hx
  have := h.2 j (by rw [← h.1]; exact hj)
  rw [List.getD_eq_getElem?_getD, List.getElem?_eq_getElem hj] at this
  obtain ⟨a, l, c, e, _⟩ := this.form
  simp only [Option.getD_some] at e
  rw [e]
  rfl
/-- append([][]byte{}, l...): a new row of the same slices. -/
theorem run_copy_list (w : World) (g0 : Nat) (lv : Value) (vs : List Value) (ty : TypeId) (h0 : w.heap[g0]? = some (.cells #[] 29 (0, 0))) (h : Lists w lv vs) (h1 : ∀ x ∈ vs, x.oneCell' = true) (hlen : vs.length ≤ 1000000) :
    ∃ v' w', (Builtin.append_ #[31, 31] ty #[.slice (some ⟨g0, 0, none⟩) 0 0, lv]).run Tryd.prog w = .ok v' w' ∧ (Lists w' v' vs ∧ w.grownBy w' (some g0) ∧ ∀ k, v'.ownBlock = some k → g0 ≤ k) := by
  obtain ⟨i, hi, hz0, hz1, hz2⟩ := info_parts infoS
  have hown : w.ownsRow g0 29 1 (.slice (some ⟨g0, 0, none⟩) 0 0) 0 [] := ⟨rfl, Or.inr ⟨g0, 0, #[], rfl, Nat.le_refl _, h0, Nat.le_refl _, by simp [maxLen], rfl, rfl⟩⟩
  rcases h with ⟨rfl, rfl⟩ | ⟨g, off, c, cur, rfl, h2, h3, h4, h5⟩
  · exact ⟨_, w, run_append_owned_none (P := Tryd.prog) (w := w) g0 31 ty 29 i 1 Tryd.underlying31 hi (.slice (some ⟨g0, 0, none⟩) 0 0) 0 [] hown, Or.inr ⟨g0, 0, 0, #[], rfl, h0, by simp, by simp, by simp⟩, ⟨rfl, rfl, rfl, Nat.le_refl _, fun _ _ _ => rfl⟩, fun k hk => by simp [Value.ownBlock] at hk; omega⟩
  · obtain ⟨v', w', hr, ho, hg, hn⟩ := run_append_own (P := Tryd.prog) w g0 31 ty 29 i (.slice none 0 0) 1 24 Tryd.underlying31 hi hz0 hz1 hz2 rfl (by omega) (.slice (some ⟨g0, 0, none⟩) 0 0) 0 [] hown ⟨g, off, none⟩ vs.length c vs (by omega) (fun j x hx => by rw [Addr.add_lit, cell_of_row w g (off + j) cur 29 (0, 0) h2]; exact h5 j x hx) h1 (by simp only [maxLen]; omega) (by omega) (Nat.le_of_lt (block_lt_of_row h0))
    refine ⟨v', w', hr, ?_, hg, fun k hk => ?_⟩
    · rcases ho.2 with ⟨e, _⟩ | ⟨g', cap', cur', e, _, q1, q2, q3, q4, q5⟩
      · exact absurd (hn.1 e).1 (by simp)
      · refine Or.inr ⟨g', 0, cap', cur', by rw [e]; simp, q1, by omega, by omega, fun j x hx => ?_⟩
        rw [Nat.zero_add]
        have hjl : j < vs.length := by
          by_cases e : j < vs.length
          · exact e
          · rw [List.getElem?_eq_none (by omega)] at hx; cases hx
        have : (cur'.toList.take ((0 + vs.length) * 1))[j]? = cur'.toList[j]? := by rw [List.getElem?_take, if_pos (by omega)]
        rw [q5, List.nil_append, hx] at this
        simpa using this.symm
    · exact (ho.lt k hk).1

theorem S.Dk.acts_pend (l : List S.Act) : ∀ d : S.Dk, (d.acts l).pend.length ≤ d.pend.length + l.length := by
  induction l with
  | nil => intro d; exact Nat.le_refl _
  | cons a l ih =>
    intro d
    rw [S.Dk.acts_cons]
    have := ih (d.act a)
    cases a with
    | write p t => simp only [S.Dk.act, S.Dk.write, List.length_append, List.length_cons, List.length_nil] at this ⊢; omega
    | flush => simp only [S.Dk.act, S.Dk.flush, List.length_cons, List.length_nil] at this ⊢; omega
/-- The blocks that a log's calls, and the world object, may change. -/
def Qk (o : Ow) (g : Nat) (tv : Value) (gw : Nat) (k : Nat) : Prop := o.has k ∨ k = g ∨ tv.ownBlock = some k ∨ k = gw
def wcells (o : Ow) (g : Nat) (lr kv : Value) (torn bytes again : Int) (armed : Bool) : Array Value := #[o.ptr, .pointer (some ⟨g, 0, none⟩), lr, kv, .int .i64 torn, .int .i64 bytes, .int .i64 again, .bool armed]
/-- The world object in block gw, and its log. -/
structure Kc (w0 w : World) (gw gk gd : Nat) (X : List UInt8) (o : Ow) (d : S.Dk) (g p t : Nat) (rs : List (List UInt8)) (tv lr kv : Value) (torn bytes again : Int) (ks : List Bool) (armed : Bool) : Prop where
  lo : Lo w0 w o d g 3 50 p t rs tv
  row : w.heap[gw]? = some (.cells (wcells o g lr kv torn bytes again armed) 50 (0, 0))
  gwb : w0.heap.size ≤ gw
  sep : ¬ (o.has gw ∨ gw = g ∨ tv.ownBlock = some gw)
  ne : ∀ r ∈ rs, r ≠ []
  cut : BoolsAt w0 kv ks
  ag : again ≤ 9223372036854775807
  left : armed = false → d.left = none
  len : d.safe.length = 60
  lo0 : d.safe.getD 0 [] = X
  hi0 : d.safe.getD 59 [] = X
  bk : w.heap[gk]? = some (.cells (S.v8 X) 5 (0, 0))
  bq : ¬ (o.has gk ∨ gk = g ∨ tv.ownBlock = some gk) ∧ gk ≠ gw
  pt : o.g = gd
/-- The world object between two steps. -/
def Kw (w0 : World) (gw gk gd : Nat) (X : List UInt8) (T : Nat) (w : World) : Prop :=
  ∃ o d g p t rs tv lr kv torn bytes again ks armed vs, Kc w0 w gw gk gd X o d g p t rs tv lr kv torn bytes again ks armed ∧ LsOf w (Qk o g tv gw) lr vs rs ∧ t ≤ T
theorem Kc.then {w0 w W : World} {gw gk gd : Nat} {X : List UInt8} {o : Ow} {d : S.Dk} {g p t : Nat} {rs : List (List UInt8)} {tv lr kv : Value} {torn bytes again : Int} {ks : List Bool} {armed : Bool} (h : Kc w0 w gw gk gd X o d g p t rs tv lr kv torn bytes again ks armed) (hb : Below w.heap.size w W) : Kc w0 W gw gk gd X o d g p t rs tv lr kv torn bytes again ks armed :=
  ⟨h.lo.then hb, (hb.block gw (block_lt_of_row h.row)).trans h.row, h.gwb, h.sep, h.ne, h.cut, h.ag, h.left, h.len, h.lo0, h.hi0, (hb.block gk (block_lt_of_row h.bk)).trans h.bk, h.bq, h.pt⟩
/-- The object's own block is changed. -/
theorem Kc.put {w0 w W : World} {gw gk gd : Nat} {X : List UInt8} {o : Ow} {d : S.Dk} {g p t : Nat} {rs : List (List UInt8)} {tv lr lr' kv kv' : Value} {torn bytes again torn' bytes' again' : Int} {ks ks' : List Bool} {armed armed' : Bool} (h : Kc w0 w gw gk gd X o d g p t rs tv lr kv torn bytes again ks armed) (hc : Chg (fun k => k = gw) w W) (hr : W.heap[gw]? = some (.cells (wcells o g lr' kv' torn' bytes' again' armed') 50 (0, 0))) (hk : BoolsAt w0 kv' ks') (hag : again' ≤ 9223372036854775807) (hl : armed' = false → d.left = none) : Kc w0 W gw gk gd X o d g p t rs tv lr' kv' torn' bytes' again' ks' armed' :=
  ⟨h.lo.chg hc (fun k hk e => by
    subst e
    rcases hk with hk | hk | hk | hk
    · exact h.sep (Or.inl hk)
    · exact h.sep (Or.inr (Or.inl hk))
    · exact h.sep (Or.inr (Or.inr hk))
    · have := h.gwb; omega), hr, h.gwb, h.sep, h.ne, hk, hag, hl, h.len, h.lo0, h.hi0, hc.row h.bk h.bq.2, h.bq, h.pt⟩
/-- A log on this disk that was found again. -/
theorem Kc.found {w0 w W : World} {gw gk gd : Nat} {X : List UInt8} {o : Ow} {d : S.Dk} {g g2 p t p2 t2 : Nat} {rs rs2 : List (List UInt8)} {tv tv2 lr kv : Value} {torn bytes again : Int} {ks : List Bool} {armed : Bool} (h : Kc w0 w gw gk gd X o d g p t rs tv lr kv torn bytes again ks armed) (_hb : Below w.heap.size w W) (hl : Lo w0 W o d g2 3 50 p2 t2 rs2 tv2) (hg : w.heap.size ≤ g2) (ht : ∀ k, tv2.ownBlock = some k → w.heap.size ≤ k) (hne : ∀ r ∈ rs2, r ≠ []) (hq : gw < w.heap.size) :
    ∀ W2, Chg (fun k => k = gw) W W2 → W2.heap[gw]? = some (.cells (wcells o g2 lr kv torn bytes again armed) 50 (0, 0)) → Kc w0 W2 gw gk gd X o d g2 p2 t2 rs2 tv2 lr kv torn bytes again ks armed := fun W2 hc hr =>
  ⟨hl.chg hc (fun k hk e => by
    subst e
    rcases hk with hk | hk | hk | hk
    · exact h.sep (Or.inl hk)
    · omega
    · have := ht _ hk; omega
    · have := h.gwb; omega), hr, h.gwb, (fun e => by
    rcases e with e | e | e
    · exact h.sep (Or.inl e)
    · omega
    · have := ht _ e; omega), hne, h.cut, h.ag, h.left, h.len, h.lo0, h.hi0, hc.row ((_hb.block gk (block_lt_of_row h.bk)).trans h.bk) h.bq.2, ⟨fun e => by
    have hlk := block_lt_of_row h.bk
    rcases e with e | e | e
    · exact h.bq.1 (Or.inl e)
    · omega
    · have := ht _ e; omega, h.bq.2⟩, h.pt⟩
/-- Behind a Commit or a Clear that was done. -/
theorem Kc.done {w0 w w' : World} {gw gk gd : Nat} {X : List UInt8} {o o' : Ow} {d d' : S.Dk} {g p t : Nat} {rs rs' : List (List UInt8)} {tv tv' lr kv : Value} {torn bytes again : Int} {ks : List Bool} {armed : Bool} {e : Ending} (h : Kc w0 w gw gk gd X o d g p t rs tv lr kv torn bytes again ks armed) (cm : S.Calm d 3 50 p t rs rs') (x : Did d (S.commitActs d 3 50 p t rs rs') o g 3 50 t rs rs' tv w e w' true d' o' tv') (hne : ∀ r ∈ rs', r ≠ []) : Kc w0 w' gw gk gd X o' d' g (1 - p) (t + 1) rs' tv' lr kv torn bytes again ks armed := by
  obtain ⟨n, hn, ha, ht, _⟩ := S.Dk.plan_first (S.commitActs d 3 50 p t rs rs') d
  rw [x.plan] at ha ht
  have hs : d'.safe = S.after d.safe 3 50 p t rs rs' ∧ d'.pend = [] := by
    have e1 := ht rfl
    rw [e1, List.take_length, cm.acts] at ha
    exact ⟨ha.safe, ha.pend⟩
  have my := cm.may
  have hgl := block_lt_of_row h.row
  have hpt : o'.ptr = o.ptr := by unfold Ow.ptr; rw [x.moved.ptr]
  refine ⟨h.lo.did x hs.2 (by rw [hs.1]; exact cm.good), ?_, h.gwb, fun e => ?_, hne, h.cut, h.ag, fun e => ?_, ?_, ?_, ?_, x.moved.chg.row h.bk h.bq.1, ⟨fun e => ?_, h.bq.2⟩, x.moved.ptr.trans h.pt⟩
  · have := x.moved.chg.row h.row h.sep
    unfold wcells at this ⊢
    rw [hpt]
    exact this
  · rcases e with e | e | e
    · rcases x.moved.own _ e with e | e
      · exact h.sep (Or.inl e)
      · omega
    · exact h.sep (Or.inr (Or.inl e))
    · rcases x.moved.text _ e with e | e
      · exact h.sep (Or.inr (Or.inr e))
      · omega
  · have hl := h.left e
    have hp := x.plan
    rw [cm.plan hl, Prod.mk.injEq] at hp
    rw [← hp.1]
    exact hl
  · rw [hs.1, my.len]; exact h.len
  · rw [hs.1, my.stay 0 (Or.inl (by omega))]; exact h.lo0
  · rw [hs.1, my.stay 59 (Or.inr (by omega))]; exact h.hi0
  · have hlk := block_lt_of_row h.bk
    rcases e with e | e | e
    · rcases x.moved.own _ e with e | e
      · exact h.bq.1 (Or.inl e)
      · omega
    · exact h.bq.1 (Or.inr (Or.inl e))
    · rcases x.moved.text _ e with e | e
      · exact h.bq.1 (Or.inr (Or.inr e))
      · omega
/-- The world object whose log's disk has stopped in the midst of a call. -/
structure Kr (w0 w : World) (gw gk gd : Nat) (X : List UInt8) (o : Ow) (d : S.Dk) (g p t : Nat) (ss : List (List UInt8)) (rs rs' : List (List UInt8)) (lr kv : Value) (torn bytes again : Int) (ks : List Bool) : Prop where
  dk : Dsk w o d
  row : w.heap[gw]? = some (.cells (wcells o g lr kv torn bytes again true) 50 (0, 0))
  ob : ∀ k, o.has k → w0.heap.size ≤ k
  below : Below w0.heap.size w0 w
  pos : 0 < w0.heap.size
  gwb : w0.heap.size ≤ gw
  sep : ¬ o.has gw
  few : d.pend.length ≤ 1000000
  fate : ∀ c, S.May ss 3 50 p t rs rs' (d.crash c).safe
  ne : ∀ r ∈ rs, r ≠ []
  ne' : ∀ r ∈ rs', r ≠ []
  cut : BoolsAt w0 kv ks
  ag : again ≤ 9223372036854775807
  len : ss.length = 60
  lo0 : ss.getD 0 [] = X
  hi0 : ss.getD 59 [] = X
  bk : w.heap[gk]? = some (.cells (S.v8 X) 5 (0, 0))
  bq : ¬ o.has gk ∧ gk ≠ gw
  pt : o.g = gd
/-- Behind a Commit or a Clear that was stopped. -/
theorem Kc.stopped {w0 w w' : World} {gw gk gd : Nat} {X : List UInt8} {o o' : Ow} {d d' : S.Dk} {g p t : Nat} {rs rs' : List (List UInt8)} {tv tv' lr kv : Value} {torn bytes again : Int} {ks : List Bool} {armed : Bool} {e : Ending} (h : Kc w0 w gw gk gd X o d g p t rs tv lr kv torn bytes again ks armed) (cm : S.Calm d 3 50 p t rs rs') (x : Did d (S.commitActs d 3 50 p t rs rs') o g 3 50 t rs rs' tv w e w' false d' o' tv') (hne : ∀ r ∈ rs', r ≠ []) (hfew : (S.enc rs').length ≤ 100000) : armed = true ∧ Kr w0 w' gw gk gd X o' d' g p t d.safe rs rs' lr kv torn bytes again ks := by
  have harm : armed = true := by
    cases armed with
    | true => rfl
    | false =>
      have hp := x.plan
      rw [cm.plan (h.left rfl), Prod.mk.injEq] at hp
      cases hp.2
  subst harm
  obtain ⟨n, hn, ha, ht, _⟩ := S.Dk.plan_first (S.commitActs d 3 50 p t rs rs') d
  rw [x.plan] at ha ht
  have hgl := block_lt_of_row h.row
  have hpt : o'.ptr = o.ptr := by unfold Ow.ptr; rw [x.moved.ptr]
  have hL := h.lo
  refine ⟨rfl, x.dk, ?_, fun k hk => ?_, hL.below.trans (x.moved.chg.below _ hL.below.size (fun k hk e => ?_)), hL.pos, h.gwb, fun e => ?_, ?_, fun c => (cm.crash x.plan c).1, h.ne, hne, h.cut, h.ag, h.len, h.lo0, h.hi0, x.moved.chg.row h.bk h.bq.1, ⟨fun e => ?_, h.bq.2⟩, x.moved.ptr.trans h.pt⟩
  · have := x.moved.chg.row h.row h.sep
    unfold wcells at this ⊢
    rw [hpt]
    exact this
  · rcases x.moved.own k hk with e | e
    · exact hL.ob k e
    · exact Nat.le_trans hL.below.size e
  · rcases e with e | e | e
    · have := hL.ob k e; omega
    · have := hL.gb; omega
    · have := hL.tb k e; omega
  · rcases x.moved.own _ e with e | e
    · exact h.sep (Or.inl e)
    · omega
  · have h1 := S.commitActs_few d 3 50 p t rs rs' hfew
    have h2 := S.Dk.acts_pend ((S.commitActs d 3 50 p t rs rs').take n) d
    rw [ha.pend]
    rw [hL.log.pend] at h2
    simp at h2
    omega
  · rcases x.moved.own _ e with e | e
    · exact h.bq.1 (Or.inl e)
    · have := block_lt_of_row h.bk; omega
end Go.Proofs.YtfjkddjdmlnbnaaDoor
