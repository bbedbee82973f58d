/- A log of a law's own; begun, record. -/
/- Commit and Clear on a disk that does not stop; in plain words what each leaves. -/
/- A Commit on a disk that has stopped; Stop and Crash of a log's disk; records over a change elsewhere. -/
/- A log over changes of blocks that are none of its own; how many acts a change takes. -/
import Derived.Test.YthjlhngjpbmieaaGreatDoorGv
namespace Go.Proofs.YthjlhngjpbmieaaGreatDoor
open Go.RowKit

/-- A log on a disk, both made behind the world w0. -/
structure Lo (w0 w : World) (o : Ow) (d : S.Dk) (g f c p t : Nat) (rs : List (List UInt8)) (tv : Value) : Prop where
  log : LogIs w o d g f c p t rs tv
  ob : ∀ k, o.has k → w0.heap.size ≤ k
  gb : w0.heap.size ≤ g
  tb : ∀ k, tv.ownBlock = some k → w0.heap.size ≤ k
  below : Below w0.heap.size w0 w
  pos : 0 < w0.heap.size
theorem LogIs.below {w W : World} {o : Ow} {d : S.Dk} {g f c p t : Nat} {rs : List (List UInt8)} {tv : Value} (h : LogIs w o d g f c p t rs tv) (hb : Below w.heap.size w W) : LogIs W o d g f c p t rs tv :=
  ⟨h.dk.below hb, h.pend, h.good, h.lg.below hb, h.no, h.pos, h.far, h.tpos⟩
theorem Lo.then {w0 w W : World} {o : Ow} {d : S.Dk} {g f c p t : Nat} {rs : List (List UInt8)} {tv : Value} (h : Lo w0 w o d g f c p t rs tv) (hb : Below w.heap.size w W) : Lo w0 W o d g f c p t rs tv :=
  ⟨h.log.below hb, h.ob, h.gb, h.tb, h.below.trans (hb.mono h.below.size), h.pos⟩
/-- No block of a disk is one of bytes. -/
theorem DkIs.bytes {w : World} {o : Ow} {d : S.Dk} {k : Nat} {cur : Array Value} (h : DkIs w o d) (hr : w.heap[k]? = some (.cells cur 5 (0, 0))) : ¬ o.has k := by
  rintro (rfl | rfl | rfl | e)
  · rw [h.row] at hr
    injection hr with hr
    injection hr with _ hty
    exact absurd hty (by decide)
  · obtain ⟨c, h1, _⟩ := h.safe.row
    rw [h1] at hr
    injection hr with hr
    injection hr with _ hty
    exact absurd hty (by decide)
  · obtain ⟨c, h1, _⟩ := h.seen.row
    rw [h1] at hr
    injection hr with hr
    injection hr with _ hty
    exact absurd hty (by decide)
  · rcases h.pend.2 with ⟨h1, _⟩ | ⟨g, cap, cc, h1, _, h2, _⟩
    · rw [h1] at e
      cases e
    · rw [h1] at e
      simp only [Value.ownBlock, Option.some.injEq] at e
      subst e
      rw [h2] at hr
      injection hr with hr
      injection hr with _ hty
      exact absurd hty (by decide)
theorem URow.block {w : World} {u : Value} {bs : List UInt8} {k : Nat} (h : URow w u bs) (hk : u.ownBlock = some k) : ∃ cur, w.heap[k]? = some (.cells cur 5 (0, 0)) := by
  rcases h.2 with ⟨h1, _⟩ | ⟨g, cap, cc, h1, _, h2, _⟩
  · rw [h1] at hk
    cases hk
  · rw [h1] at hk
    simp only [Value.ownBlock, Option.some.injEq] at hk
    subst hk
    exact ⟨cc, h2⟩
/-- Behind a Commit or a Clear that was done. -/
theorem Lo.did {w0 w w' : World} {o : Ow} {d : S.Dk} {g f c p t : Nat} {rs rs' : List (List UInt8)} {tv : Value} {e : Ending} {d' : S.Dk} {o' : Ow} {tv' : Value} (h : Lo w0 w o d g f c p t rs tv) (x : Did d (S.commitActs d f c p t rs rs') o g f c t rs rs' tv w e w' true d' o' tv') (hp : d'.pend = []) (hg : S.Good d'.safe f c (1 - p) (t + 1) rs') : Lo w0 w' o' d' g f c (1 - p) (t + 1) rs' tv' := by
  have hpt : o'.ptr = o.ptr := by unfold Ow.ptr; rw [x.moved.ptr]
  have hob : ∀ k, o'.has k → w0.heap.size ≤ k := fun k hk => by
    rcases x.moved.own k hk with e | e
    · exact h.ob k e
    · exact Nat.le_trans h.below.size e
  have htb : ∀ k, tv'.ownBlock = some k → w0.heap.size ≤ k := fun k hk => by
    rcases x.moved.text k hk with e | e
    · exact h.tb k e
    · exact Nat.le_trans h.below.size e
  have hgw := block_lt_of_row h.log.lg.row
  refine ⟨⟨x.dk, hp, hg, by rw [hpt]; exact x.yes rfl, fun e => ?_, h.log.pos, fun k hk e => ?_, fun e => ?_⟩, hob, h.gb, htb, h.below.trans (x.moved.chg.below _ h.below.size (fun k hk e => ?_)), h.pos⟩
  · rcases x.moved.own g e with e | e
    · exact h.log.no e
    · omega
  · obtain ⟨cur, hr⟩ := (x.yes rfl).text.block hk
    exact x.dk.dk.bytes hr e
  · have := htb 0 e
    have := h.pos
    omega
  · rcases e with e | e | e
    · have := h.ob k e; omega
    · have := h.gb; omega
    · have := h.tb k e; omega
end Go.Proofs.YthjlhngjpbmieaaGreatDoor
namespace Go.Proofs.YthjlhngjpbmieaaGreatDoor
open Go.RowKit

namespace S
/-- The sectors behind a call. -/
def after (ss : List (List UInt8)) (f c p t : Nat) (rs rs' : List (List UInt8)) : List (List UInt8) := changed f c p ss (putWs f c (enc rs') (enc rs).length) (hdOf (t + 1) rs')
/-- What a call does, stopped anywhere or done. -/
structure Calm (d : Dk) (f c p t : Nat) (rs rs' : List (List UInt8)) : Prop where
  fated : Fated d (commitActs d f c p t rs rs') (May d.safe f c p t rs rs')
  good : Good (after d.safe f c p t rs rs') f c (1 - p) (t + 1) rs'
  acts : d.acts (commitActs d f c p t rs rs') = { d with safe := after d.safe f c p t rs rs', pend := [] }
theorem commit_calm {d : Dk} {f c p t : Nat} {rs : List (List UInt8)} {b : List UInt8} (hd : d.pend = []) (g : Good d.safe f c p t rs) (ht : t + 1 < 18446744073709551616) (hr : (enc (rs ++ [b])).length ≤ S.room c) : Calm d f c p t rs (rs ++ [b]) := by
  have hl := enc_snoc_length rs b
  have hw : ∀ ss, ss.length = d.safe.length → Good ss f c p t rs → TextFor f c p t rs (rs ++ [b]) (putWs f c (enc (rs ++ [b])) (enc rs).length) ss := fun ss _ gs => by
    unfold putWs
    rw [if_neg (by omega)]
    exact textFor gs (enc_snoc rs b) hr _ _ rfl (by omega)
  have h := change_fated hd g ht hr hw
  exact ⟨h.1, h.2, change_acts hd⟩
theorem clear_calm {d : Dk} {f c p t : Nat} {rs : List (List UInt8)} (hd : d.pend = []) (g : Good d.safe f c p t rs) (ht : t + 1 < 18446744073709551616) : Calm d f c p t rs [] := by
  have hw : ∀ ss, ss.length = d.safe.length → Good ss f c p t rs → TextFor f c p t rs [] (putWs f c (enc []) (enc rs).length) ss := fun ss _ gs => by
    unfold putWs
    rw [if_pos (show (enc []).length ≤ _ from Nat.zero_le _)]
    exact textFor_none gs
  have h := change_fated hd g ht (Nat.zero_le _) hw
  exact ⟨h.1, h.2, change_acts hd⟩
theorem Calm.may {d : Dk} {f c p t : Nat} {rs rs' : List (List UInt8)} (h : Calm d f c p t rs rs') : May d.safe f c p t rs rs' (after d.safe f c p t rs rs') := by
  have := h.fated _ (Nat.le_refl _) ⟨[], 0, 0⟩
  rw [List.take_length, h.acts, Dk.crash_flushed _ rfl] at this
  exact this
end S
theorem LgIs.has {w : World} {g : Nat} {p : Value} {f c t : Nat} {rs : List (List UInt8)} {tv : Value} (h : LgIs w g p f c t rs tv) (hm : (S.enc rs).length ≤ 10000000) : LgHas w g p f c t rs tv true := ⟨h.row, ⟨_, h.text, List.prefix_refl _, hm⟩, h.sep⟩
theorem records_go (w0 w : World) (o : Ow) (d : S.Dk) (g f c p t : Nat) (rs : List (List UInt8)) (tv : Value) (hL : Lo w0 w o d g f c p t rs tv) (hne : ∀ r ∈ rs, r ≠ []) :
   Calls Tryz.prog 46 #[.pointer (some ⟨g, 0, none⟩)] w fun e w' => ∃ lv us, e = .returned lv ∧ Recs w w' lv us rs ∧ Below w.heap.size w w' := by
  have h1 := hL.log.good.room
  have h2 := S.room_le hL.log.good.most
  exact records_any o.ptr f c t g rs tv true w (hL.log.lg.has (by omega)) hL.log.good.hd (by omega) hne
theorem open_go (w0 w : World) (o : Ow) (d : S.Dk) (f c p t : Nat) (rs : List (List UInt8)) (hd : Dsk w o d) (hp : d.pend = []) (hg : S.Good d.safe f c p t rs) (ho : ∀ k, o.has k → w0.heap.size ≤ k) (hb : Below w0.heap.size w0 w) (h0 : 0 < w0.heap.size) :
   Calls Tryz.prog 44 #[o.ptr, .int .i64 (f : Int), .int .i64 (c : Int)] w fun e w' => ∃ g tv, e = .returned (.tuple #[.pointer (some ⟨g, 0, none⟩), .int .i64 0]) ∧ Lo w0 w' o d g f c p t rs tv ∧ w.heap.size ≤ g ∧ (∀ k, tv.ownBlock = some k → w.heap.size ≤ k) ∧ Below w.heap.size w w' := by
  refine (open_yes o d f c p t rs w hd (by rw [S.Dk.seen_flushed _ hp]; exact hg)).mono ?_
  rintro e w' ⟨g, tv, rfl, hl, hgb, htb, hbb⟩
  have hs := hb.size
  refine ⟨g, tv, rfl, ⟨⟨hd.below hbb, hp, hg, hl, fun e => ?_, by omega, fun k hk e => ?_, fun e => ?_⟩, ho, by omega, fun k hk => by have := htb k hk; omega, hb.trans (hbb.mono hs), h0⟩, hgb, htb, hbb⟩
  · have := hd.dk.lt g e; omega
  · have := hd.dk.lt k e; have := htb k hk; omega
  · have := htb 0 e; omega
end Go.Proofs.YthjlhngjpbmieaaGreatDoor
namespace Go.Proofs.YthjlhngjpbmieaaGreatDoor
open Go.RowKit

namespace S
end S
end Go.Proofs.YthjlhngjpbmieaaGreatDoor
namespace Go.Proofs.YthjlhngjpbmieaaGreatDoor
open Go.RowKit
namespace S
theorem commitActs_few (d : Dk) (f c p t : Nat) (rs rs' : List (List UInt8)) (h : (enc rs').length ≤ 100000) : (commitActs d f c p t rs rs').length ≤ 200000 := by
  have hw : (putWs f c (enc rs') (enc rs).length).length ≤ 100000 := by
    unfold putWs
    split
    · simp
    · rw [textWs_length]; omega
  have hs : (spareActs f c (1 - p) (d.safe.getD (f + (1 - p)) [])).length ≤ 2 := by unfold spareActs; split <;> simp
  have ht : (textActs (putWs f c (enc rs') (enc rs).length)).length ≤ (putWs f c (enc rs') (enc rs).length).length + 1 := by unfold textActs; split <;> simp [Ws.acts]
  have hu : (turnActs f c p (hdOf (t + 1) rs')).length = 4 := rfl
  unfold commitActs changeActs
  rw [List.length_append, List.length_append, hu]
  omega
end S
theorem Lo.chg {q : Nat → Prop} {w0 w W : World} {o : Ow} {d : S.Dk} {g f c p t : Nat} {rs : List (List UInt8)} {tv : Value} (h : Lo w0 w o d g f c p t rs tv) (hc : Chg q w W) (hq : ∀ k, (o.has k ∨ k = g ∨ tv.ownBlock = some k ∨ k < w0.heap.size) → ¬ q k) : Lo w0 W o d g f c p t rs tv :=
  ⟨⟨⟨h.log.dk.dk.chg hc (fun k hk => hq k (Or.inl hk)), h.log.dk.k.chg hc (hq 0 (Or.inr (Or.inr (Or.inr h.pos)))), h.log.dk.no⟩, h.log.pend, h.log.good, h.log.lg.chg hc (hq g (Or.inr (Or.inl rfl))) (fun k hk => hq k (Or.inr (Or.inr (Or.inl hk)))), h.log.no, h.log.pos, h.log.far, h.log.tpos⟩, h.ob, h.gb, h.tb, h.below.trans (hc.below _ h.below.size (fun k hk => hq k (Or.inr (Or.inr (Or.inr hk))))), h.pos⟩
end Go.Proofs.YthjlhngjpbmieaaGreatDoor
