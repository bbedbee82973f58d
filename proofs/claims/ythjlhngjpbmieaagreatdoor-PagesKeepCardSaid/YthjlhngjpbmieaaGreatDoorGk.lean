/- A log's small parts: the tag of a sector, the length of a record, the room of an area, what is read of a sector. -/
/- A log's writes and flushes, as a plan over the plain disk. -/
/- A write of a log's sector that is flushed at once; the head of a log, as a sector. -/
import Derived.Test.YthjlhngjpbmieaaGreatDoorGd
import Derived.Test.YthjlhngjpbmieaaGreatDoorGf
import Derived.Test.YthjlhngjpbmieaaGreatDoorGj
import Derived.Test.YthjlhngjpbmieaaGreatDoorGg
namespace Go.Proofs.YthjlhngjpbmieaaGreatDoor
open Go.RowKit
theorem wnumber_is {bs bs' : List UInt8} {n k : Int} (m g : Nat) (v : Value) (w : World) (hn : n = (m : Int)) (h : bs ++ S.num m (S.size k) = bs') (hw : WrIs w g v bs) (hb : bs.length + 8 ≤ 140737488355328) :
   Calls Tryz.prog 76 #[.pointer (some ⟨g, 0, none⟩), .int .u64 n, .int .i64 k] w fun e w' => e = .returned (.tuple #[]) ∧ ∃ v', WrIs w' g v' bs' ∧ WrTo g v w v' w' := by
  rw [← h, hn]
  exact wnumber_any g v bs m k w hw hb
/-- What a writer of the call's own changes lies from a base on. -/
theorem WrTo.base {g B : Nat} {v v' : Value} {w w' : World} (h : WrTo g v w v' w') (hB : B ≤ w.heap.size) (hg : B ≤ g) (hv : ∀ k, v.ownBlock = some k → B ≤ k) : Below B w w' ∧ ∀ k, v'.ownBlock = some k → B ≤ k :=
  ⟨h.chg.below B hB (fun k hk e => by rcases e with e | e; omega; have := hv k e; omega), fun k hk => by rcases h.own k hk with e | e; exact hv k e; omega⟩
theorem Chg.base {g B : Nat} {w w' : World} (h : Chg (fun k => k = g) w w') (hB : B ≤ w.heap.size) (hg : B ≤ g) : Below B w w' := h.below B hB (fun k hk e => by omega)
theorem nil_base (B : Nat) : ∀ k, (Value.slice none 0 0).ownBlock = some k → B ≤ k := fun k h => by cases h
namespace S
/-- What each sector that a log has written begins with. -/
def tag (f c k : Nat) : List UInt8 := num 53516 2 ++ num f 2 ++ num c 2 ++ num k 2
theorem tag_length (f c k : Nat) : (tag f c k).length = 8 := by simp [tag, num_length]
def lenOf (n : Nat) : List UInt8 := num n 3
theorem lenOf_length (n : Nat) : (lenOf n).length = 3 := num_length _ _
end S
theorem size_3 : S.size 3 = 3 := by decide
/-- An area as a value. -/
def arv (p : Value) (f c : Nat) : Value := .agg #[p, .int .i64 (f : Int), .int .i64 (c : Int)]
theorem wrap64 (n : Nat) (h : n < 18446744073709551616) : IntKind.u64.wrap (n : Int) = (n : Int) := wrap_u64_lt n h
theorem lengthOf_any (ao : Option Addr) (n cap : Nat) (w : World) (hn : n ≤ 140737488355328) :
   Calls Tryz.prog 55 #[.slice ao n cap] w fun e w' => ∃ g, e = .returned (.slice (some ⟨g, 0, none⟩) 3 3) ∧ w.heap.size ≤ g ∧ w'.heap[g]? = some (.cells (S.v8 (S.lenOf n)) 5 (0, 0)) ∧ Below w.heap.size w w' := by
  have hw := wrap64 n (by omega)
  go_enter Tryz.func55, Tryz.ntmps55
  go_wp2_with fail
  refine (newWriter_any w).mono ?_
  rintro e w1 ⟨rfl, h1, h2⟩
  have H1 := hide h1
  have H2 := hide h2
  have HS : Hid (w.heap.size ≤ w1.heap.size) := h2.size
  obtain ⟨gw, hgw⟩ : ∃ gw, gw = w.heap.size := ⟨_, rfl⟩
  rw [← hgw]
  have HG : Hid (gw = w.heap.size) := hgw
  clear h1 h2 hgw
  go_wp2_with fail
  refine (wnumber_is n gw _ w1 rfl rfl (HG.out ▸ H1.out) (by decide)).mono ?_
  rintro e w2 ⟨rfl, v2, h3, h4⟩
  have hb2 := h4.base HS.out (Nat.le_of_eq HG.out.symm) (nil_base _)
  have H3 := hide h3
  have H4 := hide hb2
  clear h3 h4 hb2
  go_wp2_with fail
  refine (done_any gw v2 _ w2 H3.out (by simp [S.num_length, size_3])).mono ?_
  rintro e w3 ⟨rfl, h5, h6⟩
  have hs := H4.out.1.size
  have hs1 := HS.out
  have H5 := hide h5
  have H6 := hide ((H2.out.trans H4.out.1).trans (h6.mono (Nat.le_trans HS.out hs)))
  have HL : Hid (w.heap.size ≤ w2.heap.size) := Nat.le_trans hs1 hs
  clear h5 h6 hs hs1
  go_wp2_with fail
  go_ret
  exact ⟨w2.heap.size, by simp [S.num_length, size_3], HL.out, H5.out, H6.out⟩
/-- An area in memory. -/
def ArAt (w : World) (b : Nat) (p : Value) (f c : Nat) : Prop := w.heap[b]? = some (.cells #[p, .int .i64 (f : Int), .int .i64 (c : Int)] 101 (0, 0))
theorem ArAt.cells {w : World} {b f c : Nat} {p : Value} (h : ArAt w b p f c) : w.cell? ⟨b, 0, none⟩ = some p ∧ w.cell? ⟨b, 1, none⟩ = some (.int .i64 (f : Int)) ∧ w.cell? ⟨b, 2, none⟩ = some (.int .i64 (c : Int)) := cells3 h
theorem ArAt.below {w W : World} {b f c B : Nat} {p : Value} (h : ArAt w b p f c) (hb : Below B w W) (hB : b < B) : ArAt W b p f c := (hb.block b hB).trans h
set_option maxHeartbeats 800000 in
theorem tag_any (p : Value) (f c k : Nat) (w : World) (hf : f ≤ 100000) (hc : c ≤ 100000) (hk : k ≤ 100000) :
   Calls Tryz.prog 108 #[arv p f c, .int .i64 (k : Int)] w fun e w' => ∃ g, e = .returned (.slice (some ⟨g, 0, none⟩) 8 8) ∧ w.heap.size ≤ g ∧ w'.heap[g]? = some (.cells (S.v8 (S.tag f c k)) 5 (0, 0)) ∧ Below w.heap.size w w' := by
  have q1 := wrap64 f (by omega)
  have q2 := wrap64 c (by omega)
  have q3 := wrap64 k (by omega)
  obtain ⟨w0, hw0⟩ : ∃ w0, w0 = w.alloc (.cells #[p, .int .i64 (f : Int), .int .i64 (c : Int)] 101) := ⟨_, rfl⟩
  have HA : Hid (ArAt w0 w.heap.size p f c) := by rw [hw0]; exact heap_alloc_new _ _
  have HB : Hid (Below w.heap.size w w0) := by rw [hw0]; exact (Below.refl _ _).alloc (Nat.le_refl _) _
  have HZ : Hid (w0.heap.size = w.heap.size + 1) := by show w0.heap.size = _; rw [hw0]; simp
  unfold arv
  go_enter Tryz.func108, Tryz.ntmps108
  go_wp2_with fail
  rw [← hw0]
  clear hw0
  refine (newWriter_any w0).mono ?_
  rintro e w1 ⟨rfl, h1, h2⟩
  have H1 := hide h1
  have H2 : Hid (Below w0.heap.size w0 w1) := h2
  have N1 : Hid (∀ k, (Value.slice none 0 0).ownBlock = some k → w0.heap.size ≤ k) := nil_base _
  have S1 : Hid (w0.heap.size ≤ w1.heap.size) := h2.size
  obtain ⟨gw, hgw⟩ : ∃ gw, gw = w0.heap.size := ⟨_, rfl⟩
  rw [← hgw]
  have HG : Hid (gw = w0.heap.size) := hgw
  clear h1 h2 hgw
  go_wp2_with fail
  refine (wnumber_is 53516 gw _ w1 rfl rfl (HG.out ▸ H1.out) (by decide)).mono ?_
  rintro e w2 ⟨rfl, v2, h3, h4⟩
  have W2 := hide h3
  have hb2 := h4.base S1.out (Nat.le_of_eq HG.out.symm) N1.out
  have N2 := hide hb2.2
  have B2 := hide (H2.out.trans hb2.1)
  have S2 : Hid (w0.heap.size ≤ w2.heap.size) := Nat.le_trans S1.out hb2.1.size
  have hA2 := HA.out.below B2.out (by rw [HZ.out]; omega)
  obtain ⟨a0, a1, a2⟩ := hA2.cells
  clear h3 h4 hb2 hA2 a0 a2
  go_wp2_with fail
  refine (wnumber_is f gw _ w2 rfl rfl W2.out (by simp [S.num_length, size_2])).mono ?_
  rintro e w3 ⟨rfl, v3, h3, h4⟩
  have W3 := hide h3
  have hb3 := h4.base S2.out (Nat.le_of_eq HG.out.symm) N2.out
  have N3 := hide hb3.2
  have B3 := hide (B2.out.trans hb3.1)
  have S3 : Hid (w0.heap.size ≤ w3.heap.size) := Nat.le_trans S2.out hb3.1.size
  have hA2 := HA.out.below B3.out (by rw [HZ.out]; omega)
  obtain ⟨a0, a3, a2⟩ := hA2.cells
  clear h3 h4 hb3 hA2 a0 a1 a3
  go_wp2_with fail
  refine (wnumber_is c gw _ w3 rfl rfl W3.out (by simp [S.num_length, size_2])).mono ?_
  rintro e w4 ⟨rfl, v4, h3, h4⟩
  have W4 := hide h3
  have hb3 := h4.base S3.out (Nat.le_of_eq HG.out.symm) N3.out
  have N4 := hide hb3.2
  have B4 := hide (B3.out.trans hb3.1)
  have S4 : Hid (w0.heap.size ≤ w4.heap.size) := Nat.le_trans S3.out hb3.1.size
  clear h3 h4 hb3 a2
  go_wp2_with fail
  refine (wnumber_is k gw _ w4 rfl rfl W4.out (by simp [S.num_length, size_2])).mono ?_
  rintro e w5 ⟨rfl, v5, h3, h4⟩
  have W5 := hide h3
  have hb3 := h4.base S4.out (Nat.le_of_eq HG.out.symm) N4.out
  have B5 := hide (B4.out.trans hb3.1)
  have S5 : Hid (w0.heap.size ≤ w5.heap.size) := Nat.le_trans S4.out hb3.1.size
  clear h3 h4 hb3
  go_wp2_with fail
  refine (done_any gw v5 _ w5 W5.out (by simp [S.num_length, size_2])).mono ?_
  rintro e w6 ⟨rfl, h5, h6⟩
  have H5 := hide h5
  have hz := HZ.out
  have hs := S5.out
  have H6 : Hid (Below w.heap.size w w6) := HB.out.trans ((B5.out.mono (by omega)).trans (h6.mono (by omega)))
  have HL : Hid (w.heap.size ≤ w5.heap.size) := by show w.heap.size ≤ _; omega
  clear h5 h6 hs hz
  go_wp2_with fail
  go_ret
  refine ⟨w5.heap.size, by simp [S.num_length, size_2], HL.out, ?_, H6.out⟩
  have h := H5.out
  rw [List.nil_append] at h
  exact h
/-- An area that is laid in a block of its own. -/
theorem ar_box (w : World) (p : Value) (f c : Nat) : ∃ w0, w0 = w.alloc (.cells #[p, .int .i64 (f : Int), .int .i64 (c : Int)] 101) ∧ Hid (ArAt w0 w.heap.size p f c) ∧ Hid (Below w.heap.size w w0) ∧ Hid (w0.heap.size = w.heap.size + 1) :=
  ⟨_, rfl, heap_alloc_new _ _, (Below.refl _ _).alloc (Nat.le_refl _) _, by show (w.alloc _).heap.size = _; simp⟩
def S.room (c : Nat) : Nat := (c - 2) * 120
/-- The cells of an area behind its laying. -/
theorem ar_new (w : World) (p : Value) (f c : Nat) : (w.alloc (.cells #[p, .int .i64 (f : Int), .int .i64 (c : Int)] 101)).cell? ⟨w.heap.size, 0, none⟩ = some p ∧ (w.alloc (.cells #[p, .int .i64 (f : Int), .int .i64 (c : Int)] 101)).cell? ⟨w.heap.size, 1, none⟩ = some (.int .i64 (f : Int)) ∧ (w.alloc (.cells #[p, .int .i64 (f : Int), .int .i64 (c : Int)] 101)).cell? ⟨w.heap.size, 2, none⟩ = some (.int .i64 (c : Int)) := cells3 (heap_alloc_new _ _)
theorem room_any (p : Value) (f c : Nat) (w : World) (hc : c ≤ 100000) (h2 : 2 ≤ c) :
   Calls Tryz.prog 74 #[arv p f c] w fun e w' => e = .returned (.int .i64 (S.room c : Int)) ∧ Below w.heap.size w w' := by
  obtain ⟨a0, a1, a2⟩ := ar_new w p f c
  have E : Hid (((c : Int) - 2) * 120 = (S.room c : Int)) := by show _ = _; unfold S.room; omega
  have HB : Hid (Below w.heap.size w (w.alloc (.cells #[p, .int .i64 (f : Int), .int .i64 (c : Int)] 101))) := (Below.refl _ _).alloc (Nat.le_refl _) _
  unfold arv
  go_enter Tryz.func74, Tryz.ntmps74
  clear a0 a1
  go_wp2_with fail
  go_ret
  exact ⟨by rw [← E.out]; rfl, HB.out⟩
set_option maxRecDepth 10000 in
theorem read_ar (o : Ow) (d : S.Dk) (f c k : Nat) (w : World) (hd : DkIs w o d) (h : f + k < d.safe.length) :
   Calls Tryz.prog 84 #[arv o.ptr f c, .int .i64 (k : Int)] w fun e w' => ∃ g, e = .returned (.slice (some ⟨g, 0, none⟩) 128 128) ∧ w.heap.size ≤ g ∧ w'.heap[g]? = some (.cells (S.v8 (d.seen.getD (f + k) [])) 5 (0, 0)) ∧ Below w.heap.size w w' := by
  have hn := hd.n
  obtain ⟨w0, hw0, HA, HB, HZ⟩ := ar_box w o.ptr f c
  obtain ⟨a0, a1, a2⟩ := ar_new w o.ptr f c
  have HD := hide (hd.below HB.out)
  have HO : Hid (f + k < d.safe.length) := h
  have q : (f : Int) + (k : Int) = ((f + k : Nat) : Int) := by omega
  have HQ : Hid ((f : Int) + (k : Int) = ((f + k : Nat) : Int)) := q
  have r1 : (f : Int) ≤ 8192 := by omega
  have r2 : (k : Int) ≤ 8192 := by omega
  clear hd h q
  unfold arv
  go_enter Tryz.func84, Tryz.ntmps84
  clear a2
  go_wp2_with fail
  rw [← hw0, HQ.out]
  clear hw0 a0 a1
  refine (read_yes o d (f + k) w0 HD.out HO.out).mono ?_
  rintro e w1 ⟨rfl, h1, h2⟩
  have H1 := hide h1
  have H2 : Hid (Below w.heap.size w w1) := HB.out.trans (h2.mono (by have := HZ.out; omega))
  have H3 : Hid (w.heap.size ≤ w0.heap.size) := by show w.heap.size ≤ _; have := HZ.out; omega
  clear h1 h2
  go_wp2_with fail
  go_ret
  exact ⟨_, rfl, H3.out, H1.out, H2.out⟩
end Go.Proofs.YthjlhngjpbmieaaGreatDoor
namespace Go.Proofs.YthjlhngjpbmieaaGreatDoor
open Go.RowKit
namespace S
theorem Dk.plan_app (k : List Act) : ∀ (d : Dk) (l : List Act), d.plan (k ++ l) = if (d.plan k).2 = true then (d.plan k).1.plan l else d.plan k := by
  induction k with
  | nil => intro d l; simp [Dk.plan]
  | cons a k ih =>
    intro d l
    rw [List.cons_append, Dk.plan, Dk.plan]
    by_cases h : d.goes = true
    · rw [if_pos h, if_pos h, ih]
    · rw [if_neg h, if_neg h]
      rfl
/-- What a refused call answers, and one that is done. -/
def why (b : Bool) : Int := if b = true then 0 else 13
theorem Dk.goes_cases (d : Dk) : d.goes = true ∨ d.goes = false := by cases d.goes <;> simp
theorem Dk.act_len (d : Dk) (a : Act) : (d.act a).safe.length = d.safe.length := by
  cases a with
  | write p t => rfl
  | flush => exact Dk.seen_length _
theorem Dk.plan_len (l : List Act) : ∀ d : Dk, (d.plan l).1.safe.length = d.safe.length := by
  induction l with
  | nil => intro d; rfl
  | cons a l ih =>
    intro d
    rw [Dk.plan]
    by_cases h : d.goes = true
    · rw [if_pos h, ih, Dk.act_len]; rfl
    · rw [if_neg h]
theorem Dk.plan_pend (l : List Act) : ∀ d : Dk, (d.plan l).1.pend.length ≤ d.pend.length + l.length := by
  induction l with
  | nil => intro d; exact Nat.le_refl _
  | cons a l ih =>
    intro d
    rw [Dk.plan]
    by_cases h : d.goes = true
    · rw [if_pos h]
      refine Nat.le_trans (ih _) ?_
      cases a with
      | write p t => simp [Dk.act, Dk.write, Dk.went]; omega
      | flush => simp [Dk.act, Dk.flush]; omega
    · rw [if_neg h]; simp
end S
theorem DkTo.after {o o' : Ow} {w w0 w' : World} (h : DkTo o w0 o' w') (hb : Below w.heap.size w w0) : DkTo o w o' w' :=
  ⟨h.g, (Chg.ofBelow' hb).trans h.chg (fun _ _ e => e), fun k hk => by rcases h.own k hk with e | e; exact Or.inl e; exact Or.inr (Nat.le_trans hb.size e)⟩
theorem DkTo.then {o o' : Ow} {w w1 w2 : World} (h : DkTo o w o' w1) (hb : Below w1.heap.size w1 w2) : DkTo o w o' w2 :=
  h.trans ⟨rfl, Chg.ofBelow' hb, fun _ e => Or.inl e⟩
/-- A call that does a plan on a disk. -/
def Does (d : S.Dk) (l : List S.Act) (o : Ow) (w : World) (e : Ending) (w' : World) : Prop :=
  e = .returned (.int .i64 (S.why (d.plan l).2)) ∧ ∃ o', DkIs w' o' (d.plan l).1 ∧ DkTo o w o' w'
theorem write_do (o : Ow) (d : S.Dk) (n : Nat) (ao : Option Addr) (cap : Nat) (t : List UInt8) (w : World) (hd : DkIs w o d) (hn : n < d.safe.length) (ht : t.length = 128) (hb : d.pend.length ≤ 1000000) (hv : ∀ W, Chg (fun k => k = o.g) w W → SliceAt W (.slice ao 128 cap) t) :
   Calls Tryz.prog 60 #[o.ptr, .int .i64 (n : Int), .slice ao 128 cap] w (Does d [.write n t] o w) := by
  rcases d.goes_cases with h | h
  · refine (write_yes o d n _ t w hd hn h ht hb hv).mono ?_
    rintro e w' ⟨rfl, o', h1, h2⟩
    unfold Does
    rw [S.Dk.plan, if_pos h]
    exact ⟨rfl, o', h1, h2⟩
  · refine (write_stop o d n ao cap w hd hn h).mono ?_
    rintro e w' ⟨rfl, o', h1, h2⟩
    unfold Does
    rw [S.Dk.plan, if_neg (by rw [h]; decide)]
    exact ⟨rfl, o', h1, h2⟩
theorem flush_do (o : Ow) (d : S.Dk) (w : World) (hd : DkIs w o d) (hb : d.pend.length ≤ 1000000) :
   Calls Tryz.prog 42 #[o.ptr] w (Does d [.flush] o w) := by
  rcases d.goes_cases with h | h
  · refine (flush_yes o d w hd h hb).mono ?_
    rintro e w' ⟨rfl, o', h1, h2⟩
    unfold Does
    rw [S.Dk.plan, if_pos h]
    exact ⟨rfl, o', h1, h2⟩
  · refine (flush_stop o d w hd h).mono ?_
    rintro e w' ⟨rfl, o', h1, h2⟩
    unfold Does
    rw [S.Dk.plan, if_neg (by rw [h]; decide)]
    exact ⟨rfl, o', h1, h2⟩
set_option maxRecDepth 10000 in
theorem write_ar (o : Ow) (d : S.Dk) (f c k : Nat) (ao : Option Addr) (cap : Nat) (t : List UInt8) (w : World) (hd : DkIs w o d) (h : f + k < d.safe.length) (ht : t.length = 128) (hb : d.pend.length ≤ 1000000) (hv : ∀ W, Chg (fun k => k = o.g) w W → SliceAt W (.slice ao 128 cap) t) :
   Calls Tryz.prog 85 #[arv o.ptr f c, .int .i64 (k : Int), .slice ao 128 cap] w (Does d [.write (f + k) t] o w) := by
  have hn := hd.n
  obtain ⟨w0, hw0, HA, HB, HZ⟩ := ar_box w o.ptr f c
  obtain ⟨a0, a1, a2⟩ := ar_new w o.ptr f c
  have HD := hide (hd.below HB.out)
  have HO : Hid (f + k < d.safe.length) := h
  have HQ : Hid ((f : Int) + (k : Int) = ((f + k : Nat) : Int)) := by show _ = _; omega
  have HV : Hid (∀ W, Chg (fun k => k = o.g) w0 W → SliceAt W (.slice ao 128 cap) t) := fun W hW => hv W ((Chg.ofBelow' HB.out).trans hW (fun _ _ e => e))
  have r1 : (f : Int) ≤ 8192 := by omega
  have r2 : (k : Int) ≤ 8192 := by omega
  clear hd h hv
  unfold arv
  go_enter Tryz.func85, Tryz.ntmps85
  clear a2
  go_wp2_with fail
  rw [← hw0, HQ.out]
  clear hw0 a0 a1
  refine (write_do o d (f + k) ao cap t w0 HD.out HO.out ht hb HV.out).mono ?_
  rintro e w1 ⟨rfl, o1, h1, h2⟩
  have H : Hid (Does d [.write (f + k) t] o w (.returned (.int .i64 (S.why (d.plan [.write (f + k) t]).2))) w1) := ⟨rfl, o1, h1, h2.after HB.out⟩
  clear h1 h2
  generalize S.why (d.plan [.write (f + k) t]).2 = y at H ⊢
  go_wp2_with fail
  go_ret
  exact H.out
end Go.Proofs.YthjlhngjpbmieaaGreatDoor
namespace Go.Proofs.YthjlhngjpbmieaaGreatDoor
open Go.RowKit
theorem ArAt.dk {w0 w1 : World} {o o1 : Ow} {b f c : Nat} {p : Value} (h : ArAt w0 b p f c) (ht : DkTo o w0 o1 w1) (hb : ¬ o.has b) : ArAt w1 b p f c := ht.chg.row h hb
/-- What a plan's first part leaves of a call. -/
theorem Does.start {d : S.Dk} {l : List S.Act} {o : Ow} {w : World} {e : Ending} {w' : World} (h : Does d l o w e w') : ∃ b d1 o1, e = .returned (.int .i64 (S.why b)) ∧ d.plan l = (d1, b) ∧ DkIs w' o1 d1 ∧ DkTo o w o1 w' := by
  obtain ⟨h1, o1, h2, h3⟩ := h
  exact ⟨_, _, o1, h1, rfl, h2, h3⟩
theorem Does.stop {d d1 : S.Dk} {k l : List S.Act} {o o1 : Ow} {w w' : World} (h : d.plan k = (d1, false)) (h2 : DkIs w' o1 d1) (h3 : DkTo o w o1 w') : Does d (k ++ l) o w (.returned (.int .i64 13)) w' := by
  unfold Does
  rw [S.Dk.plan_app, h]
  exact ⟨rfl, o1, h2, h3⟩
theorem Does.on {d d1 : S.Dk} {k l : List S.Act} {o o1 : Ow} {w w1 w' : World} {e : Ending} (h : d.plan k = (d1, true)) (h3 : DkTo o w o1 w1) (h4 : Does d1 l o1 w1 e w') : Does d (k ++ l) o w e w' := by
  unfold Does
  rw [S.Dk.plan_app, h]
  obtain ⟨h5, o2, h6, h7⟩ := h4
  exact ⟨h5, o2, h6, h3.trans h7⟩
theorem Does.after {d : S.Dk} {l : List S.Act} {o : Ow} {w w0 w' : World} {e : Ending} (h : Does d l o w0 e w') (hb : Below w.heap.size w w0) : Does d l o w e w' := by
  obtain ⟨h1, o1, h2, h3⟩ := h
  exact ⟨h1, o1, h2, h3.after hb⟩
set_option maxRecDepth 10000 in
theorem keep_ar (o : Ow) (d : S.Dk) (f c k : Nat) (ao : Option Addr) (cap : Nat) (t : List UInt8) (w : World) (hd : DkIs w o d) (h : f + k < d.safe.length) (ht : t.length = 128) (hb : d.pend.length ≤ 999999) (hv : ∀ W, Chg (fun k => k = o.g) w W → SliceAt W (.slice ao 128 cap) t) :
   Calls Tryz.prog 83 #[arv o.ptr f c, .int .i64 (k : Int), .slice ao 128 cap] w (Does d [.write (f + k) t, .flush] o w) := by
  have hn := hd.n
  obtain ⟨w0, hw0, HA, HB, HZ⟩ := ar_box w o.ptr f c
  obtain ⟨a0, a1, a2⟩ := ar_new w o.ptr f c
  have HD := hide (hd.below HB.out)
  have HO : Hid (f + k < d.safe.length) := h
  have HN : Hid (¬ o.has w.heap.size) := fun e => by have := hd.lt _ e; omega
  have HV : Hid (∀ W, Chg (fun k => k = o.g) w0 W → SliceAt W (.slice ao 128 cap) t) := fun W hW => hv W ((Chg.ofBelow' HB.out).trans hW (fun _ _ e => e))
  clear hd h hv
  unfold arv
  go_enter Tryz.func83, Tryz.ntmps83
  go_wp2_with fail
  rw [← hw0]
  clear hw0 a0 a1 a2
  refine (write_ar o d f c k ao cap t w0 HD.out HO.out ht (by omega) HV.out).mono ?_
  intro e w1 hdo
  obtain ⟨b, d1, o1, rfl, h1, h2, h3⟩ := hdo.start
  have hp : d1.pend.length ≤ 1000000 := by
    have := S.Dk.plan_pend [.write (f + k) t] d
    rw [h1] at this
    simp at this
    omega
  have HP := hide hp
  have H1 := hide h1
  have H2 := hide h2
  have H3 := hide h3
  obtain ⟨a0, _, _⟩ := (HA.out.dk h3 HN.out).cells
  have hg : o1.ptr = o.ptr := by unfold Ow.ptr; rw [h3.g]
  rw [← hg] at a0
  clear hdo h1 h2 h3 hp hg
  cases b with
  | false =>
    have E : S.why false = 13 := rfl
    rw [E]
    go_wp2_with fail
    go_ret
    exact (Does.stop (l := [.flush]) H1.out H2.out H3.out).after HB.out
  | true =>
    have E : S.why true = 0 := rfl
    rw [E]
    go_wp2_with fail
    refine (flush_do o1 d1 w1 H2.out HP.out).mono ?_
    intro e w2 hdo
    have h4 : Does d ([.write (f + k) t] ++ [.flush]) o w e w2 := (Does.on H1.out H3.out hdo).after HB.out
    obtain ⟨b, d2, o2, rfl, h5, h6, h7⟩ := h4.start
    have H4 := hide h4
    clear h4 h5 h6 h7 hdo
    generalize S.why b = y at H4 ⊢
    go_wp2_with fail
    go_ret
    exact H4.out
end Go.Proofs.YthjlhngjpbmieaaGreatDoor
