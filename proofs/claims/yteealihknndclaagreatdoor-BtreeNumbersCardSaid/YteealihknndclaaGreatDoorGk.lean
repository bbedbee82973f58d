/- A log's small parts: the tag of a sector, the length of a record, the room of an area, what is read of a sector. -/
/- A log's writes and flushes, as a plan over the plain disk. -/
/- A write of a log's sector that is flushed at once; the head of a log, as a sector. -/
import Derived.Test.YteealihknndclaaGreatDoorGd
import Derived.Test.YteealihknndclaaGreatDoorGe
import Derived.Test.YteealihknndclaaGreatDoorGi
import Derived.Test.YteealihknndclaaGreatDoorGg
import Derived.Laws.IdiomStrings
import Derived.Lib.BufferRead
import Derived.Test.YteealihknndclaaGreatDoorBa
import Derived.Lib.BytesEntry
import Derived.Lib.LazyBuf
namespace Go.Proofs.YteealihknndclaaGreatDoor
open Go.RowKit
theorem wnumber_is {bs bs' : List UInt8} {n k : Int} (m g : Nat) (v : Value) (w : World) (hn : n = (m : Int)) (h : bs ++ S.num m (S.size k) = bs') (hw : WrIs w g v bs) (hb : bs.length + 8 ≤ 140737488355328) :
  Calls Tryz.prog 106 #[.pointer (some ⟨g, 0, none⟩), .int .u64 n, .int .i64 k] w fun e w' => e = .returned (.tuple #[]) ∧ ∃ v', WrIs w' g v' bs' ∧ WrTo g v w v' w' := by
 rw [← h, hn]
 exact wnumber_any g v bs m k w hw hb
theorem WrTo.base {g B : Nat} {v v' : Value} {w w' : World} (h : WrTo g v w v' w') (hB : B ≤ w.heap.size) (hg : B ≤ g) (hv : ∀ k, v.ownBlock = some k → B ≤ k) : Below B w w' ∧ ∀ k, v'.ownBlock = some k → B ≤ k :=
 ⟨h.chg.below B hB (fun k hk e => by rcases e with e | e; omega; have := hv k e; omega), fun k hk => by rcases h.own k hk with e | e; exact hv k e; omega⟩
theorem Chg.base {g B : Nat} {w w' : World} (h : Chg (fun k => k = g) w w') (hB : B ≤ w.heap.size) (hg : B ≤ g) : Below B w w' := h.below B hB (fun k hk e => by omega)
theorem nil_base (B : Nat) : ∀ k, (Value.slice none 0 0).ownBlock = some k → B ≤ k := fun k h => by cases h
namespace S
def tag (f c k : Nat) : List UInt8 := num 53516 2 ++ num f 2 ++ num c 2 ++ num k 2
theorem tag_length (f c k : Nat) : (tag f c k).length = 8 := by simp [tag, num_length]
def lenOf (n : Nat) : List UInt8 := num n 3
theorem lenOf_length (n : Nat) : (lenOf n).length = 3 := num_length _ _
end S
theorem size_3 : S.size 3 = 3 := by decide
def arv (p : Value) (f c : Nat) : Value := .agg #[p, .int .i64 (f : Int), .int .i64 (c : Int)]
theorem wrap64 (n : Nat) (h : n < 18446744073709551616) : IntKind.u64.wrap (n : Int) = (n : Int) := wrap_u64_lt n h
theorem lengthOf_any (ao : Option Addr) (n cap : Nat) (w : World) (hn : n ≤ 140737488355328) :
  Calls Tryz.prog 132 #[.slice ao n cap] w fun e w' => ∃ g, e = .returned (.slice (some ⟨g, 0, none⟩) 3 3) ∧ w.heap.size ≤ g ∧ w'.heap[g]? = some (.cells (S.v8 (S.lenOf n)) 5 (0, 0)) ∧ Below w.heap.size w w' := by
 have hw := wrap64 n (by omega)
 go_enter Tryz.func132, Tryz.ntmps132
 go_wp2_with fail
 refine (newWriter_any w).mono ?_
 rintro e w1 ⟨rfl, h1, h2⟩
 have H1 := hide h1
 have H2 := hide h2
 have HS : Hid (w.heap.size ≤ w1.heap.size) := h2.size
 obtain ⟨gw, hgw⟩ : ∃ gw, gw = w.heap.size := ⟨_, rfl⟩
 rw [← hgw]
 have HG : Hid (gw = w.heap.size) := hgw
 clear h1 h2 hgw
 go_wp2_with fail
 refine (wnumber_is n gw _ w1 rfl rfl (HG.out ▸ H1.out) (by decide)).mono ?_
 rintro e w2 ⟨rfl, v2, h3, h4⟩
 have hb2 := h4.base HS.out (Nat.le_of_eq HG.out.symm) (nil_base _)
 have H3 := hide h3
 have H4 := hide hb2
 clear h3 h4 hb2
 go_wp2_with fail
 refine (done_any gw v2 _ w2 H3.out (by simp [S.num_length, size_3])).mono ?_
 rintro e w3 ⟨rfl, h5, h6⟩
 have hs := H4.out.1.size
 have hs1 := HS.out
 have H5 := hide h5
 have H6 := hide ((H2.out.trans H4.out.1).trans (h6.mono (Nat.le_trans HS.out hs)))
 have HL : Hid (w.heap.size ≤ w2.heap.size) := Nat.le_trans hs1 hs
 clear h5 h6 hs hs1
 go_wp2_with fail
 go_ret
 exact ⟨w2.heap.size, by simp [S.num_length, size_3], HL.out, H5.out, H6.out⟩
def ArAt (w : World) (b : Nat) (p : Value) (f c : Nat) : Prop := w.heap[b]? = some (.cells #[p, .int .i64 (f : Int), .int .i64 (c : Int)] 217 (0, 0))
theorem ArAt.cells {w : World} {b f c : Nat} {p : Value} (h : ArAt w b p f c) : w.cell? ⟨b, 0, none⟩ = some p ∧ w.cell? ⟨b, 1, none⟩ = some (.int .i64 (f : Int)) ∧ w.cell? ⟨b, 2, none⟩ = some (.int .i64 (c : Int)) := cells3 h
theorem ArAt.below {w W : World} {b f c B : Nat} {p : Value} (h : ArAt w b p f c) (hb : Below B w W) (hB : b < B) : ArAt W b p f c := (hb.block b hB).trans h
set_option maxHeartbeats 800000 in
theorem tag_any (p : Value) (f c k : Nat) (w : World) (hf : f ≤ 100000) (hc : c ≤ 100000) (hk : k ≤ 100000) :
  Calls Tryz.prog 205 #[arv p f c, .int .i64 (k : Int)] w fun e w' => ∃ g, e = .returned (.slice (some ⟨g, 0, none⟩) 8 8) ∧ w.heap.size ≤ g ∧ w'.heap[g]? = some (.cells (S.v8 (S.tag f c k)) 5 (0, 0)) ∧ Below w.heap.size w w' := by
 have q1 := wrap64 f (by omega)
 have q2 := wrap64 c (by omega)
 have q3 := wrap64 k (by omega)
 obtain ⟨w0, hw0⟩ : ∃ w0, w0 = w.alloc (.cells #[p, .int .i64 (f : Int), .int .i64 (c : Int)] 217) := ⟨_, rfl⟩
 have HA : Hid (ArAt w0 w.heap.size p f c) := by rw [hw0]; exact heap_alloc_new _ _
 have HB : Hid (Below w.heap.size w w0) := by rw [hw0]; exact (Below.refl _ _).alloc (Nat.le_refl _) _
 have HZ : Hid (w0.heap.size = w.heap.size + 1) := by show w0.heap.size = _; rw [hw0]; simp
 unfold arv
 go_enter Tryz.func205, Tryz.ntmps205
 go_wp2_with fail
 rw [← hw0]
 clear hw0
 refine (newWriter_any w0).mono ?_
 rintro e w1 ⟨rfl, h1, h2⟩
 have H1 := hide h1
 have H2 : Hid (Below w0.heap.size w0 w1) := h2
 have N1 : Hid (∀ k, (Value.slice none 0 0).ownBlock = some k → w0.heap.size ≤ k) := nil_base _
 have S1 : Hid (w0.heap.size ≤ w1.heap.size) := h2.size
 obtain ⟨gw, hgw⟩ : ∃ gw, gw = w0.heap.size := ⟨_, rfl⟩
 rw [← hgw]
 have HG : Hid (gw = w0.heap.size) := hgw
 clear h1 h2 hgw
 go_wp2_with fail
 refine (wnumber_is 53516 gw _ w1 rfl rfl (HG.out ▸ H1.out) (by decide)).mono ?_
 rintro e w2 ⟨rfl, v2, h3, h4⟩
 have W2 := hide h3
 have hb2 := h4.base S1.out (Nat.le_of_eq HG.out.symm) N1.out
 have N2 := hide hb2.2
 have B2 := hide (H2.out.trans hb2.1)
 have S2 : Hid (w0.heap.size ≤ w2.heap.size) := Nat.le_trans S1.out hb2.1.size
 have hA2 := HA.out.below B2.out (by rw [HZ.out]; omega)
 obtain ⟨a0, a1, a2⟩ := hA2.cells
 clear h3 h4 hb2 hA2 a0 a2
 go_wp2_with fail
 refine (wnumber_is f gw _ w2 rfl rfl W2.out (by simp [S.num_length, size_2])).mono ?_
 rintro e w3 ⟨rfl, v3, h3, h4⟩
 have W3 := hide h3
 have hb3 := h4.base S2.out (Nat.le_of_eq HG.out.symm) N2.out
 have N3 := hide hb3.2
 have B3 := hide (B2.out.trans hb3.1)
 have S3 : Hid (w0.heap.size ≤ w3.heap.size) := Nat.le_trans S2.out hb3.1.size
 have hA2 := HA.out.below B3.out (by rw [HZ.out]; omega)
 obtain ⟨a0, a3, a2⟩ := hA2.cells
 clear h3 h4 hb3 hA2 a0 a1 a3
 go_wp2_with fail
 refine (wnumber_is c gw _ w3 rfl rfl W3.out (by simp [S.num_length, size_2])).mono ?_
 rintro e w4 ⟨rfl, v4, h3, h4⟩
 have W4 := hide h3
 have hb3 := h4.base S3.out (Nat.le_of_eq HG.out.symm) N3.out
 have N4 := hide hb3.2
 have B4 := hide (B3.out.trans hb3.1)
 have S4 : Hid (w0.heap.size ≤ w4.heap.size) := Nat.le_trans S3.out hb3.1.size
 clear h3 h4 hb3 a2
 go_wp2_with fail
 refine (wnumber_is k gw _ w4 rfl rfl W4.out (by simp [S.num_length, size_2])).mono ?_
 rintro e w5 ⟨rfl, v5, h3, h4⟩
 have W5 := hide h3
 have hb3 := h4.base S4.out (Nat.le_of_eq HG.out.symm) N4.out
 have B5 := hide (B4.out.trans hb3.1)
 have S5 : Hid (w0.heap.size ≤ w5.heap.size) := Nat.le_trans S4.out hb3.1.size
 clear h3 h4 hb3
 go_wp2_with fail
 refine (done_any gw v5 _ w5 W5.out (by simp [S.num_length, size_2])).mono ?_
 rintro e w6 ⟨rfl, h5, h6⟩
 have H5 := hide h5
 have hz := HZ.out
 have hs := S5.out
 have H6 : Hid (Below w.heap.size w w6) := HB.out.trans ((B5.out.mono (by omega)).trans (h6.mono (by omega)))
 have HL : Hid (w.heap.size ≤ w5.heap.size) := by show w.heap.size ≤ _; omega
 clear h5 h6 hs hz
 go_wp2_with fail
 go_ret
 refine ⟨w5.heap.size, by simp [S.num_length, size_2], HL.out, ?_, H6.out⟩
 have h := H5.out
 rw [List.nil_append] at h
 exact h
theorem ar_box (w : World) (p : Value) (f c : Nat) : ∃ w0, w0 = w.alloc (.cells #[p, .int .i64 (f : Int), .int .i64 (c : Int)] 217) ∧ Hid (ArAt w0 w.heap.size p f c) ∧ Hid (Below w.heap.size w w0) ∧ Hid (w0.heap.size = w.heap.size + 1) :=
 ⟨_, rfl, heap_alloc_new _ _, (Below.refl _ _).alloc (Nat.le_refl _) _, by show (w.alloc _).heap.size = _; simp⟩
def S.room (c : Nat) : Nat := (c - 2) * 120
theorem ar_new (w : World) (p : Value) (f c : Nat) : (w.alloc (.cells #[p, .int .i64 (f : Int), .int .i64 (c : Int)] 217)).cell? ⟨w.heap.size, 0, none⟩ = some p ∧ (w.alloc (.cells #[p, .int .i64 (f : Int), .int .i64 (c : Int)] 217)).cell? ⟨w.heap.size, 1, none⟩ = some (.int .i64 (f : Int)) ∧ (w.alloc (.cells #[p, .int .i64 (f : Int), .int .i64 (c : Int)] 217)).cell? ⟨w.heap.size, 2, none⟩ = some (.int .i64 (c : Int)) := cells3 (heap_alloc_new _ _)
theorem room_any (p : Value) (f c : Nat) (w : World) (hc : c ≤ 100000) (h2 : 2 ≤ c) :
  Calls Tryz.prog 171 #[arv p f c] w fun e w' => e = .returned (.int .i64 (S.room c : Int)) ∧ Below w.heap.size w w' := by
 obtain ⟨a0, a1, a2⟩ := ar_new w p f c
 have E : Hid (((c : Int) - 2) * 120 = (S.room c : Int)) := by show _ = _; unfold S.room; omega
 have HB : Hid (Below w.heap.size w (w.alloc (.cells #[p, .int .i64 (f : Int), .int .i64 (c : Int)] 217))) := (Below.refl _ _).alloc (Nat.le_refl _) _
 unfold arv
 go_enter Tryz.func171, Tryz.ntmps171
 clear a0 a1
 go_wp2_with fail
 go_ret
 exact ⟨by rw [← E.out]; rfl, HB.out⟩
set_option maxRecDepth 10000 in
theorem read_ar (o : Ow) (d : S.Dk) (f c k : Nat) (w : World) (hd : DkIs w o d) (h : f + k < d.safe.length) :
  Calls Tryz.prog 180 #[arv o.ptr f c, .int .i64 (k : Int)] w fun e w' => ∃ g, e = .returned (.slice (some ⟨g, 0, none⟩) 128 128) ∧ w.heap.size ≤ g ∧ w'.heap[g]? = some (.cells (S.v8 (d.seen.getD (f + k) [])) 5 (0, 0)) ∧ Below w.heap.size w w' := by
 have hn := hd.n
 obtain ⟨w0, hw0, HA, HB, HZ⟩ := ar_box w o.ptr f c
 obtain ⟨a0, a1, a2⟩ := ar_new w o.ptr f c
 have HD := hide (hd.below HB.out)
 have HO : Hid (f + k < d.safe.length) := h
 have q : (f : Int) + (k : Int) = ((f + k : Nat) : Int) := by omega
 have HQ : Hid ((f : Int) + (k : Int) = ((f + k : Nat) : Int)) := q
 have r1 : (f : Int) ≤ 8192 := by omega
 have r2 : (k : Int) ≤ 8192 := by omega
 clear hd h q
 unfold arv
 go_enter Tryz.func180, Tryz.ntmps180
 clear a2
 go_wp2_with fail
 rw [← hw0, HQ.out]
 clear hw0 a0 a1
 refine (read_yes o d (f + k) w0 HD.out HO.out).mono ?_
 rintro e w1 ⟨rfl, h1, h2⟩
 have H1 := hide h1
 have H2 : Hid (Below w.heap.size w w1) := HB.out.trans (h2.mono (by have := HZ.out; omega))
 have H3 : Hid (w.heap.size ≤ w0.heap.size) := by show w.heap.size ≤ _; have := HZ.out; omega
 clear h1 h2
 go_wp2_with fail
 go_ret
 exact ⟨_, rfl, H3.out, H1.out, H2.out⟩
end Go.Proofs.YteealihknndclaaGreatDoor
namespace Go.Proofs.YteealihknndclaaGreatDoor
open Go.RowKit
namespace S
theorem Dk.plan_app (k : List Act) : ∀ (d : Dk) (l : List Act), d.plan (k ++ l) = if (d.plan k).2 = true then (d.plan k).1.plan l else d.plan k := by
 induction k with
 | nil => intro d l; simp [Dk.plan]
 | cons a k ih =>
  intro d l
  rw [List.cons_append, Dk.plan, Dk.plan]
  by_cases h : d.goes = true
  ·rw [if_pos h, if_pos h, ih]
  ·rw [if_neg h, if_neg h]
   rfl
def why (b : Bool) : Int := if b = true then 0 else 13
theorem Dk.goes_cases (d : Dk) : d.goes = true ∨ d.goes = false := by cases d.goes <;> simp
theorem Dk.act_len (d : Dk) (a : Act) : (d.act a).safe.length = d.safe.length := by
 cases a with
 | write p t => rfl
 | flush => exact Dk.seen_length _
theorem Dk.plan_len (l : List Act) : ∀ d : Dk, (d.plan l).1.safe.length = d.safe.length := by
 induction l with
 | nil => intro d; rfl
 | cons a l ih =>
  intro d
  rw [Dk.plan]
  by_cases h : d.goes = true
  ·rw [if_pos h, ih, Dk.act_len]; rfl
  ·rw [if_neg h]
theorem Dk.plan_pend (l : List Act) : ∀ d : Dk, (d.plan l).1.pend.length ≤ d.pend.length + l.length := by
 induction l with
 | nil => intro d; exact Nat.le_refl _
 | cons a l ih =>
  intro d
  rw [Dk.plan]
  by_cases h : d.goes = true
  ·rw [if_pos h]
   refine Nat.le_trans (ih _) ?_
   cases a with
   | write p t => simp [Dk.act, Dk.write, Dk.went]; omega
   | flush => simp [Dk.act, Dk.flush]; omega
  ·rw [if_neg h]; simp
end S
theorem DkTo.after {o o' : Ow} {w w0 w' : World} (h : DkTo o w0 o' w') (hb : Below w.heap.size w w0) : DkTo o w o' w' :=
 ⟨h.g, (Chg.ofBelow' hb).trans h.chg (fun _ _ e => e), fun k hk => by rcases h.own k hk with e | e; exact Or.inl e; exact Or.inr (Nat.le_trans hb.size e)⟩
theorem DkTo.then {o o' : Ow} {w w1 w2 : World} (h : DkTo o w o' w1) (hb : Below w1.heap.size w1 w2) : DkTo o w o' w2 :=
 h.trans ⟨rfl, Chg.ofBelow' hb, fun _ e => Or.inl e⟩
def Does (d : S.Dk) (l : List S.Act) (o : Ow) (w : World) (e : Ending) (w' : World) : Prop :=
 e = .returned (.int .i64 (S.why (d.plan l).2)) ∧ ∃ o', DkIs w' o' (d.plan l).1 ∧ DkTo o w o' w'
theorem write_do (o : Ow) (d : S.Dk) (n : Nat) (ao : Option Addr) (cap : Nat) (t : List UInt8) (w : World) (hd : DkIs w o d) (hn : n < d.safe.length) (ht : t.length = 128) (hb : d.pend.length ≤ 1000000) (hv : ∀ W, Chg (fun k => k = o.g) w W → SliceAt W (.slice ao 128 cap) t) :
  Calls Tryz.prog 151 #[o.ptr, .int .i64 (n : Int), .slice ao 128 cap] w (Does d [.write n t] o w) := by
 rcases d.goes_cases with h | h
 ·refine (write_yes o d n _ t w hd hn h ht hb hv).mono ?_
  rintro e w' ⟨rfl, o', h1, h2⟩
  unfold Does
  rw [S.Dk.plan, if_pos h]
  exact ⟨rfl, o', h1, h2⟩
 ·refine (write_stop o d n ao cap w hd hn h).mono ?_
  rintro e w' ⟨rfl, o', h1, h2⟩
  unfold Does
  rw [S.Dk.plan, if_neg (by rw [h]; decide)]
  exact ⟨rfl, o', h1, h2⟩
theorem flush_do (o : Ow) (d : S.Dk) (w : World) (hd : DkIs w o d) (hb : d.pend.length ≤ 1000000) :
  Calls Tryz.prog 111 #[o.ptr] w (Does d [.flush] o w) := by
 rcases d.goes_cases with h | h
 ·refine (flush_yes o d w hd h hb).mono ?_
  rintro e w' ⟨rfl, o', h1, h2⟩
  unfold Does
  rw [S.Dk.plan, if_pos h]
  exact ⟨rfl, o', h1, h2⟩
 ·refine (flush_stop o d w hd h).mono ?_
  rintro e w' ⟨rfl, o', h1, h2⟩
  unfold Does
  rw [S.Dk.plan, if_neg (by rw [h]; decide)]
  exact ⟨rfl, o', h1, h2⟩
set_option maxRecDepth 10000 in
theorem write_ar (o : Ow) (d : S.Dk) (f c k : Nat) (ao : Option Addr) (cap : Nat) (t : List UInt8) (w : World) (hd : DkIs w o d) (h : f + k < d.safe.length) (ht : t.length = 128) (hb : d.pend.length ≤ 1000000) (hv : ∀ W, Chg (fun k => k = o.g) w W → SliceAt W (.slice ao 128 cap) t) :
  Calls Tryz.prog 181 #[arv o.ptr f c, .int .i64 (k : Int), .slice ao 128 cap] w (Does d [.write (f + k) t] o w) := by
 have hn := hd.n
 obtain ⟨w0, hw0, HA, HB, HZ⟩ := ar_box w o.ptr f c
 obtain ⟨a0, a1, a2⟩ := ar_new w o.ptr f c
 have HD := hide (hd.below HB.out)
 have HO : Hid (f + k < d.safe.length) := h
 have HQ : Hid ((f : Int) + (k : Int) = ((f + k : Nat) : Int)) := by show _ = _; omega
 have HV : Hid (∀ W, Chg (fun k => k = o.g) w0 W → SliceAt W (.slice ao 128 cap) t) := fun W hW => hv W ((Chg.ofBelow' HB.out).trans hW (fun _ _ e => e))
 have r1 : (f : Int) ≤ 8192 := by omega
 have r2 : (k : Int) ≤ 8192 := by omega
 clear hd h hv
 unfold arv
 go_enter Tryz.func181, Tryz.ntmps181
 clear a2
 go_wp2_with fail
 rw [← hw0, HQ.out]
 clear hw0 a0 a1
 refine (write_do o d (f + k) ao cap t w0 HD.out HO.out ht hb HV.out).mono ?_
 rintro e w1 ⟨rfl, o1, h1, h2⟩
 have H : Hid (Does d [.write (f + k) t] o w (.returned (.int .i64 (S.why (d.plan [.write (f + k) t]).2))) w1) := ⟨rfl, o1, h1, h2.after HB.out⟩
 clear h1 h2
 generalize S.why (d.plan [.write (f + k) t]).2 = y at H ⊢
 go_wp2_with fail
 go_ret
 exact H.out
end Go.Proofs.YteealihknndclaaGreatDoor
namespace Go.Proofs.YteealihknndclaaGreatDoor
open Go.RowKit
theorem ArAt.dk {w0 w1 : World} {o o1 : Ow} {b f c : Nat} {p : Value} (h : ArAt w0 b p f c) (ht : DkTo o w0 o1 w1) (hb : ¬ o.has b) : ArAt w1 b p f c := ht.chg.row h hb
theorem Does.start {d : S.Dk} {l : List S.Act} {o : Ow} {w : World} {e : Ending} {w' : World} (h : Does d l o w e w') : ∃ b d1 o1, e = .returned (.int .i64 (S.why b)) ∧ d.plan l = (d1, b) ∧ DkIs w' o1 d1 ∧ DkTo o w o1 w' := by
 obtain ⟨h1, o1, h2, h3⟩ := h
 exact ⟨_, _, o1, h1, rfl, h2, h3⟩
theorem Does.stop {d d1 : S.Dk} {k l : List S.Act} {o o1 : Ow} {w w' : World} (h : d.plan k = (d1, false)) (h2 : DkIs w' o1 d1) (h3 : DkTo o w o1 w') : Does d (k ++ l) o w (.returned (.int .i64 13)) w' := by
 unfold Does
 rw [S.Dk.plan_app, h]
 exact ⟨rfl, o1, h2, h3⟩
theorem Does.on {d d1 : S.Dk} {k l : List S.Act} {o o1 : Ow} {w w1 w' : World} {e : Ending} (h : d.plan k = (d1, true)) (h3 : DkTo o w o1 w1) (h4 : Does d1 l o1 w1 e w') : Does d (k ++ l) o w e w' := by
 unfold Does
 rw [S.Dk.plan_app, h]
 obtain ⟨h5, o2, h6, h7⟩ := h4
 exact ⟨h5, o2, h6, h3.trans h7⟩
theorem Does.after {d : S.Dk} {l : List S.Act} {o : Ow} {w w0 w' : World} {e : Ending} (h : Does d l o w0 e w') (hb : Below w.heap.size w w0) : Does d l o w e w' := by
 obtain ⟨h1, o1, h2, h3⟩ := h
 exact ⟨h1, o1, h2, h3.after hb⟩
set_option maxRecDepth 10000 in
theorem keep_ar (o : Ow) (d : S.Dk) (f c k : Nat) (ao : Option Addr) (cap : Nat) (t : List UInt8) (w : World) (hd : DkIs w o d) (h : f + k < d.safe.length) (ht : t.length = 128) (hb : d.pend.length ≤ 999999) (hv : ∀ W, Chg (fun k => k = o.g) w W → SliceAt W (.slice ao 128 cap) t) :
  Calls Tryz.prog 179 #[arv o.ptr f c, .int .i64 (k : Int), .slice ao 128 cap] w (Does d [.write (f + k) t, .flush] o w) := by
 have hn := hd.n
 obtain ⟨w0, hw0, HA, HB, HZ⟩ := ar_box w o.ptr f c
 obtain ⟨a0, a1, a2⟩ := ar_new w o.ptr f c
 have HD := hide (hd.below HB.out)
 have HO : Hid (f + k < d.safe.length) := h
 have HN : Hid (¬ o.has w.heap.size) := fun e => by have := hd.lt _ e; omega
 have HV : Hid (∀ W, Chg (fun k => k = o.g) w0 W → SliceAt W (.slice ao 128 cap) t) := fun W hW => hv W ((Chg.ofBelow' HB.out).trans hW (fun _ _ e => e))
 clear hd h hv
 unfold arv
 go_enter Tryz.func179, Tryz.ntmps179
 go_wp2_with fail
 rw [← hw0]
 clear hw0 a0 a1 a2
 refine (write_ar o d f c k ao cap t w0 HD.out HO.out ht (by omega) HV.out).mono ?_
 intro e w1 hdo
 obtain ⟨b, d1, o1, rfl, h1, h2, h3⟩ := hdo.start
 have hp : d1.pend.length ≤ 1000000 := by
  have := S.Dk.plan_pend [.write (f + k) t] d
  rw [h1] at this
  simp at this
  omega
 have HP := hide hp
 have H1 := hide h1
 have H2 := hide h2
 have H3 := hide h3
 obtain ⟨a0, _, _⟩ := (HA.out.dk h3 HN.out).cells
 have hg : o1.ptr = o.ptr := by unfold Ow.ptr; rw [h3.g]
 rw [← hg] at a0
 clear hdo h1 h2 h3 hp hg
 cases b with
 | false =>
  have E : S.why false = 13 := rfl
  rw [E]
  go_wp2_with fail
  go_ret
  exact (Does.stop (l := [.flush]) H1.out H2.out H3.out).after HB.out
 | true =>
  have E : S.why true = 0 := rfl
  rw [E]
  go_wp2_with fail
  refine (flush_do o1 d1 w1 H2.out HP.out).mono ?_
  intro e w2 hdo
  have h4 : Does d ([.write (f + k) t] ++ [.flush]) o w e w2 := (Does.on H1.out H3.out hdo).after HB.out
  obtain ⟨b, d2, o2, rfl, h5, h6, h7⟩ := h4.start
  have H4 := hide h4
  clear h4 h5 h6 h7 hdo
  generalize S.why b = y at H4 ⊢
  go_wp2_with fail
  go_ret
  exact H4.out
theorem conv_slice {w : World} {v : Value} {bs : List UInt8} (h : SliceAt w v bs) : (convert 32 9 v).run Tryz.prog w = .ok (.string ⟨bs.toArray⟩) w := by
 rcases h with ⟨rfl, rfl⟩ | ⟨a, cap, rfl, _, rfl⟩ | ⟨b, off, cap, rfl, h1, h2, h3, h4⟩
 ·exact Lib.run_convert_nil_bytes w 32 9 5 0 Tryz.underlying32 Tryz.underlying5 Tryz.underlying9
 ·exact run_convert_bytes_back w 32 9 5 a cap [] Tryz.underlying32 Tryz.underlying5 Tryz.underlying9 (fun j hj => by simp at hj)
 ·refine run_convert_bytes_back w 32 9 5 ⟨b, off, none⟩ cap bs Tryz.underlying32 Tryz.underlying5 Tryz.underlying9 (fun j hj => ?_)
  rw [Addr.add_lit]
  have := h4 j hj
  simp only [List.getD_eq_getElem?_getD, List.getElem?_eq_getElem hj, Option.getD_some] at this
  simpa using this
set_option maxRecDepth 10000 in
theorem equal_any (v u : Value) (xs ys : List UInt8) (w : World) (h1 : SliceAt w v xs) (h2 : SliceAt w u ys) :
  Calls Tryz.prog 80 #[v, u] w fun e w' => e = .returned (.bool (decide (xs = ys))) ∧ w = w' := by
 have k1 := conv_slice h1
 have k2 := conv_slice h2
 obtain ⟨ao, l1, c1, rfl, z1⟩ := h1.form
 obtain ⟨bo, l2, c2, rfl, z2⟩ := h2.form
 clear h1 h2 z1 z2
 obtain ⟨A, hA⟩ : ∃ A : ByteArray, A = ⟨xs.toArray⟩ := ⟨_, rfl⟩
 obtain ⟨B, hB⟩ : ∃ A : ByteArray, A = ⟨ys.toArray⟩ := ⟨_, rfl⟩
 rw [← hA] at k1
 rw [← hB] at k2
 have HE : Hid ((A.toList == B.toList) = decide (xs = ys)) := by
  show (A.toList == B.toList) = decide (xs = ys)
  rw [hA, hB, ByteArray.toList_eq, ByteArray.toList_eq]
  rw [Bool.eq_iff_iff]
  simp
 clear hA hB
 go_enter Tryz.func80, Tryz.ntmps80
 go_wp2
 go_ret
 exact ⟨by rw [← HE.out]; rfl, rfl⟩
theorem prefix_take (xs ys : List UInt8) : decide (xs.take ys.length = ys) = decide (ys <+: xs) := by
 rw [decide_eq_decide]
 exact ⟨fun e => List.prefix_iff_eq_take.2 e.symm, fun e => (List.prefix_iff_eq_take.1 e).symm⟩
set_option maxRecDepth 10000 in
theorem prefix_any (v u : Value) (xs ys : List UInt8) (w : World) (h1 : SliceAt w v xs) (h2 : SliceAt w u ys) :
  Calls Tryz.prog 211 #[v, u] w fun e w' => e = .returned (.bool (decide (ys <+: xs))) ∧ w = w' := by
 obtain ⟨ao, l1, c1, rfl, hl1, hm1⟩ := h1.form
 obtain ⟨bo, l2, c2, rfl, hl2, hm2⟩ := h2.form
 have H1 := hide h1
 have H2 := hide h2
 have L1 := hide hl1
 have L2 := hide hl2
 by_cases hlt : l2 ≤ l1
 ·have q1 : (l2 : Int) ≤ (l1 : Int) := by omega
  have q2 : (0 : Int) ≤ (l2 : Int) := by omega
  have q3 : (l1 : Int) ≤ (c1 : Int) := by have := h1.le_cap; omega
  have q4 : (l2 : Int) ≤ (c1 : Int) := by omega
  have HP := hide (part_to h1 l2 hlt)
  have HQ := hide (prefix_take xs ys)
  clear h1 h2 hl1 hl2
  go_enter Tryz.func211, Tryz.ntmps211
  go_wp2_with fail
  refine (equal_any _ _ _ _ w HP.out H2.out).mono ?_
  rintro e w1 ⟨rfl, rfl⟩
  rw [L2.out, HQ.out]
  obtain ⟨B, hB⟩ : ∃ B, B = decide (ys <+: xs) := ⟨_, rfl⟩
  rw [← hB]
  have HB := hide hB
  clear hB
  have E := L2.out
  go_wp2_with fail
  go_ret
  exact ⟨by rw [← HB.out]; rfl, rfl⟩
 ·have q1 : ¬ (l2 : Int) ≤ (l1 : Int) := by omega
  have HQ : Hid (decide (ys <+: xs) = false) := by
   refine decide_eq_false fun e => ?_
   have := e.length_le
   omega
  clear h1 h2 hl1 hl2
  go_enter Tryz.func211, Tryz.ntmps211
  go_wp2_with fail
  go_ret
  exact ⟨by rw [HQ.out]; rfl, rfl⟩
theorem bytesOf_at {w : World} {v : Value} {bs : List UInt8} (h : SliceAt w v bs) : (Extern.Bytes.bytesOf v).run Tryz.prog w = .ok ⟨bs.toArray⟩ w := by
 rcases h with ⟨rfl, rfl⟩ | ⟨a, cap, rfl, _, rfl⟩ | ⟨b, off, cap, rfl, h1, h2, h3, h4⟩
 ·rfl
 ·rfl
 ·have hl := Lib.run_loadBytesX (P := Tryz.prog) w (bs.map fun x => (x.toNat : Int)) ⟨b, off, none⟩ .empty (fun j x hj => by
   rw [List.getElem?_map, Option.map_eq_some_iff] at hj
   obtain ⟨y, hy, rfl⟩ := hj
   have hjl : j < bs.length := (List.getElem?_eq_some_iff.1 hy).1
   have := h4 j hjl
   rw [Addr.add_lit, this, List.getD_eq_getElem?_getD, hy]
   rfl)
  rw [List.length_map] at hl
  show (Extern.Bytes.loadBytes _ _ _).run _ _ = _
  rw [hl]
  congr 1
  apply ByteArray.ext
  have e : ((fun n : Int => UInt8.ofNat n.toNat) ∘ fun x : UInt8 => (x.toNat : Int)) = id := by funext x; simp
  simp [Lib.bytesOf, List.map_map, e]
theorem run_compare {w : World} {v u : Value} {xs ys : List UInt8} (h1 : SliceAt w v xs) (h2 : SliceAt w u ys) : (Extern.BytealgCompare.compare #[v, u]).run Tryz.prog w = .ok (.int .i64 (Lib.compareBytes xs ys)) w := by
 change Sem.run Tryz.prog (do pure (goInt (Extern.BytealgCompare.cmp (← Extern.Bytes.bytesOf v) (← Extern.Bytes.bytesOf u)))) w = _
 simp only [Sem.run_bind, bytesOf_at h1, bytesOf_at h2, Sem.run_pure, Result.andThen]
 rw [Lib.cmp_eq]
 rfl
set_option maxRecDepth 100000 in
theorem compare_any (v u : Value) (xs ys : List UInt8) (w : World) (h1 : SliceAt w v xs) (h2 : SliceAt w u ys) :
  Calls Tryz.prog 79 #[v, u] w fun e w' => e = .returned (.int .i64 (Lib.compareBytes xs ys)) ∧ w = w' := by
 have hc := run_compare h1 h2
 obtain ⟨ao, l1, c1, rfl, z1⟩ := h1.form
 obtain ⟨bo, l2, c2, rfl, z2⟩ := h2.form
 clear h1 h2 z1 z2
 generalize Lib.compareBytes xs ys = c at hc ⊢
 go_enter Tryz.func79, Tryz.ntmps79
 go_wp2
 rw [run_callFunc_extern Tryz.func123 (by kernel_rfl) (by kernel_rfl) (by kernel_rfl) (e := Extern.BytealgCompare.compare) (by kernel_rfl), hc]
 simp only [Result.andThen]
 rw [Oper.upon_value]
 go_wp2
 go_ret
 exact ⟨rfl, rfl⟩
namespace S
def kcmp (a b : List UInt8) : Int := Lib.compareBytes a b
theorem kcmp_nil : kcmp [] [] = 0 := rfl
theorem kcmp_nl (x : UInt8) (a : List UInt8) : kcmp [] (x :: a) = -1 := by simp [kcmp, Lib.compareBytes]
theorem kcmp_ln (x : UInt8) (a : List UInt8) : kcmp (x :: a) [] = 1 := by simp [kcmp, Lib.compareBytes]
theorem kcmp_cons (x y : UInt8) (a b : List UInt8) : kcmp (x :: a) (y :: b) = if x < y then -1 else if y < x then 1 else kcmp a b := by simp [kcmp, Lib.compareBytes]
theorem kcmp_self (a : List UInt8) : kcmp a a = 0 := by
 induction a with
 | nil => rfl
 | cons x a ih => rw [kcmp_cons, if_neg (UInt8.lt_irrefl x), if_neg (UInt8.lt_irrefl x), ih]
theorem kcmp_swap (a b : List UInt8) : kcmp b a = - kcmp a b := by
 induction a generalizing b with
 | nil => cases b with
  | nil => rfl
  | cons y b => rw [kcmp_ln, kcmp_nl]; rfl
 | cons x a ih => cases b with
  | nil => rw [kcmp_ln, kcmp_nl]
  | cons y b =>
   rw [kcmp_cons, kcmp_cons]
   by_cases h1 : x < y
   ·have h2 : ¬ y < x := fun h => by rw [UInt8.lt_iff_toNat_lt] at h h1; omega
    simp [h1, h2]
   ·by_cases h2 : y < x
    ·simp [h1, h2]
    ·simp [h1, h2, ih]
theorem kcmp_eq {a b : List UInt8} (h : kcmp a b = 0) : a = b := by
 induction a generalizing b with
 | nil => cases b with
  | nil => rfl
  | cons y b => rw [kcmp_nl] at h; omega
 | cons x a ih => cases b with
  | nil => rw [kcmp_ln] at h; omega
  | cons y b =>
   rw [kcmp_cons] at h
   by_cases h1 : x < y
   ·rw [if_pos h1] at h; omega
   ·rw [if_neg h1] at h
    by_cases h2 : y < x
    ·rw [if_pos h2] at h; omega
    ·rw [if_neg h2] at h
     have e : x = y := UInt8.toNat_inj.1 (by rw [UInt8.lt_iff_toNat_lt] at h1 h2; omega)
     rw [e, ih h]
theorem kcmp_trans {a b c : List UInt8} (h1 : kcmp a b < 0) (h2 : kcmp b c < 0) : kcmp a c < 0 := by
 induction a generalizing b c with
 | nil => cases c with
  | nil => cases b with
   | nil => exact h1
   | cons y b => rw [kcmp_ln] at h2; omega
  | cons z c => rw [kcmp_nl]; omega
 | cons x a ih => cases b with
  | nil => rw [kcmp_ln] at h1; omega
  | cons y b => cases c with
   | nil => rw [kcmp_ln] at h2; omega
   | cons z c =>
    rw [kcmp_cons] at h1 h2 ⊢
    simp only [UInt8.lt_iff_toNat_lt] at h1 h2 ⊢
    by_cases p1 : x.toNat < y.toNat
    ·by_cases p2 : y.toNat < z.toNat
     ·rw [if_pos (by omega)]; omega
     ·rw [if_neg p2] at h2
      by_cases p3 : z.toNat < y.toNat
      ·rw [if_pos p3] at h2; omega
      ·rw [if_pos (by omega)]; omega
    ·rw [if_neg p1] at h1
     by_cases q1 : y.toNat < x.toNat
     ·rw [if_pos q1] at h1; omega
     ·rw [if_neg q1] at h1
      by_cases p2 : y.toNat < z.toNat
      ·rw [if_pos (by omega)]; omega
      ·rw [if_neg p2] at h2
       by_cases p3 : z.toNat < y.toNat
       ·rw [if_pos p3] at h2; omega
       ·rw [if_neg p3] at h2
        rw [if_neg (by omega), if_neg (by omega)]
        exact ih h1 h2
theorem kcmp_word (a b : List UInt8) : -1 ≤ kcmp a b ∧ kcmp a b ≤ 1 := by
 induction a generalizing b with
 | nil => cases b with
  | nil => rw [kcmp_nil]; omega
  | cons y b => rw [kcmp_nl]; omega
 | cons x a ih => cases b with
  | nil => rw [kcmp_ln]; omega
  | cons y b => rw [kcmp_cons]; split; omega; split; omega; exact ih b
def up (ks : List (List UInt8)) : Prop := ks.Pairwise (fun a b => kcmp a b < 0)
def rank (ks : List (List UInt8)) (k : List UInt8) : Nat := ks.countP (fun a => decide (kcmp a k < 0))
end S
def Els {α : Type} (enc : α → List Value) (w : World) (v : Value) (d : List α) : Prop :=
 (v = .slice none 0 0 ∧ d = []) ∨ (∃ a cap, v = .slice (some a) 0 cap ∧ d = []) ∨
 (∃ b off cap, v = .slice (some ⟨b, off, none⟩) d.length cap ∧ d.length ≤ cap ∧ d.length ≤ 1000000 ∧ b < w.heap.size ∧ ∀ j u, (d.flatMap enc)[j]? = some u → w.cell? ⟨b, off + j, none⟩ = some u)
theorem Els.form {α : Type} {enc : α → List Value} {w : World} {v : Value} {d : List α} (h : Els enc w v d) : ∃ ao cap, v = .slice ao d.length cap ∧ d.length ≤ 1000000 := by
 rcases h with ⟨rfl, rfl⟩ | ⟨a, cap, rfl, rfl⟩ | ⟨b, off, cap, rfl, h1, h2, h3, h4⟩
 ·exact ⟨_, _, rfl, by simp⟩
 ·exact ⟨_, _, rfl, by simp⟩
 ·exact ⟨_, _, rfl, h2⟩
theorem Els.chg {α : Type} {enc : α → List Value} {p : Nat → Prop} {w W : World} {v : Value} {d : List α} (h : Els enc w v d) (hc : Chg p w W) (hp : ∀ k, v.ownBlock = some k → ¬ p k) : Els enc W v d := by
 rcases h with h | h | ⟨b, off, cap, rfl, h1, h2, h3, h4⟩
 ·exact Or.inl h
 ·exact Or.inr (Or.inl h)
 ·exact Or.inr (Or.inr ⟨b, off, cap, rfl, h1, h2, Nat.lt_of_lt_of_le h3 hc.size, fun j u hu => (World.cell?_of_block (hc.block b h3 (hp b rfl))).trans (h4 j u hu)⟩)
theorem Els.below {α : Type} {enc : α → List Value} {w W : World} {v : Value} {d : List α} (h : Els enc w v d) (hb : Below w.heap.size w W) : Els enc W v d := h.chg (p := fun _ => False) (Chg.ofBelow' hb) (fun _ _ e => e)
theorem flat_get {α : Type} {enc : α → List Value} {k : Nat} (hk : ∀ x, (enc x).length = k) (d : List α) (i r : Nat) (x : α) (hx : d[i]? = some x) (hr : r < k) : (d.flatMap enc)[i * k + r]? = (enc x)[r]? := by
 induction d generalizing i with
 | nil => simp at hx
 | cons y l ih =>
  rw [List.flatMap_cons]
  match i, hx with
  | 0, hx =>
   simp at hx
   subst hx
   rw [Nat.zero_mul, Nat.zero_add, List.getElem?_append_left (by rw [hk]; exact hr)]
  | i + 1, hx =>
   rw [List.getElem?_append_right (by rw [hk, Nat.add_mul]; omega), hk, ← ih i (by simpa using hx)]
   congr 1
   rw [Nat.add_mul]
   omega
theorem Els.at {α : Type} {enc : α → List Value} {k : Nat} (hk : ∀ x, (enc x).length = k) {w : World} {v : Value} {d : List α} (h : Els enc w v d) (i : Nat) (x : α) (hx : d[i]? = some x) : ∃ b off cap, v = .slice (some ⟨b, off, none⟩) d.length cap ∧ d.length ≤ cap ∧ b < w.heap.size ∧ ∀ r u, (enc x)[r]? = some u → w.cell? ⟨b, off + (i * k + r), none⟩ = some u := by
 rcases h with ⟨rfl, rfl⟩ | ⟨a, cap, rfl, rfl⟩ | ⟨b, off, cap, rfl, h1, h2, h3, h4⟩
 ·simp at hx
 ·simp at hx
 ·refine ⟨b, off, cap, rfl, h1, h3, fun r u hu => h4 _ u ?_⟩
  have hr : r < k := by have := (List.getElem?_eq_some_iff.1 hu).1; rw [hk] at this; exact this
  rw [flat_get hk d i r x hx hr, hu]
structure EnV where
 ka : Option Addr
 kn : Nat
 kc : Nat
 va : Option Addr
 vn : Nat
 vc : Nat
 pg : Int
 nd : Option Addr
def EnV.key (x : EnV) : Value := .slice x.ka x.kn x.kc
def EnV.val (x : EnV) : Value := .slice x.va x.vn x.vc
def encEn (x : EnV) : List Value := [.slice x.ka x.kn x.kc, .slice x.va x.vn x.vc, .int .i64 x.pg, .pointer x.nd]
theorem encEn_len (x : EnV) : (encEn x).length = 4 := rfl
structure EnIs (w : World) (x : EnV) (e : S.Ent) : Prop where
 key : SliceAt w x.key e.key
 val : SliceAt w x.val e.val
 page : x.pg = (e.page : Int)
def EnsAre (w : World) (d : List EnV) (es : List S.Ent) : Prop := d.length = es.length ∧ ∀ (i : Nat) x e, d[i]? = some x → es[i]? = some e → EnIs w x e
theorem EnIs.below {w W : World} {x : EnV} {e : S.Ent} (h : EnIs w x e) (hb : Below w.heap.size w W) : EnIs W x e := ⟨h.key.below hb (Nat.le_refl _), h.val.below hb (Nat.le_refl _), h.page⟩
theorem EnsAre.below {w W : World} {d : List EnV} {es : List S.Ent} (h : EnsAre w d es) (hb : Below w.heap.size w W) : EnsAre W d es := ⟨h.1, fun i x e hx he => (h.2 i x e hx he).below hb⟩
theorem EnsAre.at {w : World} {d : List EnV} {es : List S.Ent} (h : EnsAre w d es) {i : Nat} (hi : i < es.length) : ∃ x, d[i]? = some x ∧ EnIs w x es[i] := by
 have hd : i < d.length := by rw [h.1]; exact hi
 exact ⟨d[i], List.getElem?_eq_getElem hd, h.2 i _ _ (List.getElem?_eq_getElem hd) (List.getElem?_eq_getElem hi)⟩
set_option maxRecDepth 10000 in
theorem find1_any (ka va nd : Option Addr) (kn kc vn vc : Nat) (pg : Int) (kv : Value) (k key : List UInt8) (w : World) (h1 : SliceAt w (.slice ka kn kc) k) (h2 : SliceAt w kv key) :
  Calls Tryz.prog 97 #[.agg #[.slice ka kn kc, .slice va vn vc, .int .i64 pg, .pointer nd], kv] w fun e w' => e = .returned (.int .i64 (S.kcmp k key)) ∧ Below w.heap.size w w' := by
 have H1 := hide h1
 have H2 := hide h2
 obtain ⟨ao, l1, c1, rfl, z1⟩ := h2.form
 obtain ⟨c, hc⟩ : ∃ c, c = S.kcmp k key := ⟨_, rfl⟩
 rw [← hc]
 have HC : Hid (Lib.compareBytes k key = c) := hc.symm
 clear h1 h2 z1 hc
 go_enter Tryz.func97, Tryz.ntmps97
 go_wp2_with fail
 have B1 : Hid (Below w.heap.size w (w.alloc (.cells #[.slice ka kn kc, .slice va vn vc, .int .i64 pg, .pointer nd] 126))) := (Below.refl _ _).alloc (Nat.le_refl _) _
 refine (compare_any _ _ k key _ (H1.out.below B1.out (Nat.le_refl _)) (H2.out.below B1.out (Nat.le_refl _))).mono ?_
 rintro e w1 ⟨rfl, rfl⟩
 rw [HC.out]
 go_wp2_with fail
 go_ret
 exact ⟨rfl, B1.out⟩
theorem bcell {w : World} {b off i : Nat} {x : EnV} (h : ∀ (r : Nat) u, (encEn x)[r]? = some u → w.cell? ⟨b, off + (i * 4 + r), none⟩ = some u) :
  w.cell? ⟨b, off + i * 4, none⟩ = some (.slice x.ka x.kn x.kc) ∧ w.cell? ⟨b, off + i * 4 + 1, none⟩ = some (.slice x.va x.vn x.vc) ∧ w.cell? ⟨b, off + i * 4 + 2, none⟩ = some (.int .i64 x.pg) ∧ w.cell? ⟨b, off + i * 4 + 3, none⟩ = some (.pointer x.nd) :=
 ⟨h 0 _ rfl, by rw [Nat.add_assoc]; exact h 1 _ rfl, by rw [Nat.add_assoc]; exact h 2 _ rfl, by rw [Nat.add_assoc]; exact h 3 _ rfl⟩
namespace S
theorem rank_at (ks : List (List UInt8)) (k : List UInt8) (i : Nat) (hi : i ≤ ks.length) (h1 : ∀ j (h : j < ks.length), j < i → kcmp ks[j] k < 0) (h2 : ∀ j (h : j < ks.length), i ≤ j → 0 ≤ kcmp ks[j] k) : rank ks k = i := by
 unfold rank
 induction ks generalizing i with
 | nil => simp at hi; simp [hi]
 | cons a l ih =>
  cases i with
  | zero =>
   rw [List.countP_eq_zero]
   intro x hx
   obtain ⟨j, hj, rfl⟩ := List.getElem_of_mem hx
   have := h2 j hj (Nat.zero_le _)
   simp; omega
  | succ i =>
   have h0 := h1 0 (by simp) (by omega)
   rw [List.countP_cons_of_pos (by simpa using h0), ih i (by simpa using hi) (fun j h hj => by have := h1 (j + 1) (by simpa using h) (by omega); simpa using this) (fun j h hj => by have := h2 (j + 1) (by simpa using h) (by omega); simpa using this)]
theorem up_lt {ks : List (List UInt8)} (h : up ks) {i j : Nat} (hj : j < ks.length) (hij : i < j) : kcmp ks[i] ks[j] < 0 := List.pairwise_iff_getElem.1 h i j (by omega) hj hij
theorem rank_mem {ks : List (List UInt8)} (h : up ks) (k : List UInt8) (i : Nat) (hi : i ≤ ks.length) (h1 : ∀ j (h : j < ks.length), j < i → kcmp ks[j] k < 0) (h2 : ∀ j (h : j < ks.length), i ≤ j → 0 ≤ kcmp ks[j] k) : (k ∈ ks) ↔ ∃ hi : i < ks.length, kcmp ks[i] k = 0 := by
 constructor
 ·intro hm
  obtain ⟨j, hj, rfl⟩ := List.getElem_of_mem hm
  have a1 : i ≤ j := by
   rcases Nat.lt_or_ge j i with e | e
   ·have := h1 j hj e; rw [kcmp_self] at this; omega
   ·exact e
  have a2 : ¬ i < j := fun e => by have := up_lt h hj e; have := h2 i (by omega) (Nat.le_refl _); omega
  obtain rfl : i = j := by omega
  exact ⟨hj, kcmp_self _⟩
 ·rintro ⟨h3, h4⟩
  rw [← kcmp_eq h4]
  exact List.getElem_mem _
end S
set_option maxHeartbeats 4000000 in
set_option maxRecDepth 10000 in
theorem bsearch_any (v kv : Value) (d : List EnV) (es : List S.Ent) (key : List UInt8) (w : World) (hd : Els encEn w v d) (he : EnsAre w d es) (hk : SliceAt w kv key) (hu : S.up (es.map (·.key))) :
  Calls Tryz.prog 96 #[v, kv, .func (.func 97) #[] #[]] w fun e w' => e = .returned (.tuple #[.int .i64 (S.rank (es.map (·.key)) key : Nat), .bool (decide (key ∈ es.map (·.key)))]) ∧ Below w.heap.size w w' := by
 obtain ⟨ks, hks⟩ : ∃ ks, ks = es.map (·.key) := ⟨_, rfl⟩
 have hL : d.length = ks.length := by rw [hks, List.length_map]; exact he.1
 have KEY : Hid (∀ i (h : i < ks.length), ∃ x, d[i]? = some x ∧ SliceAt w x.key ks[i]) := fun i h => by
  have h' : i < es.length := by rw [hks, List.length_map] at h; exact h
  obtain ⟨x, hx, hi⟩ := he.at h'
  refine ⟨x, hx, ?_⟩
  simp only [hks, List.getElem_map]
  exact hi.key
 rw [← hks] at hu ⊢
 have HU := hide hu
 have HK := hide hk
 obtain ⟨n, hn⟩ : ∃ n, n = ks.length := ⟨_, rfl⟩
 have HN := hide hn
 have hd2 := hd
 obtain ⟨ao, cap, rfl, hbig⟩ := hd2.form
 obtain ⟨bo, l1, c1, rfl, z1⟩ := hk.form
 obtain ⟨rk, hrk⟩ : ∃ rk, rk = S.rank ks key := ⟨_, rfl⟩
 obtain ⟨fo, hfo⟩ : ∃ fo, fo = decide (key ∈ ks) := ⟨_, rfl⟩
 rw [← hrk, ← hfo]
 have HRK := hide hrk
 have HFO := hide hfo
 rw [hL, ← hn] at hbig
 have AT : Hid (∀ i, i < n → ∃ b off x, ao = some ⟨b, off, none⟩ ∧ n ≤ cap ∧ d[i]? = some x ∧ b < w.heap.size ∧ (w.cell? ⟨b, off + i * 4, none⟩ = some (.slice x.ka x.kn x.kc) ∧ w.cell? ⟨b, off + i * 4 + 1, none⟩ = some (.slice x.va x.vn x.vc) ∧ w.cell? ⟨b, off + i * 4 + 2, none⟩ = some (.int .i64 x.pg) ∧ w.cell? ⟨b, off + i * 4 + 3, none⟩ = some (.pointer x.nd))) := fun i hi => by
  have hd1 : i < d.length := by omega
  obtain ⟨b, off, cap', e, h1, h2, h3⟩ := hd.at encEn_len i d[i] (List.getElem?_eq_getElem hd1)
  injection e with e1 e2 e3
  exact ⟨b, off, d[i], e1, by omega, List.getElem?_eq_getElem hd1, h2, bcell h3⟩
 rw [hL, ← hn]
 clear hd hd2 he hk hu hks z1 hrk hfo hn hL
 go_enter Tryz.func96, Tryz.ntmps96
 go_wp2_with fail
 go_loopw [9, 10] (fun s9 s10 wr => ∃ lo hi : Nat, s9 = .int .i64 lo ∧ s10 = .int .i64 hi ∧ lo ≤ hi ∧ hi ≤ n ∧ Hid (Below w.heap.size w wr) ∧ Hid ((∀ j (h : j < ks.length), j < lo → S.kcmp ks[j] key < 0) ∧ (∀ j (h : j < ks.length), hi ≤ j → 0 ≤ S.kcmp ks[j] key)))
  (fun s9 s10 _ => (intOf s10).toNat - (intOf s9).toNat)
 case atStart => exact ⟨0, n, rfl, rfl, Nat.zero_le _, Nat.le_refl _, Below.refl _ _, ⟨fun j _ h => absurd h (Nat.not_lt_zero _), fun j h1 h2 => by have := HN.out; omega⟩⟩
 case round =>
  obtain ⟨lo, hi, rfl, rfl, hlh, hin, B, I⟩ := hrel
  by_cases hlt : lo < hi
  ·obtain ⟨m, hm⟩ : ∃ m, m = (lo + hi) / 2 := ⟨_, rfl⟩
   have q0 : ((lo : Int) + (hi : Int)) / 2 = (m : Int) := by omega
   have m1 : lo ≤ m := by omega
   have m2 : m < hi := by omega
   have m3 : m < n := by omega
   obtain ⟨b, off, x, rfl, hcap, hx, hb, t0, t1, t2, t3⟩ := AT.out m m3
   have hmk : m < ks.length := by have := HN.out; omega
   obtain ⟨x', hx', hs⟩ := KEY.out m hmk
   rw [hx] at hx'
   injection hx' with hx'
   subst hx'
   have HS := hide hs
   have u0 := (B.out.cell (p := ⟨b, off + m * 4, none⟩) hb).trans t0
   have u1 := (B.out.cell (p := ⟨b, off + m * 4 + 1, none⟩) hb).trans t1
   have u2 := (B.out.cell (p := ⟨b, off + m * 4 + 2, none⟩) hb).trans t2
   have u3 := (B.out.cell (p := ⟨b, off + m * 4 + 3, none⟩) hb).trans t3
   obtain ⟨c, hc⟩ : ∃ c, c = S.kcmp ks[m] key := ⟨_, rfl⟩
   have hc2 := S.kcmp_word ks[m] key
   rw [← hc] at hc2
   have HC := hide hc
   clear t0 t1 t2 t3 hx hs hc hm
   by_cases hneg : c < 0
   ·go_wp2_with (go_at_call 97; refine (find1_any _ _ _ _ _ _ _ _ _ ks[m] key wr (HS.out.below B.out (Nat.le_refl _)) (HK.out.below B.out (Nat.le_refl _))).mono ?_; rintro e w1 ⟨rfl, b1⟩; rw [← HC.out]; have B1 := hide (B.out.trans (b1.mono B.out.size)); clear b1)
    go_roundw
    case rel => exact ⟨m + 1, hi, by go_num, rfl, by omega, hin, B1, ⟨fun j h hj => by
     rcases Nat.lt_or_ge j m with e | e
     ·exact S.kcmp_trans (S.up_lt HU.out hmk e) (by rw [← HC.out]; exact hneg)
     ·obtain rfl : j = m := by omega
      rw [← HC.out]; exact hneg, I.out.2⟩⟩
    case measure => simp [intOf]; omega
   ·go_wp2_with (go_at_call 97; refine (find1_any _ _ _ _ _ _ _ _ _ ks[m] key wr (HS.out.below B.out (Nat.le_refl _)) (HK.out.below B.out (Nat.le_refl _))).mono ?_; rintro e w1 ⟨rfl, b1⟩; rw [← HC.out]; have B1 := hide (B.out.trans (b1.mono B.out.size)); clear b1)
    go_roundw
    case rel => exact ⟨lo, m, rfl, rfl, by omega, by omega, B1, ⟨I.out.1, fun j h hj => by
     rcases Nat.eq_or_lt_of_le hj with e | e
     ·subst e
      rw [← HC.out]; omega
     ·have h1 := S.up_lt HU.out h e
      have h2 : 0 ≤ S.kcmp ks[m] key := by rw [← HC.out]; omega
      by_cases h3 : S.kcmp ks[j] key < 0
      ·have := S.kcmp_trans h1 h3; omega
      ·omega⟩⟩
    case measure => simp [intOf]; omega
  ·obtain rfl : hi = lo := by omega
   have hil : hi ≤ ks.length := by have := HN.out; omega
   obtain rfl : rk = hi := HRK.out.trans (S.rank_at ks key hi hil I.out.1 I.out.2)
   have MEM := hide (S.rank_mem HU.out key rk hil I.out.1 I.out.2)
   by_cases hn : rk < n
   ·obtain ⟨b, off, x, rfl, hcap, hx, hb, t0, t1, t2, t3⟩ := AT.out rk hn
    have hmk : rk < ks.length := by have := HN.out; omega
    obtain ⟨x', hx', hs⟩ := KEY.out rk hmk
    rw [hx] at hx'
    injection hx' with hx'
    subst hx'
    have HS := hide hs
    have u0 := (B.out.cell (p := ⟨b, off + rk * 4, none⟩) hb).trans t0
    have u1 := (B.out.cell (p := ⟨b, off + rk * 4 + 1, none⟩) hb).trans t1
    have u2 := (B.out.cell (p := ⟨b, off + rk * 4 + 2, none⟩) hb).trans t2
    have u3 := (B.out.cell (p := ⟨b, off + rk * 4 + 3, none⟩) hb).trans t3
    obtain ⟨c, hc⟩ : ∃ c, c = S.kcmp ks[rk] key := ⟨_, rfl⟩
    have HC := hide hc
    have HM : Hid (fo = (c == 0)) := by
     show fo = (c == 0)
     rw [HFO.out, Bool.eq_iff_iff, decide_eq_true_iff, MEM.out, beq_iff_eq, hc]
     exact ⟨fun ⟨_, h⟩ => h, fun h => ⟨hmk, h⟩⟩
    clear t0 t1 t2 t3 hx hs hc
    go_wp2_with (go_at_call 97; refine (find1_any _ _ _ _ _ _ _ _ _ ks[rk] key wr (HS.out.below B.out (Nat.le_refl _)) (HK.out.below B.out (Nat.le_refl _))).mono ?_; rintro e w1 ⟨rfl, b1⟩; rw [← HC.out]; have B1 := hide (B.out.trans (b1.mono B.out.size)); clear b1)
    go_ret2
    exact ⟨by rw [HM.out]; simp, B1.out⟩
   ·have HM : Hid (fo = false) := by
     show fo = false
     rw [HFO.out, decide_eq_false_iff_not, MEM.out]
     rintro ⟨h, _⟩
     have := HN.out
     omega
    go_wp2_with fail
    go_ret2
    exact ⟨by rw [HM.out]; simp, B.out⟩
structure NodeIs (w : World) (g lv : Nat) (es : List S.Ent) : Prop where
 is : ∃ v d, w.heap[g]? = some (.cells #[.int .i64 (lv : Int), v] 124 (0, 0)) ∧ Els encEn w v d ∧ EnsAre w d es
theorem NodeIs.below {w W : World} {g lv : Nat} {es : List S.Ent} (h : NodeIs w g lv es) (hb : Below w.heap.size w W) : NodeIs W g lv es := by
 obtain ⟨v, d, h1, h2, h3⟩ := h.is
 exact ⟨v, d, (hb.block g (block_lt_of_row h1)).trans h1, h2.below hb, h3.below hb⟩
theorem cells2 {w : World} {g : Nat} {a b : Value} {t : TypeId} (h : w.heap[g]? = some (.cells #[a, b] t (0, 0))) : w.cell? ⟨g, 0, none⟩ = some a ∧ w.cell? ⟨g, 1, none⟩ = some b :=
 ⟨by rw [cell_of_row w g 0 _ _ _ h]; rfl, by rw [cell_of_row w g 1 _ _ _ h]; rfl⟩
set_option maxRecDepth 10000 in
theorem find_any (g lv : Nat) (kv : Value) (es : List S.Ent) (key : List UInt8) (w : World) (hn : NodeIs w g lv es) (hk : SliceAt w kv key) (hu : S.up (es.map (·.key))) :
  Calls Tryz.prog 54 #[.pointer (some ⟨g, 0, none⟩), kv] w fun e w' => e = .returned (.tuple #[.int .i64 (S.rank (es.map (·.key)) key : Nat), .bool (decide (key ∈ es.map (·.key)))]) ∧ Below w.heap.size w w' := by
 obtain ⟨v, d, h1, h2, h3⟩ := hn.is
 have BS := hide (bsearch_any v kv d es key w h2 h3 hk hu)
 obtain ⟨ao, cap, rfl, _⟩ := h2.form
 obtain ⟨c0, c1⟩ := cells2 h1
 obtain ⟨bo, l1, cc, rfl, z1⟩ := hk.form
 generalize S.rank (es.map (·.key)) key = rk at BS ⊢
 generalize decide (key ∈ es.map (·.key)) = fo at BS ⊢
 clear hn hk hu h1 h2 h3 z1
 go_enter Tryz.func54, Tryz.ntmps54
 go_wp2_with fail
 refine BS.out.mono ?_
 rintro e w1 ⟨rfl, b1⟩
 have B1 := hide b1
 clear b1
 go_wp2_with fail
 go_ret2
 exact ⟨rfl, B1.out⟩
namespace S
def trimTo (xs : List UInt8) : Nat → Nat
 | 0 => 0
 | n + 1 => if xs.getD n 0 = 0 then trimTo xs n else n + 1
theorem trimTo_le (xs : List UInt8) (n : Nat) : trimTo xs n ≤ n := by
 induction n with
 | zero => exact Nat.le_refl _
 | succ n ih => rw [trimTo]; split <;> omega
end S
theorem byte_zero (x : UInt8) : ((x.toNat : Int) = 0) ↔ x = 0 := by
 constructor
 ·intro h
  apply UInt8.toNat_inj.1
  have : x.toNat = 0 := by omega
  rw [this]; rfl
 ·rintro rfl; rfl
set_option maxRecDepth 10000 in
theorem trimRightByte_any (b off n cap : Nat) (xs : List UInt8) (w : World) (h1 : SliceAt w (.slice (some ⟨b, off, none⟩) n cap) xs) :
  Calls Tryz.prog 227 #[.slice (some ⟨b, off, none⟩) n cap, .int .u8 0] w fun e w' => e = .returned (.slice (some ⟨b, off, none⟩) (S.trimTo xs n) cap) ∧ w = w' := by
 obtain ⟨ax, l1, c1, hv, hl1, hm1⟩ := h1.form
 simp only [Value.slice.injEq] at hv
 obtain ⟨rfl, rfl, rfl⟩ := hv
 have hcap := h1.le_cap
 have HC : Hid (∀ j, j < n → w.cell? ⟨b, off + j, none⟩ = some (.int .u8 ((xs.getD j 0).toNat : Int))) := fun j hj => by
  obtain ⟨b', off', e, _, _, h⟩ := h1.src (by omega)
  simp only [Option.some.injEq, Addr.mk.injEq, and_true] at e
  obtain ⟨rfl, rfl⟩ := e
  exact h j (by omega)
 clear h1 hl1
 go_enter Tryz.func227, Tryz.ntmps227
 go_wp2_with fail
 go_loopw [0] (fun s wr => ∃ k : Nat, k ≤ n ∧ s = .slice (some ⟨b, off, none⟩) k cap ∧ Hid (S.trimTo xs k = S.trimTo xs n) ∧ wr = w) (fun s _ => match s with | .slice _ k _ => k | _ => 0)
 case atStart => exact ⟨n, Nat.le_refl _, rfl, rfl, rfl⟩
 case round =>
  obtain ⟨k, hk, rfl, ht, rfl⟩ := hrel
  rcases k with _ | m
  ·go_wp2_with fail
   go_ret
   exact ⟨by rw [← ht.out]; rfl, rfl⟩
  ·have q1 : (0 : Int) < ((m + 1 : Nat) : Int) := by omega
   have q2 : ((m + 1 : Nat) : Int) - 1 = (m : Int) := by omega
   have q3 : (0 : Int) ≤ (m : Int) := by omega
   have q4 : (m : Int) ≤ (cap : Int) := by omega
   have q5 : (m : Int) < ((m + 1 : Nat) : Int) := by omega
   have c1 := HC.out m (by omega)
   by_cases hx : xs.getD m 0 = 0
   ·have hz : ((xs.getD m 0).toNat : Int) = 0 := (byte_zero _).2 hx
    rw [hz] at c1
    have HT : Hid (S.trimTo xs m = S.trimTo xs n) := by
     show S.trimTo xs m = _
     rw [← ht.out, S.trimTo, if_pos hx]
    clear hx hz ht
    go_wp2_with fail
    go_roundw
    case rel => exact ⟨m, by omega, rfl, HT, trivial⟩
    case measure => simp
   ·have hz : ¬ ((xs.getD m 0).toNat : Int) = 0 := fun e => hx ((byte_zero _).1 e)
    obtain ⟨y, hy⟩ : ∃ y : Int, y = ((xs.getD m 0).toNat : Int) := ⟨_, rfl⟩
    rw [← hy] at c1 hz
    have HT : Hid (S.trimTo xs n = m + 1) := by
     show S.trimTo xs n = _
     rw [← ht.out, S.trimTo, if_neg hx]
    clear hx hy ht
    go_wp2_with fail
    go_ret
    exact ⟨by rw [HT.out]; rfl, rfl⟩
set_option maxRecDepth 10000 in
theorem trimRight_any (b off n cap : Nat) (xs : List UInt8) (w : World) (hn : 0 < n) (h1 : SliceAt w (.slice (some ⟨b, off, none⟩) n cap) xs) :
  Calls Tryz.prog 214 #[.slice (some ⟨b, off, none⟩) n cap, .string ⟨#[0]⟩] w fun e w' => e = .returned (.slice (some ⟨b, off, none⟩) (S.trimTo xs n) cap) ∧ w = w' := by
 have H1 := hide h1
 have q1 : ¬ (n : Int) = 0 := by omega
 have q2 : ¬ n = 0 := by omega
 clear h1 hn
 go_enter Tryz.func214, Tryz.ntmps214
 go_wp2_with fail
 refine (trimRightByte_any b off n cap xs w H1.out).mono ?_
 rintro e w1 ⟨rfl, rfl⟩
 obtain ⟨t, ht⟩ : ∃ t, t = S.trimTo xs n := ⟨_, rfl⟩
 rw [← ht]
 have HT := hide ht
 clear ht
 go_wp2_with fail
 go_ret
 exact ⟨by rw [← HT.out]; rfl, rfl⟩
theorem own_room {w : World} {base : Nat} {v : Value} {bs : List UInt8} (h : Own w base v bs) : ∃ g c, v = .slice (some ⟨g, 0, none⟩) bs.length c ∧ base ≤ g ∧ Room w g c bs := by
 obtain ⟨⟨h1, h2⟩, g, cap, rfl⟩ := h
 rcases h2 with ⟨h3, _⟩ | ⟨g', cap', cur, h3, h4, h5, h6, h7, h8, h9⟩
 ·simp at h3
 ·simp only [Value.slice.injEq, Option.some.injEq, Addr.mk.injEq, and_true, true_and] at h3
  obtain ⟨rfl, rfl⟩ := h3
  exact ⟨g, cap, rfl, h4, cur, h5, by omega, h6, by rw [Nat.mul_one] at h9; exact h9⟩
theorem own_none (w : World) : Own (w.alloc (.cells #[] 5)) w.heap.size (.slice (some ⟨w.heap.size, 0, none⟩) 0 0) [] :=
 ⟨⟨rfl, Or.inr ⟨w.heap.size, 0, #[], rfl, Nat.le_refl _, heap_alloc_new _ _, Nat.le_refl _, by simp [maxLen], rfl, rfl⟩⟩, w.heap.size, 0, rfl⟩
theorem eql_nil (a : Addr) (n cap : Nat) (W : World) : (binOp .eql 32 (.slice (some a) n cap) (.slice none 0 0)).run Tryz.prog W = .ok (.bool false) W :=
 by
  have h : ∀ d : Nat, (Op.equalIn (d + 1) 32 (.slice (some a) n cap) (.slice none 0 0)).run Tryz.prog W = .ok false W := fun d => by
   simp [Op.equalIn, run_underlying Tryz.underlying32]
  simp only [binOp]
  simp [Op.equal, Op.maxDepth, h 9999]
set_option maxRecDepth 10000 in
theorem clone_any (b off n cap : Nat) (xs : List UInt8) (w : World) (h1 : SliceAt w (.slice (some ⟨b, off, none⟩) n cap) xs) :
  Calls Tryz.prog 50 #[.slice (some ⟨b, off, none⟩) n cap] w fun e w' => ∃ g c, e = .returned (.slice (some ⟨g, 0, none⟩) n c) ∧ w.heap.size ≤ g ∧ Room w' g c xs ∧ Below w.heap.size w w' := by
 have hnil := eql_nil ⟨b, off, none⟩ n cap
 obtain ⟨ax, l1, c1, hv, hl1, hm1⟩ := h1.form
 simp only [Value.slice.injEq] at hv
 obtain ⟨rfl, rfl, rfl⟩ := hv
 have hb0 : Below w.heap.size w (w.alloc (.cells #[] 5)) := (Below.refl _ _).alloc (Nat.le_refl _) _
 have HR := hide (run_append_bytes (w.alloc (.cells #[] 5)) w.heap.size _ (.slice (some ⟨b, off, none⟩) n cap) [] xs 32 (own_none w) (h1.below hb0 (Nat.le_refl _)) (by simp; omega) (by simp))
 have HB := hide hb0
 have HL : Hid (n = xs.length) := hl1
 clear h1 hl1 hb0
 go_enter Tryz.func50, Tryz.ntmps50
 go_wp2_with (refine wpList_append_known rfl (.tmp 5) (.tmp 6) 32 32 rfl _ _ rfl rfl HR.out ?_)
 intro v' w' hown hbel
 obtain ⟨g, c, rfl, hg, hr⟩ := own_room hown
 have HF : Hid (Below w.heap.size w w') := HB.out.trans (hbel.mono (by simp))
 have HG := hide hg
 have HM := hide hr
 clear hown hbel hg hr
 rw [← HL.out]
 go_wp2_with fail
 go_ret
 exact ⟨g, c, rfl, HG.out, HM.out, HF.out⟩
end Go.Proofs.YteealihknndclaaGreatDoor
