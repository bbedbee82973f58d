/- Decode and Encode, where it is known what they answer. -/
import Derived.Test.YtlcilclhaahopaaDoorTn
import Derived.Test.YtlcilclhaahopaaDoorTo
namespace Go.Proofs.YtlcilclhaahopaaDoor
open Go.RowKit
theorem dec_ok (v : Value) (bs : List UInt8) (T : S.Tk) (w : World) (hv : SliceAt w v bs) (hb : bs.length ≤ 140737488355328) (h : S.decode bs = (T, (0, 0))) :
   Calls Tryd.prog 12 #[v] w fun e w' => (∃ ao cc, e = .returned (.tuple #[.agg (encT T.id (.slice ao T.cs.length cc) T.tag).toArray, .nilIface]) ∧ CRow w.heap.size w' (.slice ao T.cs.length cc) T.cs) ∧ Below w.heap.size w w' := by
  refine (decode_any v bs w hv hb).mono ?_
  rintro e w' ⟨cv, ev, rfl, hc, hev, hb2⟩
  rw [h] at hc hev ⊢
  obtain ⟨ao, cc, rfl⟩ := hc.form
  rcases hev with ⟨-, rfl⟩ | ⟨h1, -⟩
  · exact ⟨⟨ao, cc, rfl, hc⟩, hb2⟩
  · exact absurd rfl h1
theorem dec_no (v : Value) (bs : List UInt8) (T : S.Tk) (a y : Int) (w : World) (hv : SliceAt w v bs) (hb : bs.length ≤ 140737488355328) (h : S.decode bs = (T, (a, y))) (hy : y ≠ 0) :
   Calls Tryd.prog 12 #[v] w fun e w' => (∃ ao cc q, e = .returned (.tuple #[.agg (encT T.id (.slice ao T.cs.length cc) T.tag).toArray, .iface 93 (.pointer (some ⟨q, 0, none⟩))]) ∧ CRow w.heap.size w' (.slice ao T.cs.length cc) T.cs ∧ RefAt w' q a y) ∧ Below w.heap.size w w' := by
  refine (decode_any v bs w hv hb).mono ?_
  rintro e w' ⟨cv, ev, rfl, hc, hev, hb2⟩
  rw [h] at hc hev ⊢
  obtain ⟨ao, cc, rfl⟩ := hc.form
  rcases hev with ⟨h1, -⟩ | ⟨-, q, rfl, -, hr⟩
  · exact absurd h1 hy
  · exact ⟨⟨ao, cc, q, rfl, hc, hr⟩, hb2⟩
theorem enc_ok (t : S.Tk) (cv : Value) (B : List UInt8) (w : World) (ht : t.Ok) (hv : CvAt w cv t.cs) (h : S.encode t = (B, 0)) :
   Calls Tryd.prog 11 #[.agg (encT t.id cv t.tag).toArray] w fun e w' => (∃ ao cc, e = .returned (.tuple #[.slice ao B.length cc, .int .i64 0]) ∧ URow w' (.slice ao B.length cc) B) ∧ Below w.heap.size w w' := by
  refine (encode_any t cv w ht hv).mono ?_
  rintro e w' ⟨⟨v, rfl, hu, -⟩, hb⟩
  rw [h] at hu ⊢
  obtain ⟨ao, cc, rfl⟩ := hu.shape
  exact ⟨⟨ao, cc, rfl, hu⟩, hb⟩
end Go.Proofs.YtlcilclhaahopaaDoor
