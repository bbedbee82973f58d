/- WalKeeps: a log keeps what it acknowledged, whatever crashes come; its neighbours on the disk stay. -/
import Derived.Test.YtfjkddjdmlnbnaaDoorStk
import Derived.Test.YtfjkddjdmlnbnaaDoorTw
namespace Go.Proofs.YtfjkddjdmlnbnaaDoor
open Go.RowKit

namespace S
/-- One call of the statement. -/
structure Asq where
  kind : Int
  size : Int
  after : Int
  again : Int
  fill : UInt8
  kv : Value
  keep : List Bool
  torn : Int
  bytes : Int
def asq0 : Asq := ⟨0, 0, 0, 0, 0, .slice none 0 0, [], 0, 0⟩
def Asq.cells (q : Asq) : List Value := [.int .i64 q.kind, .int .i64 q.size, .int .i64 q.after, .int .i64 q.again, .int .u8 (q.fill.toNat : Int), q.kv, .int .i64 q.torn, .int .i64 q.bytes]
theorem keeps_len : (begunDk 60 3 50).safe.length = 60 := by
  show (formed (List.replicate 60 (zeros 128)) 3 50).length = 60
  rw [(formed_at (f := 3) (c := 50) (by simp) (by omega)).1, List.length_replicate]
theorem keeps_set (ss : List (List UInt8)) (X : List UInt8) (h : ss.length = 60) : ((ss.set 0 X).set 59 X).length = 60 ∧ ((ss.set 0 X).set 59 X).getD 0 [] = X ∧ ((ss.set 0 X).set 59 X).getD 59 [] = X ∧ ∀ j, j ≠ 0 → j ≠ 59 → ((ss.set 0 X).set 59 X).getD j [] = ss.getD j [] := by
  refine ⟨by simp [h], ?_, ?_, fun j h0 h59 => ?_⟩
  · rw [List.getD_eq_getElem?_getD, List.getElem?_set_ne (by omega), List.getElem?_set_self (by omega)]; rfl
  · rw [List.getD_eq_getElem?_getD, List.getElem?_set_self (by rw [List.length_set]; omega)]; rfl
  · rw [List.getD_eq_getElem?_getD, List.getElem?_set_ne (by omega), List.getElem?_set_ne (by omega), ← List.getD_eq_getElem?_getD]
end S
def AsksAt (w : World) (ao : Option Addr) (L : Nat) (qs : List S.Asq) : Prop := L = qs.length ∧ (0 < L → ∃ b off, ao = some ⟨b, off, none⟩ ∧ b < w.heap.size ∧ ∀ i, i < L → w.rangeAt b (off + i * 8) (qs.getD i S.asq0).cells ∧ BoolsAt w (qs.getD i S.asq0).kv (qs.getD i S.asq0).keep ∧ (-9223372036854775808 ≤ (qs.getD i S.asq0).size ∧ (qs.getD i S.asq0).size ≤ 9223372036854775807) ∧ (-9223372036854775808 ≤ (qs.getD i S.asq0).after ∧ (qs.getD i S.asq0).after ≤ 9223372036854775807) ∧ (qs.getD i S.asq0).again ≤ 9223372036854775807)
set_option maxHeartbeats 16000000 in
set_option maxRecDepth 10000 in
theorem walKeeps_walk (a1 : Option Addr) (L c1 : Nat) (qs : List S.Asq) (w : World) (hq : AsksAt w a1 L qs) (hK : KAt w) :
   Calls Tryd.prog 4 #[.slice a1 L c1] w fun e w' => e = .returned (.bool true) ∧ Below w.heap.size w w' := by
  have HQ := hide hq
  have HK := hide hK
  have HP : Hid (0 < w.heap.size) := hK.pos
  clear hq hK
  go_enter Tryd.func4, Tryd.ntmps4
  go_wp2_with fail
  refine (begun_any 60 3 50 w w (by omega) (by omega) (by omega) (Below.refl _ _) HP.out HK.out).mono ?_
  rintro e w1 ⟨o, g, tv, rfl, hlo, hob, hgb, htb, b1⟩
  have LO1 := hide hlo
  clear hlo hob hgb htb b1
  go_wp2_with fail
  refine (record_any 128 7 w1 (by omega)).mono ?_
  rintro e w2 ⟨gk, rfl, hgk, hrk, b2⟩
  obtain ⟨X, hX⟩ : ∃ X, X = S.rec 128 7 := ⟨_, rfl⟩
  rw [← hX] at hrk
  have XL : Hid (X.length = 128) := by rw [hX]; exact S.rec_length 128 7
  have LO2 := hide (LO1.out.then b2)
  have RK2 := hide hrk
  have NQ2 : Hid (¬ (o.has gk ∨ gk = g ∨ tv.ownBlock = some gk)) := fun e => by
    rcases e with e | e | e
    · have := LO1.out.log.dk.dk.lt gk e; omega
    · have := block_lt_of_row LO1.out.log.lg.row; omega
    · have := LO1.out.log.lg.text.lt e; omega
  have BK2 : Hid (w.heap.size ≤ gk) := Nat.le_trans LO1.out.below.size hgk
  clear hrk hgk b2 LO1 hX
  have hno : ∀ W, Chg (fun k => k = o.g) w2 W → SliceAt W (.slice (some ⟨gk, 0, none⟩) 128 128) X := fun W hW => slice_row (hW.row RK2.out (fun e => NQ2.out (Or.inl (Or.inl e)))) XL.out.symm (by rw [XL.out]; omega)
  have SV2 := hide hno
  clear hno
  have hl2 : (S.begunDk 60 3 50).safe.length = 60 := S.keeps_len
  have HL2 := hide hl2
  clear hl2
  go_wp2_with fail
  refine (write_yes o (S.begunDk 60 3 50) 0 (.slice (some ⟨gk, 0, none⟩) 128 128) X w2 LO2.out.log.dk.dk (by rw [HL2.out]; omega) rfl XL.out (Nat.zero_le _) SV2.out).mono ?_
  rintro e w3 ⟨rfl, o3, h3, m3⟩
  have D3 := hide h3
  have M3 := hide m3
  have hp3 : o3.ptr = o.ptr := by unfold Ow.ptr; rw [m3.g]
  rw [← hp3]
  have RK3 : Hid (w3.heap[gk]? = some (.cells (S.v8 X) 5 (0, 0))) := m3.chg.row RK2.out (fun e => NQ2.out (Or.inl e))
  have NO3 : Hid (¬ o3.has gk) := fun e => by
    rcases m3.own gk e with e | e
    · exact NQ2.out (Or.inl e)
    · have := block_lt_of_row RK2.out; omega
  have SV3 : Hid (∀ W, Chg (fun k => k = o3.g) w3 W → SliceAt W (.slice (some ⟨gk, 0, none⟩) 128 128) X) := fun W hW => slice_row (hW.row RK3.out (fun e => NO3.out (Or.inl e))) XL.out.symm (by rw [XL.out]; omega)
  clear h3 m3 hp3
  go_wp2_with fail
  refine (write_yes o3 ((S.begunDk 60 3 50).went.write 0 X) 59 (.slice (some ⟨gk, 0, none⟩) 128 128) X w3 D3.out (by show 59 < (S.begunDk 60 3 50).safe.length; rw [HL2.out]; omega) rfl XL.out (by show 1 ≤ 1000000; omega) SV3.out).mono ?_
  rintro e w4 ⟨rfl, o4, h4, m4⟩
  have D4 := hide h4
  have M4 := hide (M3.out.trans m4)
  have hp4 : o4.ptr = o3.ptr := by unfold Ow.ptr; rw [m4.g]
  rw [← hp4]
  clear h4 m4 hp4
  go_wp2_with fail
  refine (flush_yes o4 (((S.begunDk 60 3 50).went.write 0 X).went.write 59 X) w4 D4.out rfl (by show 2 ≤ 1000000; omega)).mono ?_
  rintro e w5 ⟨rfl, o5, h5, m5⟩
  have M5 := hide (M4.out.trans m5)
  have hp5 : o5.ptr = o4.ptr := by unfold Ow.ptr; rw [m5.g]
  rw [← hp5]
  obtain ⟨d5, hd5⟩ : ∃ d5, d5 = (((S.begunDk 60 3 50).went.write 0 X).went.write 59 X).went.flush := ⟨_, rfl⟩
  have hs5 : d5.safe = ((S.begunDk 60 3 50).safe.set 0 X).set 59 X := by rw [hd5]; rfl
  have hp5' : d5.pend = [] := by rw [hd5]; rfl
  have hl5 : d5.left = none := by rw [hd5]; rfl
  rw [← hd5] at h5
  have K0 := S.keeps_set (S.begunDk 60 3 50).safe X HL2.out
  have LO5 : Hid (Lo w w5 o5 d5 g 3 50 0 0 [] tv) := LO2.out.beside h5 M5.out hp5' (by rw [hs5, K0.1, HL2.out]) (fun j h1 h2 => by rw [hs5]; exact K0.2.2.2 j (by omega) (by omega))
  have FIX : Hid (d5.safe.length = 60 ∧ d5.safe.getD 0 [] = X ∧ d5.safe.getD 59 [] = X ∧ d5.left = none) := ⟨by rw [hs5]; exact K0.1, by rw [hs5]; exact K0.2.1, by rw [hs5]; exact K0.2.2.1, hl5⟩
  have RK5 : Hid (w5.heap[gk]? = some (.cells (S.v8 X) 5 (0, 0))) := M5.out.chg.row RK2.out (fun e => NQ2.out (Or.inl e))
  have NQ5 : Hid (¬ (o5.has gk ∨ gk = g ∨ tv.ownBlock = some gk)) := fun e => by
    rcases e with e | e
    · rcases M5.out.own gk e with e | e
      · exact NQ2.out (Or.inl e)
      · have := block_lt_of_row RK2.out; omega
    · exact NQ2.out (Or.inr e)
  clear h5 m5 hp5 hd5 hs5 hp5' hl5 K0 LO2 RK2 NQ2 M3 M4 M5 D3 D4 SV2 SV3 NO3 RK3
  obtain ⟨w6, hw6⟩ : ∃ w6, w6 = w5.alloc (.cells #[.pointer (some ⟨o5.g, 0, none⟩), .pointer (some ⟨g, 0, none⟩), .slice none 0 0, .slice none 0 0, .int .i64 0, .int .i64 0, .int .i64 0, .bool false] 50) := ⟨_, rfl⟩
  have b6 : Below w5.heap.size w5 w6 := by rw [hw6]; exact (Below.refl _ _).alloc (Nat.le_refl _) _
  have r6 : w6.heap[w5.heap.size]? = some (.cells (wcells o5 g (.slice none 0 0) (.slice none 0 0) 0 0 0 false) 50 (0, 0)) := by rw [hw6]; exact heap_alloc_new _ _
  have hgwn : ¬ (o5.has w5.heap.size ∨ w5.heap.size = g ∨ tv.ownBlock = some w5.heap.size) := fun e => by
    rcases e with e | e | e
    · have := LO5.out.log.dk.dk.lt _ e; omega
    · have := block_lt_of_row LO5.out.log.lg.row; omega
    · have := LO5.out.log.lg.text.lt e; omega
  have KW6 : Hid (Kw w w5.heap.size gk o5.g X 0 w6) := ⟨o5, d5, g, 0, 0, [], tv, .slice none 0 0, .slice none 0 0, 0, 0, 0, [], false, [], ⟨LO5.out.then b6, r6, LO5.out.below.size, hgwn, by simp, bools_nil w, by omega, fun _ => FIX.out.2.2.2, FIX.out.1, FIX.out.2.1, FIX.out.2.2.1, (b6.block gk (block_lt_of_row RK5.out)).trans RK5.out, ⟨NQ5.out, fun e => by have := block_lt_of_row RK5.out; omega⟩, rfl⟩, lsOf_nil _ _, Nat.le_refl _⟩
  have hptr : o5.ptr = .pointer (some ⟨o5.g, 0, none⟩) := rfl
  obtain ⟨gd, hgd⟩ : ∃ gd, gd = o5.g := ⟨_, rfl⟩
  obtain ⟨gw, hgw⟩ : ∃ gw, gw = w5.heap.size := ⟨_, rfl⟩
  rw [← hgd, ← hgw] at KW6
  clear b6 r6 hgwn LO5 RK5 NQ5 FIX
  rw [hptr]
  have HGD := hide hgd
  have HGW := hide hgw
  clear hgd hgw
  go_wp2_with fail
  rw [← hw6, ← HGW.out, ← HGD.out]
  clear hw6 HGW hptr HGD
  go_loopw [8] (fun i wr => ∃ k : Nat, k ≤ 30 ∧ k ≤ L ∧ i = .int .i64 (k : Int) ∧ Kw w gw gk gd X k wr) (fun i _ => 30 - (intOf i).toNat)
  case atStart => exact ⟨0, by omega, Nat.zero_le _, rfl, KW6.out⟩
  case round =>
    obtain ⟨k, hk30, hkL, rfl, hkw⟩ := hrel
    have KW := hide hkw
    have BW : Hid (Below w.heap.size w wr) := by obtain ⟨_, _, _, _, _, _, _, _, _, _, _, _, _, _, _, h1, _, _⟩ := hkw; exact h1.lo.below
    clear hkw KW6
    by_cases hgo : k < L ∧ k < 30
    · obtain ⟨hlt, h30⟩ := hgo
      obtain ⟨b, off, hao, hbl, hcell⟩ := HQ.out.2 (by omega)
      subst hao
      obtain ⟨hrg, hbo, hb1, hb2, hb3⟩ := hcell k hlt
      obtain ⟨q, hqq⟩ : ∃ q, q = qs.getD k S.asq0 := ⟨_, rfl⟩
      rw [← hqq] at hrg hbo hb1 hb2 hb3
      obtain ⟨ak, ck, hkv, hz1, hz2⟩ := hbo
      have hbo : BoolsAt w q.kv q.keep := by rw [hqq]; exact (hcell k hlt).2.1
      rw [hkv] at hbo
      have HBO := hide hbo
      have hrg' : wr.rangeAt b (off + k * 8) [.int .i64 q.kind, .int .i64 q.size, .int .i64 q.after, .int .i64 q.again, .int .u8 (q.fill.toNat : Int), .slice ak q.keep.length ck, .int .i64 q.torn, .int .i64 q.bytes] := by
        have ecs : q.cells = [.int .i64 q.kind, .int .i64 q.size, .int .i64 q.after, .int .i64 q.again, .int .u8 (q.fill.toNat : Int), .slice ak q.keep.length ck, .int .i64 q.torn, .int .i64 q.bytes] := by rw [S.Asq.cells, hkv]
        rw [← ecs]
        exact rangeAt_of_heap hrg (BW.out.block b hbl)
      have x0 : wr.cell? ⟨b, off + k * 8, none⟩ = some (.int .i64 q.kind) := hrg' 0 _ rfl
      have x1 : wr.cell? ⟨b, off + k * 8 + 1, none⟩ = some (.int .i64 q.size) := hrg' 1 _ rfl
      have x2 : wr.cell? ⟨b, off + k * 8 + 2, none⟩ = some (.int .i64 q.after) := hrg' 2 _ rfl
      have x3 : wr.cell? ⟨b, off + k * 8 + 3, none⟩ = some (.int .i64 q.again) := hrg' 3 _ rfl
      have x4 : wr.cell? ⟨b, off + k * 8 + 4, none⟩ = some (.int .u8 (q.fill.toNat : Int)) := hrg' 4 _ rfl
      have x5 : wr.cell? ⟨b, off + k * 8 + 5, none⟩ = some (.slice ak q.keep.length ck) := hrg' 5 _ rfl
      have x6 : wr.cell? ⟨b, off + k * 8 + 6, none⟩ = some (.int .i64 q.torn) := hrg' 6 _ rfl
      have x7 : wr.cell? ⟨b, off + k * 8 + 7, none⟩ = some (.int .i64 q.bytes) := hrg' 7 _ rfl
      obtain ⟨kd, hkd⟩ : ∃ x, x = q.kind := ⟨_, rfl⟩
      obtain ⟨sz, hsz⟩ : ∃ x, x = q.size := ⟨_, rfl⟩
      obtain ⟨af, haf⟩ : ∃ x, x = q.after := ⟨_, rfl⟩
      obtain ⟨ag, hag⟩ : ∃ x, x = q.again := ⟨_, rfl⟩
      obtain ⟨C, hC⟩ : ∃ x, x = q.fill := ⟨_, rfl⟩
      obtain ⟨tn, htn⟩ : ∃ x, x = q.torn := ⟨_, rfl⟩
      obtain ⟨bt, hbt⟩ : ∃ x, x = q.bytes := ⟨_, rfl⟩
      obtain ⟨kl, hkl⟩ : ∃ x, x = q.keep := ⟨_, rfl⟩
      rw [← hkd] at x0
      rw [← hsz] at x1
      rw [← haf] at x2
      rw [← hag] at x3
      rw [← hC] at x4
      rw [← hkl] at x5
      rw [← htn] at x6
      rw [← hbt] at x7
      rw [← hsz] at hb1
      rw [← haf] at hb2
      rw [← hag] at hb3
      rw [← hkl] at HBO
      have q1 : (0 : Int) ≤ (k : Int) := by omega
      have q2 : (k : Int) < (L : Int) := by omega
      have q3 : (k : Int) < 30 := by omega
      have q4 : IntKind.i64.wrap ((k : Int) + 1) = (k : Int) + 1 := by rw [IntKind.wrap_i64]; omega
      clear hcell hbl hrg hrg' hkd hsz haf hag hC htn hbt hkl hkv hqq hbo hz1 hz2
      go_wp2_with fail
      refine (step_any w wr gw gk gd X k kd sz af ag C ak ck tn bt kl KW.out (by omega) hb1 hb2 hb3 HBO.out).mono ?_
      rintro e w7 ⟨rfl, hkw7⟩
      have KW7 := hide hkw7
      clear hkw7 KW BW x0 x1 x2 x3 x4 x5 x6 x7
      go_wp2_with fail
      go_roundw
      case rel => exact ⟨k + 1, by omega, by omega, by go_num, KW7.out⟩
      case measure => simp [intOf]; omega
    · by_cases hkl : k < L
      · have q2 : (k : Int) < (L : Int) := by omega
        have q3 : ¬ ((k : Int) < 30) := by omega
        go_wp2_with fail
        obtain ⟨o9, d9, g9, p9, t9, rs9, tv9, lr9, kw9, tn9, bt9, ag9, ks9, ar9, vs9, hk9, hl9, ht9⟩ := KW.out
        have K9 := hide hk9
        have hp9 : o9.ptr = .pointer (some ⟨gd, 0, none⟩) := by unfold Ow.ptr; rw [hk9.pt]
        have HP9 := hide hp9
        have HSN : Hid (d9.seen.getD 0 [] = X ∧ d9.seen.getD 59 [] = X) := by
          have e := S.Dk.seen_flushed d9 hk9.lo.log.pend
          exact ⟨by rw [e]; exact hk9.lo0, by rw [e]; exact hk9.hi0⟩
        clear hk9 hl9 ht9 hp9 KW BW
        have RD := read_yes o9 d9 0 wr K9.out.lo.log.dk.dk (by rw [K9.out.len]; omega)
        rw [HP9.out] at RD
        refine RD.mono ?_
        rintro e w10 ⟨rfl, hr10, b10⟩
        rw [HSN.out.1] at hr10
        have R10 := hide hr10
        have K10 := hide (K9.out.then b10)
        obtain ⟨gp, hgp⟩ : ∃ gp, gp = wr.heap.size := ⟨_, rfl⟩
        rw [← hgp] at R10 ⊢
        clear hr10 b10 RD K9 hgp
        go_wp2_with fail
        have RD := read_yes o9 d9 59 w10 K10.out.lo.log.dk.dk (by rw [K10.out.len]; omega)
        rw [HP9.out] at RD
        refine RD.mono ?_
        rintro e w11 ⟨rfl, hr11, b11⟩
        rw [HSN.out.2] at hr11
        have R11 := hide hr11
        have R10b : Hid (w11.heap[gp]? = some (.cells (S.v8 X) 5 (0, 0))) := (b11.block gp (block_lt_of_row R10.out)).trans R10.out
        have K11 := hide (K10.out.then b11)
        obtain ⟨gq, hgq⟩ : ∃ gq, gq = w10.heap.size := ⟨_, rfl⟩
        rw [← hgq] at R11 ⊢
        clear hr11 b11 RD K10 hgq R10
        have cv1 := conv_slice (slice_row (n := 128) R10b.out XL.out.symm (by rw [XL.out]; omega))
        have cv2 := conv_slice (slice_row (n := 128) R11.out XL.out.symm (by rw [XL.out]; omega))
        have cv3 := conv_slice (slice_row (n := 128) K11.out.bk XL.out.symm (by rw [XL.out]; omega))
        go_wp2_with fail
        clear cv1 cv2 cv3
        refine (known_any w11 K11.out.lo.log.dk.k).mono ?_
        rintro e w12 ⟨rfl, b12⟩
        have BF : Hid (Below w.heap.size w w12) := K11.out.lo.below.trans (b12.mono K11.out.lo.below.size)
        clear b12 K11
        go_wp2_with fail
        go_ret
        exact ⟨rfl, BF.out⟩
      · have q2 : ¬ ((k : Int) < (L : Int)) := by omega
        go_wp2_with fail
        obtain ⟨o9, d9, g9, p9, t9, rs9, tv9, lr9, kw9, tn9, bt9, ag9, ks9, ar9, vs9, hk9, hl9, ht9⟩ := KW.out
        have K9 := hide hk9
        have hp9 : o9.ptr = .pointer (some ⟨gd, 0, none⟩) := by unfold Ow.ptr; rw [hk9.pt]
        have HP9 := hide hp9
        have HSN : Hid (d9.seen.getD 0 [] = X ∧ d9.seen.getD 59 [] = X) := by
          have e := S.Dk.seen_flushed d9 hk9.lo.log.pend
          exact ⟨by rw [e]; exact hk9.lo0, by rw [e]; exact hk9.hi0⟩
        clear hk9 hl9 ht9 hp9 KW BW
        have RD := read_yes o9 d9 0 wr K9.out.lo.log.dk.dk (by rw [K9.out.len]; omega)
        rw [HP9.out] at RD
        refine RD.mono ?_
        rintro e w10 ⟨rfl, hr10, b10⟩
        rw [HSN.out.1] at hr10
        have R10 := hide hr10
        have K10 := hide (K9.out.then b10)
        obtain ⟨gp, hgp⟩ : ∃ gp, gp = wr.heap.size := ⟨_, rfl⟩
        rw [← hgp] at R10 ⊢
        clear hr10 b10 RD K9 hgp
        go_wp2_with fail
        have RD := read_yes o9 d9 59 w10 K10.out.lo.log.dk.dk (by rw [K10.out.len]; omega)
        rw [HP9.out] at RD
        refine RD.mono ?_
        rintro e w11 ⟨rfl, hr11, b11⟩
        rw [HSN.out.2] at hr11
        have R11 := hide hr11
        have R10b : Hid (w11.heap[gp]? = some (.cells (S.v8 X) 5 (0, 0))) := (b11.block gp (block_lt_of_row R10.out)).trans R10.out
        have K11 := hide (K10.out.then b11)
        obtain ⟨gq, hgq⟩ : ∃ gq, gq = w10.heap.size := ⟨_, rfl⟩
        rw [← hgq] at R11 ⊢
        clear hr11 b11 RD K10 hgq R10
        have cv1 := conv_slice (slice_row (n := 128) R10b.out XL.out.symm (by rw [XL.out]; omega))
        have cv2 := conv_slice (slice_row (n := 128) R11.out XL.out.symm (by rw [XL.out]; omega))
        have cv3 := conv_slice (slice_row (n := 128) K11.out.bk XL.out.symm (by rw [XL.out]; omega))
        go_wp2_with fail
        clear cv1 cv2 cv3
        refine (known_any w11 K11.out.lo.log.dk.k).mono ?_
        rintro e w12 ⟨rfl, b12⟩
        have BF : Hid (Below w.heap.size w w12) := K11.out.lo.below.trans (b12.mono K11.out.lo.below.size)
        clear b12 K11
        go_wp2_with fail
        go_ret
        exact ⟨rfl, BF.out⟩
end Go.Proofs.YtfjkddjdmlnbnaaDoor
