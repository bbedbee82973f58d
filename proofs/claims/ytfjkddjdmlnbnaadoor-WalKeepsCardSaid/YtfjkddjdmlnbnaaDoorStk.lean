/- step: one call; whatever crashes come, the log keeps what it acknowledged. -/
import Derived.Test.YtfjkddjdmlnbnaaDoorRop
import Derived.Test.YtfjkddjdmlnbnaaDoorGa
import Derived.Deep.CutBlock
namespace Go.Proofs.YtfjkddjdmlnbnaaDoor
open Go.RowKit

def xcells (kd sz af ag : Int) (C : UInt8) (kv : Value) (torn bytes : Int) : Array Value := #[.int .i64 kd, .int .i64 sz, .int .i64 af, .int .i64 ag, .int .u8 (C.toNat : Int), kv, .int .i64 torn, .int .i64 bytes]
theorem xc_cells {w : World} {gx : Nat} {kd sz af ag : Int} {C : UInt8} {kv : Value} {torn bytes : Int} (h : w.heap[gx]? = some (.cells (xcells kd sz af ag C kv torn bytes) 53 (0, 0))) :
    w.cell? ⟨gx, 0, none⟩ = some (.int .i64 kd) ∧ w.cell? ⟨gx, 1, none⟩ = some (.int .i64 sz) ∧ w.cell? ⟨gx, 2, none⟩ = some (.int .i64 af) ∧ w.cell? ⟨gx, 3, none⟩ = some (.int .i64 ag) ∧ w.cell? ⟨gx, 4, none⟩ = some (.int .u8 (C.toNat : Int)) ∧ w.cell? ⟨gx, 5, none⟩ = some kv ∧ w.cell? ⟨gx, 6, none⟩ = some (.int .i64 torn) ∧ w.cell? ⟨gx, 7, none⟩ = some (.int .i64 bytes) := by
  refine ⟨?_, ?_, ?_, ?_, ?_, ?_, ?_, ?_⟩ <;> (rw [cell_of_row w gx _ _ 53 (0, 0) h]; rfl)
theorem Kc.lt {w0 w : World} {gw gk gd : Nat} {X : List UInt8} {o : Ow} {d : S.Dk} {g p t : Nat} {rs : List (List UInt8)} {tv lr kv : Value} {torn bytes again : Int} {ks : List Bool} {armed : Bool} (h : Kc w0 w gw gk gd X o d g p t rs tv lr kv torn bytes again ks armed) (k : Nat) (e : Qk o g tv gw k) : k < w.heap.size := by
  rcases e with e | e | e | e
  · exact h.lo.log.dk.dk.lt k e
  · rw [e]; exact block_lt_of_row h.lo.log.lg.row
  · exact h.lo.log.lg.text.lt e
  · rw [e]; exact block_lt_of_row h.row
theorem Kw.mono {w0 w : World} {gw gk gd : Nat} {X : List UInt8} {T T' : Nat} (h : Kw w0 gw gk gd X T w) (hT : T ≤ T') : Kw w0 gw gk gd X T' w := by
  obtain ⟨o, d, g, p, t, rs, tv, lr, kv, torn, bytes, again, ks, armed, vs, h1, h2, h3⟩ := h
  exact ⟨o, d, g, p, t, rs, tv, lr, kv, torn, bytes, again, ks, armed, vs, h1, h2, Nat.le_trans h3 hT⟩
/-- Behind the switch: what the call would make of the records is so. -/
def MidOk (w0 : World) (gw gk gd : Nat) (X : List UInt8) (T : Nat) (u e : Value) (w : World) : Prop := e = .int .i64 0 ∧
  ∃ o d g p t rs tv lr kv torn bytes again ks armed vs, Kc w0 w gw gk gd X o d g p t rs tv lr kv torn bytes again ks armed ∧ LsOf w (Qk o g tv gw) u vs rs ∧ t ≤ T + 1
/-- Behind the switch: the disk has stopped in the midst of a call. -/
def MidNo (w0 : World) (gw gk gd : Nat) (X : List UInt8) (T : Nat) (u e : Value) (w : World) : Prop := e = .int .i64 13 ∧
  ∃ o d g p t ss rs rs' tv lr kv torn bytes again ks vs vs', Kr w0 w gw gk gd X o d g p t ss rs rs' lr kv torn bytes again ks ∧ LgHas w g o.ptr 3 50 t rs tv false ∧ (S.hdOf t rs).Ok ∧ (S.enc rs).length < 1000000 ∧ LsOf w (fun k => o.has k ∨ k = gw) lr vs rs ∧ LsOf w (fun k => o.has k ∨ k = gw) u vs' rs' ∧ t ≤ T
theorem mid_of {w0 w w' : World} {gw gk gd : Nat} {X : List UInt8} {o o' : Ow} {d d' : S.Dk} {g p t T : Nat} {rs rs' : List (List UInt8)} {tv tv' lr kv u : Value} {torn bytes again : Int} {ks : List Bool} {armed ok : Bool} {e : Ending} {vs vs' : List Value} (h : Kc w0 w gw gk gd X o d g p t rs tv lr kv torn bytes again ks armed) (hl : LsOf w (Qk o g tv gw) lr vs rs) (hu : LsOf w (Qk o g tv gw) u vs' rs') (cm : S.Calm d 3 50 p t rs rs') (x : Did d (S.commitActs d 3 50 p t rs rs') o g 3 50 t rs rs' tv w e w' ok d' o' tv') (hne : ∀ r ∈ rs', r ≠ []) (hfew : (S.enc rs').length ≤ 100000) (ht : t ≤ T) : MidOk w0 gw gk gd X T u (.int .i64 (S.why ok)) w' ∨ MidNo w0 gw gk gd X T u (.int .i64 (S.why ok)) w' := by
  have hc : Chg (Qk o g tv gw) w w' := x.moved.chg.mono (fun k _ e => by
    rcases e with e | e | e
    · exact Or.inl e
    · exact Or.inr (Or.inl e)
    · exact Or.inr (Or.inr (Or.inl e)))
  cases ok with
  | true =>
    refine Or.inl ⟨rfl, o', d', g, 1 - p, t + 1, rs', tv', lr, kv, torn, bytes, again, ks, armed, vs', h.done cm x hne, hu.chg hc (fun k e => ?_), by omega⟩
    rcases e with e | e | e | e
    · rcases x.moved.own k e with e | e
      · exact Or.inl (Or.inl e)
      · exact Or.inr e
    · exact Or.inl (Or.inr (Or.inl e))
    · rcases x.moved.text k e with e | e
      · exact Or.inl (Or.inr (Or.inr (Or.inl e)))
      · exact Or.inr e
    · exact Or.inl (Or.inr (Or.inr (Or.inr e)))
  | false =>
    obtain ⟨rfl, hr⟩ := h.stopped cm x hne hfew
    have hpt : o'.ptr = o.ptr := by unfold Ow.ptr; rw [x.moved.ptr]
    have hq : ∀ k, (o'.has k ∨ k = gw) → Qk o g tv gw k ∨ w.heap.size ≤ k := fun k e => by
      rcases e with e | e
      · rcases x.moved.own k e with e | e
        · exact Or.inl (Or.inl e)
        · exact Or.inr e
      · exact Or.inl (Or.inr (Or.inr (Or.inr e)))
    have h1 := h.lo.log.good.room
    have h2 := S.room_le h.lo.log.good.most
    exact Or.inr ⟨rfl, o', d', g, p, t, d.safe, rs, rs', tv', lr, kv, torn, bytes, again, ks, vs, vs', hr, by rw [hpt]; exact x.no rfl, h.lo.log.good.hd, by omega, hl.chg hc hq, hu.chg hc hq, ht⟩
theorem LgHas.then {w W : World} {g : Nat} {p : Value} {f c t : Nat} {rs : List (List UInt8)} {tv : Value} {op : Bool} (h : LgHas w g p f c t rs tv op) (hb : Below w.heap.size w W) : LgHas W g p f c t rs tv op := by
  obtain ⟨X, h1, h2, h3⟩ := h.text
  exact ⟨(hb.block g (block_lt_of_row h.row)).trans h.row, ⟨X, h1.kept (fun k hk => hb.block k (h1.lt hk)), h2, h3⟩, h.sep⟩
theorem mid_then {w0 w W : World} {gw gk gd : Nat} {X : List UInt8} {T : Nat} {u e : Value} (h : MidOk w0 gw gk gd X T u e w ∨ MidNo w0 gw gk gd X T u e w) (hb : Below w.heap.size w W) : MidOk w0 gw gk gd X T u e W ∨ MidNo w0 gw gk gd X T u e W := by
  rcases h with ⟨h1, o, d, g, p, t, rs, tv, lr, kv, torn, bytes, again, ks, armed, vs, h2, h3, h4⟩ | ⟨h1, o, d, g, p, t, ss, rs, rs', tv, lr, kv, torn, bytes, again, ks, vs, vs', h2, h3, h4, h5, h6, h7, h8⟩
  · exact Or.inl ⟨h1, o, d, g, p, t, rs, tv, lr, kv, torn, bytes, again, ks, armed, vs, h2.then hb, h3.below hb, h4⟩
  · exact Or.inr ⟨h1, o, d, g, p, t, ss, rs, rs', tv, lr, kv, torn, bytes, again, ks, vs, vs', h2.then hb, h3.then hb, h4, h5, h6.below hb, h7.below hb, h8⟩

set_option maxHeartbeats 16000000 in
set_option maxRecDepth 10000 in
theorem step_any (w0 w : World) (gw gk gd : Nat) (X : List UInt8) (T : Nat) (kd sz af ag : Int) (C : UInt8) (ak : Option Addr) (ck : Nat) (torn bytes : Int) (kl : List Bool) (hk : Kw w0 gw gk gd X T w) (hT : T ≤ 1000) (hs : -9223372036854775808 ≤ sz ∧ sz ≤ 9223372036854775807) (ha : -9223372036854775808 ≤ af ∧ af ≤ 9223372036854775807) (hg : ag ≤ 9223372036854775807) (hb : BoolsAt w0 (.slice ak kl.length ck) kl) :
   Calls Tryd.prog 23 #[.pointer (some ⟨gw, 0, none⟩), .agg (xcells kd sz af ag C (.slice ak kl.length ck) torn bytes)] w fun e w' => e = .returned (.bool true) ∧ Kw w0 gw gk gd X (T + 1) w' := by
  obtain ⟨o, d, g, p, t, rs, tv, lr, kw, torn1, bytes1, again1, ks1, armed, vs, hK, hL, htT⟩ := hk
  obtain ⟨al, cl, hlr⟩ := hL.lists.shape
  obtain ⟨VN, hVN⟩ : ∃ VN, VN = vs.length := ⟨_, rfl⟩
  rw [← hVN] at hlr
  subst hlr
  have HVN := hide hVN
  clear hVN
  obtain ⟨KN, hKN⟩ : ∃ KN, KN = kl.length := ⟨_, rfl⟩
  rw [← hKN] at hb ⊢
  clear hKN
  unfold xcells
  have HS := hide hs
  have HA := hide ha
  have HB := hide hb
  have HTT : Hid (t ≤ T) := htT
  clear hs ha hb
  go_enter Tryd.func23, Tryd.ntmps23
  obtain ⟨w1, hw1⟩ : ∃ w1, w1 = w.alloc (.cells (xcells kd sz af ag C (.slice ak KN ck) torn bytes) 53) := ⟨_, rfl⟩
  have b1 : Below w.heap.size w w1 := by rw [hw1]; exact (Below.refl _ _).alloc (Nat.le_refl _) _
  have RX : Hid (w1.heap[w.heap.size]? = some (.cells (xcells kd sz af ag C (.slice ak KN ck) torn bytes) 53 (0, 0))) := by rw [hw1]; exact heap_alloc_new _ _
  have GXQ : Hid (∀ k, Qk o g tv gw k → k < w.heap.size) := fun k e => hK.lt k e
  have K1 := hide (hK.then b1)
  have L1 := hide (hL.below b1)
  obtain ⟨gx, hgx⟩ : ∃ gx, gx = w.heap.size := ⟨_, rfl⟩
  rw [← hgx] at RX GXQ
  clear b1 hK hL
  have c2 := (wc_cells K1.out.row).2.2.1
  have cx := (xc_cells RX.out).1
  unfold xcells at hw1
  rw [hw1] at c2
  rw [hw1, hgx] at cx
  go_upto_block 0 with fail
  rw [← hw1, ← hgx]
  clear hw1 hgx c2 cx
  go_cut [5, 6] (fun u e wx => MidOk w0 gw gk gd X T u e wx ∨ MidNo w0 gw gk gd X T u e wx)
  case first =>
    by_cases hk1 : kd = 1
    · subst hk1
      go_upto_region 5 with fail
      refine wp_region_noPanic ?_
      refine wp_region_held_drew (S := (fun W => W.heap[gx]? = some (.cells (xcells 1 sz af ag C (.slice ak KN ck) torn bytes) 53 (0, 0)))) follows RX.out (fun hHeld => ?_)
      have KD := hide (K1.out.then (Below.refl w1.heap.size w1).drew)
      have LD := hide (L1.out.below (Below.refl w1.heap.size w1).drew)
      clear K1 L1 RX
      generalize w1.drew = Z1 at KD LD hHeld ⊢
      refine wpAnyH_take (i := 0) (oi := { dst := some 20, op := Op.fieldAddr 53 (Operand.tmp 3) 1, type := 0, pos := "law.go:117", after := #[], guard := none }) (v := ?_) rfl (by kernel_rfl) (by kernel_rfl) (by kernel_rfl) (fun _ _ _ h => h) (Or.inl ⟨by rfl, ?_⟩) (by assumption) ?_
      rotate_left
      · intro w hSw
        clear hSw
        go_simp
        all_goals with_reducible rfl
      simp only [Act.put, List.setIfInBounds_toArray, List.set_cons_zero, List.set_cons_succ]
      refine wpAnyH_take (i := 1) (oi := { dst := some 21, op := Op.load 3 (Operand.tmp 20), type := 3, pos := "law.go:117", after := #[{ on := 0, ground := Ground.data }], guard := none }) (v := ?_) rfl (by kernel_rfl) (by kernel_rfl) (by kernel_rfl) (fun _ _ _ h => h) (Or.inl ⟨by rfl, ?_⟩) (by assumption) ?_
      rotate_left
      · intro w hSw
        have c1 := (xc_cells hSw).2.1
        clear hSw
        go_simp
        all_goals with_reducible rfl
      simp only [Act.put, List.setIfInBounds_toArray, List.set_cons_zero, List.set_cons_succ]
      refine wpAnyH_take (i := 4) (oi := { dst := some 24, op := Op.fieldAddr 53 (Operand.tmp 3) 4, type := 0, pos := "law.go:117", after := #[], guard := none }) (v := ?_) rfl (by kernel_rfl) (by kernel_rfl) (by kernel_rfl) (fun _ _ _ h => h) (Or.inl ⟨by rfl, ?_⟩) (by assumption) ?_
      rotate_left
      · intro w hSw
        clear hSw
        go_simp
        all_goals with_reducible rfl
      simp only [Act.put, List.setIfInBounds_toArray, List.set_cons_zero, List.set_cons_succ]
      refine wpAnyH_take (i := 5) (oi := { dst := some 25, op := Op.load 5 (Operand.tmp 24), type := 5, pos := "law.go:117", after := #[{ on := 4, ground := Ground.data }], guard := none }) (v := ?_) rfl (by kernel_rfl) (by kernel_rfl) (by kernel_rfl) (fun _ _ _ h => h) (Or.inl ⟨by rfl, ?_⟩) (by assumption) ?_
      rotate_left
      · intro w hSw
        have c4 := (xc_cells hSw).2.2.2.2.1
        clear hSw
        go_simp
        all_goals with_reducible rfl
      simp only [Act.put, List.setIfInBounds_toArray, List.set_cons_zero, List.set_cons_succ]
      refine wpAnyH_ready (rs := [2]) (by kernel_rfl) (by simp) ?_
      refine AllReadyH.cons (o := { dst := some 22, op := Op.call { callee := Callee.value (Operand.func 25), args := #[Operand.tmp 21, Operand.const (Value.int IntKind.i64 0), Operand.const (Value.int IntKind.i64 900)], argTypes := #[3, 3, 3] }, type := 3, pos := "law.go:117", after := #[{ on := 1, ground := Ground.data }], guard := none }) rfl (fun K hK => ?_) AllReadyH.nil
      go_simp
      refine (within_any sz 900 Z1 HS.out.1 HS.out.2 (by omega) (by omega)).mono ?_
      rintro e Z2 ⟨rfl, rfl⟩
      refine hK.out _ _ hHeld (fun hHeld => ?_)
      clear hK K
      try simp only [Act.put, List.setIfInBounds_toArray, List.set_cons_zero, List.set_cons_succ]
      have hn900 := S.within_le sz 900 (by omega)
      obtain ⟨n, hn⟩ : ∃ n, n = S.within sz 900 + 1 := ⟨_, rfl⟩
      have q1 : IntKind.i64.wrap ((S.within sz 900 : Int) + 1) = (n : Int) := by rw [IntKind.wrap_i64]; omega
      refine wpAnyH_take (i := 3) (oi := { dst := some 23, op := Op.binOp BinOp.add 3 (Operand.tmp 22) (Operand.const (Value.int IntKind.i64 1)) 3, type := 3, pos := "law.go:117", after := #[{ on := 2, ground := Ground.data }], guard := none }) (v := ?_) rfl (by kernel_rfl) (by kernel_rfl) (by kernel_rfl) (fun _ _ _ h => h) (Or.inl ⟨by rfl, ?_⟩) (by assumption) ?_
      rotate_left
      · intro w hSw
        clear hSw
        go_simp
        all_goals with_reducible rfl
      simp only [Act.put, List.setIfInBounds_toArray, List.set_cons_zero, List.set_cons_succ]
      have hnle : n ≤ 901 := by omega
      have hnpos : 0 < n := by omega
      have Q1 : Hid ((S.within sz 900 : Int) + 1 = (n : Int)) := by show (S.within sz 900 : Int) + 1 = (n : Int); omega
      clear hn q1 hn900
      refine wpAnyH_ready (rs := [6]) (by kernel_rfl) (by simp) ?_
      refine AllReadyH.cons (o := { dst := some 26, op := Op.call { callee := Callee.value (Operand.func 20), args := #[Operand.tmp 23, Operand.tmp 25], argTypes := #[3, 5] }, type := 29, pos := "law.go:117", after := #[{ on := 3, ground := Ground.data }, { on := 5, ground := Ground.data }, { on := 2, ground := Ground.chain }], guard := none }) rfl (fun K hK => ?_) AllReadyH.nil
      go_simp
      rw [Q1.out]
      refine (record_any n C Z1 (by omega)).mono ?_
      rintro e Z2 ⟨gb, rfl, hgb, hrb, b2⟩
      have a2 : Z2.heap[gx]? = some (.cells (xcells 1 sz af ag C (.slice ak KN ck) torn bytes) 53 (0, 0)) := (b2.block gx (block_lt_of_row hHeld)).trans hHeld
      have K2 := hide (KD.out.then b2)
      have L2 := hide (LD.out.below b2)
      have GBQ : Hid (∀ k, Qk o g tv gw k → k < gb) := fun k e => by have := KD.out.lt k e; omega
      clear hHeld KD LD b2
      refine hK.out _ _ a2 (fun hHeld => ?_)
      clear hK K
      try simp only [Act.put, List.setIfInBounds_toArray, List.set_cons_zero, List.set_cons_succ]
      clear a2
      refine wpAnyH_take (i := 7) (oi := { dst := some 7, op := Op.assign (Operand.tmp 26), type := 29, pos := "law.go:117", after := #[{ on := 6, ground := Ground.data }, { on := 6, ground := Ground.chain }, { on := 0, ground := Ground.phase }, { on := 1, ground := Ground.phase }, { on := 2, ground := Ground.phase }, { on := 3, ground := Ground.phase }, { on := 4, ground := Ground.phase }, { on := 5, ground := Ground.phase }, { on := 6, ground := Ground.phase }], guard := none }) (v := ?_) rfl (by kernel_rfl) (by kernel_rfl) (by kernel_rfl) (fun _ _ _ h => h) (Or.inl ⟨by rfl, ?_⟩) (by assumption) ?_
      rotate_left
      · intro w hSw
        clear hSw
        go_simp
        all_goals with_reducible rfl
      simp only [Act.put, List.setIfInBounds_toArray, List.set_cons_zero, List.set_cons_succ]
      refine wpAnyH_done (by kernel_rfl) ?_ _
      refine NoPanic.normal ?_
      clear hHeld
      obtain ⟨b, hbq⟩ : ∃ b, b = S.rec n C := ⟨_, rfl⟩
      have BL : Hid (b.length = n) := by rw [hbq]; exact S.rec_length n C
      have BNE : Hid (b ≠ []) := by rw [hbq]; exact S.rec_ne n C hnpos
      rw [← hbq] at hrb
      have RB2 := hide hrb
      clear hrb hbq Q1
      have c1 := (wc_cells K2.out.row).2.1
      go_wp2_with fail
      refine (room_log o 3 50 g (S.hdOf t rs) tv true Z2 K2.out.lo.log.lg.row K2.out.lo.log.good.hd (by omega) (by omega)).mono ?_
      rintro e w3 ⟨rfl, b3⟩
      have K3 := hide (K2.out.then b3)
      have L3 := hide (L2.out.below b3)
      have RB3 : Hid (w3.heap[gb]? = some (.cells (S.v8 b) 5 (0, 0))) := (b3.block gb (block_lt_of_row RB2.out)).trans RB2.out
      have GB3 : Hid (∀ k, Qk o g tv gw k → k < gb) := GBQ.out
      clear b3 c1 K2 L2 RB2
      have hro := K3.out.lo.log.good.room
      have hused : (S.hdOf t rs).used = (S.enc rs).length := rfl
      have hr50 : S.room 50 = 5760 := rfl
      rw [hused, hr50]
      obtain ⟨R, hR⟩ : ∃ R, R = 5760 - (S.enc rs).length - 3 := ⟨_, rfl⟩
      rw [← hR]
      have HR : Hid (R = 5760 - (S.enc rs).length - 3) := hR
      have HRO : Hid ((S.enc rs).length ≤ 5760) := by rw [hr50] at hro; exact hro
      clear hused hr50 hro hR
      by_cases hfull : R < n
      · have q1 : (R : Int) < (n : Int) := by omega
        have c1 := (wc_cells K3.out.row).2.1
        go_wp2_with fail
        refine (commit_full o 3 50 g (S.hdOf t rs) tv true (some ⟨gb, 0, none⟩) n n w3 K3.out.lo.log.lg.row K3.out.lo.log.good.hd (by omega) (by omega) (by show 5760 - (S.enc rs).length - 3 < n; rw [← HR.out]; exact hfull)).mono ?_
        rintro e w4 ⟨rfl, b4⟩
        have K4 := hide (K3.out.then b4)
        have L4 := hide (L3.out.below b4)
        clear b4 c1 K3 L3 RB3
        have c1 := (wc_cells K4.out.row).2.1
        go_wp2_with fail
        refine (room_log o 3 50 g (S.hdOf t rs) tv true w4 K4.out.lo.log.lg.row K4.out.lo.log.good.hd (by omega) (by omega)).mono ?_
        rintro e w5 ⟨rfl, b5⟩
        have K5 := hide (K4.out.then b5)
        have L5 := hide (L4.out.below b5)
        have e5 : (S.room 50 - (S.hdOf t rs).used - 3 : Nat) = R := HR.out.symm
        rw [e5]
        clear b5 c1 K4 L4 e5
        go_wp2_with fail
        go_ret
        exact ⟨rfl, _, _, _, _, _, _, _, _, _, _, _, _, _, _, _, K5.out, L5.out, by omega⟩
      · have q1 : ¬ ((R : Int) < (n : Int)) := by omega
        have HFIT : Hid (b.length ≤ S.room 50 - (S.enc rs).length - 3) := by show b.length ≤ 5760 - (S.enc rs).length - 3; rw [BL.out, ← HR.out]; omega
        have HROOM : Hid ((S.enc rs).length + 3 + n ≤ 5760) := by show (S.enc rs).length + 3 + n ≤ 5760; have := HR.out; have := HRO.out; omega
        have HV6 : Hid (vs.length ≤ 1000000) := by
          have h1 := (L3.out.reads w3 (Chg.refl _ _)).1
          have h2 := len_lt rs
          have h3 := HRO.out
          show vs.length ≤ 1000000
          omega
        have c2 := (wc_cells K3.out.row).2.2.1
        obtain ⟨w6, hw6⟩ : ∃ w6, w6 = w3.alloc (.cells #[] 29) := ⟨_, rfl⟩
        have b6 : Below w3.heap.size w3 w6 := by rw [hw6]; exact (Below.refl _ _).alloc (Nat.le_refl _) _
        have r6 : w6.heap[w3.heap.size]? = some (.cells #[] 29 (0, 0)) := by rw [hw6]; exact heap_alloc_new _ _
        have c2b := (wc_cells ((b6.block gw (block_lt_of_row K3.out.row)).trans K3.out.row)).2.2.1
        rw [hw6] at c2b
        have APP := hide (run_copy_list w6 w3.heap.size (.slice al VN cl) vs 31 r6 (L3.out.below b6).lists (L3.out.reads w3 (Chg.refl _ _)).ones HV6.out)
        have B6 := hide b6
        have HW6 := hide hw6
        clear b6 r6 hw6
        go_wp2_with (at_builtin; first | (rw [← HW6.out]; refine wpList_append_known rfl (.tmp 52) (.tmp 56) 31 31 rfl _ _ rfl rfl APP.out ?_; rintro v7 w7 ⟨hl7, hg7, ho7⟩; have LI7 := hide hl7; have G7 := hide hg7; have O7 := hide ho7; clear hl7 hg7 ho7 APP HW6; obtain ⟨w8, hw8⟩ : ∃ w8, w8 = w7.alloc (.cells #[.slice (some ⟨gb, 0, none⟩) n n] 29) := ⟨_, rfl⟩; have b8 : Below w7.heap.size w7 w8 := (by rw [hw8]; exact (Below.refl _ _).alloc (Nat.le_refl _) _); have r8 : w8.heap[w7.heap.size]? = some (.cells #[.slice (some ⟨gb, 0, none⟩) n n] 29 (0, 0)) := (by rw [hw8]; exact heap_alloc_new _ _); have APP2 := hide (run_append_list w8 v7 (.slice (some ⟨gb, 0, none⟩) n n) w7.heap.size vs 31 (LI7.out.kept fun k hk => b8.block k (LI7.out.lt hk)) r8 rfl HV6.out); have B8 := hide b8; have HW8 := hide hw8; clear b8 r8 hw8) | (rw [← HW8.out]; refine wpList_append_known rfl (.tmp 57) (.tmp 59) 31 31 rfl _ _ rfl rfl APP2.out ?_; rintro v9 w9 ⟨hl9, hg9, ho9⟩; have LI9 := hide hl9; have G9 := hide hg9; have O9 := hide ho9; clear hl9 hg9 ho9 APP2 HW8; obtain ⟨a9, c9, hv9⟩ := LI9.out.shape; subst hv9))
        have BB : Hid (Below w3.heap.size w3 w9) := by
          have e1 : Below w3.heap.size w6 w7 := ((Chg.refl (fun k => w3.heap.size ≤ k) w6).grown G7.out (fun k _ e => by simp only [Option.some.injEq] at e; omega)).below _ B6.out.size (fun k hk e => by omega)
          have e2 := B6.out.trans e1
          have e3 := e2.trans (B8.out.mono e2.size)
          have e4 : Below w3.heap.size w8 w9 := ((Chg.refl (fun k => w3.heap.size ≤ k) w8).grown G9.out (fun k _ e => O7.out k e)).below _ e3.size (fun k hk e => by omega)
          exact e3.trans e4
        have K9 := hide (K3.out.then BB.out)
        have L9 := hide (L3.out.below BB.out)
        have RB9 : Hid (w9.heap[gb]? = some (.cells (S.v8 b) 5 (0, 0))) := (BB.out.block gb (block_lt_of_row RB3.out)).trans RB3.out
        obtain ⟨UN, hUN⟩ : ∃ UN, UN = vs.length + 1 := ⟨_, rfl⟩
        have hln : (vs ++ [Value.slice (some ⟨gb, 0, none⟩) n n]).length = UN := by rw [hUN, List.length_append]; rfl
        rw [hln] at LI9 O9
        rw [← hUN]
        clear hln
        have LU9 : Hid (LsOf w9 (Qk o g tv gw) (.slice a9 UN c9) (vs ++ [.slice (some ⟨gb, 0, none⟩) n n]) (rs ++ [b])) := ⟨LI9.out, (fun k hk e => by
          have h1 := K3.out.lt k e
          rcases O9.out with h2 | h2
          · rw [h2] at hk
            have := O7.out k hk
            omega
          · rw [h2] at hk
            simp only [Option.some.injEq] at hk
            have h3 := B8.out.size
            have h4 := G7.out.size
            have h5 := B6.out.size
            omega), (fun W hW => (L9.out.reads W hW).snoc (slice_row (hW.row RB9.out (fun e => absurd (GB3.out gb e) (Nat.lt_irrefl _))) BL.out.symm (by rw [BL.out]; omega)))⟩
        have SB9 : Hid (SliceAt w9 (.slice (some ⟨gb, 0, none⟩) n n) b) := slice_row RB9.out BL.out.symm (by rw [BL.out]; omega)
        clear B6 G7 B8 G9 O7 O9 LI7 LI9 K3 L3 RB3 hUN c2 c2b
        refine (roomy_any (.slice (some ⟨gb, 0, none⟩) n n) b w9 SB9.out (by rw [BL.out]; omega)).mono ?_
        rintro e w10 ⟨gf, rfl, hgf, hrf, b10⟩
        rw [BL.out]
        have K5 := hide (K9.out.then b10)
        have L5 := hide (L9.out.below b10)
        have LU := hide (LU9.out.below b10)
        have RB : Hid (w10.heap[gb]? = some (.cells (S.v8 b) 5 (0, 0))) := (b10.block gb (block_lt_of_row RB9.out)).trans RB9.out
        have RF := hide hrf
        have GFQ : Hid (∀ k, Qk o g tv gw k → k < gf) := fun k e => by have := K9.out.lt k e; omega
        clear hgf hrf b10 K9 L9 LU9 RB9 SB9
        go_upto_region 11 with fail
        refine wp_region_noPanic ?_
        refine wp_region_held_drew (S := (fun W => W.heap[gw]? = some (.cells (wcells o g (.slice al VN cl) kw torn1 bytes1 again1 armed) 50 (0, 0)))) follows K5.out.row (fun hHeld => ?_)
        have KD := hide (K5.out.then (Below.refl w10.heap.size w10).drew)
        have LD := hide (L5.out.below (Below.refl w10.heap.size w10).drew)
        have LUd := hide (LU.out.below (Below.refl w10.heap.size w10).drew)
        have RBd : Hid (w10.drew.heap[gb]? = some (.cells (S.v8 b) 5 (0, 0))) := RB.out
        have RFd : Hid (w10.drew.heap[gf]? = some (.cells (S.v8 (S.roomy b)) 5 (0, 0))) := RF.out
        clear K5 L5 LU RB RF
        generalize w10.drew = Z1 at KD LD LUd RBd RFd hHeld ⊢
        refine wpAnyH_take (i := 0) (oi := { dst := some 63, op := Op.move (Operand.tmp 0), type := 48, pos := "law.go:124", after := #[], guard := none }) (v := ?_) rfl (by kernel_rfl) (by kernel_rfl) (by kernel_rfl) (fun _ _ _ h => h) (Or.inl ⟨by rfl, ?_⟩) (by assumption) ?_
        rotate_left
        · intro w hSw
          clear hSw
          go_simp
          all_goals with_reducible rfl
        simp only [Act.put, List.setIfInBounds_toArray, List.set_cons_zero, List.set_cons_succ]
        refine wpAnyH_take (i := 1) (oi := { dst := some 64, op := Op.nilCheck (Operand.tmp 63), type := 0, pos := "law.go:124", after := #[{ on := 0, ground := Ground.data }], guard := none }) (v := ?_) rfl (by kernel_rfl) (by kernel_rfl) (by kernel_rfl) (fun _ _ _ h => h) (Or.inl ⟨by rfl, ?_⟩) (by assumption) ?_
        rotate_left
        · intro w hSw
          clear hSw
          go_simp
          all_goals with_reducible rfl
        simp only [Act.put, List.setIfInBounds_toArray, List.set_cons_zero, List.set_cons_succ]
        refine wpAnyH_take (i := 2) (oi := { dst := some 65, op := Op.fieldAddr 50 (Operand.tmp 64) 1, type := 0, pos := "law.go:124", after := #[{ on := 1, ground := Ground.data }], guard := none }) (v := ?_) rfl (by kernel_rfl) (by kernel_rfl) (by kernel_rfl) (fun _ _ _ h => h) (Or.inl ⟨by rfl, ?_⟩) (by assumption) ?_
        rotate_left
        · intro w hSw
          clear hSw
          go_simp
          all_goals with_reducible rfl
        simp only [Act.put, List.setIfInBounds_toArray, List.set_cons_zero, List.set_cons_succ]
        refine wpAnyH_take (i := 3) (oi := { dst := some 66, op := Op.load 23 (Operand.tmp 65), type := 23, pos := "law.go:124", after := #[{ on := 2, ground := Ground.data }], guard := none }) (v := ?_) rfl (by kernel_rfl) (by kernel_rfl) (by kernel_rfl) (fun _ _ _ h => h) (Or.inl ⟨by rfl, ?_⟩) (by assumption) ?_
        rotate_left
        · intro w hSw
          have c1 := (wc_cells hSw).2.1
          clear hSw
          go_simp
          all_goals with_reducible rfl
        simp only [Act.put, List.setIfInBounds_toArray, List.set_cons_zero, List.set_cons_succ]
        refine wpAnyH_take (i := 4) (oi := { dst := some 67, op := Op.move (Operand.tmp 9), type := 29, pos := "law.go:124", after := #[], guard := none }) (v := ?_) rfl (by kernel_rfl) (by kernel_rfl) (by kernel_rfl) (fun _ _ _ h => h) (Or.inl ⟨by rfl, ?_⟩) (by assumption) ?_
        rotate_left
        · intro w hSw
          clear hSw
          go_simp
          all_goals with_reducible rfl
        simp only [Act.put, List.setIfInBounds_toArray, List.set_cons_zero, List.set_cons_succ]
        refine wpAnyH_take (i := 5) (oi := { dst := some 68, op := Op.move (Operand.tmp 7), type := 29, pos := "law.go:124", after := #[], guard := none }) (v := ?_) rfl (by kernel_rfl) (by kernel_rfl) (by kernel_rfl) (fun _ _ _ h => h) (Or.inl ⟨by rfl, ?_⟩) (by assumption) ?_
        rotate_left
        · intro w hSw
          clear hSw
          go_simp
          all_goals with_reducible rfl
        simp only [Act.put, List.setIfInBounds_toArray, List.set_cons_zero, List.set_cons_succ]
        refine wpAnyH_take (i := 6) (oi := { dst := some 69, op := Op.call { callee := Callee.builtin Builtin.len, args := #[Operand.tmp 68], argTypes := #[29] }, type := 3, pos := "law.go:124", after := #[{ on := 5, ground := Ground.data }], guard := none }) (v := ?_) rfl (by kernel_rfl) (by kernel_rfl) (by kernel_rfl) (fun _ _ _ h => h) (Or.inl ⟨by rfl, ?_⟩) (by assumption) ?_
        rotate_left
        · intro w hSw
          clear hSw
          go_simp
          all_goals with_reducible rfl
        simp only [Act.put, List.setIfInBounds_toArray, List.set_cons_zero, List.set_cons_succ]
        refine wpAnyH_take (i := 7) (oi := { dst := some 70, op := Op.slice 29 (Operand.tmp 67) none (some (Operand.tmp 69)) none, type := 29, pos := "law.go:124", after := #[{ on := 4, ground := Ground.data }, { on := 6, ground := Ground.data }], guard := none }) (v := ?_) rfl (by kernel_rfl) (by kernel_rfl) (by kernel_rfl) (fun _ _ _ h => h) (Or.inl ⟨by rfl, ?_⟩) (by assumption) ?_
        rotate_left
        · intro w hSw
          have qn : (n : Int) ≤ (n : Int) + 80 := by omega
          clear hSw
          go_simp
          all_goals with_reducible rfl
        simp only [Act.put, List.setIfInBounds_toArray, List.set_cons_zero, List.set_cons_succ]
        refine wpAnyH_ready (rs := [8]) (by kernel_rfl) (by simp) ?_
        refine AllReadyH.cons (o := { dst := some 71, op := Op.call { callee := Callee.value (Operand.func 11), args := #[Operand.tmp 66, Operand.tmp 70], argTypes := #[23, 29] }, type := 27, pos := "law.go:124", after := #[{ on := 3, ground := Ground.data }, { on := 7, ground := Ground.data }], guard := none }) rfl (fun K hK => ?_) AllReadyH.nil
        go_simp
        refine (commit_any o d g 3 50 p t rs tv (some ⟨gf, 0, none⟩) n (n + 80) b Z1 KD.out.lo.log (by omega) (fun W hW => ?_) BNE.out HFIT.out).mono ?_
        · have hrf : W.heap[gf]? = some (.cells (S.v8 (S.roomy b)) 5 (0, 0)) := hW.row RFd.out (fun e => by rcases e with e | e; exact absurd (GFQ.out _ (Or.inr (Or.inl e))) (Nat.lt_irrefl _); exact absurd (GFQ.out _ (Or.inr (Or.inr (Or.inl e)))) (Nat.lt_irrefl _))
          have := roomy_at hrf (by rw [BL.out]; omega) (n + 80) (by rw [BL.out]; omega)
          rw [BL.out] at this
          exact this
        rintro e Z2 ⟨ok, d2, o2, tv2, x⟩
        obtain rfl := x.ret
        have cm := S.commit_calm (b := b) KD.out.lo.log.pend KD.out.lo.log.good (by omega) (by rw [S.enc_snoc_length, BL.out]; have := HFIT.out; rw [BL.out] at this; omega)
        have hne2 : ∀ r ∈ rs ++ [b], r ≠ [] := fun r hr => by rcases List.mem_append.1 hr with h | h; exact KD.out.ne r h; rw [List.mem_singleton] at h; rw [h]; exact BNE.out
        have MID := hide (mid_of KD.out LD.out LUd.out cm x hne2 (by have h1 := cm.may; rw [S.enc_snoc_length, BL.out]; have := HROOM.out; omega) HTT.out)
        have RB2 : Hid (Z2.heap[gb]? = some (.cells (S.v8 b) 5 (0, 0))) := x.moved.chg.row RBd.out (fun e => absurd (GBQ.out gb (by rcases e with e | e | e; exact Or.inl e; exact Or.inr (Or.inl e); exact Or.inr (Or.inr (Or.inl e)))) (Nat.lt_irrefl _))
        have RF2 : Hid (Z2.heap[gf]? = some (.cells (S.v8 (S.roomy b)) 5 (0, 0))) := x.moved.chg.row RFd.out (fun e => absurd (GFQ.out gf (by rcases e with e | e | e; exact Or.inl e; exact Or.inr (Or.inl e); exact Or.inr (Or.inr (Or.inl e)))) (Nat.lt_irrefl _))
        have KY : Hid (ok = true → Kc w0 Z2 gw gk gd X o2 d2 g (1 - p) (t + 1) (rs ++ [b]) tv2 (.slice al VN cl) kw torn1 bytes1 again1 ks1 armed) := fun e => by subst e; exact KD.out.done cm x hne2
        have hRW := x.moved.chg.row KD.out.row KD.out.sep
        clear hHeld x cm hne2 KD LD LUd RBd RFd
        refine hK.out _ _ hRW (fun hHeld => ?_)
        clear hK K
        try simp only [Act.put, List.setIfInBounds_toArray, List.set_cons_zero, List.set_cons_succ]
        clear hRW
        refine wpAnyH_take (i := 9) (oi := { dst := some 6, op := Op.assign (Operand.tmp 71), type := 27, pos := "law.go:124", after := #[{ on := 8, ground := Ground.data }, { on := 8, ground := Ground.chain }, { on := 0, ground := Ground.phase }, { on := 1, ground := Ground.phase }, { on := 2, ground := Ground.phase }, { on := 3, ground := Ground.phase }, { on := 4, ground := Ground.phase }, { on := 5, ground := Ground.phase }, { on := 6, ground := Ground.phase }, { on := 7, ground := Ground.phase }, { on := 8, ground := Ground.phase }], guard := none }) (v := ?_) rfl (by kernel_rfl) (by kernel_rfl) (by kernel_rfl) (fun _ _ _ h => h) (Or.inl ⟨by rfl, ?_⟩) (by assumption) ?_
        rotate_left
        · intro w hSw
          clear hSw
          go_simp
          all_goals with_reducible rfl
        simp only [Act.put, List.setIfInBounds_toArray, List.set_cons_zero, List.set_cons_succ]
        refine wpAnyH_done (by kernel_rfl) ?_ _
        refine NoPanic.normal ?_
        clear hHeld
        have SB2 : Hid (SliceAt Z2 (.slice (some ⟨gb, 0, none⟩) n n) b) := slice_row RB2.out BL.out.symm (by rw [BL.out]; omega)
        cases ok with
        | false =>
          have e1 : S.why false = 13 := rfl
          rw [e1] at MID ⊢
          clear e1
          go_wp2_with fail
          refine (intact_any gf (.slice (some ⟨gb, 0, none⟩) n n) b (n + 80) Z2 (by rw [BL.out]) SB2.out (by rw [BL.out]; omega) RF2.out).mono ?_
          rintro e w12 ⟨rfl, st⟩
          have MI := hide (mid_then MID.out (st.below Z2.heap.size))
          clear st
          go_wp2_with fail
          go_meet
          exact MI.out
        | true =>
          have e1 : S.why true = 0 := rfl
          rw [e1] at MID ⊢
          have KZ := hide (KY.out rfl)
          clear e1 KY
          go_wp2_with fail
          refine (intact_any gf (.slice (some ⟨gb, 0, none⟩) n n) b (n + 80) Z2 (by rw [BL.out]) SB2.out (by rw [BL.out]; omega) RF2.out).mono ?_
          rintro e w12 ⟨rfl, st⟩
          have K12 := hide (KZ.out.then (st.below Z2.heap.size))
          have MI := hide (mid_then MID.out (st.below Z2.heap.size))
          clear st
          have c1 := (wc_cells K12.out.row).2.1
          go_wp2_with fail
          refine (room_log o2 3 50 g (S.hdOf (t + 1) (rs ++ [b])) tv2 true w12 K12.out.lo.log.lg.row K12.out.lo.log.good.hd (by omega) (by omega)).mono ?_
          rintro e w13 ⟨rfl, b13⟩
          have MJ := hide (mid_then MI.out b13)
          have e5 : (S.room 50 - (S.hdOf (t + 1) (rs ++ [b])).used - 3 : Nat) = R - n - 3 := by
            have e6 : (S.hdOf (t + 1) (rs ++ [b])).used = (S.enc (rs ++ [b])).length := rfl
            have e7 : S.room 50 = 5760 := rfl
            rw [e6, e7, S.enc_snoc_length, BL.out, HR.out]
            have := HRO.out
            omega
          rw [e5]
          obtain ⟨R2, hR2⟩ : ∃ R2, R2 = R - n - 3 := ⟨_, rfl⟩
          rw [← hR2]
          have hRb : R ≤ 5760 := by have := HR.out; omega
          have q5 : IntKind.i64.wrap ((R : Int) - (n : Int)) = (R : Int) - (n : Int) := by rw [IntKind.wrap_i64]; omega
          have q6 : IntKind.i64.wrap ((R : Int) - (n : Int) - 256) = (R : Int) - (n : Int) - 256 := by rw [IntKind.wrap_i64]; omega
          have q4 : ¬ ((R2 : Int) < (R : Int) - (n : Int) - 256) := by omega
          have q7 : decide ((R2 : Int) < (R : Int) - (n : Int) - 256) = false := decide_eq_false q4
          clear b13 c1 e5 hR2
          go_wp2_with fail
          go_meet
          exact MJ.out
    by_cases hk2 : kd = 2
    · subst hk2
      have c1 := (wc_cells K1.out.row).2.1
      go_wp2_with fail
      clear c1
      refine (clear_any o d g 3 50 p t rs tv w1 K1.out.lo.log (by omega)).mono ?_
      rintro e w2 ⟨ok, d2, o2, tv2, x⟩
      obtain rfl := x.ret
      have cm := S.clear_calm K1.out.lo.log.pend K1.out.lo.log.good (by omega)
      have MID := hide (mid_of K1.out L1.out (lsOf_nil w1 _) cm x (by simp) (by simp [S.enc]) HTT.out)
      clear x cm K1 L1
      go_wp2_with fail
      go_meet
      exact MID.out
    by_cases hk3 : kd = 3
    · subst hk3
      have c7 := (wc_cells K1.out.row).2.2.2.2.2.2.2
      have c0 := (wc_cells K1.out.row).1
      cases armed with
      | true =>
        go_wp2_with fail
        go_ret
        exact ⟨rfl, _, _, _, _, _, _, _, _, _, _, _, _, _, _, _, K1.out, L1.out, by omega⟩
      | false =>
        go_wp2_with fail
        refine (open_go w0 w1 o d 3 50 p t rs K1.out.lo.log.dk K1.out.lo.log.pend K1.out.lo.log.good K1.out.lo.ob K1.out.lo.below K1.out.lo.pos).mono ?_
        rintro e w2 ⟨g2, tv2, rfl, hlo, hg2, ht2, b2⟩
        have FD := hide (K1.out.found b2 hlo hg2 ht2 K1.out.ne (block_lt_of_row K1.out.row))
        have RW2 : Hid (w2.heap[gw]? = some (.cells (wcells o g (.slice al VN cl) kw torn1 bytes1 again1 false) 50 (0, 0))) := (b2.block gw (block_lt_of_row K1.out.row)).trans K1.out.row
        have L2 : Hid (LsOf w2 (Qk o g2 tv2 gw) (.slice al VN cl) vs rs) := L1.out.chg (Chg.ofBelow' b2) (fun k e => by
          rcases e with e | e | e | e
          · exact Or.inl (Or.inl e)
          · exact Or.inr (by omega)
          · exact Or.inr (ht2 k e)
          · exact Or.inl (Or.inr (Or.inr (Or.inr e))))
        clear hlo hg2 ht2 b2 c7 c0 K1 L1
        have f1 := frozen_of_row _ _ 1 _ _ RW2.out
        have c1 := (wc_cells RW2.out).2.1
        obtain ⟨w3, hw3⟩ : ∃ w3, w3 = w2.setCell ⟨gw, 1, none⟩ (.pointer (some ⟨g2, 0, none⟩)) := ⟨_, rfl⟩
        have C3 : Hid (Chg (fun k => k = gw) w2 w3) := by rw [hw3]; exact Chg.one gw 1 _ rfl
        have K3 := hide (FD.out w3 C3.out (by rw [hw3]; exact wc_set1 RW2.out g2))
        have L3 := hide (L2.out.chg (C3.out.mono fun _ _ e => Or.inr (Or.inr (Or.inr e))) (fun _ e => Or.inl e))
        clear FD RW2 L2 C3
        go_wp2_with fail
        rw [← hw3]
        clear hw3 f1 c1
        go_meet
        exact Or.inl ⟨rfl, _, _, _, _, _, _, _, _, _, _, _, _, _, _, _, K3.out, L3.out, by omega⟩
    by_cases hk4 : kd = 4
    · subst hk4
      go_upto_region 25 with fail
      refine wp_region_noPanic ?_
      refine wp_region_held_drew (S := (fun W => W.heap[gw]? = some (.cells (wcells o g (.slice al VN cl) kw torn1 bytes1 again1 armed) 50 (0, 0)) ∧ W.heap[gx]? = some (.cells (xcells 4 sz af ag C (.slice ak KN ck) torn bytes) 53 (0, 0)))) follows ⟨K1.out.row, RX.out⟩ (fun hHeld => ?_)
      have KD := hide (K1.out.then (Below.refl w1.heap.size w1).drew)
      have LD := hide (L1.out.below (Below.refl w1.heap.size w1).drew)
      clear K1 L1 RX
      generalize w1.drew = Z1 at KD LD hHeld ⊢
      refine wpAnyH_take (i := 0) (oi := { dst := some 126, op := Op.move (Operand.tmp 0), type := 48, pos := "law.go:141", after := #[], guard := none }) (v := ?_) rfl (by kernel_rfl) (by kernel_rfl) (by kernel_rfl) (fun _ _ _ h => h) (Or.inl ⟨by rfl, ?_⟩) (by assumption) ?_
      rotate_left
      · intro w hSw
        clear hSw
        go_simp
        all_goals with_reducible rfl
      simp only [Act.put, List.setIfInBounds_toArray, List.set_cons_zero, List.set_cons_succ]
      refine wpAnyH_take (i := 1) (oi := { dst := some 127, op := Op.nilCheck (Operand.tmp 126), type := 0, pos := "law.go:141", after := #[{ on := 0, ground := Ground.data }], guard := none }) (v := ?_) rfl (by kernel_rfl) (by kernel_rfl) (by kernel_rfl) (fun _ _ _ h => h) (Or.inl ⟨by rfl, ?_⟩) (by assumption) ?_
      rotate_left
      · intro w hSw
        clear hSw
        go_simp
        all_goals with_reducible rfl
      simp only [Act.put, List.setIfInBounds_toArray, List.set_cons_zero, List.set_cons_succ]
      refine wpAnyH_take (i := 2) (oi := { dst := some 128, op := Op.fieldAddr 50 (Operand.tmp 127) 0, type := 0, pos := "law.go:141", after := #[{ on := 1, ground := Ground.data }], guard := none }) (v := ?_) rfl (by kernel_rfl) (by kernel_rfl) (by kernel_rfl) (fun _ _ _ h => h) (Or.inl ⟨by rfl, ?_⟩) (by assumption) ?_
      rotate_left
      · intro w hSw
        clear hSw
        go_simp
        all_goals with_reducible rfl
      simp only [Act.put, List.setIfInBounds_toArray, List.set_cons_zero, List.set_cons_succ]
      refine wpAnyH_take (i := 3) (oi := { dst := some 129, op := Op.load 22 (Operand.tmp 128), type := 22, pos := "law.go:141", after := #[{ on := 2, ground := Ground.data }], guard := none }) (v := ?_) rfl (by kernel_rfl) (by kernel_rfl) (by kernel_rfl) (fun _ _ _ h => h) (Or.inl ⟨by rfl, ?_⟩) (by assumption) ?_
      rotate_left
      · intro w hSw
        have c1 := (wc_cells hSw.1).1
        clear hSw
        go_simp
        all_goals with_reducible rfl
      simp only [Act.put, List.setIfInBounds_toArray, List.set_cons_zero, List.set_cons_succ]
      refine wpAnyH_take (i := 4) (oi := { dst := some 130, op := Op.fieldAddr 53 (Operand.tmp 3) 2, type := 0, pos := "law.go:141", after := #[], guard := none }) (v := ?_) rfl (by kernel_rfl) (by kernel_rfl) (by kernel_rfl) (fun _ _ _ h => h) (Or.inl ⟨by rfl, ?_⟩) (by assumption) ?_
      rotate_left
      · intro w hSw
        clear hSw
        go_simp
        all_goals with_reducible rfl
      simp only [Act.put, List.setIfInBounds_toArray, List.set_cons_zero, List.set_cons_succ]
      refine wpAnyH_take (i := 5) (oi := { dst := some 131, op := Op.load 3 (Operand.tmp 130), type := 3, pos := "law.go:141", after := #[{ on := 4, ground := Ground.data }], guard := none }) (v := ?_) rfl (by kernel_rfl) (by kernel_rfl) (by kernel_rfl) (fun _ _ _ h => h) (Or.inl ⟨by rfl, ?_⟩) (by assumption) ?_
      rotate_left
      · intro w hSw
        have c1 := (xc_cells hSw.2).2.2.1
        clear hSw
        go_simp
        all_goals with_reducible rfl
      simp only [Act.put, List.setIfInBounds_toArray, List.set_cons_zero, List.set_cons_succ]
      refine wpAnyH_ready (rs := [6]) (by kernel_rfl) (by simp) ?_
      refine AllReadyH.cons (o := { dst := some 132, op := Op.call { callee := Callee.value (Operand.func 25), args := #[Operand.tmp 131, Operand.const (Value.int IntKind.i64 0), Operand.const (Value.int IntKind.i64 12)], argTypes := #[3, 3, 3] }, type := 3, pos := "law.go:141", after := #[{ on := 5, ground := Ground.data }], guard := none }) rfl (fun K hK => ?_) AllReadyH.nil
      go_simp
      refine (within_any af 12 Z1 HA.out.1 HA.out.2 (by omega) (by omega)).mono ?_
      rintro e Z2 ⟨rfl, rfl⟩
      refine hK.out _ _ hHeld (fun hHeld => ?_)
      clear hK K
      try simp only [Act.put, List.setIfInBounds_toArray, List.set_cons_zero, List.set_cons_succ]
      have hn12 := S.within_le af 12 (by omega)
      obtain ⟨m, hm⟩ : ∃ m, m = S.within af 12 := ⟨_, rfl⟩
      rw [← hm] at hn12 ⊢
      clear hm
      refine wpAnyH_ready (rs := [7]) (by kernel_rfl) (by simp) ?_
      refine AllReadyH.cons (o := { dst := some 133, op := Op.call { callee := Callee.value (Operand.func 12), args := #[Operand.tmp 129, Operand.tmp 132], argTypes := #[22, 3] }, type := 0, pos := "law.go:141", after := #[{ on := 3, ground := Ground.data }, { on := 6, ground := Ground.data }, { on := 6, ground := Ground.chain }], guard := none }) rfl (fun K hK => ?_) AllReadyH.nil
      go_simp
      refine (stop_any o d (m : Int) Z1 KD.out.lo.log.dk.dk (by omega)).mono ?_
      rintro e Z2 ⟨rfl, o2, h2, h3⟩
      have hpn : o2.ptr = o.ptr := by unfold Ow.ptr; rw [h3.g]
      have hrw := row_to KD.out.row h3 (fun e => KD.out.sep (Or.inl e))
      have hrx : Z2.heap[gx]? = some (.cells (xcells 4 sz af ag C (.slice ak KN ck) torn bytes) 53 (0, 0)) := h3.chg.row hHeld.2 (fun e => absurd (GXQ.out gx (Or.inl e)) (Nat.lt_irrefl _))
      have a2 : Z2.heap[gw]? = some (.cells (wcells o g (.slice al VN cl) kw torn1 bytes1 again1 armed) 50 (0, 0)) ∧ Z2.heap[gx]? = some (.cells (xcells 4 sz af ag C (.slice ak KN ck) torn bytes) 53 (0, 0)) := ⟨by have := hrw; unfold wcells at this ⊢; rw [← hpn]; exact this, hrx⟩
      have LO2 := hide (KD.out.lo.besides h2 h3 KD.out.lo.log.pend rfl)
      have L2 : Hid (LsOf Z2 (Qk o2 g tv gw) (.slice al VN cl) vs rs) := LD.out.chg (h3.chg.mono fun _ _ e => Or.inl e) (fun k e => by rcases e with e | e | e | e; rcases h3.own k e with e | e; exact Or.inl (Or.inl e); exact Or.inr e; exact Or.inl (Or.inr (Or.inl e)); exact Or.inl (Or.inr (Or.inr (Or.inl e))); exact Or.inl (Or.inr (Or.inr (Or.inr e))))
      have RW2 := hide hrw
      have RX2 := hide hrx
      have SEP2 : Hid (¬ (o2.has gw ∨ gw = g ∨ tv.ownBlock = some gw)) := fun e => by rcases e with e | e; rcases h3.own _ e with e | e; exact KD.out.sep (Or.inl e); have := block_lt_of_row KD.out.row; omega; exact KD.out.sep (Or.inr e)
      have FIX : Hid ((d.stop (m : Int)).safe.length = 60 ∧ (d.stop (m : Int)).safe.getD 0 [] = X ∧ (d.stop (m : Int)).safe.getD 59 [] = X ∧ w0.heap.size ≤ gw ∧ ∀ r ∈ rs, r ≠ []) := ⟨KD.out.len, KD.out.lo0, KD.out.hi0, KD.out.gwb, KD.out.ne⟩
      have PT2 : Hid (o2.g = gd) := h3.g.trans KD.out.pt
      have BK2 : Hid (Z2.heap[gk]? = some (.cells (S.v8 X) 5 (0, 0))) := h3.chg.row KD.out.bk (fun e => KD.out.bq.1 (Or.inl e))
      have BQ2 : Hid (¬ (o2.has gk ∨ gk = g ∨ tv.ownBlock = some gk) ∧ gk ≠ gw) := ⟨fun e => by rcases e with e | e; rcases h3.own _ e with e | e; exact KD.out.bq.1 (Or.inl e); have := block_lt_of_row KD.out.bk; omega; exact KD.out.bq.1 (Or.inr e), KD.out.bq.2⟩
      clear hHeld h2 h3 hpn hrw hrx KD LD
      refine hK.out _ _ a2 (fun hHeld => ?_)
      clear hK K
      try simp only [Act.put, List.setIfInBounds_toArray, List.set_cons_zero, List.set_cons_succ]
      clear a2
      refine wpAnyH_done (by kernel_rfl) ?_ _
      refine NoPanic.normal ?_
      clear hHeld
      obtain ⟨-, -, -, c3, c4, c5, -, -⟩ := wc_cells RW2.out
      obtain ⟨-, -, -, -, -, x5, x6, x7⟩ := xc_cells RX2.out
      have f3 := frozen_of_row _ _ 3 _ _ RW2.out
      have f4 := frozen_of_row _ _ 4 _ _ RW2.out
      have f5 := frozen_of_row _ _ 5 _ _ RW2.out
      have hgxw : gx ≠ gw := fun e => absurd (GXQ.out gw (Or.inr (Or.inr (Or.inr rfl)))) (by omega)
      obtain ⟨w3, hw3⟩ : ∃ w3, w3 = ((Z2.setCell ⟨gw, 3, none⟩ (.slice ak KN ck)).setCell ⟨gw, 4, none⟩ (.int .i64 torn)).setCell ⟨gw, 5, none⟩ (.int .i64 bytes) := ⟨_, rfl⟩
      have C3 : Chg (fun k => k = gw) Z2 w3 := by rw [hw3]; exact (((Chg.refl (fun k => k = gw) Z2).setCell gw 3 _ (fun _ => rfl)).setCell gw 4 _ (fun _ => rfl)).setCell gw 5 _ (fun _ => rfl)
      have RW3 : w3.heap[gw]? = some (.cells (wcells o2 g (.slice al VN cl) (.slice ak KN ck) torn bytes again1 armed) 50 (0, 0)) := by
        rw [hw3, heap_setCell_same _ gw 5 _ _ _ (heap_setCell_same _ gw 4 _ _ _ (heap_setCell_same Z2 gw 3 _ _ _ RW2.out))]
        rfl
      have RX3 : w3.heap[gx]? = some (.cells (xcells 4 sz af ag C (.slice ak KN ck) torn bytes) 53 (0, 0)) := C3.row RX2.out hgxw
      obtain ⟨w4, hw4⟩ : ∃ w4, w4 = w3.setCell ⟨gw, 6, none⟩ (.int .i64 ag) := ⟨_, rfl⟩
      have C4 : Chg (fun k => k = gw) Z2 w4 := by rw [hw4]; exact C3.setCell gw 6 _ (fun _ => rfl)
      have RW4 : w4.heap[gw]? = some (.cells (wcells o2 g (.slice al VN cl) (.slice ak KN ck) torn bytes ag armed) 50 (0, 0)) := by rw [hw4]; exact wc_set6 RW3 ag
      obtain ⟨w5, hw5⟩ : ∃ w5, w5 = w4.setCell ⟨gw, 7, none⟩ (.bool true) := ⟨_, rfl⟩
      have C5 : Hid (Chg (fun k => k = gw) Z2 w5) := by rw [hw5]; exact C4.setCell gw 7 _ (fun _ => rfl)
      have RW5 : Hid (w5.heap[gw]? = some (.cells (wcells o2 g (.slice al VN cl) (.slice ak KN ck) torn bytes ag true) 50 (0, 0))) := by rw [hw5]; exact wc_set7 RW4 true
      have x3 := (xc_cells RX3).2.2.2.1
      have c6 := (wc_cells RW3).2.2.2.2.2.2.1
      have f6 := frozen_of_row _ _ 6 _ _ RW3
      have c7 := (wc_cells RW4).2.2.2.2.2.2.2
      have f7 := frozen_of_row _ _ 7 _ _ RW4
      rw [hw3] at x3 c6 f6
      rw [hw4, hw3] at c7 f7
      rw [hw4, hw3] at hw5
      have KE : Hid (Kc w0 w5 gw gk gd X o2 (d.stop (m : Int)) g p t rs tv (.slice al VN cl) (.slice ak KN ck) torn bytes ag kl true) := ⟨LO2.out.chg C5.out (fun k hk e => by
        subst e
        rcases hk with hk | hk | hk | hk
        · exact SEP2.out (Or.inl hk)
        · exact SEP2.out (Or.inr (Or.inl hk))
        · exact SEP2.out (Or.inr (Or.inr hk))
        · have := FIX.out.2.2.2.1; omega), RW5.out, FIX.out.2.2.2.1, SEP2.out, FIX.out.2.2.2.2, HB.out, hg, (fun e => by cases e), FIX.out.1, FIX.out.2.1, FIX.out.2.2.1, C5.out.row BK2.out BQ2.out.2, BQ2.out, PT2.out⟩
      have LE := hide (L2.out.chg (C5.out.mono fun _ _ e => Or.inr (Or.inr (Or.inr e))) (fun _ e => Or.inl e))
      clear hw3 hw4 C3 C4 C5 RW3 RW4 RW5 RX3 LO2 L2 RW2 RX2 SEP2 FIX
      clear w3 w4
      go_wp2_with fail
      rw [← hw5]
      clear hw5
      go_meet
      exact Or.inl ⟨rfl, _, _, _, _, _, _, _, _, _, _, _, _, _, _, _, KE.out, LE.out, by omega⟩
    have b1 : (kd == 1) = false := by simp [hk1]
    have b2 : (kd == 2) = false := by simp [hk2]
    have b3 : (kd == 3) = false := by simp [hk3]
    have b4 : (kd == 4) = false := by simp [hk4]
    go_wp2_with fail
    go_meet
    exact Or.inl ⟨rfl, _, _, _, _, _, _, _, _, _, _, _, _, _, _, _, K1.out, L1.out, by omega⟩
  case rest =>

  clear K1 L1 RX GXQ HS HA HB hg
  rcases hcut with ⟨rfl, o2, d2, g2, p2, t2, rs2, tv2, lr2, kw2, torn2, bytes2, again2, ks2, armed2, vs2, hK2, hL2, ht2⟩ | ⟨rfl, o2, d2, g2, p2, t2, ss, rs2, rs3, tv2, lr2, kw2, torn2, bytes2, again2, ks2, vs2, vs3, hK2, hH2, hok2, hen2, hA2, hB2, ht2⟩
  · obtain ⟨au, cu, hu⟩ := hL2.lists.shape
    subst hu
    obtain ⟨UN, hUN⟩ : ∃ UN, UN = vs2.length := ⟨_, rfl⟩
    rw [← hUN] at hL2 ⊢
    have KB := hide hK2
    have LB := hide hL2
    have HEN : Hid ((S.enc rs2).length ≤ 10000000) := by have h1 := hK2.lo.log.good.room; have h2 := S.room_le hK2.lo.log.good.most; show (S.enc rs2).length ≤ _; omega
    have HFEW : Hid (rs2.length ≤ 1000000) := by have h1 := hK2.lo.log.good.room; have h2 := S.room_le hK2.lo.log.good.most; have := len_lt rs2; show rs2.length ≤ _; omega
    have f2 := frozen_of_row _ _ 2 _ _ hK2.row
    have c2 := (wc_cells hK2.row).2.2.1
    obtain ⟨w8, hw8⟩ : ∃ w8, w8 = wc.setCell ⟨gw, 2, none⟩ (.slice au UN cu) := ⟨_, rfl⟩
    have C8 : Hid (Chg (fun k => k = gw) wc w8) := by rw [hw8]; exact (Chg.refl (fun k => k = gw) wc).setCell gw 2 _ (fun _ => rfl)
    have KE := hide (KB.out.put (W := w8) C8.out (by rw [hw8]; exact wc_set2 KB.out.row _) KB.out.cut KB.out.ag KB.out.left)
    have LE := hide (LB.out.chg (C8.out.mono fun _ _ e => Or.inr (Or.inr (Or.inr e))) (fun _ e => Or.inl e))
    clear hK2 hL2 hUN KB LB C8
    go_upto_region 34 with fail
    rw [← hw8]
    clear hw8 f2 c2
    refine wp_region_noPanic ?_
    refine wp_region_held_drew (S := (fun W => W.heap[gw]? = some (.cells (wcells o2 g2 (.slice au UN cu) kw2 torn2 bytes2 again2 armed2) 50 (0, 0)))) follows KE.out.row (fun hHeld => ?_)
    have KD := hide (KE.out.then (Below.refl w8.heap.size w8).drew)
    have LD := hide (LE.out.below (Below.refl w8.heap.size w8).drew)
    clear KE LE
    generalize w8.drew = Z1 at KD LD hHeld ⊢
    refine wpAnyH_take (i := 0) (oi := { dst := some 176, op := Op.move (Operand.tmp 0), type := 48, pos := "law.go:153", after := #[], guard := none }) (v := ?_) rfl (by kernel_rfl) (by kernel_rfl) (by kernel_rfl) (fun _ _ _ h => h) (Or.inl ⟨by rfl, ?_⟩) (by assumption) ?_
    rotate_left
    · intro w hSw
      clear hSw
      go_simp
      all_goals with_reducible rfl
    simp only [Act.put, List.setIfInBounds_toArray, List.set_cons_zero, List.set_cons_succ]
    refine wpAnyH_take (i := 1) (oi := { dst := some 177, op := Op.nilCheck (Operand.tmp 176), type := 0, pos := "law.go:153", after := #[{ on := 0, ground := Ground.data }], guard := none }) (v := ?_) rfl (by kernel_rfl) (by kernel_rfl) (by kernel_rfl) (fun _ _ _ h => h) (Or.inl ⟨by rfl, ?_⟩) (by assumption) ?_
    rotate_left
    · intro w hSw
      clear hSw
      go_simp
      all_goals with_reducible rfl
    simp only [Act.put, List.setIfInBounds_toArray, List.set_cons_zero, List.set_cons_succ]
    refine wpAnyH_take (i := 2) (oi := { dst := some 178, op := Op.fieldAddr 50 (Operand.tmp 177) 1, type := 0, pos := "law.go:153", after := #[{ on := 1, ground := Ground.data }], guard := none }) (v := ?_) rfl (by kernel_rfl) (by kernel_rfl) (by kernel_rfl) (fun _ _ _ h => h) (Or.inl ⟨by rfl, ?_⟩) (by assumption) ?_
    rotate_left
    · intro w hSw
      clear hSw
      go_simp
      all_goals with_reducible rfl
    simp only [Act.put, List.setIfInBounds_toArray, List.set_cons_zero, List.set_cons_succ]
    refine wpAnyH_take (i := 3) (oi := { dst := some 179, op := Op.load 23 (Operand.tmp 178), type := 23, pos := "law.go:153", after := #[{ on := 2, ground := Ground.data }], guard := none }) (v := ?_) rfl (by kernel_rfl) (by kernel_rfl) (by kernel_rfl) (fun _ _ _ h => h) (Or.inl ⟨by rfl, ?_⟩) (by assumption) ?_
    rotate_left
    · intro w hSw
      have c1 := (wc_cells hSw).2.1
      clear hSw
      go_simp
      all_goals with_reducible rfl
    simp only [Act.put, List.setIfInBounds_toArray, List.set_cons_zero, List.set_cons_succ]
    refine wpAnyH_take (i := 5) (oi := { dst := some 181, op := Op.move (Operand.tmp 0), type := 48, pos := "law.go:153", after := #[], guard := none }) (v := ?_) rfl (by kernel_rfl) (by kernel_rfl) (by kernel_rfl) (fun _ _ _ h => h) (Or.inl ⟨by rfl, ?_⟩) (by assumption) ?_
    rotate_left
    · intro w hSw
      clear hSw
      go_simp
      all_goals with_reducible rfl
    simp only [Act.put, List.setIfInBounds_toArray, List.set_cons_zero, List.set_cons_succ]
    refine wpAnyH_take (i := 6) (oi := { dst := some 182, op := Op.nilCheck (Operand.tmp 181), type := 0, pos := "law.go:153", after := #[{ on := 5, ground := Ground.data }], guard := none }) (v := ?_) rfl (by kernel_rfl) (by kernel_rfl) (by kernel_rfl) (fun _ _ _ h => h) (Or.inl ⟨by rfl, ?_⟩) (by assumption) ?_
    rotate_left
    · intro w hSw
      clear hSw
      go_simp
      all_goals with_reducible rfl
    simp only [Act.put, List.setIfInBounds_toArray, List.set_cons_zero, List.set_cons_succ]
    refine wpAnyH_take (i := 7) (oi := { dst := some 183, op := Op.fieldAddr 50 (Operand.tmp 182) 2, type := 0, pos := "law.go:153", after := #[{ on := 6, ground := Ground.data }], guard := none }) (v := ?_) rfl (by kernel_rfl) (by kernel_rfl) (by kernel_rfl) (fun _ _ _ h => h) (Or.inl ⟨by rfl, ?_⟩) (by assumption) ?_
    rotate_left
    · intro w hSw
      clear hSw
      go_simp
      all_goals with_reducible rfl
    simp only [Act.put, List.setIfInBounds_toArray, List.set_cons_zero, List.set_cons_succ]
    refine wpAnyH_take (i := 8) (oi := { dst := some 184, op := Op.load 31 (Operand.tmp 183), type := 31, pos := "law.go:153", after := #[{ on := 7, ground := Ground.data }], guard := none }) (v := ?_) rfl (by kernel_rfl) (by kernel_rfl) (by kernel_rfl) (fun _ _ _ h => h) (Or.inl ⟨by rfl, ?_⟩) (by assumption) ?_
    rotate_left
    · intro w hSw
      have c2 := (wc_cells hSw).2.2.1
      clear hSw
      go_simp
      all_goals with_reducible rfl
    simp only [Act.put, List.setIfInBounds_toArray, List.set_cons_zero, List.set_cons_succ]
    refine wpAnyH_ready (rs := [4]) (by kernel_rfl) (by simp) ?_
    refine AllReadyH.cons (o := { dst := some 180, op := Op.call { callee := Callee.value (Operand.func 13), args := #[Operand.tmp 179], argTypes := #[23] }, type := 31, pos := "law.go:153", after := #[{ on := 3, ground := Ground.data }], guard := none }) rfl (fun K hK => ?_) AllReadyH.nil
    go_simp
    refine (records_go w0 Z1 o2 d2 g2 3 50 p2 t2 rs2 tv2 KD.out.lo KD.out.ne).mono ?_
    rintro e Z2 ⟨lv, us, rfl, hrec, b2⟩
    have a2 : Z2.heap[gw]? = some (.cells (wcells o2 g2 (.slice au UN cu) kw2 torn2 bytes2 again2 armed2) 50 (0, 0)) := (b2.block gw (block_lt_of_row hHeld)).trans hHeld
    have LR := hide (hrec.ls HEN.out)
    have KE := hide (KD.out.then b2)
    have LE := hide (LD.out.below b2)
    clear hHeld hrec b2 KD LD
    refine hK.out _ _ a2 (fun hHeld => ?_)
    clear hK K
    try simp only [Act.put, List.setIfInBounds_toArray, List.set_cons_zero, List.set_cons_succ]
    clear a2
    refine wpAnyH_ready (rs := [9]) (by kernel_rfl) (by simp) ?_
    refine AllReadyH.cons (o := { dst := some 185, op := Op.call { callee := Callee.value (Operand.func 17), args := #[Operand.tmp 180, Operand.tmp 184], argTypes := #[31, 31] }, type := 4, pos := "law.go:153", after := #[{ on := 4, ground := Ground.data }, { on := 8, ground := Ground.data }, { on := 4, ground := Ground.chain }], guard := none }) rfl (fun K hK => ?_) AllReadyH.nil
    go_simp
    refine (sameL_any _ _ _ _ Z2 LR.out LE.out.now HFEW.out).mono ?_
    rintro e Z3 ⟨rfl, st⟩
    rw [decide_eq_true rfl]
    have b3 := st.below Z2.heap.size
    have a3 : Z3.heap[gw]? = some (.cells (wcells o2 g2 (.slice au UN cu) kw2 torn2 bytes2 again2 armed2) 50 (0, 0)) := (b3.block gw (block_lt_of_row hHeld)).trans hHeld
    have KF := hide (KE.out.then b3)
    have LF := hide (LE.out.below b3)
    clear hHeld st b3 KE LE LR
    refine hK.out _ _ a3 (fun hHeld => ?_)
    clear hK K
    try simp only [Act.put, List.setIfInBounds_toArray, List.set_cons_zero, List.set_cons_succ]
    clear a3
    refine wpAnyH_take (i := 10) (oi := { dst := some 4, op := Op.assign (Operand.tmp 185), type := 4, pos := "law.go:153", after := #[{ on := 9, ground := Ground.data }, { on := 9, ground := Ground.chain }, { on := 0, ground := Ground.phase }, { on := 1, ground := Ground.phase }, { on := 2, ground := Ground.phase }, { on := 3, ground := Ground.phase }, { on := 4, ground := Ground.phase }, { on := 5, ground := Ground.phase }, { on := 6, ground := Ground.phase }, { on := 7, ground := Ground.phase }, { on := 8, ground := Ground.phase }, { on := 9, ground := Ground.phase }], guard := none }) (v := ?_) rfl (by kernel_rfl) (by kernel_rfl) (by kernel_rfl) (fun _ _ _ h => h) (Or.inl ⟨by rfl, ?_⟩) (by assumption) ?_
    rotate_left
    · intro w hSw
      clear hSw
      go_simp
      all_goals with_reducible rfl
    simp only [Act.put, List.setIfInBounds_toArray, List.set_cons_zero, List.set_cons_succ]
    refine wpAnyH_done (by kernel_rfl) ?_ _
    refine NoPanic.normal ?_
    clear hHeld

    go_wp2_with fail
    go_ret
    exact ⟨rfl, _, _, _, _, _, _, _, _, _, _, _, _, _, _, _, KF.out, LF.out, ht2⟩
  · have KR := hide hK2
    have LH := hide hH2
    have HOK := hide hok2
    have HEN := hide hen2
    have LA := hide hA2
    have LB := hide hB2
    have c7 := (wc_cells hK2.row).2.2.2.2.2.2.2
    obtain ⟨al2, cl2, hl2⟩ := hA2.lists.shape
    obtain ⟨au, cu, hu⟩ := hB2.lists.shape
    subst hl2 hu
    obtain ⟨AN, hAN⟩ : ∃ AN, AN = vs2.length := ⟨_, rfl⟩
    obtain ⟨UN, hUN⟩ : ∃ UN, UN = vs3.length := ⟨_, rfl⟩
    rw [← hAN] at LA KR
    rw [← hUN] at LB ⊢
    clear hK2 hH2 hok2 hen2 hA2 hB2 hAN hUN
    go_upto_region 30 with fail
    clear c7
    refine wp_region_noPanic ?_
    refine wp_region_held_drew (S := (fun _ => True)) follows trivial (fun hHeld => ?_)
    have KD := hide (KR.out.then (Below.refl wc.heap.size wc).drew)
    have LD := hide (LA.out.below (Below.refl wc.heap.size wc).drew)
    have LUd := hide (LB.out.below (Below.refl wc.heap.size wc).drew)
    have LHd := hide (LH.out.then (Below.refl wc.heap.size wc).drew)
    clear KR LA LB LH
    generalize wc.drew = Z1 at KD LD LUd LHd hHeld ⊢
    refine wpAnyH_take (i := 0) (oi := { dst := some 155, op := Op.move (Operand.tmp 0), type := 48, pos := "law.go:147", after := #[], guard := none }) (v := ?_) rfl (by kernel_rfl) (by kernel_rfl) (by kernel_rfl) (fun _ _ _ h => h) (Or.inl ⟨by rfl, ?_⟩) (by assumption) ?_
    rotate_left
    · intro w hSw
      clear hSw
      go_simp
      all_goals with_reducible rfl
    simp only [Act.put, List.setIfInBounds_toArray, List.set_cons_zero, List.set_cons_succ]
    refine wpAnyH_take (i := 1) (oi := { dst := some 156, op := Op.nilCheck (Operand.tmp 155), type := 0, pos := "law.go:147", after := #[{ on := 0, ground := Ground.data }], guard := none }) (v := ?_) rfl (by kernel_rfl) (by kernel_rfl) (by kernel_rfl) (fun _ _ _ h => h) (Or.inl ⟨by rfl, ?_⟩) (by assumption) ?_
    rotate_left
    · intro w hSw
      clear hSw
      go_simp
      all_goals with_reducible rfl
    simp only [Act.put, List.setIfInBounds_toArray, List.set_cons_zero, List.set_cons_succ]
    refine wpAnyH_take (i := 2) (oi := { dst := some 157, op := Op.fieldAddr 50 (Operand.tmp 156) 1, type := 0, pos := "law.go:147", after := #[{ on := 1, ground := Ground.data }], guard := none }) (v := ?_) rfl (by kernel_rfl) (by kernel_rfl) (by kernel_rfl) (fun _ _ _ h => h) (Or.inl ⟨by rfl, ?_⟩) (by assumption) ?_
    rotate_left
    · intro w hSw
      clear hSw
      go_simp
      all_goals with_reducible rfl
    simp only [Act.put, List.setIfInBounds_toArray, List.set_cons_zero, List.set_cons_succ]
    refine wpAnyH_take (i := 5) (oi := { dst := some 160, op := Op.move (Operand.tmp 0), type := 48, pos := "law.go:147", after := #[], guard := none }) (v := ?_) rfl (by kernel_rfl) (by kernel_rfl) (by kernel_rfl) (fun _ _ _ h => h) (Or.inl ⟨by rfl, ?_⟩) (by assumption) ?_
    rotate_left
    · intro w hSw
      clear hSw
      go_simp
      all_goals with_reducible rfl
    simp only [Act.put, List.setIfInBounds_toArray, List.set_cons_zero, List.set_cons_succ]
    refine wpAnyH_take (i := 6) (oi := { dst := some 161, op := Op.nilCheck (Operand.tmp 160), type := 0, pos := "law.go:147", after := #[{ on := 5, ground := Ground.data }], guard := none }) (v := ?_) rfl (by kernel_rfl) (by kernel_rfl) (by kernel_rfl) (fun _ _ _ h => h) (Or.inl ⟨by rfl, ?_⟩) (by assumption) ?_
    rotate_left
    · intro w hSw
      clear hSw
      go_simp
      all_goals with_reducible rfl
    simp only [Act.put, List.setIfInBounds_toArray, List.set_cons_zero, List.set_cons_succ]
    refine wpAnyH_take (i := 7) (oi := { dst := some 162, op := Op.fieldAddr 50 (Operand.tmp 161) 2, type := 0, pos := "law.go:147", after := #[{ on := 6, ground := Ground.data }], guard := none }) (v := ?_) rfl (by kernel_rfl) (by kernel_rfl) (by kernel_rfl) (fun _ _ _ h => h) (Or.inl ⟨by rfl, ?_⟩) (by assumption) ?_
    rotate_left
    · intro w hSw
      clear hSw
      go_simp
      all_goals with_reducible rfl
    simp only [Act.put, List.setIfInBounds_toArray, List.set_cons_zero, List.set_cons_succ]
    refine wpAnyH_ready (rs := [3, 8]) (by kernel_rfl) (by simp) ?_
    refine AllReadyH.cons (o := { dst := some 158, op := Op.load 23 (Operand.tmp 157), type := 23, pos := "law.go:147", after := #[{ on := 2, ground := Ground.data }], guard := none }) rfl (fun K hK => ?_) ?_
    · have c1 := (wc_cells KD.out.row).2.1
      go_simp
      clear c1
      refine hK.out _ _ trivial (fun hHeld => ?_)
      clear hK K
      try simp only [Act.put, List.setIfInBounds_toArray, List.set_cons_zero, List.set_cons_succ]
      refine wpAnyH_ready (rs := [4, 8]) (by kernel_rfl) (by simp) ?_
      refine AllReadyH.cons (o := { dst := some 159, op := Op.call { callee := Callee.value (Operand.func 13), args := #[Operand.tmp 158], argTypes := #[23] }, type := 31, pos := "law.go:147", after := #[{ on := 3, ground := Ground.data }], guard := none }) rfl (fun K hK => ?_) ?_
      · go_simp
        refine (records_any o2.ptr 3 50 t2 g2 rs2 tv2 false Z1 LHd.out HOK.out HEN.out KD.out.ne).mono ?_
        rintro e Z2 ⟨lv, us, rfl, hrec, b2⟩
        have LR := hide (hrec.ls (by have := HEN.out; omega))
        have KE := hide (KD.out.then b2)
        have LE := hide (LD.out.below b2)
        have LUe := hide (LUd.out.below b2)
        clear hrec b2 KD LD LUd LHd
        refine hK.out _ _ trivial (fun hHeld => ?_)
        clear hK K
        try simp only [Act.put, List.setIfInBounds_toArray, List.set_cons_zero, List.set_cons_succ]
        refine wpAnyH_ready (rs := [8]) (by kernel_rfl) (by simp) ?_
        refine AllReadyH.cons (o := { dst := some 163, op := Op.load 31 (Operand.tmp 162), type := 31, pos := "law.go:147", after := #[{ on := 7, ground := Ground.data }], guard := none }) rfl (fun K hK => ?_) AllReadyH.nil
        have c1 := (wc_cells KE.out.row).2.2.1
        go_simp
        clear c1
        refine hK.out _ _ trivial (fun hHeld => ?_)
        clear hK K
        try simp only [Act.put, List.setIfInBounds_toArray, List.set_cons_zero, List.set_cons_succ]
        refine wpAnyH_ready (rs := [9]) (by kernel_rfl) (by simp) ?_
        refine AllReadyH.cons (o := { dst := some 164, op := Op.call { callee := Callee.value (Operand.func 17), args := #[Operand.tmp 159, Operand.tmp 163], argTypes := #[31, 31] }, type := 4, pos := "law.go:147", after := #[{ on := 4, ground := Ground.data }, { on := 8, ground := Ground.data }, { on := 4, ground := Ground.chain }], guard := none }) rfl (fun K hK => ?_) AllReadyH.nil
        go_simp
        refine (sameL_any _ _ _ _ Z2 LR.out LE.out.now (by have := len_lt rs2; have := HEN.out; omega)).mono ?_
        rintro e Z3 ⟨rfl, st⟩
        rw [decide_eq_true rfl]
        have b3 := st.below Z2.heap.size
        have KF := hide (KE.out.then b3)
        have LF := hide (LE.out.below b3)
        have LUf := hide (LUe.out.below b3)
        clear st b3 KE LE LR LUe
        refine hK.out _ _ trivial (fun hHeld => ?_)
        clear hK K
        try simp only [Act.put, List.setIfInBounds_toArray, List.set_cons_zero, List.set_cons_succ]
        refine wpAnyH_take (i := 10) (oi := { dst := some 165, op := Op.move (Operand.tmp 164), type := 4, pos := "law.go:147", after := #[{ on := 9, ground := Ground.data }, { on := 9, ground := Ground.chain }], guard := none }) (v := ?_) rfl (by kernel_rfl) (by kernel_rfl) (by kernel_rfl) (fun _ _ _ h => h) (Or.inl ⟨by rfl, ?_⟩) (by assumption) ?_
        rotate_left
        · intro w hSw
          clear hSw
          go_simp
          all_goals with_reducible rfl
        simp only [Act.put, List.setIfInBounds_toArray, List.set_cons_zero, List.set_cons_succ]
        refine wpAnyH_take (i := 11) (oi := { dst := some 166, op := Op.move (Operand.tmp 0), type := 48, pos := "law.go:147", after := #[{ on := 10, ground := Ground.guard }], guard := some (10, true) }) (v := ?_) rfl (by kernel_rfl) (by kernel_rfl) (by kernel_rfl) (fun _ _ _ h => h) (Or.inl ⟨by rfl, ?_⟩) (by assumption) ?_
        rotate_left
        · intro w hSw
          clear hSw
          go_simp
          all_goals with_reducible rfl
        simp only [Act.put, List.setIfInBounds_toArray, List.set_cons_zero, List.set_cons_succ]
        refine wpAnyH_take (i := 12) (oi := { dst := some 167, op := Op.move (Operand.tmp 5), type := 31, pos := "law.go:147", after := #[{ on := 10, ground := Ground.guard }], guard := some (10, true) }) (v := ?_) rfl (by kernel_rfl) (by kernel_rfl) (by kernel_rfl) (fun _ _ _ h => h) (Or.inl ⟨by rfl, ?_⟩) (by assumption) ?_
        rotate_left
        · intro w hSw
          clear hSw
          go_simp
          all_goals with_reducible rfl
        simp only [Act.put, List.setIfInBounds_toArray, List.set_cons_zero, List.set_cons_succ]
        refine wpAnyH_ready (rs := [13]) (by kernel_rfl) (by simp) ?_
        refine AllReadyH.cons (o := { dst := some 168, op := Op.call { callee := Callee.value (Operand.func 46), args := #[Operand.tmp 166, Operand.tmp 167], argTypes := #[48, 31] }, type := 4, pos := "law.go:147", after := #[{ on := 11, ground := Ground.data }, { on := 12, ground := Ground.data }, { on := 10, ground := Ground.chain }, { on := 10, ground := Ground.guard }], guard := some (10, true) }) rfl (fun K hK => ?_) AllReadyH.nil
        go_simp
        refine (reopen_any w0 Z3 gw gk gd X o2 d2 g2 p2 t2 ss rs2 rs3 (.slice al2 AN cl2) kw2 (.slice au UN cu) torn2 bytes2 again2 ks2 vs2 vs3 KF.out LF.out LUf.out).mono ?_
        rintro e Z4 ⟨rfl, hkw⟩
        have KW := hide (hkw.mono (by omega : t2 + 1 ≤ T + 1))
        clear hkw KF LF LUf
        refine hK.out _ _ trivial (fun hHeld => ?_)
        clear hK K
        try simp only [Act.put, List.setIfInBounds_toArray, List.set_cons_zero, List.set_cons_succ]
        refine wpAnyH_take (i := 14) (oi := { dst := some 169, op := Op.pick (Operand.tmp 165) (Operand.tmp 168) (Operand.const (Value.bool false)), type := 4, pos := "law.go:147", after := #[{ on := 10, ground := Ground.data }, { on := 13, ground := Ground.data }], guard := none }) (v := ?_) rfl (by kernel_rfl) (by kernel_rfl) (by kernel_rfl) (fun _ _ _ h => h) (Or.inl ⟨by rfl, ?_⟩) (by assumption) ?_
        rotate_left
        · intro w hSw
          clear hSw
          go_simp
          all_goals with_reducible rfl
        simp only [Act.put, List.setIfInBounds_toArray, List.set_cons_zero, List.set_cons_succ]
        refine wpAnyH_take (i := 15) (oi := { dst := some 4, op := Op.assign (Operand.tmp 169), type := 4, pos := "law.go:147", after := #[{ on := 14, ground := Ground.data }, { on := 13, ground := Ground.chain }, { on := 0, ground := Ground.phase }, { on := 1, ground := Ground.phase }, { on := 2, ground := Ground.phase }, { on := 3, ground := Ground.phase }, { on := 4, ground := Ground.phase }, { on := 5, ground := Ground.phase }, { on := 6, ground := Ground.phase }, { on := 7, ground := Ground.phase }, { on := 8, ground := Ground.phase }, { on := 9, ground := Ground.phase }, { on := 10, ground := Ground.phase }, { on := 11, ground := Ground.phase }, { on := 12, ground := Ground.phase }, { on := 13, ground := Ground.phase }, { on := 14, ground := Ground.phase }], guard := none }) (v := ?_) rfl (by kernel_rfl) (by kernel_rfl) (by kernel_rfl) (fun _ _ _ h => h) (Or.inl ⟨by rfl, ?_⟩) (by assumption) ?_
        rotate_left
        · intro w hSw
          clear hSw
          go_simp
          all_goals with_reducible rfl
        simp only [Act.put, List.setIfInBounds_toArray, List.set_cons_zero, List.set_cons_succ]
        refine wpAnyH_done (by kernel_rfl) ?_ _
        refine NoPanic.normal ?_
        clear hHeld
        go_wp2_with fail
        go_ret
        exact ⟨rfl, KW.out⟩
      · refine AllReadyH.cons (o := { dst := some 163, op := Op.load 31 (Operand.tmp 162), type := 31, pos := "law.go:147", after := #[{ on := 7, ground := Ground.data }], guard := none }) rfl (fun K hK => ?_) AllReadyH.nil
        have c1 := (wc_cells KD.out.row).2.2.1
        go_simp
        clear c1
        refine hK.out _ _ trivial (fun hHeld => ?_)
        clear hK K
        try simp only [Act.put, List.setIfInBounds_toArray, List.set_cons_zero, List.set_cons_succ]
        refine wpAnyH_ready (rs := [4]) (by kernel_rfl) (by simp) ?_
        refine AllReadyH.cons (o := { dst := some 159, op := Op.call { callee := Callee.value (Operand.func 13), args := #[Operand.tmp 158], argTypes := #[23] }, type := 31, pos := "law.go:147", after := #[{ on := 3, ground := Ground.data }], guard := none }) rfl (fun K hK => ?_) AllReadyH.nil
        go_simp
        refine (records_any o2.ptr 3 50 t2 g2 rs2 tv2 false Z1 LHd.out HOK.out HEN.out KD.out.ne).mono ?_
        rintro e Z2 ⟨lv, us, rfl, hrec, b2⟩
        have LR := hide (hrec.ls (by have := HEN.out; omega))
        have KE := hide (KD.out.then b2)
        have LE := hide (LD.out.below b2)
        have LUe := hide (LUd.out.below b2)
        clear hrec b2 KD LD LUd LHd
        refine hK.out _ _ trivial (fun hHeld => ?_)
        clear hK K
        try simp only [Act.put, List.setIfInBounds_toArray, List.set_cons_zero, List.set_cons_succ]
        refine wpAnyH_ready (rs := [9]) (by kernel_rfl) (by simp) ?_
        refine AllReadyH.cons (o := { dst := some 164, op := Op.call { callee := Callee.value (Operand.func 17), args := #[Operand.tmp 159, Operand.tmp 163], argTypes := #[31, 31] }, type := 4, pos := "law.go:147", after := #[{ on := 4, ground := Ground.data }, { on := 8, ground := Ground.data }, { on := 4, ground := Ground.chain }], guard := none }) rfl (fun K hK => ?_) AllReadyH.nil
        go_simp
        refine (sameL_any _ _ _ _ Z2 LR.out LE.out.now (by have := len_lt rs2; have := HEN.out; omega)).mono ?_
        rintro e Z3 ⟨rfl, st⟩
        rw [decide_eq_true rfl]
        have b3 := st.below Z2.heap.size
        have KF := hide (KE.out.then b3)
        have LF := hide (LE.out.below b3)
        have LUf := hide (LUe.out.below b3)
        clear st b3 KE LE LR LUe
        refine hK.out _ _ trivial (fun hHeld => ?_)
        clear hK K
        try simp only [Act.put, List.setIfInBounds_toArray, List.set_cons_zero, List.set_cons_succ]
        refine wpAnyH_take (i := 10) (oi := { dst := some 165, op := Op.move (Operand.tmp 164), type := 4, pos := "law.go:147", after := #[{ on := 9, ground := Ground.data }, { on := 9, ground := Ground.chain }], guard := none }) (v := ?_) rfl (by kernel_rfl) (by kernel_rfl) (by kernel_rfl) (fun _ _ _ h => h) (Or.inl ⟨by rfl, ?_⟩) (by assumption) ?_
        rotate_left
        · intro w hSw
          clear hSw
          go_simp
          all_goals with_reducible rfl
        simp only [Act.put, List.setIfInBounds_toArray, List.set_cons_zero, List.set_cons_succ]
        refine wpAnyH_take (i := 11) (oi := { dst := some 166, op := Op.move (Operand.tmp 0), type := 48, pos := "law.go:147", after := #[{ on := 10, ground := Ground.guard }], guard := some (10, true) }) (v := ?_) rfl (by kernel_rfl) (by kernel_rfl) (by kernel_rfl) (fun _ _ _ h => h) (Or.inl ⟨by rfl, ?_⟩) (by assumption) ?_
        rotate_left
        · intro w hSw
          clear hSw
          go_simp
          all_goals with_reducible rfl
        simp only [Act.put, List.setIfInBounds_toArray, List.set_cons_zero, List.set_cons_succ]
        refine wpAnyH_take (i := 12) (oi := { dst := some 167, op := Op.move (Operand.tmp 5), type := 31, pos := "law.go:147", after := #[{ on := 10, ground := Ground.guard }], guard := some (10, true) }) (v := ?_) rfl (by kernel_rfl) (by kernel_rfl) (by kernel_rfl) (fun _ _ _ h => h) (Or.inl ⟨by rfl, ?_⟩) (by assumption) ?_
        rotate_left
        · intro w hSw
          clear hSw
          go_simp
          all_goals with_reducible rfl
        simp only [Act.put, List.setIfInBounds_toArray, List.set_cons_zero, List.set_cons_succ]
        refine wpAnyH_ready (rs := [13]) (by kernel_rfl) (by simp) ?_
        refine AllReadyH.cons (o := { dst := some 168, op := Op.call { callee := Callee.value (Operand.func 46), args := #[Operand.tmp 166, Operand.tmp 167], argTypes := #[48, 31] }, type := 4, pos := "law.go:147", after := #[{ on := 11, ground := Ground.data }, { on := 12, ground := Ground.data }, { on := 10, ground := Ground.chain }, { on := 10, ground := Ground.guard }], guard := some (10, true) }) rfl (fun K hK => ?_) AllReadyH.nil
        go_simp
        refine (reopen_any w0 Z3 gw gk gd X o2 d2 g2 p2 t2 ss rs2 rs3 (.slice al2 AN cl2) kw2 (.slice au UN cu) torn2 bytes2 again2 ks2 vs2 vs3 KF.out LF.out LUf.out).mono ?_
        rintro e Z4 ⟨rfl, hkw⟩
        have KW := hide (hkw.mono (by omega : t2 + 1 ≤ T + 1))
        clear hkw KF LF LUf
        refine hK.out _ _ trivial (fun hHeld => ?_)
        clear hK K
        try simp only [Act.put, List.setIfInBounds_toArray, List.set_cons_zero, List.set_cons_succ]
        refine wpAnyH_take (i := 14) (oi := { dst := some 169, op := Op.pick (Operand.tmp 165) (Operand.tmp 168) (Operand.const (Value.bool false)), type := 4, pos := "law.go:147", after := #[{ on := 10, ground := Ground.data }, { on := 13, ground := Ground.data }], guard := none }) (v := ?_) rfl (by kernel_rfl) (by kernel_rfl) (by kernel_rfl) (fun _ _ _ h => h) (Or.inl ⟨by rfl, ?_⟩) (by assumption) ?_
        rotate_left
        · intro w hSw
          clear hSw
          go_simp
          all_goals with_reducible rfl
        simp only [Act.put, List.setIfInBounds_toArray, List.set_cons_zero, List.set_cons_succ]
        refine wpAnyH_take (i := 15) (oi := { dst := some 4, op := Op.assign (Operand.tmp 169), type := 4, pos := "law.go:147", after := #[{ on := 14, ground := Ground.data }, { on := 13, ground := Ground.chain }, { on := 0, ground := Ground.phase }, { on := 1, ground := Ground.phase }, { on := 2, ground := Ground.phase }, { on := 3, ground := Ground.phase }, { on := 4, ground := Ground.phase }, { on := 5, ground := Ground.phase }, { on := 6, ground := Ground.phase }, { on := 7, ground := Ground.phase }, { on := 8, ground := Ground.phase }, { on := 9, ground := Ground.phase }, { on := 10, ground := Ground.phase }, { on := 11, ground := Ground.phase }, { on := 12, ground := Ground.phase }, { on := 13, ground := Ground.phase }, { on := 14, ground := Ground.phase }], guard := none }) (v := ?_) rfl (by kernel_rfl) (by kernel_rfl) (by kernel_rfl) (fun _ _ _ h => h) (Or.inl ⟨by rfl, ?_⟩) (by assumption) ?_
        rotate_left
        · intro w hSw
          clear hSw
          go_simp
          all_goals with_reducible rfl
        simp only [Act.put, List.setIfInBounds_toArray, List.set_cons_zero, List.set_cons_succ]
        refine wpAnyH_done (by kernel_rfl) ?_ _
        refine NoPanic.normal ?_
        clear hHeld
        go_wp2_with fail
        go_ret
        exact ⟨rfl, KW.out⟩
    · refine AllReadyH.cons (o := { dst := some 163, op := Op.load 31 (Operand.tmp 162), type := 31, pos := "law.go:147", after := #[{ on := 7, ground := Ground.data }], guard := none }) rfl (fun K hK => ?_) AllReadyH.nil
      have c1 := (wc_cells KD.out.row).2.2.1
      go_simp
      clear c1
      refine hK.out _ _ trivial (fun hHeld => ?_)
      clear hK K
      try simp only [Act.put, List.setIfInBounds_toArray, List.set_cons_zero, List.set_cons_succ]
      refine wpAnyH_ready (rs := [3]) (by kernel_rfl) (by simp) ?_
      refine AllReadyH.cons (o := { dst := some 158, op := Op.load 23 (Operand.tmp 157), type := 23, pos := "law.go:147", after := #[{ on := 2, ground := Ground.data }], guard := none }) rfl (fun K hK => ?_) AllReadyH.nil
      have c1 := (wc_cells KD.out.row).2.1
      go_simp
      clear c1
      refine hK.out _ _ trivial (fun hHeld => ?_)
      clear hK K
      try simp only [Act.put, List.setIfInBounds_toArray, List.set_cons_zero, List.set_cons_succ]
      refine wpAnyH_ready (rs := [4]) (by kernel_rfl) (by simp) ?_
      refine AllReadyH.cons (o := { dst := some 159, op := Op.call { callee := Callee.value (Operand.func 13), args := #[Operand.tmp 158], argTypes := #[23] }, type := 31, pos := "law.go:147", after := #[{ on := 3, ground := Ground.data }], guard := none }) rfl (fun K hK => ?_) AllReadyH.nil
      go_simp
      refine (records_any o2.ptr 3 50 t2 g2 rs2 tv2 false Z1 LHd.out HOK.out HEN.out KD.out.ne).mono ?_
      rintro e Z2 ⟨lv, us, rfl, hrec, b2⟩
      have LR := hide (hrec.ls (by have := HEN.out; omega))
      have KE := hide (KD.out.then b2)
      have LE := hide (LD.out.below b2)
      have LUe := hide (LUd.out.below b2)
      clear hrec b2 KD LD LUd LHd
      refine hK.out _ _ trivial (fun hHeld => ?_)
      clear hK K
      try simp only [Act.put, List.setIfInBounds_toArray, List.set_cons_zero, List.set_cons_succ]
      refine wpAnyH_ready (rs := [9]) (by kernel_rfl) (by simp) ?_
      refine AllReadyH.cons (o := { dst := some 164, op := Op.call { callee := Callee.value (Operand.func 17), args := #[Operand.tmp 159, Operand.tmp 163], argTypes := #[31, 31] }, type := 4, pos := "law.go:147", after := #[{ on := 4, ground := Ground.data }, { on := 8, ground := Ground.data }, { on := 4, ground := Ground.chain }], guard := none }) rfl (fun K hK => ?_) AllReadyH.nil
      go_simp
      refine (sameL_any _ _ _ _ Z2 LR.out LE.out.now (by have := len_lt rs2; have := HEN.out; omega)).mono ?_
      rintro e Z3 ⟨rfl, st⟩
      rw [decide_eq_true rfl]
      have b3 := st.below Z2.heap.size
      have KF := hide (KE.out.then b3)
      have LF := hide (LE.out.below b3)
      have LUf := hide (LUe.out.below b3)
      clear st b3 KE LE LR LUe
      refine hK.out _ _ trivial (fun hHeld => ?_)
      clear hK K
      try simp only [Act.put, List.setIfInBounds_toArray, List.set_cons_zero, List.set_cons_succ]
      refine wpAnyH_take (i := 10) (oi := { dst := some 165, op := Op.move (Operand.tmp 164), type := 4, pos := "law.go:147", after := #[{ on := 9, ground := Ground.data }, { on := 9, ground := Ground.chain }], guard := none }) (v := ?_) rfl (by kernel_rfl) (by kernel_rfl) (by kernel_rfl) (fun _ _ _ h => h) (Or.inl ⟨by rfl, ?_⟩) (by assumption) ?_
      rotate_left
      · intro w hSw
        clear hSw
        go_simp
        all_goals with_reducible rfl
      simp only [Act.put, List.setIfInBounds_toArray, List.set_cons_zero, List.set_cons_succ]
      refine wpAnyH_take (i := 11) (oi := { dst := some 166, op := Op.move (Operand.tmp 0), type := 48, pos := "law.go:147", after := #[{ on := 10, ground := Ground.guard }], guard := some (10, true) }) (v := ?_) rfl (by kernel_rfl) (by kernel_rfl) (by kernel_rfl) (fun _ _ _ h => h) (Or.inl ⟨by rfl, ?_⟩) (by assumption) ?_
      rotate_left
      · intro w hSw
        clear hSw
        go_simp
        all_goals with_reducible rfl
      simp only [Act.put, List.setIfInBounds_toArray, List.set_cons_zero, List.set_cons_succ]
      refine wpAnyH_take (i := 12) (oi := { dst := some 167, op := Op.move (Operand.tmp 5), type := 31, pos := "law.go:147", after := #[{ on := 10, ground := Ground.guard }], guard := some (10, true) }) (v := ?_) rfl (by kernel_rfl) (by kernel_rfl) (by kernel_rfl) (fun _ _ _ h => h) (Or.inl ⟨by rfl, ?_⟩) (by assumption) ?_
      rotate_left
      · intro w hSw
        clear hSw
        go_simp
        all_goals with_reducible rfl
      simp only [Act.put, List.setIfInBounds_toArray, List.set_cons_zero, List.set_cons_succ]
      refine wpAnyH_ready (rs := [13]) (by kernel_rfl) (by simp) ?_
      refine AllReadyH.cons (o := { dst := some 168, op := Op.call { callee := Callee.value (Operand.func 46), args := #[Operand.tmp 166, Operand.tmp 167], argTypes := #[48, 31] }, type := 4, pos := "law.go:147", after := #[{ on := 11, ground := Ground.data }, { on := 12, ground := Ground.data }, { on := 10, ground := Ground.chain }, { on := 10, ground := Ground.guard }], guard := some (10, true) }) rfl (fun K hK => ?_) AllReadyH.nil
      go_simp
      refine (reopen_any w0 Z3 gw gk gd X o2 d2 g2 p2 t2 ss rs2 rs3 (.slice al2 AN cl2) kw2 (.slice au UN cu) torn2 bytes2 again2 ks2 vs2 vs3 KF.out LF.out LUf.out).mono ?_
      rintro e Z4 ⟨rfl, hkw⟩
      have KW := hide (hkw.mono (by omega : t2 + 1 ≤ T + 1))
      clear hkw KF LF LUf
      refine hK.out _ _ trivial (fun hHeld => ?_)
      clear hK K
      try simp only [Act.put, List.setIfInBounds_toArray, List.set_cons_zero, List.set_cons_succ]
      refine wpAnyH_take (i := 14) (oi := { dst := some 169, op := Op.pick (Operand.tmp 165) (Operand.tmp 168) (Operand.const (Value.bool false)), type := 4, pos := "law.go:147", after := #[{ on := 10, ground := Ground.data }, { on := 13, ground := Ground.data }], guard := none }) (v := ?_) rfl (by kernel_rfl) (by kernel_rfl) (by kernel_rfl) (fun _ _ _ h => h) (Or.inl ⟨by rfl, ?_⟩) (by assumption) ?_
      rotate_left
      · intro w hSw
        clear hSw
        go_simp
        all_goals with_reducible rfl
      simp only [Act.put, List.setIfInBounds_toArray, List.set_cons_zero, List.set_cons_succ]
      refine wpAnyH_take (i := 15) (oi := { dst := some 4, op := Op.assign (Operand.tmp 169), type := 4, pos := "law.go:147", after := #[{ on := 14, ground := Ground.data }, { on := 13, ground := Ground.chain }, { on := 0, ground := Ground.phase }, { on := 1, ground := Ground.phase }, { on := 2, ground := Ground.phase }, { on := 3, ground := Ground.phase }, { on := 4, ground := Ground.phase }, { on := 5, ground := Ground.phase }, { on := 6, ground := Ground.phase }, { on := 7, ground := Ground.phase }, { on := 8, ground := Ground.phase }, { on := 9, ground := Ground.phase }, { on := 10, ground := Ground.phase }, { on := 11, ground := Ground.phase }, { on := 12, ground := Ground.phase }, { on := 13, ground := Ground.phase }, { on := 14, ground := Ground.phase }], guard := none }) (v := ?_) rfl (by kernel_rfl) (by kernel_rfl) (by kernel_rfl) (fun _ _ _ h => h) (Or.inl ⟨by rfl, ?_⟩) (by assumption) ?_
      rotate_left
      · intro w hSw
        clear hSw
        go_simp
        all_goals with_reducible rfl
      simp only [Act.put, List.setIfInBounds_toArray, List.set_cons_zero, List.set_cons_succ]
      refine wpAnyH_done (by kernel_rfl) ?_ _
      refine NoPanic.normal ?_
      clear hHeld
      go_wp2_with fail
      go_ret
      exact ⟨rfl, KW.out⟩
end Go.Proofs.YtfjkddjdmlnbnaaDoor
