/- DiskPlays: a disk reads, writes, flushes, stops and crashes as the document says, for any calls; a copy goes its own way. -/
import Derived.Test.YtjnbjgkcliaipaaPl
import Derived.Test.YtjnbjgkcliaipaaWithin
import Derived.Test.YtjnbjgkcliaipaaIntact
namespace Go.Proofs.Ytjnbjgkcliaipaa
open Go.RowKit
namespace S
/-- A call. -/
structure Ask where
  kind : Int
  n : Int
  size : Int
  fill : UInt8
  kv : Value
  cut : Cut
def ask0 : Ask := ⟨0, 0, 0, 0, .slice none 0 0, ⟨[], 0, 0⟩⟩
def Ask.cells (q : Ask) : List Value := [.int .i64 q.kind, .int .i64 q.n, .int .i64 q.size, .int .u8 (q.fill.toNat : Int), q.kv, .int .i64 q.cut.torn, .int .i64 q.cut.bytes]
end S
/-- A list of calls that came in. -/
def AsksAt (w : World) (ao : Option Addr) (len : Nat) (qs : List S.Ask) : Prop :=
  len = qs.length ∧ (0 < len → ∃ b off, ao = some ⟨b, off, none⟩ ∧ b < w.heap.size ∧ ∀ i, i < len → w.rangeAt b (off + i * 7) (qs.getD i S.ask0).cells ∧ BoolsAt w (qs.getD i S.ask0).kv (qs.getD i S.ask0).cut.keep ∧ (qs.getD i S.ask0).size ≤ 9223372036854775807)
theorem cells7 {w : World} {x : Nat} {a b c d e f g : Value} {t : TypeId} (h : w.heap[x]? = some (.cells #[a, b, c, d, e, f, g] t (0, 0))) :
    w.cell? ⟨x, 0, none⟩ = some a ∧ w.cell? ⟨x, 1, none⟩ = some b ∧ w.cell? ⟨x, 2, none⟩ = some c ∧ w.cell? ⟨x, 3, none⟩ = some d ∧ w.cell? ⟨x, 4, none⟩ = some e ∧ w.cell? ⟨x, 5, none⟩ = some f ∧ w.cell? ⟨x, 6, none⟩ = some g :=
  ⟨by rw [cell_of_row w x 0 _ _ _ h]; rfl, by rw [cell_of_row w x 1 _ _ _ h]; rfl, by rw [cell_of_row w x 2 _ _ _ h]; rfl, by rw [cell_of_row w x 3 _ _ _ h]; rfl, by rw [cell_of_row w x 4 _ _ _ h]; rfl, by rw [cell_of_row w x 5 _ _ _ h]; rfl, by rw [cell_of_row w x 6 _ _ _ h]; rfl⟩
theorem size48 : (Try.prog.info? 48).map (·.size) = some 7 := by kernel_rfl
theorem zero48 : (Try.prog.info? 48).bind (·.zero) = some (.agg #[.int .i64 0, .int .i64 0, .int .i64 0, .int .u8 0, .slice none 0 0, .int .i64 0, .int .i64 0]) := by kernel_rfl
theorem info48 : (Try.prog.info? 48).map (fun i => (i.size, i.bytes)) = some (7, 72) := by kernel_rfl
theorem alloc48 (w : World) : (Instr.alloc 48 true (.tuple #[])).run Try.prog w = .ok (.pointer (some ⟨w.heap.size, 0, none⟩)) (w.alloc (.cells #[.int .i64 0, .int .i64 0, .int .i64 0, .int .u8 0, .slice none 0 0, .int .i64 0, .int .i64 0] 48)) := by
  obtain ⟨i, hi, hz, _, _⟩ := info_pair info48 zero48
  simp [Instr.alloc, zeroValue, typeInfo, hi, hz, newVar, newRow, Value.cells]
theorem store48 (cs c : Array Value) (hcs : cs.size = 7) (h1 : cs.all (·.oneCell') = true) (w : World) (hc : c.size = 7) : (Instr.storeAt 48 (.pointer (some ⟨w.heap.size, 0, none⟩)) (.agg cs)).run Try.prog (w.alloc (.cells c 48)) = .ok () (w.alloc (.cells cs 48)) := by
  have h := run_storeVar_row (P := Try.prog) (w.alloc (.cells c 48)) w.heap.size 48 48 c cs (heap_alloc_new _ _) (by rw [size48, hcs]) (by rw [hc, hcs]) h1
  rw [World.setRow_alloc_new] at h
  simp only [Instr.storeAt, Instr.sureAddr, Sem.run_bind, Sem.run_pure, Result.andThen_ok, h]
theorem room_slice {w : World} {gf m : Nat} {t : List UInt8} (h : w.heap[gf]? = some (.cells (S.v8 (S.roomy t)) 5 (0, 0))) (hm : t.length = m) (hmm : m ≤ 1000) : SliceAt w (.slice (some ⟨gf, 0, none⟩) m (m + 80)) t := by
  have hl : (S.roomy t).length = m + 80 := by simp [S.roomy, hm]
  have := part_to (slice_row h hl (by omega)) m (by omega)
  have e : (S.roomy t).take m = t := by simp [S.roomy, ← hm]
  rw [e] at this
  exact this
set_option maxHeartbeats 6400000 in
set_option maxRecDepth 100000 in
theorem plays_walk (a : Int) (a1 : Option Addr) (L c1 : Nat) (qs : List S.Ask) (w : World) (ha1 : -9223372036854775808 ≤ a) (ha2 : a ≤ 9223372036854775807) (hq : AsksAt w a1 L qs) :
   Calls Try.prog 4 #[.int .i64 a, .slice a1 L c1] w fun e w' => e = .returned (.bool true) ∧ Below w.heap.size w w' := by
  have HQ := hide hq
  clear hq
  go_enter Try.func4, Try.ntmps4
  go_wp2_with fail
  refine (within_any a 7 w ha1 ha2 (by omega) (by omega)).mono ?_
  rintro e w1 ⟨rfl, rfl⟩
  obtain ⟨A, hA⟩ : ∃ A, A = S.within a 7 := ⟨_, rfl⟩
  rw [← hA]
  have hA7 : A ≤ 7 := by have := S.within_le a 7 (by omega); omega
  obtain ⟨SZ, hSZ⟩ : ∃ SZ, SZ = A + 1 := ⟨_, rfl⟩
  have q1 : IntKind.i64.wrap ((A : Int) + 1) = (SZ : Int) := by rw [IntKind.wrap_i64]; omega
  have hS1 : 1 ≤ SZ := by omega
  have hS8 : SZ ≤ 8 := by omega
  clear hA ha1 ha2 hSZ
  go_wp2_with fail
  refine (begun_any SZ w (by omega) (by omega)).mono ?_
  rintro e w2 ⟨o, rfl, h2, ho2, hb2⟩
  have D2 := hide h2
  have O2 := hide ho2
  have B2 := hide hb2
  clear h2 ho2 hb2
  unfold Ow.ptr
  go_wp2_with fail
  refine (rnew_any SZ w2 (by omega)).mono ?_
  rintro e w3 ⟨r, rfl, h3, hr3, hb3⟩
  have P0 : Hid (Pl X0 w w3 o.g (S.Dk.new SZ) r.g (S.Dk.new SZ)) := by
    have hs := B2.out.size
    refine ⟨o, r, rfl, rfl, ⟨D2.out.below hb3, h3, fun k hk => ⟨O2.out k hk, fun e => ?_, fun e => ?_, rfl⟩, fun k hk => ⟨?_, rfl⟩, fun k hk => ⟨?_, rfl⟩, B2.out.trans (hb3.mono hs), fun _ _ e => (by cases e)⟩⟩
    · have := hr3 k (Or.inl e); have := D2.out.lt k hk; omega
    · have := hr3 k (Or.inr e); have := D2.out.lt k hk; omega
    · have := hr3 k (Or.inl hk); omega
    · have := hr3 k (Or.inr hk); omega
  clear h3 hr3 hb3 D2 O2 B2
  generalize o.g = g0 at *
  generalize r.g = gr at *
  go_wp2_with fail
  go_loopw [5, 8] (fun dv i wr => ∃ (k g : Nat) (d : S.Dk), k ≤ 40 ∧ k ≤ L ∧ dv = .pointer (some ⟨g, 0, none⟩) ∧ i = .int .i64 (k : Int) ∧ Pl X0 w wr g d gr d ∧ d.safe.length = SZ ∧ d.pend.length ≤ k) (fun _ i _ => 40 - (intOf i).toNat)
  case atStart => exact ⟨0, g0, S.Dk.new SZ, by omega, Nat.zero_le _, rfl, rfl, P0.out, by simp [S.Dk.new], Nat.zero_le _⟩
  case round =>
    obtain ⟨k, g, d, hk40, hkL, rfl, rfl, hpl, hds, hdp⟩ := hrel
    have PW := hide hpl
    have HKD : Hid (d.safe.length = SZ ∧ d.pend.length ≤ k) := ⟨hds, hdp⟩
    clear P0 hpl hds hdp
    by_cases hlt : k < L
    · by_cases h40 : k < 40
      · obtain ⟨b, off, hao, hbl, hcell⟩ := HQ.out.2 (by omega)
        subst hao
        obtain ⟨hrg, hbo, hszb⟩ := hcell k hlt
        obtain ⟨q, hqq⟩ : ∃ q, q = qs.getD k S.ask0 := ⟨_, rfl⟩
        rw [← hqq] at hrg hbo hszb
        obtain ⟨ak, ck, hkv, _, _⟩ := hbo
        have hbo : BoolsAt w q.kv q.cut.keep := by rw [hqq]; exact (hcell k hlt).2.1
        obtain ⟨lk, hlk⟩ : ∃ lk, lk = q.cut.keep.length := ⟨_, rfl⟩
        rw [← hlk] at hkv
        rw [hkv] at hbo
        have HBO := hide hbo
        obtain ⟨kd, hkd⟩ : ∃ x, x = q.kind := ⟨_, rfl⟩
        obtain ⟨nn, hnn⟩ : ∃ x, x = q.n := ⟨_, rfl⟩
        obtain ⟨sz, hsz0⟩ : ∃ x, x = q.size := ⟨_, rfl⟩
        obtain ⟨f, hf⟩ : ∃ x, x = q.fill := ⟨_, rfl⟩
        obtain ⟨tn, htn⟩ : ∃ x, x = q.cut.torn := ⟨_, rfl⟩
        obtain ⟨bt, hbt⟩ : ∃ x, x = q.cut.bytes := ⟨_, rfl⟩
        have HTN := hide htn
        have HBT := hide hbt
        have ecs : q.cells = [.int .i64 kd, .int .i64 nn, .int .i64 sz, .int .u8 (f.toNat : Int), .slice ak lk ck, .int .i64 tn, .int .i64 bt] := by rw [S.Ask.cells, hkd, hnn, hsz0, hf, htn, hbt, hkv]
        rw [← hsz0] at hszb
        have hrg' : wr.rangeAt b (off + k * 7) [.int .i64 kd, .int .i64 nn, .int .i64 sz, .int .u8 (f.toNat : Int), .slice ak lk ck, .int .i64 tn, .int .i64 bt] := by
          rw [← ecs]
          exact rangeAt_of_heap hrg (PW.out.base.block b hbl)
        have hld := run_loadAt_mid (P := Try.prog) wr b (off + k * 7) 48 _ _ hrg' Try.underlying48 rfl (by rw [size48]; rfl)
        have hst := store48 #[.int .i64 kd, .int .i64 nn, .int .i64 sz, .int .u8 (f.toNat : Int), .slice ak lk ck, .int .i64 tn, .int .i64 bt] #[.int .i64 0, .int .i64 0, .int .i64 0, .int .u8 0, .slice none 0 0, .int .i64 0, .int .i64 0] rfl (by simp [Value.oneCell']) wr rfl
        have hal := alloc48
        have q2 : (0 : Int) ≤ (k : Int) := by omega
        have q3 : (k : Int) < (L : Int) := by omega
        have q4 : (k : Int) < 40 := by omega
        have q5 : IntKind.i64.wrap ((k : Int) + 1) = (k : Int) + 1 := by rw [IntKind.wrap_i64]; omega
        clear hcell hbl hrg hrg' ecs hkd hnn hsz0 hf htn hbt hkv hlk hqq hbo
        have hkc : kd = 1 ∨ kd = 2 ∨ kd = 3 ∨ kd = 4 ∨ kd = 5 ∨ (kd ≠ 1 ∧ kd ≠ 2 ∧ kd ≠ 3 ∧ kd ≠ 4 ∧ kd ≠ 5) := by omega
        rcases hkc with hkd | hkd | hkd | hkd | hkd | ⟨n1, n2, n3, n4, n5⟩
        · skip
          have e1 : (kd == 1) = true := by rw [beq_iff_eq]; exact hkd
          clear hkd
          by_cases hsz : sz < 0
          · skip
            have q9 : sz < 0 := hsz
            go_wp2_with (refine wpList_load_known rfl 48 (.tmp 39) rfl (.agg #[.int .i64 kd, .int .i64 nn, .int .i64 sz, .int .u8 (f.toNat : Int), .slice ak lk ck, .int .i64 tn, .int .i64 bt]) hld ?_; refine wpList_alloc_known rfl 48 rfl (.pointer (some ⟨wr.heap.size, 0, none⟩)) _ (hal _) ?_; refine wpList_store_known rfl 48 (.tmp 9) (.tmp 40) rfl (wr.alloc (.cells #[.int .i64 kd, .int .i64 nn, .int .i64 sz, .int .u8 (f.toNat : Int), .slice ak lk ck, .int .i64 tn, .int .i64 bt] 48)) hst ?_; simp only [Act.put, List.setIfInBounds_toArray, List.set_cons_zero, List.set_cons_succ])
            clear hld hst hal
            have PX0 := hide (PW.out.also ((Below.refl _ _).alloc (Nat.le_refl _) (.cells #[.int .i64 kd, .int .i64 nn, .int .i64 sz, .int .u8 (f.toNat : Int), .slice ak lk ck, .int .i64 tn, .int .i64 bt] 48 (0, 0))) wr.heap.size (.cells #[.int .i64 kd, .int .i64 nn, .int .i64 sz, .int .u8 (f.toNat : Int), .slice ak lk ck, .int .i64 tn, .int .i64 bt] 48 (0, 0)) (Nat.le_refl _) (heap_alloc_new _ _))
            obtain ⟨X1, hX1⟩ : ∃ X1 : Nat → Option Obj, X1 = (fun j => if j = wr.heap.size then some (.cells #[.int .i64 kd, .int .i64 nn, .int .i64 sz, .int .u8 (f.toNat : Int), .slice ak lk ck, .int .i64 tn, .int .i64 bt] 48 (0, 0)) else X0 j) := ⟨_, rfl⟩
            rw [← hX1] at PX0
            have HX0 : Hid (X1 wr.heap.size = some (.cells #[.int .i64 kd, .int .i64 nn, .int .i64 sz, .int .u8 (f.toNat : Int), .slice ak lk ck, .int .i64 tn, .int .i64 bt] 48 (0, 0))) := by show X1 wr.heap.size = _; rw [hX1]; exact if_pos rfl
            clear hX1 PW
            generalize wr.alloc (.cells #[.int .i64 kd, .int .i64 nn, .int .i64 sz, .int .u8 (f.toNat : Int), .slice ak lk ck, .int .i64 tn, .int .i64 bt] 48 (0, 0)) = wx at *
            generalize wr.heap.size = gx at *
            have PX := PX0
            have HX := HX0
            clear PX0 HX0
            refine (sector_any f 127 wx (by omega)).mono ?_
            rintro e w2 ⟨rfl, hr2, hb2⟩
            obtain ⟨t, hT⟩ : ∃ t, t = S.sec f 127 := ⟨_, rfl⟩
            have htl : t.length = 127 := by rw [hT]; exact S.sec_length _ _
            rw [← hT] at hr2
            have HTT := hide hT
            have HTL := hide htl
            have P2 := hide (PX.out.below hb2)
            have R2 := hide hr2
            have hx2 : wx.heap.size ≤ w2.heap.size := hb2.size
            have hgx0 : w.heap.size ≤ wx.heap.size := PX.out.base.size
            have B2 := hide hb2
            clear hr2 hb2 hT htl
            generalize wx.heap.size = g1 at *
            go_wp2_with fail
            refine (roomy_any _ t w2 (slice_row R2.out HTL.out (by omega)) (by rw [HTL.out]; omega)).mono ?_
            rintro e w3 ⟨gf, rfl, hgf, hr3, hb3⟩
            rw [show t.length + 80 = 207 from by rw [HTL.out]]
            have P3 := hide (P2.out.also hb3 gf _ hgf hr3)
            obtain ⟨X2, hX2⟩ : ∃ X2 : Nat → Option Obj, X2 = (fun j => if j = gf then some (.cells (S.v8 (S.roomy t)) 5 (0, 0)) else X1 j) := ⟨_, rfl⟩
            rw [← hX2] at P3
            have HF2 : Hid (X2 gf = some (.cells (S.v8 (S.roomy t)) 5 (0, 0))) := by show X2 gf = _; rw [hX2]; exact if_pos rfl
            have hgxf : gx ≠ gf := by have := block_lt_of_row (P2.out.told HX.out); omega
            have HX2 : Hid (X2 gx = some (.cells #[.int .i64 kd, .int .i64 nn, .int .i64 sz, .int .u8 (f.toNat : Int), .slice ak lk ck, .int .i64 tn, .int .i64 bt] 48 (0, 0))) := by show X2 gx = _; rw [hX2]; exact (if_neg hgxf).trans HX.out
            have hgf0 : w.heap.size ≤ gf := by omega
            clear hX2 hr3 hb3 hgf R2 P2 B2 PX hgxf
            go_wp2_with fail
            refine wp_region_noPanic ?_
            refine wp_region_held_drew (S := (fun W => W.heap[gx]? = some (.cells #[.int .i64 kd, .int .i64 nn, .int .i64 sz, .int .u8 (f.toNat : Int), .slice ak lk ck, .int .i64 tn, .int .i64 bt] 48 (0, 0)))) follows (P3.out.told HX2.out) (fun hHeld => ?_)
            have P4 := hide (P3.out.below (drew_below w3))
            clear P3
            generalize w3.drew = z0 at P4 hHeld ⊢
            refine wpAnyH_take (i := 0) (oi := { dst := some 53, op := Op.move (Operand.tmp 5), type := 22, pos := "law.go:109", after := #[], guard := none }) (v := ?_) rfl (by kernel_rfl) (by kernel_rfl) (by kernel_rfl) (fun _ _ _ h => h) (Or.inl ⟨by rfl, ?_⟩) (by assumption) ?_
            rotate_left
            · intro w hSw
              clear hSw
              go_simp
              all_goals with_reducible rfl
            simp only [Act.put, List.setIfInBounds_toArray, List.set_cons_zero, List.set_cons_succ]
            refine wpAnyH_take (i := 1) (oi := { dst := some 54, op := Op.fieldAddr 48 (Operand.tmp 9) 1, type := 0, pos := "law.go:109", after := #[], guard := none }) (v := ?_) rfl (by kernel_rfl) (by kernel_rfl) (by kernel_rfl) (fun _ _ _ h => h) (Or.inl ⟨by rfl, ?_⟩) (by assumption) ?_
            rotate_left
            · intro w hSw
              clear hSw
              go_simp
              all_goals with_reducible rfl
            simp only [Act.put, List.setIfInBounds_toArray, List.set_cons_zero, List.set_cons_succ]
            refine wpAnyH_take (i := 2) (oi := { dst := some 55, op := Op.load 3 (Operand.tmp 54), type := 3, pos := "law.go:109", after := #[{ on := 1, ground := Ground.data }], guard := none }) (v := ?_) rfl (by kernel_rfl) (by kernel_rfl) (by kernel_rfl) (fun _ _ _ h => h) (Or.inl ⟨by rfl, ?_⟩) (by assumption) ?_
            rotate_left
            · intro w hSw
              obtain ⟨x0, x1, x2, x3, x4, x5, x6⟩ := cells7 hSw
              clear hSw
              go_simp
              all_goals with_reducible rfl
            simp only [Act.put, List.setIfInBounds_toArray, List.set_cons_zero, List.set_cons_succ]
            refine wpAnyH_take (i := 3) (oi := { dst := some 56, op := Op.move (Operand.tmp 11), type := 29, pos := "law.go:109", after := #[], guard := none }) (v := ?_) rfl (by kernel_rfl) (by kernel_rfl) (by kernel_rfl) (fun _ _ _ h => h) (Or.inl ⟨by rfl, ?_⟩) (by assumption) ?_
            rotate_left
            · intro w hSw
              clear hSw
              go_simp
              all_goals with_reducible rfl
            simp only [Act.put, List.setIfInBounds_toArray, List.set_cons_zero, List.set_cons_succ]
            refine wpAnyH_take (i := 4) (oi := { dst := some 57, op := Op.move (Operand.tmp 10), type := 3, pos := "law.go:109", after := #[], guard := none }) (v := ?_) rfl (by kernel_rfl) (by kernel_rfl) (by kernel_rfl) (fun _ _ _ h => h) (Or.inl ⟨by rfl, ?_⟩) (by assumption) ?_
            rotate_left
            · intro w hSw
              clear hSw
              go_simp
              all_goals with_reducible rfl
            simp only [Act.put, List.setIfInBounds_toArray, List.set_cons_zero, List.set_cons_succ]
            refine wpAnyH_take (i := 5) (oi := { dst := some 58, op := Op.slice 29 (Operand.tmp 56) none (some (Operand.tmp 57)) none, type := 29, pos := "law.go:109", after := #[{ on := 3, ground := Ground.data }, { on := 4, ground := Ground.data }], guard := none }) (v := ?_) rfl (by kernel_rfl) (by kernel_rfl) (by kernel_rfl) (fun _ _ _ h => h) (Or.inl ⟨by rfl, ?_⟩) (by assumption) ?_
            rotate_left
            · intro w hSw
              clear hSw
              go_simp
              all_goals with_reducible rfl
            simp only [Act.put, List.setIfInBounds_toArray, List.set_cons_zero, List.set_cons_succ]
            refine wpAnyH_ready (rs := [6]) (by kernel_rfl) (by simp) ?_
            refine AllReadyH.cons (o := { dst := some 59, op := Op.call { callee := Callee.value (Operand.func 13), args := #[Operand.tmp 53, Operand.tmp 55, Operand.tmp 58], argTypes := #[22, 3, 29] }, type := 23, pos := "law.go:109", after := #[{ on := 0, ground := Ground.data }, { on := 2, ground := Ground.data }, { on := 5, ground := Ground.data }], guard := none }) rfl (fun K hK => ?_) AllReadyH.nil
            go_simp
            refine (pl_write nn gf 127 207 t X2 _ w z0 g gr d d P4.out (by have := HKD.out.2; omega) HF2.out (fun W hW => room_slice hW HTL.out (by omega))).mono ?_
            rintro e w5 ⟨rfl, h5⟩
            have P5 := hide h5
            clear h5 P4
            refine hK.out _ _ (P5.out.told HX2.out) (fun hHeld => ?_)
            clear hK K
            try simp only [Act.put, List.setIfInBounds_toArray, List.set_cons_zero, List.set_cons_succ]
            refine wpAnyH_take (i := 7) (oi := { dst := some 12, op := Op.assign (Operand.tmp 59), type := 23, pos := "law.go:109", after := #[{ on := 6, ground := Ground.data }, { on := 6, ground := Ground.chain }, { on := 0, ground := Ground.phase }, { on := 1, ground := Ground.phase }, { on := 2, ground := Ground.phase }, { on := 3, ground := Ground.phase }, { on := 4, ground := Ground.phase }, { on := 5, ground := Ground.phase }, { on := 6, ground := Ground.phase }], guard := none }) (v := ?_) rfl (by kernel_rfl) (by kernel_rfl) (by kernel_rfl) (fun _ _ _ h => h) (Or.inl ⟨by rfl, ?_⟩) (by assumption) ?_
            rotate_left
            · intro w hSw
              clear hSw
              go_simp
              all_goals with_reducible rfl
            simp only [Act.put, List.setIfInBounds_toArray, List.set_cons_zero, List.set_cons_succ]
            refine wpAnyH_done (by kernel_rfl) ?_ _
            refine NoPanic.normal ?_
            clear hHeld
            obtain ⟨RS, hRS⟩ : ∃ RS, RS = (d.wrt nn t).1 := ⟨_, rfl⟩
            rw [← hRS]
            have HRS := hide hRS
            clear hRS
            obtain ⟨d5, hd5⟩ : ∃ d5, d5 = (d.wrt nn t).2 := ⟨_, rfl⟩
            rw [← hd5] at P5
            have HD5 := hide hd5
            have HKD5 : Hid (d5.safe.length = SZ ∧ d5.pend.length ≤ k + 1) := by show _ ∧ _; rw [hd5]; exact ⟨(S.Dk.wrt_safe _ _ _).trans HKD.out.1, Nat.le_trans (S.Dk.wrt_pend _ _ _) (by have := HKD.out.2; omega)⟩
            clear hd5
            go_wp2_with fail
            refine wp_region_noPanic ?_
            refine wp_region_held_drew (S := (fun W => W.heap[gx]? = some (.cells #[.int .i64 kd, .int .i64 nn, .int .i64 sz, .int .u8 (f.toNat : Int), .slice ak lk ck, .int .i64 tn, .int .i64 bt] 48 (0, 0)) ∧ W.heap[gf]? = some (.cells (S.v8 (S.roomy t)) 5 (0, 0)))) follows ⟨P5.out.told HX2.out, P5.out.told HF2.out⟩ (fun hHeld => ?_)
            have P6 := hide (P5.out.below (drew_below w5))
            clear P5
            generalize w5.drew = z1 at P6 hHeld ⊢
            refine wpAnyH_take (i := 0) (oi := { dst := some 60, op := Op.move (Operand.tmp 12), type := 23, pos := "law.go:110", after := #[], guard := none }) (v := ?_) rfl (by kernel_rfl) (by kernel_rfl) (by kernel_rfl) (fun _ _ _ h => h) (Or.inl ⟨by rfl, ?_⟩) (by assumption) ?_
            rotate_left
            · intro w hSw
              clear hSw
              go_simp
              all_goals with_reducible rfl
            simp only [Act.put, List.setIfInBounds_toArray, List.set_cons_zero, List.set_cons_succ]
            refine wpAnyH_take (i := 1) (oi := { dst := some 61, op := Op.move (Operand.tmp 7), type := 45, pos := "law.go:110", after := #[], guard := none }) (v := ?_) rfl (by kernel_rfl) (by kernel_rfl) (by kernel_rfl) (fun _ _ _ h => h) (Or.inl ⟨by rfl, ?_⟩) (by assumption) ?_
            rotate_left
            · intro w hSw
              clear hSw
              go_simp
              all_goals with_reducible rfl
            simp only [Act.put, List.setIfInBounds_toArray, List.set_cons_zero, List.set_cons_succ]
            refine wpAnyH_take (i := 2) (oi := { dst := some 62, op := Op.fieldAddr 48 (Operand.tmp 9) 1, type := 0, pos := "law.go:110", after := #[], guard := none }) (v := ?_) rfl (by kernel_rfl) (by kernel_rfl) (by kernel_rfl) (fun _ _ _ h => h) (Or.inl ⟨by rfl, ?_⟩) (by assumption) ?_
            rotate_left
            · intro w hSw
              clear hSw
              go_simp
              all_goals with_reducible rfl
            simp only [Act.put, List.setIfInBounds_toArray, List.set_cons_zero, List.set_cons_succ]
            refine wpAnyH_take (i := 3) (oi := { dst := some 63, op := Op.load 3 (Operand.tmp 62), type := 3, pos := "law.go:110", after := #[{ on := 2, ground := Ground.data }], guard := none }) (v := ?_) rfl (by kernel_rfl) (by kernel_rfl) (by kernel_rfl) (fun _ _ _ h => h) (Or.inl ⟨by rfl, ?_⟩) (by assumption) ?_
            rotate_left
            · intro w hSw
              obtain ⟨x0, x1, x2, x3, x4, x5, x6⟩ := cells7 hSw.1
              clear hSw
              go_simp
              all_goals with_reducible rfl
            simp only [Act.put, List.setIfInBounds_toArray, List.set_cons_zero, List.set_cons_succ]
            refine wpAnyH_take (i := 4) (oi := { dst := some 64, op := Op.fieldAddr 48 (Operand.tmp 9) 3, type := 0, pos := "law.go:110", after := #[], guard := none }) (v := ?_) rfl (by kernel_rfl) (by kernel_rfl) (by kernel_rfl) (fun _ _ _ h => h) (Or.inl ⟨by rfl, ?_⟩) (by assumption) ?_
            rotate_left
            · intro w hSw
              clear hSw
              go_simp
              all_goals with_reducible rfl
            simp only [Act.put, List.setIfInBounds_toArray, List.set_cons_zero, List.set_cons_succ]
            refine wpAnyH_take (i := 5) (oi := { dst := some 65, op := Op.load 5 (Operand.tmp 64), type := 5, pos := "law.go:110", after := #[{ on := 4, ground := Ground.data }], guard := none }) (v := ?_) rfl (by kernel_rfl) (by kernel_rfl) (by kernel_rfl) (fun _ _ _ h => h) (Or.inl ⟨by rfl, ?_⟩) (by assumption) ?_
            rotate_left
            · intro w hSw
              obtain ⟨x0, x1, x2, x3, x4, x5, x6⟩ := cells7 hSw.1
              clear hSw
              go_simp
              all_goals with_reducible rfl
            simp only [Act.put, List.setIfInBounds_toArray, List.set_cons_zero, List.set_cons_succ]
            refine wpAnyH_take (i := 6) (oi := { dst := some 66, op := Op.move (Operand.tmp 10), type := 3, pos := "law.go:110", after := #[], guard := none }) (v := ?_) rfl (by kernel_rfl) (by kernel_rfl) (by kernel_rfl) (fun _ _ _ h => h) (Or.inl ⟨by rfl, ?_⟩) (by assumption) ?_
            rotate_left
            · intro w hSw
              clear hSw
              go_simp
              all_goals with_reducible rfl
            simp only [Act.put, List.setIfInBounds_toArray, List.set_cons_zero, List.set_cons_succ]
            refine wpAnyH_ready (rs := [7]) (by kernel_rfl) (by simp) ?_
            refine AllReadyH.cons (o := { dst := some 67, op := Op.call { callee := Callee.value (Operand.func 14), args := #[Operand.tmp 65, Operand.tmp 66], argTypes := #[5, 3] }, type := 29, pos := "law.go:110", after := #[{ on := 5, ground := Ground.data }, { on := 6, ground := Ground.data }], guard := none }) rfl (fun K hK => ?_) AllReadyH.nil
            go_simp
            refine (sector_any f 127 z1 (by omega)).mono ?_
            rintro e z2 ⟨rfl, hr, hb⟩
            rw [← HTT.out] at hr
            refine hK.out _ _ ⟨(P6.out.below hb).told HX2.out, (P6.out.below hb).told HF2.out⟩ (fun hHeld => ?_)
            clear hK K
            try simp only [Act.put, List.setIfInBounds_toArray, List.set_cons_zero, List.set_cons_succ]
            refine wpAnyH_ready (rs := [8]) (by kernel_rfl) (by simp) ?_
            refine AllReadyH.cons (o := { dst := some 68, op := Op.call { callee := Callee.value (Operand.func 23), args := #[Operand.tmp 61, Operand.tmp 63, Operand.tmp 67], argTypes := #[45, 3, 29] }, type := 3, pos := "law.go:110", after := #[{ on := 1, ground := Ground.data }, { on := 3, ground := Ground.data }, { on := 7, ground := Ground.data }, { on := 7, ground := Ground.chain }], guard := none }) rfl (fun K hK => ?_) AllReadyH.nil
            go_simp
            have CALL := pl_rwrite nn z1.heap.size 127 127 t X2 w z1 z2 g gr d5 d P6.out hb (by have := HKD.out.2; omega) (Nat.le_refl _) hr HTL.out (by omega) rfl
            rw [← HRS.out, ← HD5.out] at CALL
            refine CALL.mono ?_
            rintro e z3 ⟨rfl, h7⟩
            clear CALL
            have P7 := hide h7
            clear h7 P6 hr hb hHeld
            refine hK.out _ _ ⟨P7.out.told HX2.out, P7.out.told HF2.out⟩ (fun hHeld => ?_)
            clear hK K
            try simp only [Act.put, List.setIfInBounds_toArray, List.set_cons_zero, List.set_cons_succ]
            refine wpAnyH_take (i := 9) (oi := { dst := some 69, op := Op.binOp BinOp.neq 3 (Operand.tmp 60) (Operand.tmp 68) 3, type := 4, pos := "law.go:110", after := #[{ on := 0, ground := Ground.data }, { on := 8, ground := Ground.data }], guard := none }) (v := ?_) rfl (by kernel_rfl) (by kernel_rfl) (by kernel_rfl) (fun _ _ _ h => h) (Or.inl ⟨by rfl, ?_⟩) (by assumption) ?_
            rotate_left
            · intro w hSw
              clear hSw
              go_simp
              all_goals with_reducible rfl
            simp only [Act.put, List.setIfInBounds_toArray, List.set_cons_zero, List.set_cons_succ]
            refine wpAnyH_take (i := 10) (oi := { dst := some 70, op := Op.move (Operand.tmp 69), type := 4, pos := "law.go:110", after := #[{ on := 9, ground := Ground.data }, { on := 8, ground := Ground.chain }], guard := none }) (v := ?_) rfl (by kernel_rfl) (by kernel_rfl) (by kernel_rfl) (fun _ _ _ h => h) (Or.inl ⟨by rfl, ?_⟩) (by assumption) ?_
            rotate_left
            · intro w hSw
              clear hSw
              go_simp
              all_goals with_reducible rfl
            simp only [Act.put, List.setIfInBounds_toArray, List.set_cons_zero, List.set_cons_succ]
            refine wpAnyH_take (i := 11) (oi := { dst := some 71, op := Op.move (Operand.tmp 11), type := 29, pos := "law.go:110", after := #[{ on := 10, ground := Ground.guard }], guard := some (10, false) }) (v := ?_) rfl (by kernel_rfl) (by kernel_rfl) (by kernel_rfl) (fun _ _ _ h => h) (Or.inl ⟨by rfl, ?_⟩) (by assumption) ?_
            rotate_left
            · intro w hSw
              clear hSw
              go_simp
              all_goals with_reducible rfl
            simp only [Act.put, List.setIfInBounds_toArray, List.set_cons_zero, List.set_cons_succ]
            refine wpAnyH_take (i := 12) (oi := { dst := some 72, op := Op.fieldAddr 48 (Operand.tmp 9) 3, type := 0, pos := "law.go:110", after := #[{ on := 10, ground := Ground.guard }], guard := some (10, false) }) (v := ?_) rfl (by kernel_rfl) (by kernel_rfl) (by kernel_rfl) (fun _ _ _ h => h) (Or.inl ⟨by rfl, ?_⟩) (by assumption) ?_
            rotate_left
            · intro w hSw
              clear hSw
              go_simp
              all_goals with_reducible rfl
            simp only [Act.put, List.setIfInBounds_toArray, List.set_cons_zero, List.set_cons_succ]
            refine wpAnyH_take (i := 13) (oi := { dst := some 73, op := Op.load 5 (Operand.tmp 72), type := 5, pos := "law.go:110", after := #[{ on := 12, ground := Ground.data }, { on := 10, ground := Ground.guard }], guard := some (10, false) }) (v := ?_) rfl (by kernel_rfl) (by kernel_rfl) (by kernel_rfl) (fun _ _ _ h => h) (Or.inl ⟨by rfl, ?_⟩) (by assumption) ?_
            rotate_left
            · intro w hSw
              obtain ⟨x0, x1, x2, x3, x4, x5, x6⟩ := cells7 hSw.1
              clear hSw
              go_simp
              all_goals with_reducible rfl
            simp only [Act.put, List.setIfInBounds_toArray, List.set_cons_zero, List.set_cons_succ]
            refine wpAnyH_take (i := 14) (oi := { dst := some 74, op := Op.move (Operand.tmp 10), type := 3, pos := "law.go:110", after := #[{ on := 10, ground := Ground.guard }], guard := some (10, false) }) (v := ?_) rfl (by kernel_rfl) (by kernel_rfl) (by kernel_rfl) (fun _ _ _ h => h) (Or.inl ⟨by rfl, ?_⟩) (by assumption) ?_
            rotate_left
            · intro w hSw
              clear hSw
              go_simp
              all_goals with_reducible rfl
            simp only [Act.put, List.setIfInBounds_toArray, List.set_cons_zero, List.set_cons_succ]
            refine wpAnyH_ready (rs := [15]) (by kernel_rfl) (by simp) ?_
            refine AllReadyH.cons (o := { dst := some 75, op := Op.call { callee := Callee.value (Operand.func 14), args := #[Operand.tmp 73, Operand.tmp 74], argTypes := #[5, 3] }, type := 29, pos := "law.go:110", after := #[{ on := 13, ground := Ground.data }, { on := 14, ground := Ground.data }, { on := 10, ground := Ground.chain }, { on := 10, ground := Ground.guard }], guard := some (10, false) }) rfl (fun K hK => ?_) AllReadyH.nil
            go_simp
            refine (sector_any f 127 z3 (by omega)).mono ?_
            rintro e z4 ⟨rfl, hr, hb⟩
            rw [← HTT.out] at hr
            have P8 := hide (P7.out.below hb)
            have R8 := hide hr
            clear hr hb P7 hHeld
            generalize z3.heap.size = g8 at *
            refine hK.out _ _ ⟨P8.out.told HX2.out, P8.out.told HF2.out⟩ (fun hHeld => ?_)
            clear hK K
            try simp only [Act.put, List.setIfInBounds_toArray, List.set_cons_zero, List.set_cons_succ]
            refine wpAnyH_ready (rs := [16]) (by kernel_rfl) (by simp) ?_
            refine AllReadyH.cons (o := { dst := some 76, op := Op.call { callee := Callee.value (Operand.func 24), args := #[Operand.tmp 71, Operand.tmp 75, Operand.const (Value.int IntKind.u8 165)], argTypes := #[29, 29, 5] }, type := 4, pos := "law.go:110", after := #[{ on := 11, ground := Ground.data }, { on := 15, ground := Ground.data }, { on := 15, ground := Ground.chain }, { on := 10, ground := Ground.guard }], guard := some (10, false) }) rfl (fun K hK => ?_) AllReadyH.nil
            go_simp
            refine (intact_any gf (.slice (some ⟨g8, 0, none⟩) 127 127) t 207 z4 (by rw [HTL.out]) (slice_row R8.out HTL.out (by omega)) (by rw [HTL.out]; omega) (P8.out.told HF2.out)).mono ?_
            rintro e z5 ⟨rfl, hst⟩
            have P9 := hide (P8.out.below (hst.below _))
            clear hst P8 R8 hHeld
            refine hK.out _ _ ⟨P9.out.told HX2.out, P9.out.told HF2.out⟩ (fun hHeld => ?_)
            clear hK K
            try simp only [Act.put, List.setIfInBounds_toArray, List.set_cons_zero, List.set_cons_succ]
            refine wpAnyH_take (i := 17) (oi := { dst := some 77, op := Op.unOp UnOp.not 4 (Operand.tmp 76), type := 4, pos := "law.go:110", after := #[{ on := 16, ground := Ground.data }, { on := 10, ground := Ground.guard }], guard := some (10, false) }) (v := ?_) rfl (by kernel_rfl) (by kernel_rfl) (by kernel_rfl) (fun _ _ _ h => h) (Or.inl ⟨by rfl, ?_⟩) (by assumption) ?_
            rotate_left
            · intro w hSw
              clear hSw
              go_simp
              all_goals with_reducible rfl
            simp only [Act.put, List.setIfInBounds_toArray, List.set_cons_zero, List.set_cons_succ]
            refine wpAnyH_take (i := 18) (oi := { dst := some 78, op := Op.pick (Operand.tmp 70) (Operand.const (Value.bool true)) (Operand.tmp 77), type := 4, pos := "law.go:110", after := #[{ on := 10, ground := Ground.data }, { on := 17, ground := Ground.data }], guard := none }) (v := ?_) rfl (by kernel_rfl) (by kernel_rfl) (by kernel_rfl) (fun _ _ _ h => h) (Or.inl ⟨by rfl, ?_⟩) (by assumption) ?_
            rotate_left
            · intro w hSw
              clear hSw
              go_simp
              all_goals with_reducible rfl
            simp only [Act.put, List.setIfInBounds_toArray, List.set_cons_zero, List.set_cons_succ]
            refine wpAnyH_done (by kernel_rfl) ?_ _
            refine NoPanic.normal ?_
            clear hHeld
            go_wp2_with fail
            go_loopw [13] (fun i wr2 => ∃ (j : Nat) (X : Nat → Option Obj) (xs : List UInt8), j ≤ 127 ∧ i = .int .i64 (j : Int) ∧ X gf = some (.cells (S.v8 xs) 5 (0, 0)) ∧ xs.length = 207 ∧ Pl X w wr2 g d5 gr d5) (fun i _ => 127 - (intOf i).toNat)
            case atStart => exact ⟨0, X2, S.roomy t, by omega, rfl, HF2.out, by simp [S.roomy, HTL.out], P9.out⟩
            case round =>
              obtain ⟨j, X, xs, hj, rfl, hXf, hxl, hpl⟩ := hrel
              have PJ := hide hpl
              have HXF := hide hXf
              clear hpl hXf P9
              by_cases hjl : j < 127
              · have hrow := PJ.out.told HXF.out
                have cj := v8_cell hrow j (by omega)
                have fj := frozen_of_row _ _ j _ _ hrow
                have V1 := v8_set hrow j 77
                have PN := hide (PJ.out.poke HXF.out hgf0 j (.int .u8 77) V1)
                have q1 : (0 : Int) ≤ (j : Int) := by omega
                have q2 : (j : Int) < 127 := by omega
                have q3 : (j : Int) < 207 := by omega
                have q4 : IntKind.i64.wrap ((j : Int) + 1) = (j : Int) + 1 := by rw [IntKind.wrap_i64]; omega
                clear hrow V1
                go_wp2_with fail
                go_roundw
                case rel => exact ⟨j + 1, _, xs.set j 77, by omega, by go_num, if_pos rfl, by simp [hxl], PN.out⟩
                case measure => simp [intOf]; omega
              · obtain rfl : j = 127 := by omega
                clear HXF hxl
                go_wp2_with fail
                refine (pl_alike _ w _ g gr d5 PJ.out (by have := HKD5.out.2; omega)).mono ?_
                rintro e wf ⟨rfl, hf⟩
                have PF := hide hf.forget
                clear hf PJ
                go_wp2_with fail
                go_roundw
                case rel => exact ⟨k + 1, g, d5, by omega, by omega, rfl, by go_num, PF.out, HKD5.out.1, HKD5.out.2⟩
                case measure => simp [intOf]; omega
          · skip
            have q9 : ¬ (sz < 0) := hsz
            go_wp2_with (refine wpList_load_known rfl 48 (.tmp 39) rfl (.agg #[.int .i64 kd, .int .i64 nn, .int .i64 sz, .int .u8 (f.toNat : Int), .slice ak lk ck, .int .i64 tn, .int .i64 bt]) hld ?_; refine wpList_alloc_known rfl 48 rfl (.pointer (some ⟨wr.heap.size, 0, none⟩)) _ (hal _) ?_; refine wpList_store_known rfl 48 (.tmp 9) (.tmp 40) rfl (wr.alloc (.cells #[.int .i64 kd, .int .i64 nn, .int .i64 sz, .int .u8 (f.toNat : Int), .slice ak lk ck, .int .i64 tn, .int .i64 bt] 48)) hst ?_; simp only [Act.put, List.setIfInBounds_toArray, List.set_cons_zero, List.set_cons_succ])
            clear hld hst hal
            have PX0 := hide (PW.out.also ((Below.refl _ _).alloc (Nat.le_refl _) (.cells #[.int .i64 kd, .int .i64 nn, .int .i64 sz, .int .u8 (f.toNat : Int), .slice ak lk ck, .int .i64 tn, .int .i64 bt] 48 (0, 0))) wr.heap.size (.cells #[.int .i64 kd, .int .i64 nn, .int .i64 sz, .int .u8 (f.toNat : Int), .slice ak lk ck, .int .i64 tn, .int .i64 bt] 48 (0, 0)) (Nat.le_refl _) (heap_alloc_new _ _))
            obtain ⟨X1, hX1⟩ : ∃ X1 : Nat → Option Obj, X1 = (fun j => if j = wr.heap.size then some (.cells #[.int .i64 kd, .int .i64 nn, .int .i64 sz, .int .u8 (f.toNat : Int), .slice ak lk ck, .int .i64 tn, .int .i64 bt] 48 (0, 0)) else X0 j) := ⟨_, rfl⟩
            rw [← hX1] at PX0
            have HX0 : Hid (X1 wr.heap.size = some (.cells #[.int .i64 kd, .int .i64 nn, .int .i64 sz, .int .u8 (f.toNat : Int), .slice ak lk ck, .int .i64 tn, .int .i64 bt] 48 (0, 0))) := by show X1 wr.heap.size = _; rw [hX1]; exact if_pos rfl
            clear hX1 PW
            generalize wr.alloc (.cells #[.int .i64 kd, .int .i64 nn, .int .i64 sz, .int .u8 (f.toNat : Int), .slice ak lk ck, .int .i64 tn, .int .i64 bt] 48 (0, 0)) = wx at *
            generalize wr.heap.size = gx at *
            have PX := PX0
            have HX := HX0
            clear PX0 HX0
            refine (sector_any f 128 wx (by omega)).mono ?_
            rintro e w2 ⟨rfl, hr2, hb2⟩
            obtain ⟨t, hT⟩ : ∃ t, t = S.sec f 128 := ⟨_, rfl⟩
            have htl : t.length = 128 := by rw [hT]; exact S.sec_length _ _
            rw [← hT] at hr2
            have HTT := hide hT
            have HTL := hide htl
            have P2 := hide (PX.out.below hb2)
            have R2 := hide hr2
            have hx2 : wx.heap.size ≤ w2.heap.size := hb2.size
            have hgx0 : w.heap.size ≤ wx.heap.size := PX.out.base.size
            have B2 := hide hb2
            clear hr2 hb2 hT htl
            generalize wx.heap.size = g1 at *
            go_wp2_with fail
            refine (roomy_any _ t w2 (slice_row R2.out HTL.out (by omega)) (by rw [HTL.out]; omega)).mono ?_
            rintro e w3 ⟨gf, rfl, hgf, hr3, hb3⟩
            rw [show t.length + 80 = 208 from by rw [HTL.out]]
            have P3 := hide (P2.out.also hb3 gf _ hgf hr3)
            obtain ⟨X2, hX2⟩ : ∃ X2 : Nat → Option Obj, X2 = (fun j => if j = gf then some (.cells (S.v8 (S.roomy t)) 5 (0, 0)) else X1 j) := ⟨_, rfl⟩
            rw [← hX2] at P3
            have HF2 : Hid (X2 gf = some (.cells (S.v8 (S.roomy t)) 5 (0, 0))) := by show X2 gf = _; rw [hX2]; exact if_pos rfl
            have hgxf : gx ≠ gf := by have := block_lt_of_row (P2.out.told HX.out); omega
            have HX2 : Hid (X2 gx = some (.cells #[.int .i64 kd, .int .i64 nn, .int .i64 sz, .int .u8 (f.toNat : Int), .slice ak lk ck, .int .i64 tn, .int .i64 bt] 48 (0, 0))) := by show X2 gx = _; rw [hX2]; exact (if_neg hgxf).trans HX.out
            have hgf0 : w.heap.size ≤ gf := by omega
            clear hX2 hr3 hb3 hgf R2 P2 B2 PX hgxf
            go_wp2_with fail
            refine wp_region_noPanic ?_
            refine wp_region_held_drew (S := (fun W => W.heap[gx]? = some (.cells #[.int .i64 kd, .int .i64 nn, .int .i64 sz, .int .u8 (f.toNat : Int), .slice ak lk ck, .int .i64 tn, .int .i64 bt] 48 (0, 0)))) follows (P3.out.told HX2.out) (fun hHeld => ?_)
            have P4 := hide (P3.out.below (drew_below w3))
            clear P3
            generalize w3.drew = z0 at P4 hHeld ⊢
            refine wpAnyH_take (i := 0) (oi := { dst := some 53, op := Op.move (Operand.tmp 5), type := 22, pos := "law.go:109", after := #[], guard := none }) (v := ?_) rfl (by kernel_rfl) (by kernel_rfl) (by kernel_rfl) (fun _ _ _ h => h) (Or.inl ⟨by rfl, ?_⟩) (by assumption) ?_
            rotate_left
            · intro w hSw
              clear hSw
              go_simp
              all_goals with_reducible rfl
            simp only [Act.put, List.setIfInBounds_toArray, List.set_cons_zero, List.set_cons_succ]
            refine wpAnyH_take (i := 1) (oi := { dst := some 54, op := Op.fieldAddr 48 (Operand.tmp 9) 1, type := 0, pos := "law.go:109", after := #[], guard := none }) (v := ?_) rfl (by kernel_rfl) (by kernel_rfl) (by kernel_rfl) (fun _ _ _ h => h) (Or.inl ⟨by rfl, ?_⟩) (by assumption) ?_
            rotate_left
            · intro w hSw
              clear hSw
              go_simp
              all_goals with_reducible rfl
            simp only [Act.put, List.setIfInBounds_toArray, List.set_cons_zero, List.set_cons_succ]
            refine wpAnyH_take (i := 2) (oi := { dst := some 55, op := Op.load 3 (Operand.tmp 54), type := 3, pos := "law.go:109", after := #[{ on := 1, ground := Ground.data }], guard := none }) (v := ?_) rfl (by kernel_rfl) (by kernel_rfl) (by kernel_rfl) (fun _ _ _ h => h) (Or.inl ⟨by rfl, ?_⟩) (by assumption) ?_
            rotate_left
            · intro w hSw
              obtain ⟨x0, x1, x2, x3, x4, x5, x6⟩ := cells7 hSw
              clear hSw
              go_simp
              all_goals with_reducible rfl
            simp only [Act.put, List.setIfInBounds_toArray, List.set_cons_zero, List.set_cons_succ]
            refine wpAnyH_take (i := 3) (oi := { dst := some 56, op := Op.move (Operand.tmp 11), type := 29, pos := "law.go:109", after := #[], guard := none }) (v := ?_) rfl (by kernel_rfl) (by kernel_rfl) (by kernel_rfl) (fun _ _ _ h => h) (Or.inl ⟨by rfl, ?_⟩) (by assumption) ?_
            rotate_left
            · intro w hSw
              clear hSw
              go_simp
              all_goals with_reducible rfl
            simp only [Act.put, List.setIfInBounds_toArray, List.set_cons_zero, List.set_cons_succ]
            refine wpAnyH_take (i := 4) (oi := { dst := some 57, op := Op.move (Operand.tmp 10), type := 3, pos := "law.go:109", after := #[], guard := none }) (v := ?_) rfl (by kernel_rfl) (by kernel_rfl) (by kernel_rfl) (fun _ _ _ h => h) (Or.inl ⟨by rfl, ?_⟩) (by assumption) ?_
            rotate_left
            · intro w hSw
              clear hSw
              go_simp
              all_goals with_reducible rfl
            simp only [Act.put, List.setIfInBounds_toArray, List.set_cons_zero, List.set_cons_succ]
            refine wpAnyH_take (i := 5) (oi := { dst := some 58, op := Op.slice 29 (Operand.tmp 56) none (some (Operand.tmp 57)) none, type := 29, pos := "law.go:109", after := #[{ on := 3, ground := Ground.data }, { on := 4, ground := Ground.data }], guard := none }) (v := ?_) rfl (by kernel_rfl) (by kernel_rfl) (by kernel_rfl) (fun _ _ _ h => h) (Or.inl ⟨by rfl, ?_⟩) (by assumption) ?_
            rotate_left
            · intro w hSw
              clear hSw
              go_simp
              all_goals with_reducible rfl
            simp only [Act.put, List.setIfInBounds_toArray, List.set_cons_zero, List.set_cons_succ]
            refine wpAnyH_ready (rs := [6]) (by kernel_rfl) (by simp) ?_
            refine AllReadyH.cons (o := { dst := some 59, op := Op.call { callee := Callee.value (Operand.func 13), args := #[Operand.tmp 53, Operand.tmp 55, Operand.tmp 58], argTypes := #[22, 3, 29] }, type := 23, pos := "law.go:109", after := #[{ on := 0, ground := Ground.data }, { on := 2, ground := Ground.data }, { on := 5, ground := Ground.data }], guard := none }) rfl (fun K hK => ?_) AllReadyH.nil
            go_simp
            refine (pl_write nn gf 128 208 t X2 _ w z0 g gr d d P4.out (by have := HKD.out.2; omega) HF2.out (fun W hW => room_slice hW HTL.out (by omega))).mono ?_
            rintro e w5 ⟨rfl, h5⟩
            have P5 := hide h5
            clear h5 P4
            refine hK.out _ _ (P5.out.told HX2.out) (fun hHeld => ?_)
            clear hK K
            try simp only [Act.put, List.setIfInBounds_toArray, List.set_cons_zero, List.set_cons_succ]
            refine wpAnyH_take (i := 7) (oi := { dst := some 12, op := Op.assign (Operand.tmp 59), type := 23, pos := "law.go:109", after := #[{ on := 6, ground := Ground.data }, { on := 6, ground := Ground.chain }, { on := 0, ground := Ground.phase }, { on := 1, ground := Ground.phase }, { on := 2, ground := Ground.phase }, { on := 3, ground := Ground.phase }, { on := 4, ground := Ground.phase }, { on := 5, ground := Ground.phase }, { on := 6, ground := Ground.phase }], guard := none }) (v := ?_) rfl (by kernel_rfl) (by kernel_rfl) (by kernel_rfl) (fun _ _ _ h => h) (Or.inl ⟨by rfl, ?_⟩) (by assumption) ?_
            rotate_left
            · intro w hSw
              clear hSw
              go_simp
              all_goals with_reducible rfl
            simp only [Act.put, List.setIfInBounds_toArray, List.set_cons_zero, List.set_cons_succ]
            refine wpAnyH_done (by kernel_rfl) ?_ _
            refine NoPanic.normal ?_
            clear hHeld
            obtain ⟨RS, hRS⟩ : ∃ RS, RS = (d.wrt nn t).1 := ⟨_, rfl⟩
            rw [← hRS]
            have HRS := hide hRS
            clear hRS
            obtain ⟨d5, hd5⟩ : ∃ d5, d5 = (d.wrt nn t).2 := ⟨_, rfl⟩
            rw [← hd5] at P5
            have HD5 := hide hd5
            have HKD5 : Hid (d5.safe.length = SZ ∧ d5.pend.length ≤ k + 1) := by show _ ∧ _; rw [hd5]; exact ⟨(S.Dk.wrt_safe _ _ _).trans HKD.out.1, Nat.le_trans (S.Dk.wrt_pend _ _ _) (by have := HKD.out.2; omega)⟩
            clear hd5
            go_wp2_with fail
            refine wp_region_noPanic ?_
            refine wp_region_held_drew (S := (fun W => W.heap[gx]? = some (.cells #[.int .i64 kd, .int .i64 nn, .int .i64 sz, .int .u8 (f.toNat : Int), .slice ak lk ck, .int .i64 tn, .int .i64 bt] 48 (0, 0)) ∧ W.heap[gf]? = some (.cells (S.v8 (S.roomy t)) 5 (0, 0)))) follows ⟨P5.out.told HX2.out, P5.out.told HF2.out⟩ (fun hHeld => ?_)
            have P6 := hide (P5.out.below (drew_below w5))
            clear P5
            generalize w5.drew = z1 at P6 hHeld ⊢
            refine wpAnyH_take (i := 0) (oi := { dst := some 60, op := Op.move (Operand.tmp 12), type := 23, pos := "law.go:110", after := #[], guard := none }) (v := ?_) rfl (by kernel_rfl) (by kernel_rfl) (by kernel_rfl) (fun _ _ _ h => h) (Or.inl ⟨by rfl, ?_⟩) (by assumption) ?_
            rotate_left
            · intro w hSw
              clear hSw
              go_simp
              all_goals with_reducible rfl
            simp only [Act.put, List.setIfInBounds_toArray, List.set_cons_zero, List.set_cons_succ]
            refine wpAnyH_take (i := 1) (oi := { dst := some 61, op := Op.move (Operand.tmp 7), type := 45, pos := "law.go:110", after := #[], guard := none }) (v := ?_) rfl (by kernel_rfl) (by kernel_rfl) (by kernel_rfl) (fun _ _ _ h => h) (Or.inl ⟨by rfl, ?_⟩) (by assumption) ?_
            rotate_left
            · intro w hSw
              clear hSw
              go_simp
              all_goals with_reducible rfl
            simp only [Act.put, List.setIfInBounds_toArray, List.set_cons_zero, List.set_cons_succ]
            refine wpAnyH_take (i := 2) (oi := { dst := some 62, op := Op.fieldAddr 48 (Operand.tmp 9) 1, type := 0, pos := "law.go:110", after := #[], guard := none }) (v := ?_) rfl (by kernel_rfl) (by kernel_rfl) (by kernel_rfl) (fun _ _ _ h => h) (Or.inl ⟨by rfl, ?_⟩) (by assumption) ?_
            rotate_left
            · intro w hSw
              clear hSw
              go_simp
              all_goals with_reducible rfl
            simp only [Act.put, List.setIfInBounds_toArray, List.set_cons_zero, List.set_cons_succ]
            refine wpAnyH_take (i := 3) (oi := { dst := some 63, op := Op.load 3 (Operand.tmp 62), type := 3, pos := "law.go:110", after := #[{ on := 2, ground := Ground.data }], guard := none }) (v := ?_) rfl (by kernel_rfl) (by kernel_rfl) (by kernel_rfl) (fun _ _ _ h => h) (Or.inl ⟨by rfl, ?_⟩) (by assumption) ?_
            rotate_left
            · intro w hSw
              obtain ⟨x0, x1, x2, x3, x4, x5, x6⟩ := cells7 hSw.1
              clear hSw
              go_simp
              all_goals with_reducible rfl
            simp only [Act.put, List.setIfInBounds_toArray, List.set_cons_zero, List.set_cons_succ]
            refine wpAnyH_take (i := 4) (oi := { dst := some 64, op := Op.fieldAddr 48 (Operand.tmp 9) 3, type := 0, pos := "law.go:110", after := #[], guard := none }) (v := ?_) rfl (by kernel_rfl) (by kernel_rfl) (by kernel_rfl) (fun _ _ _ h => h) (Or.inl ⟨by rfl, ?_⟩) (by assumption) ?_
            rotate_left
            · intro w hSw
              clear hSw
              go_simp
              all_goals with_reducible rfl
            simp only [Act.put, List.setIfInBounds_toArray, List.set_cons_zero, List.set_cons_succ]
            refine wpAnyH_take (i := 5) (oi := { dst := some 65, op := Op.load 5 (Operand.tmp 64), type := 5, pos := "law.go:110", after := #[{ on := 4, ground := Ground.data }], guard := none }) (v := ?_) rfl (by kernel_rfl) (by kernel_rfl) (by kernel_rfl) (fun _ _ _ h => h) (Or.inl ⟨by rfl, ?_⟩) (by assumption) ?_
            rotate_left
            · intro w hSw
              obtain ⟨x0, x1, x2, x3, x4, x5, x6⟩ := cells7 hSw.1
              clear hSw
              go_simp
              all_goals with_reducible rfl
            simp only [Act.put, List.setIfInBounds_toArray, List.set_cons_zero, List.set_cons_succ]
            refine wpAnyH_take (i := 6) (oi := { dst := some 66, op := Op.move (Operand.tmp 10), type := 3, pos := "law.go:110", after := #[], guard := none }) (v := ?_) rfl (by kernel_rfl) (by kernel_rfl) (by kernel_rfl) (fun _ _ _ h => h) (Or.inl ⟨by rfl, ?_⟩) (by assumption) ?_
            rotate_left
            · intro w hSw
              clear hSw
              go_simp
              all_goals with_reducible rfl
            simp only [Act.put, List.setIfInBounds_toArray, List.set_cons_zero, List.set_cons_succ]
            refine wpAnyH_ready (rs := [7]) (by kernel_rfl) (by simp) ?_
            refine AllReadyH.cons (o := { dst := some 67, op := Op.call { callee := Callee.value (Operand.func 14), args := #[Operand.tmp 65, Operand.tmp 66], argTypes := #[5, 3] }, type := 29, pos := "law.go:110", after := #[{ on := 5, ground := Ground.data }, { on := 6, ground := Ground.data }], guard := none }) rfl (fun K hK => ?_) AllReadyH.nil
            go_simp
            refine (sector_any f 128 z1 (by omega)).mono ?_
            rintro e z2 ⟨rfl, hr, hb⟩
            rw [← HTT.out] at hr
            refine hK.out _ _ ⟨(P6.out.below hb).told HX2.out, (P6.out.below hb).told HF2.out⟩ (fun hHeld => ?_)
            clear hK K
            try simp only [Act.put, List.setIfInBounds_toArray, List.set_cons_zero, List.set_cons_succ]
            refine wpAnyH_ready (rs := [8]) (by kernel_rfl) (by simp) ?_
            refine AllReadyH.cons (o := { dst := some 68, op := Op.call { callee := Callee.value (Operand.func 23), args := #[Operand.tmp 61, Operand.tmp 63, Operand.tmp 67], argTypes := #[45, 3, 29] }, type := 3, pos := "law.go:110", after := #[{ on := 1, ground := Ground.data }, { on := 3, ground := Ground.data }, { on := 7, ground := Ground.data }, { on := 7, ground := Ground.chain }], guard := none }) rfl (fun K hK => ?_) AllReadyH.nil
            go_simp
            have CALL := pl_rwrite nn z1.heap.size 128 128 t X2 w z1 z2 g gr d5 d P6.out hb (by have := HKD.out.2; omega) (Nat.le_refl _) hr HTL.out (by omega) rfl
            rw [← HRS.out, ← HD5.out] at CALL
            refine CALL.mono ?_
            rintro e z3 ⟨rfl, h7⟩
            clear CALL
            have P7 := hide h7
            clear h7 P6 hr hb hHeld
            refine hK.out _ _ ⟨P7.out.told HX2.out, P7.out.told HF2.out⟩ (fun hHeld => ?_)
            clear hK K
            try simp only [Act.put, List.setIfInBounds_toArray, List.set_cons_zero, List.set_cons_succ]
            refine wpAnyH_take (i := 9) (oi := { dst := some 69, op := Op.binOp BinOp.neq 3 (Operand.tmp 60) (Operand.tmp 68) 3, type := 4, pos := "law.go:110", after := #[{ on := 0, ground := Ground.data }, { on := 8, ground := Ground.data }], guard := none }) (v := ?_) rfl (by kernel_rfl) (by kernel_rfl) (by kernel_rfl) (fun _ _ _ h => h) (Or.inl ⟨by rfl, ?_⟩) (by assumption) ?_
            rotate_left
            · intro w hSw
              clear hSw
              go_simp
              all_goals with_reducible rfl
            simp only [Act.put, List.setIfInBounds_toArray, List.set_cons_zero, List.set_cons_succ]
            refine wpAnyH_take (i := 10) (oi := { dst := some 70, op := Op.move (Operand.tmp 69), type := 4, pos := "law.go:110", after := #[{ on := 9, ground := Ground.data }, { on := 8, ground := Ground.chain }], guard := none }) (v := ?_) rfl (by kernel_rfl) (by kernel_rfl) (by kernel_rfl) (fun _ _ _ h => h) (Or.inl ⟨by rfl, ?_⟩) (by assumption) ?_
            rotate_left
            · intro w hSw
              clear hSw
              go_simp
              all_goals with_reducible rfl
            simp only [Act.put, List.setIfInBounds_toArray, List.set_cons_zero, List.set_cons_succ]
            refine wpAnyH_take (i := 11) (oi := { dst := some 71, op := Op.move (Operand.tmp 11), type := 29, pos := "law.go:110", after := #[{ on := 10, ground := Ground.guard }], guard := some (10, false) }) (v := ?_) rfl (by kernel_rfl) (by kernel_rfl) (by kernel_rfl) (fun _ _ _ h => h) (Or.inl ⟨by rfl, ?_⟩) (by assumption) ?_
            rotate_left
            · intro w hSw
              clear hSw
              go_simp
              all_goals with_reducible rfl
            simp only [Act.put, List.setIfInBounds_toArray, List.set_cons_zero, List.set_cons_succ]
            refine wpAnyH_take (i := 12) (oi := { dst := some 72, op := Op.fieldAddr 48 (Operand.tmp 9) 3, type := 0, pos := "law.go:110", after := #[{ on := 10, ground := Ground.guard }], guard := some (10, false) }) (v := ?_) rfl (by kernel_rfl) (by kernel_rfl) (by kernel_rfl) (fun _ _ _ h => h) (Or.inl ⟨by rfl, ?_⟩) (by assumption) ?_
            rotate_left
            · intro w hSw
              clear hSw
              go_simp
              all_goals with_reducible rfl
            simp only [Act.put, List.setIfInBounds_toArray, List.set_cons_zero, List.set_cons_succ]
            refine wpAnyH_take (i := 13) (oi := { dst := some 73, op := Op.load 5 (Operand.tmp 72), type := 5, pos := "law.go:110", after := #[{ on := 12, ground := Ground.data }, { on := 10, ground := Ground.guard }], guard := some (10, false) }) (v := ?_) rfl (by kernel_rfl) (by kernel_rfl) (by kernel_rfl) (fun _ _ _ h => h) (Or.inl ⟨by rfl, ?_⟩) (by assumption) ?_
            rotate_left
            · intro w hSw
              obtain ⟨x0, x1, x2, x3, x4, x5, x6⟩ := cells7 hSw.1
              clear hSw
              go_simp
              all_goals with_reducible rfl
            simp only [Act.put, List.setIfInBounds_toArray, List.set_cons_zero, List.set_cons_succ]
            refine wpAnyH_take (i := 14) (oi := { dst := some 74, op := Op.move (Operand.tmp 10), type := 3, pos := "law.go:110", after := #[{ on := 10, ground := Ground.guard }], guard := some (10, false) }) (v := ?_) rfl (by kernel_rfl) (by kernel_rfl) (by kernel_rfl) (fun _ _ _ h => h) (Or.inl ⟨by rfl, ?_⟩) (by assumption) ?_
            rotate_left
            · intro w hSw
              clear hSw
              go_simp
              all_goals with_reducible rfl
            simp only [Act.put, List.setIfInBounds_toArray, List.set_cons_zero, List.set_cons_succ]
            refine wpAnyH_ready (rs := [15]) (by kernel_rfl) (by simp) ?_
            refine AllReadyH.cons (o := { dst := some 75, op := Op.call { callee := Callee.value (Operand.func 14), args := #[Operand.tmp 73, Operand.tmp 74], argTypes := #[5, 3] }, type := 29, pos := "law.go:110", after := #[{ on := 13, ground := Ground.data }, { on := 14, ground := Ground.data }, { on := 10, ground := Ground.chain }, { on := 10, ground := Ground.guard }], guard := some (10, false) }) rfl (fun K hK => ?_) AllReadyH.nil
            go_simp
            refine (sector_any f 128 z3 (by omega)).mono ?_
            rintro e z4 ⟨rfl, hr, hb⟩
            rw [← HTT.out] at hr
            have P8 := hide (P7.out.below hb)
            have R8 := hide hr
            clear hr hb P7 hHeld
            generalize z3.heap.size = g8 at *
            refine hK.out _ _ ⟨P8.out.told HX2.out, P8.out.told HF2.out⟩ (fun hHeld => ?_)
            clear hK K
            try simp only [Act.put, List.setIfInBounds_toArray, List.set_cons_zero, List.set_cons_succ]
            refine wpAnyH_ready (rs := [16]) (by kernel_rfl) (by simp) ?_
            refine AllReadyH.cons (o := { dst := some 76, op := Op.call { callee := Callee.value (Operand.func 24), args := #[Operand.tmp 71, Operand.tmp 75, Operand.const (Value.int IntKind.u8 165)], argTypes := #[29, 29, 5] }, type := 4, pos := "law.go:110", after := #[{ on := 11, ground := Ground.data }, { on := 15, ground := Ground.data }, { on := 15, ground := Ground.chain }, { on := 10, ground := Ground.guard }], guard := some (10, false) }) rfl (fun K hK => ?_) AllReadyH.nil
            go_simp
            refine (intact_any gf (.slice (some ⟨g8, 0, none⟩) 128 128) t 208 z4 (by rw [HTL.out]) (slice_row R8.out HTL.out (by omega)) (by rw [HTL.out]; omega) (P8.out.told HF2.out)).mono ?_
            rintro e z5 ⟨rfl, hst⟩
            have P9 := hide (P8.out.below (hst.below _))
            clear hst P8 R8 hHeld
            refine hK.out _ _ ⟨P9.out.told HX2.out, P9.out.told HF2.out⟩ (fun hHeld => ?_)
            clear hK K
            try simp only [Act.put, List.setIfInBounds_toArray, List.set_cons_zero, List.set_cons_succ]
            refine wpAnyH_take (i := 17) (oi := { dst := some 77, op := Op.unOp UnOp.not 4 (Operand.tmp 76), type := 4, pos := "law.go:110", after := #[{ on := 16, ground := Ground.data }, { on := 10, ground := Ground.guard }], guard := some (10, false) }) (v := ?_) rfl (by kernel_rfl) (by kernel_rfl) (by kernel_rfl) (fun _ _ _ h => h) (Or.inl ⟨by rfl, ?_⟩) (by assumption) ?_
            rotate_left
            · intro w hSw
              clear hSw
              go_simp
              all_goals with_reducible rfl
            simp only [Act.put, List.setIfInBounds_toArray, List.set_cons_zero, List.set_cons_succ]
            refine wpAnyH_take (i := 18) (oi := { dst := some 78, op := Op.pick (Operand.tmp 70) (Operand.const (Value.bool true)) (Operand.tmp 77), type := 4, pos := "law.go:110", after := #[{ on := 10, ground := Ground.data }, { on := 17, ground := Ground.data }], guard := none }) (v := ?_) rfl (by kernel_rfl) (by kernel_rfl) (by kernel_rfl) (fun _ _ _ h => h) (Or.inl ⟨by rfl, ?_⟩) (by assumption) ?_
            rotate_left
            · intro w hSw
              clear hSw
              go_simp
              all_goals with_reducible rfl
            simp only [Act.put, List.setIfInBounds_toArray, List.set_cons_zero, List.set_cons_succ]
            refine wpAnyH_done (by kernel_rfl) ?_ _
            refine NoPanic.normal ?_
            clear hHeld
            go_wp2_with fail
            go_loopw [13] (fun i wr2 => ∃ (j : Nat) (X : Nat → Option Obj) (xs : List UInt8), j ≤ 128 ∧ i = .int .i64 (j : Int) ∧ X gf = some (.cells (S.v8 xs) 5 (0, 0)) ∧ xs.length = 208 ∧ Pl X w wr2 g d5 gr d5) (fun i _ => 128 - (intOf i).toNat)
            case atStart => exact ⟨0, X2, S.roomy t, by omega, rfl, HF2.out, by simp [S.roomy, HTL.out], P9.out⟩
            case round =>
              obtain ⟨j, X, xs, hj, rfl, hXf, hxl, hpl⟩ := hrel
              have PJ := hide hpl
              have HXF := hide hXf
              clear hpl hXf P9
              by_cases hjl : j < 128
              · have hrow := PJ.out.told HXF.out
                have cj := v8_cell hrow j (by omega)
                have fj := frozen_of_row _ _ j _ _ hrow
                have V1 := v8_set hrow j 77
                have PN := hide (PJ.out.poke HXF.out hgf0 j (.int .u8 77) V1)
                have q1 : (0 : Int) ≤ (j : Int) := by omega
                have q2 : (j : Int) < 128 := by omega
                have q3 : (j : Int) < 208 := by omega
                have q4 : IntKind.i64.wrap ((j : Int) + 1) = (j : Int) + 1 := by rw [IntKind.wrap_i64]; omega
                clear hrow V1
                go_wp2_with fail
                go_roundw
                case rel => exact ⟨j + 1, _, xs.set j 77, by omega, by go_num, if_pos rfl, by simp [hxl], PN.out⟩
                case measure => simp [intOf]; omega
              · obtain rfl : j = 128 := by omega
                clear HXF hxl
                go_wp2_with fail
                refine (pl_alike _ w _ g gr d5 PJ.out (by have := HKD5.out.2; omega)).mono ?_
                rintro e wf ⟨rfl, hf⟩
                have PF := hide hf.forget
                clear hf PJ
                go_wp2_with fail
                go_roundw
                case rel => exact ⟨k + 1, g, d5, by omega, by omega, rfl, by go_num, PF.out, HKD5.out.1, HKD5.out.2⟩
                case measure => simp [intOf]; omega
        · skip
          have e1 : (kd == 1) = false := by rw [beq_eq_false_iff_ne]; omega
          have e2 : (kd == 2) = true := by rw [beq_iff_eq]; exact hkd
          clear hkd
          go_wp2_with (refine wpList_load_known rfl 48 (.tmp 39) rfl (.agg #[.int .i64 kd, .int .i64 nn, .int .i64 sz, .int .u8 (f.toNat : Int), .slice ak lk ck, .int .i64 tn, .int .i64 bt]) hld ?_; refine wpList_alloc_known rfl 48 rfl (.pointer (some ⟨wr.heap.size, 0, none⟩)) _ (hal _) ?_; refine wpList_store_known rfl 48 (.tmp 9) (.tmp 40) rfl (wr.alloc (.cells #[.int .i64 kd, .int .i64 nn, .int .i64 sz, .int .u8 (f.toNat : Int), .slice ak lk ck, .int .i64 tn, .int .i64 bt] 48)) hst ?_; simp only [Act.put, List.setIfInBounds_toArray, List.set_cons_zero, List.set_cons_succ])
          clear hld hst hal
          have PX0 := hide (PW.out.also ((Below.refl _ _).alloc (Nat.le_refl _) (.cells #[.int .i64 kd, .int .i64 nn, .int .i64 sz, .int .u8 (f.toNat : Int), .slice ak lk ck, .int .i64 tn, .int .i64 bt] 48 (0, 0))) wr.heap.size (.cells #[.int .i64 kd, .int .i64 nn, .int .i64 sz, .int .u8 (f.toNat : Int), .slice ak lk ck, .int .i64 tn, .int .i64 bt] 48 (0, 0)) (Nat.le_refl _) (heap_alloc_new _ _))
          obtain ⟨X1, hX1⟩ : ∃ X1 : Nat → Option Obj, X1 = (fun j => if j = wr.heap.size then some (.cells #[.int .i64 kd, .int .i64 nn, .int .i64 sz, .int .u8 (f.toNat : Int), .slice ak lk ck, .int .i64 tn, .int .i64 bt] 48 (0, 0)) else X0 j) := ⟨_, rfl⟩
          rw [← hX1] at PX0
          have HX0 : Hid (X1 wr.heap.size = some (.cells #[.int .i64 kd, .int .i64 nn, .int .i64 sz, .int .u8 (f.toNat : Int), .slice ak lk ck, .int .i64 tn, .int .i64 bt] 48 (0, 0))) := by show X1 wr.heap.size = _; rw [hX1]; exact if_pos rfl
          clear hX1 PW
          generalize wr.alloc (.cells #[.int .i64 kd, .int .i64 nn, .int .i64 sz, .int .u8 (f.toNat : Int), .slice ak lk ck, .int .i64 tn, .int .i64 bt] 48 (0, 0)) = wx at *
          generalize wr.heap.size = gx at *
          have PX := PX0
          have HX := HX0
          clear PX0 HX0
          refine (pl_flush X1 w wx g gr d d PX.out (by have := HKD.out.2; omega)).mono ?_
          rintro e w2 ⟨rfl, h2⟩
          have P2 := hide h2
          clear h2 PX
          go_wp2_with fail
          refine (pl_rflush X1 w w2 g gr _ d P2.out (by have := HKD.out.2; omega)).mono ?_
          rintro e w3 ⟨rfl, h3⟩
          obtain ⟨RS, hRS⟩ : ∃ RS, RS = d.fls.1 := ⟨_, rfl⟩
          obtain ⟨d5, hd5⟩ : ∃ d5, d5 = d.fls.2 := ⟨_, rfl⟩
          rw [← hd5] at h3
          rw [← hRS]
          have P3 := hide h3
          have HKD5 : Hid (d5.safe.length = SZ ∧ d5.pend.length ≤ k + 1) := by show _ ∧ _; rw [hd5]; exact ⟨(S.Dk.fls_safe _).trans HKD.out.1, Nat.le_trans (S.Dk.fls_pend _) (by have := HKD.out.2; omega)⟩
          clear h3 P2 hRS hd5
          go_wp2_with fail
          refine (pl_alike _ w _ g gr d5 P3.out (by have := HKD5.out.2; omega)).mono ?_
          rintro e wf ⟨rfl, hf⟩
          have PF := hide hf.forget
          clear hf P3
          go_wp2_with fail
          go_roundw
          case rel => exact ⟨k + 1, g, d5, by omega, by omega, rfl, by go_num, PF.out, HKD5.out.1, HKD5.out.2⟩
          case measure => simp [intOf]; omega
        · skip
          have e1 : (kd == 1) = false := by rw [beq_eq_false_iff_ne]; omega
          have e2 : (kd == 2) = false := by rw [beq_eq_false_iff_ne]; omega
          have e3 : (kd == 3) = true := by rw [beq_iff_eq]; exact hkd
          clear hkd
          go_wp2_with (refine wpList_load_known rfl 48 (.tmp 39) rfl (.agg #[.int .i64 kd, .int .i64 nn, .int .i64 sz, .int .u8 (f.toNat : Int), .slice ak lk ck, .int .i64 tn, .int .i64 bt]) hld ?_; refine wpList_alloc_known rfl 48 rfl (.pointer (some ⟨wr.heap.size, 0, none⟩)) _ (hal _) ?_; refine wpList_store_known rfl 48 (.tmp 9) (.tmp 40) rfl (wr.alloc (.cells #[.int .i64 kd, .int .i64 nn, .int .i64 sz, .int .u8 (f.toNat : Int), .slice ak lk ck, .int .i64 tn, .int .i64 bt] 48)) hst ?_; simp only [Act.put, List.setIfInBounds_toArray, List.set_cons_zero, List.set_cons_succ])
          clear hld hst hal
          have PX0 := hide (PW.out.also ((Below.refl _ _).alloc (Nat.le_refl _) (.cells #[.int .i64 kd, .int .i64 nn, .int .i64 sz, .int .u8 (f.toNat : Int), .slice ak lk ck, .int .i64 tn, .int .i64 bt] 48 (0, 0))) wr.heap.size (.cells #[.int .i64 kd, .int .i64 nn, .int .i64 sz, .int .u8 (f.toNat : Int), .slice ak lk ck, .int .i64 tn, .int .i64 bt] 48 (0, 0)) (Nat.le_refl _) (heap_alloc_new _ _))
          obtain ⟨X1, hX1⟩ : ∃ X1 : Nat → Option Obj, X1 = (fun j => if j = wr.heap.size then some (.cells #[.int .i64 kd, .int .i64 nn, .int .i64 sz, .int .u8 (f.toNat : Int), .slice ak lk ck, .int .i64 tn, .int .i64 bt] 48 (0, 0)) else X0 j) := ⟨_, rfl⟩
          rw [← hX1] at PX0
          have HX0 : Hid (X1 wr.heap.size = some (.cells #[.int .i64 kd, .int .i64 nn, .int .i64 sz, .int .u8 (f.toNat : Int), .slice ak lk ck, .int .i64 tn, .int .i64 bt] 48 (0, 0))) := by show X1 wr.heap.size = _; rw [hX1]; exact if_pos rfl
          clear hX1 PW
          generalize wr.alloc (.cells #[.int .i64 kd, .int .i64 nn, .int .i64 sz, .int .u8 (f.toNat : Int), .slice ak lk ck, .int .i64 tn, .int .i64 bt] 48 (0, 0)) = wx at *
          generalize wr.heap.size = gx at *
          have PX := PX0
          have HX := HX0
          clear PX0 HX0
          refine (pl_stop sz X1 w wx g gr d d PX.out hszb).mono ?_
          rintro e w2 ⟨rfl, h2⟩
          have P2 := hide h2
          clear h2 PX
          obtain ⟨x0, x1, x2, x3, x4, x5, x6⟩ := cells7 (P2.out.told HX.out)
          go_wp2_with fail
          refine (pl_rstop sz X1 w w2 g gr _ d P2.out hszb).mono ?_
          rintro e w3 ⟨rfl, h3⟩
          obtain ⟨d5, hd5⟩ : ∃ d5, d5 = d.stop sz := ⟨_, rfl⟩
          rw [← hd5] at h3
          have P3 := hide h3
          have HKD5 : Hid (d5.safe.length = SZ ∧ d5.pend.length ≤ k + 1) := by show _ ∧ _; rw [hd5]; exact ⟨HKD.out.1, by have := HKD.out.2; show d.pend.length ≤ k + 1; omega⟩
          clear x0 x1 x2 x3 x4 x5 x6
          clear h3 P2 hd5
          go_wp2_with fail
          refine (pl_alike _ w _ g gr d5 P3.out (by have := HKD5.out.2; omega)).mono ?_
          rintro e wf ⟨rfl, hf⟩
          have PF := hide hf.forget
          clear hf P3
          go_wp2_with fail
          go_roundw
          case rel => exact ⟨k + 1, g, d5, by omega, by omega, rfl, by go_num, PF.out, HKD5.out.1, HKD5.out.2⟩
          case measure => simp [intOf]; omega
        · skip
          have e1 : (kd == 1) = false := by rw [beq_eq_false_iff_ne]; omega
          have e2 : (kd == 2) = false := by rw [beq_eq_false_iff_ne]; omega
          have e3 : (kd == 3) = false := by rw [beq_eq_false_iff_ne]; omega
          have e4 : (kd == 4) = true := by rw [beq_iff_eq]; exact hkd
          clear hkd
          go_wp2_with (refine wpList_load_known rfl 48 (.tmp 39) rfl (.agg #[.int .i64 kd, .int .i64 nn, .int .i64 sz, .int .u8 (f.toNat : Int), .slice ak lk ck, .int .i64 tn, .int .i64 bt]) hld ?_; refine wpList_alloc_known rfl 48 rfl (.pointer (some ⟨wr.heap.size, 0, none⟩)) _ (hal _) ?_; refine wpList_store_known rfl 48 (.tmp 9) (.tmp 40) rfl (wr.alloc (.cells #[.int .i64 kd, .int .i64 nn, .int .i64 sz, .int .u8 (f.toNat : Int), .slice ak lk ck, .int .i64 tn, .int .i64 bt] 48)) hst ?_; simp only [Act.put, List.setIfInBounds_toArray, List.set_cons_zero, List.set_cons_succ])
          clear hld hst hal
          have PX0 := hide (PW.out.also ((Below.refl _ _).alloc (Nat.le_refl _) (.cells #[.int .i64 kd, .int .i64 nn, .int .i64 sz, .int .u8 (f.toNat : Int), .slice ak lk ck, .int .i64 tn, .int .i64 bt] 48 (0, 0))) wr.heap.size (.cells #[.int .i64 kd, .int .i64 nn, .int .i64 sz, .int .u8 (f.toNat : Int), .slice ak lk ck, .int .i64 tn, .int .i64 bt] 48 (0, 0)) (Nat.le_refl _) (heap_alloc_new _ _))
          obtain ⟨X1, hX1⟩ : ∃ X1 : Nat → Option Obj, X1 = (fun j => if j = wr.heap.size then some (.cells #[.int .i64 kd, .int .i64 nn, .int .i64 sz, .int .u8 (f.toNat : Int), .slice ak lk ck, .int .i64 tn, .int .i64 bt] 48 (0, 0)) else X0 j) := ⟨_, rfl⟩
          rw [← hX1] at PX0
          have HX0 : Hid (X1 wr.heap.size = some (.cells #[.int .i64 kd, .int .i64 nn, .int .i64 sz, .int .u8 (f.toNat : Int), .slice ak lk ck, .int .i64 tn, .int .i64 bt] 48 (0, 0))) := by show X1 wr.heap.size = _; rw [hX1]; exact if_pos rfl
          clear hX1 PW
          generalize wr.alloc (.cells #[.int .i64 kd, .int .i64 nn, .int .i64 sz, .int .u8 (f.toNat : Int), .slice ak lk ck, .int .i64 tn, .int .i64 bt] 48 (0, 0)) = wx at *
          generalize wr.heap.size = gx at *
          have PX := PX0
          have HX := HX0
          clear PX0 HX0
          have CALL := pl_crash (.slice ak lk ck) q.cut X1 w wx g gr d d PX.out (by have := HKD.out.2; omega) HBO.out
          rw [← HTN.out, ← HBT.out] at CALL
          refine CALL.mono ?_
          clear CALL
          rintro e w2 ⟨rfl, h2⟩
          have P2 := hide h2
          clear h2 PX
          obtain ⟨x0, x1, x2, x3, x4, x5, x6⟩ := cells7 (P2.out.told HX.out)
          go_wp2_with fail
          have CALL := pl_rcrash (.slice ak lk ck) q.cut X1 w w2 g gr _ d P2.out (by have := HKD.out.2; omega) HBO.out
          rw [← HTN.out, ← HBT.out] at CALL
          refine CALL.mono ?_
          clear CALL
          rintro e w3 ⟨rfl, h3⟩
          obtain ⟨d5, hd5⟩ : ∃ d5, d5 = d.crash q.cut := ⟨_, rfl⟩
          rw [← hd5] at h3
          have P3 := hide h3
          have HKD5 : Hid (d5.safe.length = SZ ∧ d5.pend.length ≤ k + 1) := by show _ ∧ _; rw [hd5]; exact ⟨(S.crashTo_length _ _ _ _).trans HKD.out.1, Nat.zero_le _⟩
          clear x0 x1 x2 x3 x4 x5 x6
          clear h3 P2 hd5
          go_wp2_with fail
          refine (pl_alike _ w _ g gr d5 P3.out (by have := HKD5.out.2; omega)).mono ?_
          rintro e wf ⟨rfl, hf⟩
          have PF := hide hf.forget
          clear hf P3
          go_wp2_with fail
          go_roundw
          case rel => exact ⟨k + 1, g, d5, by omega, by omega, rfl, by go_num, PF.out, HKD5.out.1, HKD5.out.2⟩
          case measure => simp [intOf]; omega
        · skip
          have e1 : (kd == 1) = false := by rw [beq_eq_false_iff_ne]; omega
          have e2 : (kd == 2) = false := by rw [beq_eq_false_iff_ne]; omega
          have e3 : (kd == 3) = false := by rw [beq_eq_false_iff_ne]; omega
          have e4 : (kd == 4) = false := by rw [beq_eq_false_iff_ne]; omega
          have e5 : (kd == 5) = true := by rw [beq_iff_eq]; exact hkd
          clear hkd
          go_wp2_with (refine wpList_load_known rfl 48 (.tmp 39) rfl (.agg #[.int .i64 kd, .int .i64 nn, .int .i64 sz, .int .u8 (f.toNat : Int), .slice ak lk ck, .int .i64 tn, .int .i64 bt]) hld ?_; refine wpList_alloc_known rfl 48 rfl (.pointer (some ⟨wr.heap.size, 0, none⟩)) _ (hal _) ?_; refine wpList_store_known rfl 48 (.tmp 9) (.tmp 40) rfl (wr.alloc (.cells #[.int .i64 kd, .int .i64 nn, .int .i64 sz, .int .u8 (f.toNat : Int), .slice ak lk ck, .int .i64 tn, .int .i64 bt] 48)) hst ?_; simp only [Act.put, List.setIfInBounds_toArray, List.set_cons_zero, List.set_cons_succ])
          clear hld hst hal
          have PX0 := hide (PW.out.also ((Below.refl _ _).alloc (Nat.le_refl _) (.cells #[.int .i64 kd, .int .i64 nn, .int .i64 sz, .int .u8 (f.toNat : Int), .slice ak lk ck, .int .i64 tn, .int .i64 bt] 48 (0, 0))) wr.heap.size (.cells #[.int .i64 kd, .int .i64 nn, .int .i64 sz, .int .u8 (f.toNat : Int), .slice ak lk ck, .int .i64 tn, .int .i64 bt] 48 (0, 0)) (Nat.le_refl _) (heap_alloc_new _ _))
          obtain ⟨X1, hX1⟩ : ∃ X1 : Nat → Option Obj, X1 = (fun j => if j = wr.heap.size then some (.cells #[.int .i64 kd, .int .i64 nn, .int .i64 sz, .int .u8 (f.toNat : Int), .slice ak lk ck, .int .i64 tn, .int .i64 bt] 48 (0, 0)) else X0 j) := ⟨_, rfl⟩
          rw [← hX1] at PX0
          have HX0 : Hid (X1 wr.heap.size = some (.cells #[.int .i64 kd, .int .i64 nn, .int .i64 sz, .int .u8 (f.toNat : Int), .slice ak lk ck, .int .i64 tn, .int .i64 bt] 48 (0, 0))) := by show X1 wr.heap.size = _; rw [hX1]; exact if_pos rfl
          clear hX1 PW
          generalize wr.alloc (.cells #[.int .i64 kd, .int .i64 nn, .int .i64 sz, .int .u8 (f.toNat : Int), .slice ak lk ck, .int .i64 tn, .int .i64 bt] 48 (0, 0)) = wx at *
          generalize wr.heap.size = gx at *
          have PX := PX0
          have HX := HX0
          clear PX0 HX0
          refine (pl3_copy X1 w wx g gr d PX.out (by rw [HKD.out.1]; omega) (by have := HKD.out.2; omega)).mono ?_
          rintro e w2 ⟨gc, rfl, h2, h2'⟩
          have P2 := hide h2
          have P2' := hide h2'
          have HKD5 : Hid (d.safe.length = SZ ∧ d.pend.length ≤ k + 1) := ⟨HKD.out.1, by have := HKD.out.2; omega⟩
          clear h2 h2' PX
          by_cases hpar : sz.tmod 2 = 0
          · have hpe : (sz.tmod 2 == 0) = true := by rw [beq_iff_eq]; exact hpar
            clear hpar P2'
            go_wp2_with fail
            refine (pl3_alike X1 w w2 g gc gr d d P2.out (by have := HKD.out.2; omega)).mono ?_
            rintro e w3 ⟨rfl, h3⟩
            have P3 := hide h3
            clear h3 P2
            obtain ⟨x0, x1, x2, x3, x4, x5, x6⟩ := cells7 (P3.out.pl.told HX.out)
            go_wp2_with fail
            refine (pl3_crash (.slice none 0 0) ⟨[], -1, 0⟩ X1 w w3 g gc gr d d P3.out (by have := HKD.out.2; omega) (bools_nil _)).mono ?_
            rintro e w4 ⟨rfl, h4⟩
            have P4 := hide h4
            clear x0 x1 x2 x3 x4 x5 x6
            clear h4 P3
            go_wp2_with fail
            refine (sector_any 99 128 w4 (by omega)).mono ?_
            rintro e w5 ⟨rfl, hr5, hb5⟩
            have CALL := pl3_write 0 w4.heap.size 128 _ X1 w w4 w5 g gc gr _ d P4.out hb5 (Nat.zero_le _) (Nat.le_refl _) hr5 (S.sec_length _ _) (by omega)
            clear hr5
            go_wp2_with fail
            refine CALL.mono ?_
            clear CALL
            rintro e w6 ⟨rfl, h6⟩
            have P6 := hide h6.pl
            clear h6 P4 hb5
            go_wp2_with fail
            refine (pl_alike _ w _ gc gr d P6.out (by have := HKD5.out.2; omega)).mono ?_
            rintro e wf ⟨rfl, hf⟩
            have PF := hide hf.forget
            clear hf P6
            go_wp2_with fail
            go_roundw
            case rel => exact ⟨k + 1, gc, d, by omega, by omega, rfl, by go_num, PF.out, HKD5.out.1, HKD5.out.2⟩
            case measure => simp [intOf]; omega
          · have hpe : (sz.tmod 2 == 0) = false := by rw [beq_eq_false_iff_ne]; exact hpar
            clear hpar P2
            go_wp2_with fail
            refine (pl3_alike_v X1 w w2 gc g gr d P2'.out (by have := HKD.out.2; omega)).mono ?_
            rintro e w3 ⟨rfl, h3⟩
            have P3 := hide h3
            clear h3 P2' 
            obtain ⟨x0, x1, x2, x3, x4, x5, x6⟩ := cells7 (P3.out.pl.told HX.out)
            go_wp2_with fail
            refine (pl3_crash (.slice none 0 0) ⟨[], -1, 0⟩ X1 w w3 gc g gr d d P3.out (by have := HKD.out.2; omega) (bools_nil _)).mono ?_
            rintro e w4 ⟨rfl, h4⟩
            have P4 := hide h4
            clear x0 x1 x2 x3 x4 x5 x6
            clear h4 P3
            go_wp2_with fail
            refine (sector_any 99 128 w4 (by omega)).mono ?_
            rintro e w5 ⟨rfl, hr5, hb5⟩
            have CALL := pl3_write 0 w4.heap.size 128 _ X1 w w4 w5 gc g gr _ d P4.out hb5 (Nat.zero_le _) (Nat.le_refl _) hr5 (S.sec_length _ _) (by omega)
            clear hr5
            go_wp2_with fail
            refine CALL.mono ?_
            clear CALL
            rintro e w6 ⟨rfl, h6⟩
            have P6 := hide h6.pl
            clear h6 P4 hb5
            go_wp2_with fail
            refine (pl_alike _ w _ g gr d P6.out (by have := HKD5.out.2; omega)).mono ?_
            rintro e wf ⟨rfl, hf⟩
            have PF := hide hf.forget
            clear hf P6
            go_wp2_with fail
            go_roundw
            case rel => exact ⟨k + 1, g, d, by omega, by omega, rfl, by go_num, PF.out, HKD5.out.1, HKD5.out.2⟩
            case measure => simp [intOf]; omega
        · have e1 : (kd == 1) = false := by rw [beq_eq_false_iff_ne]; exact n1
          have e2 : (kd == 2) = false := by rw [beq_eq_false_iff_ne]; exact n2
          have e3 : (kd == 3) = false := by rw [beq_eq_false_iff_ne]; exact n3
          have e4 : (kd == 4) = false := by rw [beq_eq_false_iff_ne]; exact n4
          have e5 : (kd == 5) = false := by rw [beq_eq_false_iff_ne]; exact n5
          clear n1 n2 n3 n4 n5
          have HKD5 : Hid (d.safe.length = SZ ∧ d.pend.length ≤ k + 1) := ⟨HKD.out.1, by have := HKD.out.2; omega⟩
          go_wp2_with (refine wpList_load_known rfl 48 (.tmp 39) rfl (.agg #[.int .i64 kd, .int .i64 nn, .int .i64 sz, .int .u8 (f.toNat : Int), .slice ak lk ck, .int .i64 tn, .int .i64 bt]) hld ?_; refine wpList_alloc_known rfl 48 rfl (.pointer (some ⟨wr.heap.size, 0, none⟩)) _ (hal _) ?_; refine wpList_store_known rfl 48 (.tmp 9) (.tmp 40) rfl (wr.alloc (.cells #[.int .i64 kd, .int .i64 nn, .int .i64 sz, .int .u8 (f.toNat : Int), .slice ak lk ck, .int .i64 tn, .int .i64 bt] 48)) hst ?_; simp only [Act.put, List.setIfInBounds_toArray, List.set_cons_zero, List.set_cons_succ])
          clear hld hst hal
          have PX0 := hide (PW.out.also ((Below.refl _ _).alloc (Nat.le_refl _) (.cells #[.int .i64 kd, .int .i64 nn, .int .i64 sz, .int .u8 (f.toNat : Int), .slice ak lk ck, .int .i64 tn, .int .i64 bt] 48 (0, 0))) wr.heap.size (.cells #[.int .i64 kd, .int .i64 nn, .int .i64 sz, .int .u8 (f.toNat : Int), .slice ak lk ck, .int .i64 tn, .int .i64 bt] 48 (0, 0)) (Nat.le_refl _) (heap_alloc_new _ _))
          obtain ⟨X1, hX1⟩ : ∃ X1 : Nat → Option Obj, X1 = (fun j => if j = wr.heap.size then some (.cells #[.int .i64 kd, .int .i64 nn, .int .i64 sz, .int .u8 (f.toNat : Int), .slice ak lk ck, .int .i64 tn, .int .i64 bt] 48 (0, 0)) else X0 j) := ⟨_, rfl⟩
          rw [← hX1] at PX0
          have HX0 : Hid (X1 wr.heap.size = some (.cells #[.int .i64 kd, .int .i64 nn, .int .i64 sz, .int .u8 (f.toNat : Int), .slice ak lk ck, .int .i64 tn, .int .i64 bt] 48 (0, 0))) := by show X1 wr.heap.size = _; rw [hX1]; exact if_pos rfl
          clear hX1 PW
          generalize wr.alloc (.cells #[.int .i64 kd, .int .i64 nn, .int .i64 sz, .int .u8 (f.toNat : Int), .slice ak lk ck, .int .i64 tn, .int .i64 bt] 48 (0, 0)) = wx at *
          generalize wr.heap.size = gx at *
          have PX := PX0
          have HX := HX0
          clear PX0 HX0
          refine (pl_alike _ w _ g gr d PX.out (by have := HKD5.out.2; omega)).mono ?_
          rintro e wf ⟨rfl, hf⟩
          have PF := hide hf.forget
          clear hf PX
          go_wp2_with fail
          go_roundw
          case rel => exact ⟨k + 1, g, d, by omega, by omega, rfl, by go_num, PF.out, HKD5.out.1, HKD5.out.2⟩
          case measure => simp [intOf]; omega
      · have q3 : (k : Int) < (L : Int) := by omega
        have q4 : ¬ ((k : Int) < 40) := by omega
        go_wp2_with fail
        refine (known_any wr).mono ?_
        rintro e w7 ⟨rfl, hb⟩
        have HBF := hide (PW.out.base.trans (hb.mono PW.out.base.size))
        clear hb
        go_wp2_with fail
        go_ret
        exact ⟨rfl, HBF.out⟩
    · have q3 : ¬ ((k : Int) < (L : Int)) := by omega
      go_wp2_with fail
      refine (known_any wr).mono ?_
      rintro e w7 ⟨rfl, hb⟩
      have HBF := hide (PW.out.base.trans (hb.mono PW.out.base.size))
      clear hb
      go_wp2_with fail
      go_ret
      exact ⟨rfl, HBF.out⟩
end Go.Proofs.Ytjnbjgkcliaipaa
