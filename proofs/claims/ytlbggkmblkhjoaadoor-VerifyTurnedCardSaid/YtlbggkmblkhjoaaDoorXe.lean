/- Two rows of digests that read the same are the same. -/
import Derived.Test.YtlbggkmblkhjoaaDoorMi
import Derived.Test.YtlbggkmblkhjoaaDoorWj
import Derived.Test.YtlbggkmblkhjoaaDoorArgg
import Derived.Test.YtlbggkmblkhjoaaDoorMc
import Derived.Test.YtlbggkmblkhjoaaDoorWo
namespace Go.Proofs.YtlbggkmblkhjoaaDoor
open Go.RowKit

set_option maxHeartbeats 2000000 in
set_option maxRecDepth 10000 in
theorem same_dg (v u : Value) (ds : List (List UInt8)) (w : World) (hv : DgAt w v ds) (hu : DgAt w u ds) :
   Calls Tryd.prog 44 #[v, u] w fun e w' => e = .returned (.bool true) ∧ Still w w' := by
  obtain ⟨ao, cap, rfl, hmax, hd, hA⟩ := hv
  obtain ⟨ao2, cap2, rfl, _, _, hA2⟩ := hu
  have HA := hide hA
  have HA2 := hide hA2
  have HD := hide hd
  obtain ⟨len, hlen⟩ : ∃ len, len = ds.length := ⟨_, rfl⟩
  have HL := hide hlen
  rw [← hlen] at hmax ⊢
  clear hA hA2 hd hlen
  go_enter Tryd.func44, Tryd.ntmps44
  go_wp2
  go_loopw [5] (fun i wr => ∃ k : Nat, k ≤ len ∧ i = .int .i64 (k : Int) ∧ Still w wr) (fun i _ => len - (intOf i).toNat)
  case atStart => exact ⟨0, by omega, rfl, Still.refl _⟩
  case round =>
    obtain ⟨k, hk, rfl, hst⟩ := hrel
    by_cases hlt : k < len
    · have hkd : k < ds.length := by have := HL.out; omega
      obtain ⟨g, off, rfl, _, hc⟩ := HA.out (by omega)
      obtain ⟨g2, off2, rfl, _, hc2⟩ := HA2.out (by omega)
      obtain ⟨D, hD⟩ : ∃ D, D = ds.getD k [] := ⟨_, rfl⟩
      have hDl : D.length = 32 := by rw [hD, List.getD_eq_getElem?_getD, List.getElem?_eq_getElem hkd]; exact HD.out _ (List.getElem_mem hkd)
      have r1 : wr.rangeAt g (off + k * 32) (S.v8l D) := fun j x hx => (World.cell?_of_block (by rw [hst.1])).trans (hc k hkd j x (by rw [← hD]; exact hx))
      have r2 : wr.rangeAt g2 (off2 + k * 32) (S.v8l D) := fun j x hx => (World.cell?_of_block (by rw [hst.1])).trans (hc2 k hkd j x (by rw [← hD]; exact hx))
      have hsz : (Tryd.prog.info? 23).map (·.size) = some (S.v8l D).length := by rw [S.v8l_length, hDl]; exact size23
      have heq : ∀ w, (Op.equalIn 10000 23 (.agg (S.v8l D).toArray) (.agg (S.v8l D).toArray)).run Tryd.prog w = .ok true w := fun w => equal_dig D D hDl hDl true (by simp) w
      have q1 : (0 : Int) ≤ (k : Int) := by omega
      have q2 : (k : Int) < (len : Int) := by omega
      have q4 : IntKind.i64.wrap ((k : Int) + 1) = (k : Int) + 1 := by rw [IntKind.wrap_i64]; omega
      have ST := hide hst
      have R1 := hide r1
      have R2 := hide r2
      have HS := hide hsz
      generalize hcs : S.v8l D = cs at R1 R2 HS heq
      clear hc hc2 hst r1 r2 hsz hD hDl hcs
      go_wp2_with fail
      refine wp_region_noPanic ?_
      refine wp_region_held_drew (S := (fun W => W.rangeAt g (off + k * 32) cs ∧ W.rangeAt g2 (off2 + k * 32) cs)) follows ⟨R1.out, R2.out⟩ (fun hHeld => ?_)
      have SZ : Hid (Still w wr.drew) := ST.out.drew
      clear ST R1 R2
      generalize wr.drew = Z at SZ hHeld ⊢
      refine wpAnyH_take (i := 0) (oi := { dst := some 17, op := Op.move (Operand.tmp 0), type := 32, pos := "book.go:17", after := #[], guard := none }) (v := ?_) rfl (by kernel_rfl) (by kernel_rfl) (by kernel_rfl) (fun _ _ _ h => h) (Or.inl ⟨by rfl, ?_⟩) (by assumption) ?_
      rotate_left
      · intro w hSw
        clear hSw
        go_simp
        all_goals with_reducible rfl
      simp only [Act.put, List.setIfInBounds_toArray, List.set_cons_zero, List.set_cons_succ]
      refine wpAnyH_take (i := 1) (oi := { dst := some 18, op := Op.move (Operand.tmp 5), type := 3, pos := "book.go:17", after := #[], guard := none }) (v := ?_) rfl (by kernel_rfl) (by kernel_rfl) (by kernel_rfl) (fun _ _ _ h => h) (Or.inl ⟨by rfl, ?_⟩) (by assumption) ?_
      rotate_left
      · intro w hSw
        clear hSw
        go_simp
        all_goals with_reducible rfl
      simp only [Act.put, List.setIfInBounds_toArray, List.set_cons_zero, List.set_cons_succ]
      refine wpAnyH_take (i := 2) (oi := { dst := some 19, op := Op.indexAddr 32 (Operand.tmp 17) (Operand.tmp 18), type := 0, pos := "book.go:17", after := #[{ on := 0, ground := Ground.data }, { on := 1, ground := Ground.data }], guard := none }) (v := ?_) rfl (by kernel_rfl) (by kernel_rfl) (by kernel_rfl) (fun _ _ _ h => h) (Or.inl ⟨by rfl, ?_⟩) (by assumption) ?_
      rotate_left
      · intro w hSw
        clear hSw
        go_simp
        all_goals with_reducible rfl
      simp only [Act.put, List.setIfInBounds_toArray, List.set_cons_zero, List.set_cons_succ]
      refine wpAnyH_take (i := 3) (oi := { dst := some 20, op := Op.load 23 (Operand.tmp 19), type := 23, pos := "book.go:17", after := #[{ on := 2, ground := Ground.data }], guard := none }) (v := .agg cs.toArray) rfl (by kernel_rfl) (by kernel_rfl) (by kernel_rfl) (fun _ _ _ h => h) (yieldsIf_load_mid (by rfl) _ _ rfl g (off + k * 32) rfl cs _ (fun _ hSw => hSw.1) Tryd.underlying23 rfl HS.out) (by assumption) ?_
      simp only [Act.put, List.setIfInBounds_toArray, List.set_cons_zero, List.set_cons_succ]
      refine wpAnyH_take (i := 4) (oi := { dst := some 21, op := Op.move (Operand.tmp 1), type := 32, pos := "book.go:17", after := #[], guard := none }) (v := ?_) rfl (by kernel_rfl) (by kernel_rfl) (by kernel_rfl) (fun _ _ _ h => h) (Or.inl ⟨by rfl, ?_⟩) (by assumption) ?_
      rotate_left
      · intro w hSw
        clear hSw
        go_simp
        all_goals with_reducible rfl
      simp only [Act.put, List.setIfInBounds_toArray, List.set_cons_zero, List.set_cons_succ]
      refine wpAnyH_take (i := 5) (oi := { dst := some 22, op := Op.move (Operand.tmp 5), type := 3, pos := "book.go:17", after := #[], guard := none }) (v := ?_) rfl (by kernel_rfl) (by kernel_rfl) (by kernel_rfl) (fun _ _ _ h => h) (Or.inl ⟨by rfl, ?_⟩) (by assumption) ?_
      rotate_left
      · intro w hSw
        clear hSw
        go_simp
        all_goals with_reducible rfl
      simp only [Act.put, List.setIfInBounds_toArray, List.set_cons_zero, List.set_cons_succ]
      refine wpAnyH_take (i := 6) (oi := { dst := some 23, op := Op.indexAddr 32 (Operand.tmp 21) (Operand.tmp 22), type := 0, pos := "book.go:17", after := #[{ on := 4, ground := Ground.data }, { on := 5, ground := Ground.data }], guard := none }) (v := ?_) rfl (by kernel_rfl) (by kernel_rfl) (by kernel_rfl) (fun _ _ _ h => h) (Or.inl ⟨by rfl, ?_⟩) (by assumption) ?_
      rotate_left
      · intro w hSw
        clear hSw
        go_simp
        all_goals with_reducible rfl
      simp only [Act.put, List.setIfInBounds_toArray, List.set_cons_zero, List.set_cons_succ]
      refine wpAnyH_take (i := 7) (oi := { dst := some 24, op := Op.load 23 (Operand.tmp 23), type := 23, pos := "book.go:17", after := #[{ on := 6, ground := Ground.data }], guard := none }) (v := .agg cs.toArray) rfl (by kernel_rfl) (by kernel_rfl) (by kernel_rfl) (fun _ _ _ h => h) (yieldsIf_load_mid (by rfl) _ _ rfl g2 (off2 + k * 32) rfl cs _ (fun _ hSw => hSw.2) Tryd.underlying23 rfl HS.out) (by assumption) ?_
      simp only [Act.put, List.setIfInBounds_toArray, List.set_cons_zero, List.set_cons_succ]
      refine wpAnyH_take (i := 8) (oi := { dst := some 25, op := Op.binOp BinOp.neq 23 (Operand.tmp 20) (Operand.tmp 24) 23, type := 4, pos := "book.go:17", after := #[{ on := 3, ground := Ground.data }, { on := 7, ground := Ground.data }], guard := none }) (v := ?_) rfl (by kernel_rfl) (by kernel_rfl) (by kernel_rfl) (fun _ _ _ h => h) (Or.inl ⟨by rfl, ?_⟩) (by assumption) ?_
      rotate_left
      · intro w hSw
        clear hSw
        go_simp
        all_goals with_reducible rfl
      simp only [Act.put, List.setIfInBounds_toArray, List.set_cons_zero, List.set_cons_succ]
      refine wpAnyH_done (by kernel_rfl) ?_ _
      refine NoPanic.normal ?_
      clear hHeld heq
      go_wp2_with fail
      go_roundw
      case rel => exact ⟨k + 1, by omega, by go_num, SZ.out⟩
      case measure => simp [intOf]; omega
    · obtain rfl : k = len := by omega
      go_wp2
      go_ret
      exact ⟨rfl, hst⟩
end Go.Proofs.YtlbggkmblkhjoaaDoor
namespace Go.Proofs.YtlbggkmblkhjoaaDoor
open Go.RowKit

theorem flat_zeros (N : Nat) : (List.replicate N (S.zeros 32)).flatMap S.v8l = List.replicate (N * 32) (.int .u8 0) := by
  induction N with
  | zero => rfl
  | succ n ih =>
    rw [List.replicate_succ, List.flatMap_cons, ih, show S.v8l (S.zeros 32) = List.replicate 32 (.int .u8 0) from rfl, List.replicate_append_replicate]
    congr 1
    omega
theorem made_zeros (N : Nat) : (madeCells (S.v8 (S.zeros 32)) (N * 32)).toList = List.replicate (N * 32) (.int .u8 0) := by
  apply List.ext_getElem?
  intro j
  by_cases hj : j < N * 32
  · have h32 : j % 32 < 32 := Nat.mod_lt _ (by omega)
    have hs : (S.v8 (S.zeros 32)).size = 32 := by rw [S.v8_size, S.zeros_length]
    have hz : ∀ k, k < 32 → (S.v8 (S.zeros 32))[k]! = .int .u8 0 := fun k hk => by
      rw [S.v8_eq, show S.v8l (S.zeros 32) = List.replicate 32 (.int .u8 0) from rfl]
      rw [getElem!_pos _ _ (by rw [List.size_toArray, List.length_replicate]; exact hk)]
      rw [List.getElem_toArray, List.getElem_replicate]
    have e1 : (madeCells (S.v8 (S.zeros 32)) (N * 32)).toList[j]? = some (.int .u8 0) := by
      simp only [madeCells, Array.toList_map, Array.toList_range, List.getElem?_map, List.getElem?_range hj, Option.map_some, hs, hz _ h32]
    rw [e1, List.getElem?_replicate, if_pos hj]
  · rw [List.getElem?_eq_none (by simp [madeCells]; omega), List.getElem?_eq_none (by rw [List.length_replicate]; omega)]
theorem make_digs (N : Nat) (hN : N ≤ 100000) (w : World) : (Instr.makeSlice 32 (.int .i64 (N : Int)) (.int .i64 (N : Int))).run Tryd.prog w = .ok (.slice (some ⟨w.heap.size, 0, none⟩) N N) (w.alloc (.cells (madeCells (S.v8 (S.zeros 32)) (N * 32)) 23)) := by
  obtain ⟨i, hi, hz0, hz1, hz2⟩ := info_parts info31
  have h := run_makeSlice (P := Tryd.prog) w 32 23 i (.agg (S.v8 (S.zeros 32))) Tryd.underlying32 hi hz0 .i64 .i64 (N : Int) (N : Int) (by omega) (Int.le_refl _) (by rw [hz1]; simp; omega) (by rw [hz2]; omega) (by omega)
  rw [hz1] at h
  simpa [Value.cells] using h
theorem DgRow.made (w : World) (N : Nat) (hN : N ≤ 100000) : DgRow w.heap.size (w.alloc (.cells (madeCells (S.v8 (S.zeros 32)) (N * 32)) 23)) (.slice (some ⟨w.heap.size, 0, none⟩) N N) (List.replicate N (S.zeros 32)) := by
  unfold DgRow
  rw [List.length_replicate, flat_zeros]
  refine ⟨by rw [List.length_replicate], Or.inr ⟨w.heap.size, N, _, rfl, Nat.le_refl _, heap_alloc_new _ _, Nat.le_refl _, by simp [maxLen]; omega, size_madeCells _ _, ?_⟩⟩
  rw [made_zeros, List.take_of_length_le (by rw [List.length_replicate]; exact Nat.le_refl _)]
theorem flat_take (ds : List (List UInt8)) (h : ∀ d ∈ ds, d.length = 32) (k : Nat) (hk : k ≤ ds.length) : (ds.flatMap S.v8l).take (k * 32) = (ds.take k).flatMap S.v8l := by
  have e : ds.flatMap S.v8l = (ds.take k).flatMap S.v8l ++ (ds.drop k).flatMap S.v8l := by rw [← List.flatMap_append, List.take_append_drop]
  have hl : ((ds.take k).flatMap S.v8l).length = k * 32 := by rw [flat_len _ (fun d hd => h d (List.mem_of_mem_take hd)), List.length_take]; congr 1; omega
  rw [e, List.take_append_of_le_length (by omega), List.take_of_length_le (by omega)]
theorem flat_drop (ds : List (List UInt8)) (h : ∀ d ∈ ds, d.length = 32) (k : Nat) (hk : k ≤ ds.length) : (ds.flatMap S.v8l).drop (k * 32) = (ds.drop k).flatMap S.v8l := by
  have e : ds.flatMap S.v8l = (ds.take k).flatMap S.v8l ++ (ds.drop k).flatMap S.v8l := by rw [← List.flatMap_append, List.take_append_drop]
  have hl : ((ds.take k).flatMap S.v8l).length = k * 32 := by rw [flat_len _ (fun d hd => h d (List.mem_of_mem_take hd)), List.length_take]; congr 1; omega
  rw [e, ← hl, List.drop_left]
/-- New digests es are laid over those from the place k on. -/
theorem flat_lay (xs : List Value) (ds es : List (List UInt8)) (hd : ∀ d ∈ ds, d.length = 32) (he : ∀ d ∈ es, d.length = 32) (k N : Nat) (hN : N = ds.length) (hk : k + es.length ≤ N) (hx : xs.take (N * 32) = ds.flatMap S.v8l) :
    (xs.take (k * 32) ++ es.flatMap S.v8l ++ xs.drop (k * 32 + es.length * 32)).take (N * 32) = (ds.take k ++ es ++ ds.drop (k + es.length)).flatMap S.v8l := by
  have e1 : xs.take (k * 32) = (ds.take k).flatMap S.v8l := by
    rw [← flat_take ds hd k (by omega), ← hx, List.take_take]; congr 1; omega
  have hl1 : ((ds.take k).flatMap S.v8l).length = k * 32 := by rw [flat_len _ (fun d hd' => hd d (List.mem_of_mem_take hd')), List.length_take]; congr 1; omega
  have hl2 : (es.flatMap S.v8l).length = es.length * 32 := flat_len es he
  have e3 : (xs.drop (k * 32 + es.length * 32)).take (N * 32 - (k * 32 + es.length * 32)) = (ds.drop (k + es.length)).flatMap S.v8l := by
    rw [← flat_drop ds hd (k + es.length) (by omega), ← hx, List.drop_take]
    congr 1
    · omega
    · congr 1; omega
  rw [e1, List.take_append, List.take_of_length_le (by rw [List.length_append]; omega), List.length_append, hl1, hl2, e3, List.flatMap_append, List.flatMap_append]
/-- A row of digests over which others are laid. -/
theorem DgRow.laid {B : Nat} {w : World} {g N cap : Nat} {ds es : List (List UInt8)} (h : DgRow B w (.slice (some ⟨g, 0, none⟩) N cap) ds) (hd : ∀ d ∈ ds, d.length = 32) (he : ∀ d ∈ es, d.length = 32) (k : Nat) (hk : k + es.length ≤ ds.length) :
    ∃ cur : Array Value, w.heap[g]? = some (.cells cur 23 (0, 0)) ∧ k * 32 + es.length * 32 ≤ cur.size ∧ DgRow B (w.setRow g (cur.toList.take (k * 32) ++ es.flatMap S.v8l ++ cur.toList.drop (k * 32 + es.length * 32)).toArray) (.slice (some ⟨g, 0, none⟩) N cap) (ds.take k ++ es ++ ds.drop (k + es.length)) ∧ Chg (fun j => j = g) w (w.setRow g (cur.toList.take (k * 32) ++ es.flatMap S.v8l ++ cur.toList.drop (k * 32 + es.length * 32)).toArray) := by
  rcases h.2 with ⟨e, _⟩ | ⟨g', cap', cur, e, hB, hr, h1, h2, h3, h4⟩
  · simp at e
  simp only [Value.slice.injEq, Option.some.injEq, Addr.mk.injEq, and_true] at e
  obtain ⟨⟨rfl, _⟩, rfl, rfl⟩ := e
  have hNN : (ds.take k ++ es ++ ds.drop (k + es.length)).length = ds.length := by simp only [List.length_append, List.length_take, List.length_drop]; omega
  have hall : ∀ d ∈ ds.take k ++ es ++ ds.drop (k + es.length), d.length = 32 := fun d hd' => by
    rw [List.mem_append, List.mem_append] at hd'
    rcases hd' with (h | h) | h
    · exact hd d (List.mem_of_mem_take h)
    · exact he d h
    · exact hd d (List.mem_of_mem_drop h)
  refine ⟨cur, hr, by omega, ⟨by rw [flat_len _ hall], Or.inr ⟨g, cap, _, by rw [hNN], hB, setRow_heap _ _ _ _ _ _ hr, by rw [hNN]; exact h1, h2, ?_, ?_⟩⟩, ⟨rfl, rfl, rfl, by simp, fun j _ hj => setRow_other _ _ _ _ hj⟩⟩
  · have hl2 : (es.flatMap S.v8l).length = es.length * 32 := flat_len es he
    simp only [List.size_toArray, List.length_append, List.length_take, List.length_drop, hl2, Array.length_toList]
    omega
  · rw [hNN, List.toList_toArray]
    exact flat_lay cur.toList ds es hd he k ds.length rfl hk h4
/-- One digest of a row is stored. -/
theorem DgRow.set {B : Nat} {w : World} {g N cap : Nat} {ds : List (List UInt8)} (h : DgRow B w (.slice (some ⟨g, 0, none⟩) N cap) ds) (hd : ∀ d ∈ ds, d.length = 32) (k : Nat) (hk : k < ds.length) (m : List UInt8) (hm : m.length = 32) :
    ∃ w', (Instr.storeAt 23 (.pointer (some ⟨g, k * 32, none⟩)) (.agg (S.v8 m))).run Tryd.prog w = .ok () w' ∧ DgRow B w' (.slice (some ⟨g, 0, none⟩) N cap) (ds.set k m) ∧ Chg (fun j => j = g) w w' := by
  obtain ⟨cur, hr, hsz, hrow, hch⟩ := DgRow.laid h hd (es := [m]) (fun d hd' => by simp only [List.mem_singleton] at hd'; rw [hd']; exact hm) k (by show k + 1 ≤ ds.length; omega)
  have e1 : ds.take k ++ [m] ++ ds.drop (k + 1) = ds.set k m := by rw [List.set_eq_take_append_cons_drop, if_pos hk]; simp
  have hml : (S.v8l m).length = 32 := by rw [S.v8l_length, hm]
  rw [show [m].length = 1 from rfl, e1] at hrow
  refine ⟨_, ?_, hrow, hch⟩
  have hst := run_storeCells_at Tryd.prog g (k * 32) 23 (S.v8l m) 0 cur w hr (by rw [hml]; simpa using hsz) (S.v8l_one m)
  have hi := size_dig m hm
  cases hq : Tryd.prog.info? 23 with
  | none => simp [hq] at hi
  | some i =>
    have hs : (S.v8 m).size = i.size := by simp [hq] at hi; omega
    have hl : (S.v8 m).toList = S.v8l m := by rw [S.v8_eq]
    simp only [Nat.add_zero] at hst
    simp [Instr.storeAt, Instr.sureAddr, storeVar, sizeOf, typeInfo, hq, Value.cells, hs, hl, hst, hml]
/-- Digests that lie somewhere are copied over the first ones of a row. -/
theorem run_copy_digs {B : Nat} {w : World} {g N cap : Nat} {ds ps : List (List UInt8)} {u : Value} (ty : TypeId) (h : DgRow B w (.slice (some ⟨g, 0, none⟩) N cap) ds) (hd : ∀ d ∈ ds, d.length = 32) (hN : N = ds.length) (hu : DgAt w u ps) (hl : ps.length ≤ ds.length) :
    ∃ v' w', (Builtin.copy_ #[32, 32] ty #[.slice (some ⟨g, 0, none⟩) N cap, u]).run Tryd.prog w = .ok v' w' ∧ DgRow B w' (.slice (some ⟨g, 0, none⟩) N cap) (ps ++ ds.drop ps.length) ∧ Chg (fun j => j = g) w w' := by
  obtain ⟨ao, cp, rfl, _, hp, hs⟩ := hu
  obtain ⟨cur, hr, hsz, hrow, hch⟩ := DgRow.laid h hd hp 0 (by omega)
  rw [show ds.take 0 ++ ps ++ ds.drop (0 + ps.length) = ps ++ ds.drop ps.length by simp] at hrow
  have hfl : (ps.flatMap S.v8l).length = ps.length * 32 := flat_len ps hp
  have hst := run_storeCells_at Tryd.prog g 0 23 (ps.flatMap S.v8l) 0 cur w hr (by rw [hfl]; omega) (flat_one ps)
  obtain ⟨i, hi, hz0, hz1, hz2⟩ := info_parts info31
  have hmin : Nat.min ps.length N = ps.length := Nat.min_eq_left (by omega)
  refine ⟨goInt ps.length, _, ?_, hrow, hch⟩
  by_cases hp0 : ps.length = 0
  · have hpe : ps = [] := List.eq_nil_of_length_eq_zero hp0
    subst hpe
    have hl0 : ∀ (x : Addr), (loadCells x 0).run Tryd.prog w = .ok #[] w := fun x => by simpa using run_loadCells_list (P := Tryd.prog) w x [] (by simp)
    simp only [List.flatMap_nil] at hst
    cases ao with
    | none => simpa [Builtin.copy_, run_underlying Tryd.underlying32, Builtin.lenOf, Builtin.firstCells, sizeOf, typeInfo, hi, hz1, storeCells] using hst
    | some x => simpa [Builtin.copy_, run_underlying Tryd.underlying32, Builtin.lenOf, Builtin.firstCells, sizeOf, typeInfo, hi, hz1, hl0, storeCells] using hst
  · obtain ⟨gs, off, rfl, _, hc⟩ := hs (by omega)
    have hsrc : ∀ j v, (ps.flatMap S.v8l)[j]? = some v → w.cell? ((⟨gs, off, none⟩ : Addr).add j) = some v := fun j v hv => by
      have hjl : j < ps.length * 32 := by rw [← hfl]; exact (List.getElem?_eq_some_iff.1 hv).1
      have hj : j = j / 32 * 32 + j % 32 := by omega
      rw [hj, flat_at ps hp (j / 32) (j % 32) (by omega) (by omega)] at hv
      rw [Addr.add_lit]
      have := hc (j / 32) (by omega) (j % 32) v hv
      rw [Nat.add_assoc, ← hj] at this
      exact this
    have hld := run_loadCells_list (P := Tryd.prog) w ⟨gs, off, none⟩ (ps.flatMap S.v8l) hsrc
    rw [hfl] at hld
    simp only [Nat.add_zero, Nat.zero_add, hfl] at hst
    simp only [List.take_zero, List.nil_append] at hst
    simp [Builtin.copy_, run_underlying Tryd.underlying32, Builtin.lenOf, Builtin.firstCells, sizeOf, typeInfo, hi, hz1]
    rw [hmin, hld]
    simp only [Result.andThen_ok, hst]
theorem DgAt.take {w : World} {ao : Option Addr} {n cap : Nat} {ds : List (List UInt8)} (h : DgAt w (.slice ao n cap) ds) (k : Nat) (hk : k ≤ n) : DgAt w (.slice ao k cap) (ds.take k) := by
  obtain ⟨ao', cap', e, h1, h2, h3⟩ := h
  simp only [Value.slice.injEq] at e
  obtain ⟨rfl, rfl, rfl⟩ := e
  have hl : (ds.take k).length = k := by rw [List.length_take]; omega
  refine ⟨ao, cap, by rw [hl], by omega, fun d hd => h2 d (List.mem_of_mem_take hd), fun hp => ?_⟩
  rw [hl] at hp
  obtain ⟨g, off, e2, h4, h5⟩ := h3 (by omega)
  refine ⟨g, off, e2, h4, fun j hj => ?_⟩
  rw [hl] at hj
  rw [List.getD_eq_getElem?_getD, List.getElem?_take, if_pos hj, ← List.getD_eq_getElem?_getD]
  exact h5 j (by omega)
end Go.Proofs.YtlbggkmblkhjoaaDoor
namespace Go.Proofs.YtlbggkmblkhjoaaDoor
open Go.RowKit

namespace S
def room (ps : List (List UInt8)) (m : List UInt8) (k : Nat) : List (List UInt8) := ps ++ (List.replicate k m ++ List.replicate (80 - k) (S.zeros 32))
theorem room_length (ps : List (List UInt8)) (m : List UInt8) (k : Nat) (h : k ≤ 80) : (room ps m k).length = ps.length + 80 := by
  simp only [room, List.length_append, List.length_replicate]; omega
theorem room_set (ps : List (List UInt8)) (m : List UInt8) (k : Nat) (h : k < 80) : (room ps m k).set (ps.length + k) m = room ps m (k + 1) := by
  unfold room
  rw [List.set_append_right _ _ (by omega), Nat.add_sub_cancel_left, List.set_append_right _ _ (by simp)]
  simp only [List.length_replicate, Nat.sub_self]
  rw [show 80 - k = (80 - (k + 1)) + 1 from by omega, List.replicate_succ, List.set_cons_zero, List.replicate_succ', List.append_assoc]
  rfl
theorem room_all (ps : List (List UInt8)) (m : List UInt8) : room ps m 80 = ps ++ List.replicate 80 m := by
  unfold room; simp
theorem room_32 {ps : List (List UInt8)} {m : List UInt8} (hp : ∀ d ∈ ps, d.length = 32) (hm : m.length = 32) (k : Nat) : ∀ d ∈ room ps m k, d.length = 32 := fun d hd => by
  unfold room at hd
  rw [List.mem_append, List.mem_append] at hd
  rcases hd with h | h | h
  · exact hp d h
  · rw [List.eq_of_mem_replicate h]; exact hm
  · rw [List.eq_of_mem_replicate h]; exact S.zeros_length _
end S
set_option maxHeartbeats 4000000 in
set_option maxRecDepth 10000 in
theorem roomy_dig (u : Value) (ps : List (List UInt8)) (m : List UInt8) (w : World) (hu : DgAt w u ps) (hm : m.length = 32) (hl : ps.length ≤ 1000) :
   Calls Tryd.prog 15 #[u, .agg (S.v8 m)] w fun e w' => ∃ g, e = .returned (.slice (some ⟨g, 0, none⟩) (ps.length + 80) (ps.length + 80)) ∧ DgRow w.heap.size w' (.slice (some ⟨g, 0, none⟩) (ps.length + 80) (ps.length + 80)) (ps ++ List.replicate 80 m) ∧ Below w.heap.size w w' := by
  obtain ⟨uo, uc, rfl⟩ := hu.form
  have hp32 : ∀ d ∈ ps, d.length = 32 := by obtain ⟨_, _, _, _, h, _⟩ := hu; exact h
  have H32 := hide hp32
  have HM := hide hm
  have HU := hide hu
  obtain ⟨n, hn⟩ : ∃ n, n = ps.length := ⟨_, rfl⟩
  obtain ⟨N, hN⟩ : ∃ N, N = n + 80 := ⟨_, rfl⟩
  rw [← hn] at HU hl ⊢
  rw [← hN]
  have HN := hide hn
  have HNN := hide hN
  have q0 : IntKind.i64.wrap ((n : Int) + 80) = (N : Int) := by rw [IntKind.wrap_i64]; omega
  have hNl : N ≤ 2000 := by omega
  clear hu hm hp32 hn hN
  go_enter Tryd.func15, Tryd.ntmps15
  obtain ⟨W0, hW0⟩ : ∃ W, W = w.alloc (.cells (S.v8 m) 23) := ⟨_, rfl⟩
  have b0 : Below w.heap.size w W0 := by rw [hW0]; exact (Below.refl _ _).alloc (Nat.le_refl _) _
  have r0 : W0.heap[w.heap.size]? = some (.cells (S.v8 m) 23 (0, 0)) := by rw [hW0]; exact heap_alloc_new _ _
  obtain ⟨W1, hW1⟩ : ∃ W, W = W0.alloc (.cells (madeCells (S.v8 (S.zeros 32)) (N * 32)) 23) := ⟨_, rfl⟩
  have b1 : Below W0.heap.size W0 W1 := by rw [hW1]; exact (Below.refl _ _).alloc (Nat.le_refl _) _
  have hmk : (Instr.makeSlice 32 (.int .i64 (N : Int)) (.int .i64 (N : Int))).run Tryd.prog W0 = .ok (.slice (some ⟨W0.heap.size, 0, none⟩) N N) W1 := by rw [hW1]; exact make_digs N (by omega) W0
  have hrow : DgRow W0.heap.size W1 (.slice (some ⟨W0.heap.size, 0, none⟩) N N) (List.replicate N (S.zeros 32)) := by rw [hW1]; exact DgRow.made W0 N (by omega)
  obtain ⟨g, hg⟩ : ∃ g, g = W0.heap.size := ⟨_, rfl⟩
  rw [← hg] at hmk hrow
  obtain ⟨vc, W2, hcp, hrow2, hch⟩ := run_copy_digs 3 hrow (fun d hd => by rw [List.eq_of_mem_replicate hd]; exact S.zeros_length _) (by rw [List.length_replicate]) ((HU.out.below b0).below b1) (by rw [List.length_replicate, ← HN.out, HNN.out]; omega)
  rw [show ps ++ (List.replicate N (S.zeros 32)).drop ps.length = S.room ps m 0 by rw [List.drop_replicate, ← HN.out, HNN.out, Nat.add_sub_cancel_left]; rfl] at hrow2
  have hgw : w.heap.size < g := by rw [hg]; exact block_lt_of_row r0
  have b12 : Below W0.heap.size W0 W2 := b1.trans (hch.below _ b1.size (fun j hj e => by omega))
  have RB : Hid (W2.heap[w.heap.size]? = some (.cells (S.v8 m) 23 (0, 0))) := (b12.block _ (block_lt_of_row r0)).trans r0
  have R2 := hide (hrow2.mono (B' := w.heap.size) (by omega))
  have B2 := hide (b0.trans (b12.mono b0.size))
  have HW0 := hide hW0
  have HG := hide hgw
  clear hW0 hW1 b0 r0 b1 hrow hg hrow2 hch b12 hgw
  go_upto_region 1 with fail
  rw [← HW0.out]
  go_wp2_with (at_builtin; (refine Lib.wpList_copy_run _ rfl _ _ 32 32 rfl _ _ rfl rfl hcp ?_))
  clear hcp hmk HW0
  go_loopg [6] 80 (fun gk s6 wr => ∃ k j : Nat, k + gk = 80 ∧ j = n + k ∧ s6 = .int .i64 (j : Int) ∧ Hid (DgRow w.heap.size wr (.slice (some ⟨g, 0, none⟩) N N) (S.room ps m k)) ∧ Hid (wr.heap[w.heap.size]? = some (.cells (S.v8 m) 23 (0, 0))) ∧ Hid (Below w.heap.size w wr))
  case atStart => exact ⟨0, n, by omega, rfl, rfl, R2, RB, B2⟩
  case round =>
    obtain ⟨k, j, hk, hj, rfl, RR, RO, BR⟩ := hrel
    clear R2 RB B2
    cases gk with
    | zero =>
      have qk : ¬ (j : Int) < (N : Int) := by have := HNN.out; omega
      have hk80 : k = 80 := by omega
      have RF := hide (show DgRow w.heap.size wr (.slice (some ⟨g, 0, none⟩) N N) (ps ++ List.replicate 80 m) by rw [← S.room_all, ← hk80]; exact RR.out)
      clear hk hj RR RO hk80
      go_wp2_with fail
      go_ret
      exact ⟨g, rfl, RF.out, BR.out⟩
    | succ gO =>
      have qk : (j : Int) < (N : Int) := by have := HNN.out; omega
      have qk0 : (0 : Int) ≤ (j : Int) := by omega
      have qk1 : IntKind.i64.wrap ((j : Int) + 1) = (j : Int) + 1 := by rw [IntKind.wrap_i64]; omega
      obtain ⟨w', hst, hrow, hch⟩ := DgRow.set RR.out (S.room_32 H32.out HM.out k) j (by rw [S.room_length _ _ _ (by omega), ← HN.out]; omega) m HM.out
      rw [hj, HN.out, S.room_set ps m k (by omega)] at hrow
      have RO2 : Hid (w'.heap[w.heap.size]? = some (.cells (S.v8 m) 23 (0, 0))) := hch.row RO.out (by have := HG.out; omega)
      have BR2 := hide (BR.out.trans (hch.below _ BR.out.size (fun j hj e => by have := HG.out; omega)))
      have RR2 := hide hrow
      have HJ := hide (And.intro hk hj)
      clear hrow hch RR BR hk hj
      go_wp2_with (first | (with_reducible refine at_op { dst := some 24, op := Op.load 23 (Operand.tmp 3), type := 23, pos := "book.go:89", after := #[], guard := none } ?_; refine load_dig_when rfl (.tmp 3) rfl (w.heap.size) rfl m RO.out HM.out ?_) | (with_reducible refine at_op { dst := none, op := Op.store 23 (Operand.tmp 25) (Operand.tmp 24), type := 0, pos := "book.go:89", after := #[{ on := 3, ground := Ground.data }, { on := 2, ground := Ground.data }, { on := 0, ground := Ground.phase }, { on := 1, ground := Ground.phase }, { on := 2, ground := Ground.phase }], guard := none } ?_; refine wpList_store_as rfl 23 (.tmp 25) (.tmp 24) rfl (.pointer (some ⟨g, j * 32, none⟩)) (.agg (S.v8 m)) rfl rfl w' hst ?_))
      clear hst
      go_roundg gO
      case measure => omega
      case rel => exact ⟨k + 1, j + 1, by have := HJ.out; omega, by have := HJ.out; omega, by first | rfl | simp, RR2, RO2, BR2⟩
end Go.Proofs.YtlbggkmblkhjoaaDoor
namespace Go.Proofs.YtlbggkmblkhjoaaDoor
open Go.RowKit

theorem S.getD_room (ps : List (List UInt8)) (m : List UInt8) (k : Nat) (h : k < 80) : (ps ++ List.replicate 80 m).getD (ps.length + k) [] = m := by
  rw [List.getD_eq_getElem?_getD, List.getElem?_append_right (by omega), Nat.add_sub_cancel_left, List.getElem?_replicate, if_pos h]; rfl
set_option maxHeartbeats 4000000 in
set_option maxRecDepth 10000 in
theorem intact_dig (vf u : Value) (ps : List (List UInt8)) (m : List UInt8) (w : World) (hf : DgAt w vf (ps ++ List.replicate 80 m)) (hcap : ∀ ao n c, vf = .slice ao n c → n ≤ c) (hu : DgAt w u ps) (hm : m.length = 32) (hl : ps.length ≤ 1000) :
   Calls Tryd.prog 18 #[vf, u, .agg (S.v8 m)] w fun e w' => e = .returned (.bool true) ∧ Below w.heap.size w w' := by
  obtain ⟨uo, uc, rfl⟩ := hu.form
  obtain ⟨g, off, fc, rfl, y1, y2, y3⟩ := dg_at hf 0 (by rw [List.length_append, List.length_replicate]; omega)
  have hc := hcap _ _ _ rfl
  clear y1 y2 y3
  have hlen : (ps ++ List.replicate 80 m).length = ps.length + 80 := by rw [List.length_append, List.length_replicate]
  rw [hlen] at hf hc ⊢
  have HM := hide hm
  have HU := hide hu
  have HF := hide hf
  have HT := hide (show DgAt w (.slice (some ⟨g, off, none⟩) ps.length fc) ps by have := hf.take ps.length (by omega); rwa [List.take_left] at this)
  obtain ⟨n, hn⟩ : ∃ n, n = ps.length := ⟨_, rfl⟩
  obtain ⟨N, hN⟩ : ∃ N, N = n + 80 := ⟨_, rfl⟩
  rw [← hn] at HU HF HT hl hc ⊢
  rw [← hN] at HF hc ⊢
  have HN := hide hn
  have HNN := hide hN
  have q0 : IntKind.i64.wrap ((n : Int) + 80) = (N : Int) := by rw [IntKind.wrap_i64]; omega
  have q1 : (n : Int) ≤ (fc : Int) := by omega
  have q2 : (0 : Int) ≤ (n : Int) := by omega
  clear hu hm hf hn hN hcap hlen
  go_enter Tryd.func18, Tryd.ntmps18
  go_wp2_with fail
  generalize hW0 : w.alloc _ = W0
  have B0 : Below w.heap.size w W0 := by rw [← hW0]; exact (Below.refl _ _).alloc (Nat.le_refl _) _
  have s0 : W0.heap.size = w.heap.size + 1 := by rw [← hW0]; simp
  have r0 : W0.heap[w.heap.size]? = some (.cells (S.v8 m) 23 (0, 0)) := by rw [← hW0]; exact heap_alloc_new _ _
  have BB : Hid (Below w.heap.size w W0) := B0
  have Q0 : Hid (W0.heap[w.heap.size]? = some (.cells (S.v8 m) 23 (0, 0))) := r0
  clear hW0 B0 s0 r0
  refine (same_dg _ _ ps W0 (HT.out.below BB.out) (HU.out.below BB.out)).mono ?_
  rintro e w1 ⟨rfl, st1⟩
  have B01 := hide (st1.below W0.heap.size)
  clear st1
  go_wp2_with fail
  go_loopg [7] 80 (fun gk s7 wr => ∃ k j : Nat, k + gk = 80 ∧ j = n + k ∧ s7 = .int .i64 (j : Int) ∧ Hid (Below W0.heap.size W0 wr))
  case atStart => exact ⟨0, n, by omega, rfl, rfl, B01⟩
  case round =>
    obtain ⟨k, j, hk, hj, rfl, BR⟩ := hrel
    have BW := hide (BB.out.trans (BR.out.mono BB.out.size))
    clear B01
    cases gk with
    | zero =>
      have qk : ¬ (j : Int) < (N : Int) := by have := HNN.out; omega
      clear hk hj
      go_wp2_with fail
      go_ret
      exact ⟨rfl, BW.out⟩
    | succ gO =>
      have qk : (j : Int) < (N : Int) := by have := HNN.out; omega
      have qk0 : (0 : Int) ≤ (j : Int) := by omega
      have qk1 : IntKind.i64.wrap ((j : Int) + 1) = (j : Int) + 1 := by rw [IntKind.wrap_i64]; omega
      obtain ⟨g', off', fc', e, hgl, hr, hz0⟩ := dg_at (HF.out.below BW.out) j (by rw [List.length_append, List.length_replicate, ← HN.out]; omega)
      simp only [Value.slice.injEq, Option.some.injEq, Addr.mk.injEq, and_true] at e
      obtain ⟨⟨rfl, rfl⟩, e2, e3⟩ := e
      clear e2 e3
      rw [show (ps ++ List.replicate 80 m).getD j [] = m by rw [hj, HN.out]; exact S.getD_room ps m k (by omega)] at hr
      have RR := hide hr
      have RQ : Hid (wr.heap[w.heap.size]? = some (.cells (S.v8 m) 23 (0, 0))) := (BR.out.block _ (block_lt_of_row Q0.out)).trans Q0.out
      have HGL := hide hgl
      have hsz := size_dig m HM.out
      have hsz2 : (Tryd.prog.info? 23).map (·.size) = some (S.v8l m).length := by rw [S.v8l_length, HM.out]; exact size23
      have heqv : ∀ w, (Op.equalIn 10000 23 (.agg (S.v8l m).toArray) (.agg (S.v8l m).toArray)).run Tryd.prog w = .ok true w := fun w => by rw [← S.v8_eq]; exact equal_dig m m HM.out HM.out true (by simp) w
      have HJ := hide (And.intro hk hj)
      clear hr hgl hk hj hz0
      go_upto_region 6 with fail
      refine wp_region_noPanic ?_
      refine wp_region_held_drew (S := (fun W => Chg (fun _ => False) wr W)) follows ((Chg.refl _ _).drew) (fun hHeld => ?_)
      clear hHeld
      have hHeld : Chg (fun _ => False) wr wr.drew := (Chg.refl _ _).drew
      have CZ0 := hide hHeld
      generalize wr.drew = Z0 at CZ0 hHeld ⊢
      refine wpAnyH_take (i := 0) (oi := { dst := some 31, op := Op.move (Operand.tmp 0), type := 32, pos := "book.go:100", after := #[], guard := none }) (v := ?_) rfl (by kernel_rfl) (by kernel_rfl) (by kernel_rfl) (fun _ _ _ h => h) (Or.inl ⟨by rfl, ?_⟩) (by assumption) ?_
      rotate_left
      · intro w hSw
        clear hSw
        go_simp
        all_goals with_reducible rfl
      simp only [Act.put, List.setIfInBounds_toArray, List.set_cons_zero, List.set_cons_succ]
      refine wpAnyH_take (i := 1) (oi := { dst := some 32, op := Op.move (Operand.tmp 7), type := 3, pos := "book.go:100", after := #[], guard := none }) (v := ?_) rfl (by kernel_rfl) (by kernel_rfl) (by kernel_rfl) (fun _ _ _ h => h) (Or.inl ⟨by rfl, ?_⟩) (by assumption) ?_
      rotate_left
      · intro w hSw
        clear hSw
        go_simp
        all_goals with_reducible rfl
      simp only [Act.put, List.setIfInBounds_toArray, List.set_cons_zero, List.set_cons_succ]
      refine wpAnyH_take (i := 2) (oi := { dst := some 33, op := Op.indexAddr 32 (Operand.tmp 31) (Operand.tmp 32), type := 0, pos := "book.go:100", after := #[{ on := 0, ground := Ground.data }, { on := 1, ground := Ground.data }], guard := none }) (v := ?_) rfl (by kernel_rfl) (by kernel_rfl) (by kernel_rfl) (fun _ _ _ h => h) (Or.inl ⟨by rfl, ?_⟩) (by assumption) ?_
      rotate_left
      · intro w hSw
        clear hSw
        go_simp
        all_goals with_reducible rfl
      simp only [Act.put, List.setIfInBounds_toArray, List.set_cons_zero, List.set_cons_succ]
      refine wpAnyH_take (i := 3) (oi := { dst := some 34, op := Op.load 23 (Operand.tmp 33), type := 23, pos := "book.go:100", after := #[{ on := 2, ground := Ground.data }], guard := none }) (v := .agg (S.v8l m).toArray) rfl (by kernel_rfl) (by kernel_rfl) (by kernel_rfl) (fun _ _ _ h => h) (yieldsIf_load_mid (by rfl) _ _ rfl g (off + j * 32) rfl (S.v8l m) _ (fun _ hSw => (fun q x hx => ((hSw.below _ (Nat.le_refl _) (fun _ _ e => e)).cell (p := ⟨g, off + j * 32 + q, none⟩) HGL.out).trans (RR.out q x hx))) Tryd.underlying23 rfl hsz2) (by assumption) ?_
      simp only [Act.put, List.setIfInBounds_toArray, List.set_cons_zero, List.set_cons_succ]
      refine wpAnyH_take (i := 4) (oi := { dst := some 35, op := Op.load 23 (Operand.tmp 5), type := 23, pos := "book.go:100", after := #[], guard := none }) (v := .agg (S.v8l m).toArray) rfl (by kernel_rfl) (by kernel_rfl) (by kernel_rfl) (fun _ _ _ h => h) (yieldsIf_load_mid (by rfl) _ _ rfl w.heap.size 0 rfl (S.v8l m) _ (fun _ hSw => rangeAt_row (hSw.row RQ.out (fun e => e))) Tryd.underlying23 rfl hsz) (by assumption) ?_
      simp only [Act.put, List.setIfInBounds_toArray, List.set_cons_zero, List.set_cons_succ]
      refine wpAnyH_take (i := 5) (oi := { dst := some 36, op := Op.binOp BinOp.neq 23 (Operand.tmp 34) (Operand.tmp 35) 23, type := 4, pos := "book.go:100", after := #[{ on := 3, ground := Ground.data }, { on := 4, ground := Ground.data }], guard := none }) (v := ?_) rfl (by kernel_rfl) (by kernel_rfl) (by kernel_rfl) (fun _ _ _ h => h) (Or.inl ⟨by rfl, ?_⟩) (by assumption) ?_
      rotate_left
      · intro w hSw
        clear hSw
        go_simp
        all_goals with_reducible rfl
      simp only [Act.put, List.setIfInBounds_toArray, List.set_cons_zero, List.set_cons_succ]
      refine wpAnyH_done (by kernel_rfl) ?_ _
      refine NoPanic.normal ?_
      clear hHeld heqv
      have BG := hide (BR.out.trans ((CZ0.out.below _ (Nat.le_refl _) (fun _ _ e => e)).mono BR.out.size))
      clear CZ0
      try simp only [Bool.not_true]
      go_wp2_with fail
      go_roundg gO
      case measure => omega
      case rel => exact ⟨k + 1, j + 1, by have := HJ.out; omega, by have := HJ.out; omega, by first | rfl | simp, BG⟩
end Go.Proofs.YtlbggkmblkhjoaaDoor
namespace Go.Proofs.YtlbggkmblkhjoaaDoor
open Go.RowKit

def S.nine : List UInt8 := 9 :: S.zeros 31
theorem S.nine_length : S.nine.length = 32 := rfl
theorem bmark (W : World) : (Instr.build 23 #[(0, .int .u8 9)]).run Tryd.prog W = .ok (.agg (S.v8 S.nine)) W := by kernel_rfl
theorem yieldsIf_build {ops : Array Oper} {S : World → Prop} {op : Oper} {a : Act} (hw : Region.wanted op (yielded ops a.tmps) = true) (t : TypeId) (parts : List (Nat × Operand)) (ho : op.op = .build t parts.toArray) (v : Value)
    (hr : ∀ w, (Instr.build t (parts.map fun p => (p.1, a.eval p.2)).toArray).run Tryd.prog w = .ok v w) : YieldsIf Tryd.prog ops S op v a :=
  .inl ⟨hw, fun w _ => by
    unfold execOp
    simp only [ho, Sem.run_bind, Sem.run_pure, List.map_toArray, hr, Result.andThen_ok]⟩
end Go.Proofs.YtlbggkmblkhjoaaDoor
namespace Go.Proofs.YtlbggkmblkhjoaaDoor
open Go.RowKit

set_option maxHeartbeats 16000000 in
set_option maxRecDepth 10000 in
theorem verifyProofs_walk (a : Int) (vb vp : Value) (bs : List UInt8) (i n : Nat) (Ps : List (List UInt8)) (rt : List UInt8) (f t : Nat) (old : List UInt8) (w : World) (hi : i < 18446744073709551616) (hn : n < 18446744073709551616) (hf : f < 18446744073709551616) (ht : t < 18446744073709551616) (hv : SliceAt w vb bs) (hl : bs.length + 1 ≤ 140737488355000) (hp : DgAny w vp Ps) (hpl : Ps.length ≤ 140737488355328) (hrt : rt.length = 32) (hold : old.length = 32) (hK : KAt w) :
   Calls Tryd.prog 4 #[.int .i64 a, vb, .int .u64 (i : Int), .int .u64 (n : Int), vp, .agg (S.v8 rt), .int .u64 (f : Int), .int .u64 (t : Int), .agg (S.v8 old)] w fun e w' => e = .returned (.bool true) ∧ Below w.heap.size w w' := by
  obtain ⟨ao, len, cap, rfl, hlen, _⟩ := hv.form
  obtain ⟨po, pc, rfl, hpc⟩ := hp.form
  obtain ⟨pn, hpn⟩ : ∃ m, m = Ps.length := ⟨_, rfl⟩
  rw [← hpn] at hp hpc hpl ⊢
  have HV := hide hv
  have P0 := hide hp
  have PL := hide hpn
  have HL1 := hide hl
  have HRT := hide hrt
  have HOLD := hide hold
  have HK := hide hK
  have h0 := hK.pos
  clear hv hp hl hK hlen hpn hrt hold
  go_enter Tryd.func4, Tryd.ntmps4
  go_upto_if 23 with fail
  generalize hW0 : w.alloc _ = W0
  generalize hW1 : W0.alloc _ = W1
  have B0 : Below w.heap.size w W0 := by rw [← hW0]; exact (Below.refl _ _).alloc (Nat.le_refl _) _
  have s0 : W0.heap.size = w.heap.size + 1 := by rw [← hW0]; simp
  have r0 : W0.heap[w.heap.size]? = some (.cells (S.v8 rt) 23 (0, 0)) := by rw [← hW0]; exact heap_alloc_new _ _
  have B1 : Below W0.heap.size W0 W1 := by rw [← hW1]; exact (Below.refl _ _).alloc (Nat.le_refl _) _
  have s1 : W1.heap.size = w.heap.size + 2 := by rw [← hW1]; simp [s0]
  have r1 : W1.heap[w.heap.size + 1]? = some (.cells (S.v8 old) 23 (0, 0)) := by rw [← hW1, ← s0]; exact heap_alloc_new _ _
  have BB : Hid (Below w.heap.size w W1) := (B0.trans (B1.mono (by omega)))
  have Q0 : Hid (W1.heap[w.heap.size]? = some (.cells (S.v8 rt) 23 (0, 0))) := ((B1.block _ (by omega)).trans r0)
  have Q1 : Hid (W1.heap[w.heap.size + 1]? = some (.cells (S.v8 old) 23 (0, 0))) := r1
  clear hW0 B0 s0 r0 hW1 B1 s1 r1
  have P := hide (P0.out.below BB.out)
  clear P0
  go_cut [4] (fun x wc => W1 = wc ∧ ∃ (a : Option Addr) (l c : Nat) (ds : List (List UInt8)), x = .slice a l c ∧ l = ds.length ∧ l ≤ 70 ∧ Hid (DgAt W1 (.slice a l c) ds))
  case first =>
    by_cases h : 70 < pn
    · have q1 : (70 : Int) < (pn : Int) := by omega
      have q2 : (70 : Int) ≤ (pc : Int) := by omega
      obtain ⟨ds2, hds2⟩ : ∃ d, d = Ps.take 70 := ⟨_, rfl⟩
      have hl2 : 70 = ds2.length := by rw [hds2, List.length_take, ← PL.out]; omega
      have Z := hide (show DgAt W1 (.slice po 70 pc) ds2 by rw [hds2]; exact (P.out.take 70 (by omega)).dgAt (by rw [List.length_take]; omega))
      have ZL := hide hl2
      clear hds2 hl2
      go_wp2_with fail
      go_meet
      exact ⟨rfl, po, 70, pc, ds2, rfl, ZL.out, Nat.le_refl _, Z⟩
    · have q1 : ¬ ((70 : Int) < (pn : Int)) := by omega
      have Z := hide (P.out.dgAt (by rw [← PL.out]; omega))
      go_wp2_with fail
      go_meet
      exact ⟨rfl, po, pn, pc, Ps, rfl, PL.out, by omega, Z⟩
  case rest =>
  obtain ⟨rfl, po', pn', pc', ps, rfl, hpm, hp70, P1⟩ := hcut
  have PM := hide hpm
  clear hpm P PL hpl hpc
  clear po pn pc Ps
  go_wp2_with fail
  refine (hasher_any a W1).mono ?_
  rintro e w2 ⟨gh, gT, rfl, hs2, b2⟩
  have H2 := hide hs2
  have B12 := hide b2
  have B2 := hide (BB.out.trans (b2.mono BB.out.size))
  have P2 := hide (P1.out.below b2)
  clear hs2 b2
  go_wp2_with (with_reducible refine at_op { dst := some 29, op := Op.build 23 #[(0, Operand.const (Value.int IntKind.u8 9))], type := 23, pos := "law.go:58", after := #[], guard := none } ?_; refine wpList_build_known rfl 23 [(0, .const (.int .u8 9))] rfl (.agg (S.v8 S.nine)) (bmark _) ?_)
  refine (roomy_dig _ ps S.nine w2 P2.out S.nine_length (by rw [← PM.out]; omega)).mono ?_
  rintro e w3 ⟨g, rfl, rw3, b3⟩
  have hp32 : ∀ d ∈ ps ++ List.replicate 80 S.nine, d.length = 32 := fun d hd => by
    rw [List.mem_append] at hd
    rcases hd with hd | hd
    · obtain ⟨_, _, _, _, h, _⟩ := P1.out; exact h d hd
    · rw [List.eq_of_mem_replicate hd]; exact S.nine_length
  have fa := rw3.dgAt (by rw [List.length_append, List.length_replicate, ← PM.out]; omega) hp32
  rw [← PM.out] at fa ⊢
  obtain ⟨N, hN⟩ : ∃ N, N = pn' + 80 := ⟨_, rfl⟩
  rw [← hN] at fa ⊢
  have FA := hide fa
  have FT := hide (show DgAt w3 (.slice (some ⟨g, 0, none⟩) pn' N) ps by have := fa.take pn' (by omega); rwa [PM.out, List.take_left, ← PM.out] at this)
  have HCF := hide (show ∀ ao n c, Value.slice (some ⟨g, 0, none⟩) N N = .slice ao n c → n ≤ c from fun ao n c e => by simp only [Value.slice.injEq] at e; omega)
  have HCP := hide (show ∀ ao n c, Value.slice (some ⟨g, 0, none⟩) pn' N = .slice ao n c → n ≤ c from fun ao n c e => by simp only [Value.slice.injEq] at e; omega)
  have b13 : Below W1.heap.size W1 w3 := B12.out.trans (b3.mono B12.out.size)
  have P3 := hide (P2.out.below b3)
  have H3 := hide (H2.out.below b3 (Nat.le_refl _))
  have RT3 : Hid (w3.heap[w.heap.size]? = some (.cells (S.v8 rt) 23 (0, 0))) := (b13.block _ (block_lt_of_row Q0.out)).trans Q0.out
  have RO3 : Hid (w3.heap[w.heap.size + 1]? = some (.cells (S.v8 old) 23 (0, 0))) := (b13.block _ (block_lt_of_row Q1.out)).trans Q1.out
  have B3 := hide (B2.out.trans (b3.mono B2.out.size))
  have V3 := hide (HV.out.below B3.out (Nat.le_refl _))
  have HPL := hide (show ps.length ≤ 1000 by rw [← PM.out]; omega)
  have q1 : (0 : Int) ≤ (pn' : Int) := by omega
  have q2 : (pn' : Int) ≤ (N : Int) := by omega
  obtain ⟨R1, hR1⟩ : ∃ R, R = S.vLeaf a bs i n ps rt := ⟨_, rfl⟩
  obtain ⟨R2, hR2⟩ : ∃ R, R = S.vPre a f t old rt ps := ⟨_, rfl⟩
  have HR1 := hide hR1
  have HR2 := hide hR2
  have hsr := size_dig rt HRT.out
  have hso := size_dig old HOLD.out
  clear rw3 hp32 fa hN b13 b3 P1 P2 H2 Q0 Q1 B2 B12 HV hR1 hR2 BB hp70
  go_upto_region 5 with fail
  refine wp_region_noPanic ?_
  refine wp_region_held_drew (S := (fun W => Chg (fun _ => False) w3 W)) follows ((Chg.refl _ _).drew) (fun hHeld => ?_)
  clear hHeld
  have hHeld : Chg (fun _ => False) w3 w3.drew := (Chg.refl _ _).drew
  have CZ0 := hide hHeld
  generalize w3.drew = Z0 at CZ0 hHeld ⊢
  refine wpAnyH_take (i := 0) (oi := { dst := some 31, op := Op.move (Operand.tmp 0), type := 3, pos := "law.go:59", after := #[], guard := none }) (v := ?_) rfl (by kernel_rfl) (by kernel_rfl) (by kernel_rfl) (fun _ _ _ h => h) (Or.inl ⟨by rfl, ?_⟩) (by assumption) ?_
  rotate_left
  · intro w hSw
    clear hSw
    go_simp
    all_goals with_reducible rfl
  simp only [Act.put, List.setIfInBounds_toArray, List.set_cons_zero, List.set_cons_succ]
  refine wpAnyH_take (i := 1) (oi := { dst := some 32, op := Op.move (Operand.tmp 1), type := 25, pos := "law.go:59", after := #[], guard := none }) (v := ?_) rfl (by kernel_rfl) (by kernel_rfl) (by kernel_rfl) (fun _ _ _ h => h) (Or.inl ⟨by rfl, ?_⟩) (by assumption) ?_
  rotate_left
  · intro w hSw
    clear hSw
    go_simp
    all_goals with_reducible rfl
  simp only [Act.put, List.setIfInBounds_toArray, List.set_cons_zero, List.set_cons_succ]
  refine wpAnyH_take (i := 2) (oi := { dst := some 33, op := Op.move (Operand.tmp 2), type := 28, pos := "law.go:59", after := #[], guard := none }) (v := ?_) rfl (by kernel_rfl) (by kernel_rfl) (by kernel_rfl) (fun _ _ _ h => h) (Or.inl ⟨by rfl, ?_⟩) (by assumption) ?_
  rotate_left
  · intro w hSw
    clear hSw
    go_simp
    all_goals with_reducible rfl
  simp only [Act.put, List.setIfInBounds_toArray, List.set_cons_zero, List.set_cons_succ]
  refine wpAnyH_take (i := 3) (oi := { dst := some 34, op := Op.move (Operand.tmp 3), type := 28, pos := "law.go:59", after := #[], guard := none }) (v := ?_) rfl (by kernel_rfl) (by kernel_rfl) (by kernel_rfl) (fun _ _ _ h => h) (Or.inl ⟨by rfl, ?_⟩) (by assumption) ?_
  rotate_left
  · intro w hSw
    clear hSw
    go_simp
    all_goals with_reducible rfl
  simp only [Act.put, List.setIfInBounds_toArray, List.set_cons_zero, List.set_cons_succ]
  refine wpAnyH_take (i := 4) (oi := { dst := some 35, op := Op.move (Operand.tmp 20), type := 32, pos := "law.go:59", after := #[], guard := none }) (v := ?_) rfl (by kernel_rfl) (by kernel_rfl) (by kernel_rfl) (fun _ _ _ h => h) (Or.inl ⟨by rfl, ?_⟩) (by assumption) ?_
  rotate_left
  · intro w hSw
    clear hSw
    go_simp
    all_goals with_reducible rfl
  simp only [Act.put, List.setIfInBounds_toArray, List.set_cons_zero, List.set_cons_succ]
  refine wpAnyH_take (i := 5) (oi := { dst := some 36, op := Op.move (Operand.tmp 4), type := 32, pos := "law.go:59", after := #[], guard := none }) (v := ?_) rfl (by kernel_rfl) (by kernel_rfl) (by kernel_rfl) (fun _ _ _ h => h) (Or.inl ⟨by rfl, ?_⟩) (by assumption) ?_
  rotate_left
  · intro w hSw
    clear hSw
    go_simp
    all_goals with_reducible rfl
  simp only [Act.put, List.setIfInBounds_toArray, List.set_cons_zero, List.set_cons_succ]
  refine wpAnyH_take (i := 6) (oi := { dst := some 37, op := Op.call { callee := Callee.builtin Builtin.len, args := #[Operand.tmp 36], argTypes := #[32] }, type := 3, pos := "law.go:59", after := #[{ on := 5, ground := Ground.data }], guard := none }) (v := ?_) rfl (by kernel_rfl) (by kernel_rfl) (by kernel_rfl) (fun _ _ _ h => h) (Or.inl ⟨by rfl, ?_⟩) (by assumption) ?_
  rotate_left
  · intro w hSw
    clear hSw
    go_simp
    all_goals with_reducible rfl
  simp only [Act.put, List.setIfInBounds_toArray, List.set_cons_zero, List.set_cons_succ]
  refine wpAnyH_take (i := 7) (oi := { dst := some 38, op := Op.slice 32 (Operand.tmp 35) none (some (Operand.tmp 37)) none, type := 32, pos := "law.go:59", after := #[{ on := 4, ground := Ground.data }, { on := 6, ground := Ground.data }], guard := none }) (v := ?_) rfl (by kernel_rfl) (by kernel_rfl) (by kernel_rfl) (fun _ _ _ h => h) (Or.inl ⟨by rfl, ?_⟩) (by assumption) ?_
  rotate_left
  · intro w hSw
    clear hSw
    go_simp
    all_goals with_reducible rfl
  simp only [Act.put, List.setIfInBounds_toArray, List.set_cons_zero, List.set_cons_succ]
  refine wpAnyH_take (i := 8) (oi := { dst := some 39, op := Op.load 23 (Operand.tmp 14), type := 23, pos := "law.go:59", after := #[], guard := none }) (v := .agg (S.v8l rt).toArray) rfl (by kernel_rfl) (by kernel_rfl) (by kernel_rfl) (fun _ _ _ h => h) (yieldsIf_load_mid (by rfl) _ _ rfl w.heap.size 0 rfl (S.v8l rt) _ (fun _ hSw => rangeAt_row (hSw.row RT3.out (fun e => e))) Tryd.underlying23 rfl hsr) (by assumption) ?_
  simp only [Act.put, List.setIfInBounds_toArray, List.set_cons_zero, List.set_cons_succ]
  refine wpAnyH_take (i := 10) (oi := { dst := some 41, op := Op.move (Operand.tmp 19), type := 33, pos := "law.go:59", after := #[], guard := none }) (v := ?_) rfl (by kernel_rfl) (by kernel_rfl) (by kernel_rfl) (fun _ _ _ h => h) (Or.inl ⟨by rfl, ?_⟩) (by assumption) ?_
  rotate_left
  · intro w hSw
    clear hSw
    go_simp
    all_goals with_reducible rfl
  simp only [Act.put, List.setIfInBounds_toArray, List.set_cons_zero, List.set_cons_succ]
  refine wpAnyH_take (i := 11) (oi := { dst := some 42, op := Op.move (Operand.tmp 1), type := 25, pos := "law.go:59", after := #[], guard := none }) (v := ?_) rfl (by kernel_rfl) (by kernel_rfl) (by kernel_rfl) (fun _ _ _ h => h) (Or.inl ⟨by rfl, ?_⟩) (by assumption) ?_
  rotate_left
  · intro w hSw
    clear hSw
    go_simp
    all_goals with_reducible rfl
  simp only [Act.put, List.setIfInBounds_toArray, List.set_cons_zero, List.set_cons_succ]
  refine wpAnyH_take (i := 12) (oi := { dst := some 43, op := Op.move (Operand.tmp 2), type := 28, pos := "law.go:59", after := #[], guard := none }) (v := ?_) rfl (by kernel_rfl) (by kernel_rfl) (by kernel_rfl) (fun _ _ _ h => h) (Or.inl ⟨by rfl, ?_⟩) (by assumption) ?_
  rotate_left
  · intro w hSw
    clear hSw
    go_simp
    all_goals with_reducible rfl
  simp only [Act.put, List.setIfInBounds_toArray, List.set_cons_zero, List.set_cons_succ]
  refine wpAnyH_take (i := 13) (oi := { dst := some 44, op := Op.move (Operand.tmp 3), type := 28, pos := "law.go:59", after := #[], guard := none }) (v := ?_) rfl (by kernel_rfl) (by kernel_rfl) (by kernel_rfl) (fun _ _ _ h => h) (Or.inl ⟨by rfl, ?_⟩) (by assumption) ?_
  rotate_left
  · intro w hSw
    clear hSw
    go_simp
    all_goals with_reducible rfl
  simp only [Act.put, List.setIfInBounds_toArray, List.set_cons_zero, List.set_cons_succ]
  refine wpAnyH_take (i := 14) (oi := { dst := some 45, op := Op.move (Operand.tmp 4), type := 32, pos := "law.go:59", after := #[], guard := none }) (v := ?_) rfl (by kernel_rfl) (by kernel_rfl) (by kernel_rfl) (fun _ _ _ h => h) (Or.inl ⟨by rfl, ?_⟩) (by assumption) ?_
  rotate_left
  · intro w hSw
    clear hSw
    go_simp
    all_goals with_reducible rfl
  simp only [Act.put, List.setIfInBounds_toArray, List.set_cons_zero, List.set_cons_succ]
  refine wpAnyH_take (i := 15) (oi := { dst := some 46, op := Op.load 23 (Operand.tmp 14), type := 23, pos := "law.go:59", after := #[], guard := none }) (v := .agg (S.v8l rt).toArray) rfl (by kernel_rfl) (by kernel_rfl) (by kernel_rfl) (fun _ _ _ h => h) (yieldsIf_load_mid (by rfl) _ _ rfl w.heap.size 0 rfl (S.v8l rt) _ (fun _ hSw => rangeAt_row (hSw.row RT3.out (fun e => e))) Tryd.underlying23 rfl hsr) (by assumption) ?_
  simp only [Act.put, List.setIfInBounds_toArray, List.set_cons_zero, List.set_cons_succ]
  refine wpAnyH_ready (rs := [9]) (by kernel_rfl) (by simp) ?_
  refine AllReadyH.cons (o := { dst := some 40, op := Op.call { callee := Callee.value (Operand.func 11), args := #[Operand.tmp 31, Operand.tmp 32, Operand.tmp 33, Operand.tmp 34, Operand.tmp 38, Operand.tmp 39], argTypes := #[3, 25, 28, 28, 32, 23] }, type := 4, pos := "law.go:59", after := #[{ on := 0, ground := Ground.data }, { on := 1, ground := Ground.data }, { on := 2, ground := Ground.data }, { on := 3, ground := Ground.data }, { on := 7, ground := Ground.data }, { on := 8, ground := Ground.data }], guard := none }) rfl (fun K hK => ?_) AllReadyH.nil
  go_simp
  refine (leafv_any a _ _ bs i n ps rt HRT.out Z0 hi hn (V3.out.below (CZ0.out.below _ (Nat.le_refl _) (fun _ _ e => e)) (Nat.le_refl _)) (by have := HL1.out; omega) (FT.out.below (CZ0.out.below _ (Nat.le_refl _) (fun _ _ e => e))) (by have := HPL.out; omega) (HK.out.below (B3.out.trans (CZ0.out.below w.heap.size B3.out.size (fun k hk e => e))) h0)).mono ?_
  rintro e Z1 ⟨rfl, hb2⟩
  rw [← HR1.out]
  have CZ1 : Hid (Chg (fun _ => False) w3 Z1) := CZ0.out.then hb2
  clear hb2 CZ0
  clear hHeld
  refine hK.out _ _ CZ1.out (fun hHeld => ?_)
  clear hK K
  try simp only [Act.put, List.setIfInBounds_toArray, List.set_cons_zero, List.set_cons_succ]
  refine wpAnyH_ready (rs := [16]) (by kernel_rfl) (by simp) ?_
  refine AllReadyH.cons (o := { dst := some 47, op := Op.call { callee := Callee.value (Operand.func 16), args := #[Operand.tmp 41, Operand.tmp 42, Operand.tmp 43, Operand.tmp 44, Operand.tmp 45, Operand.tmp 46], argTypes := #[33, 25, 28, 28, 32, 23] }, type := 4, pos := "law.go:59", after := #[{ on := 10, ground := Ground.data }, { on := 11, ground := Ground.data }, { on := 12, ground := Ground.data }, { on := 13, ground := Ground.data }, { on := 14, ground := Ground.data }, { on := 15, ground := Ground.data }, { on := 9, ground := Ground.chain }], guard := none }) rfl (fun K hK => ?_) AllReadyH.nil
  go_simp
  refine (rleaf_any gh gT a _ _ bs i n ps rt HRT.out Z1 hi hn (H3.out.below (CZ1.out.below _ (Nat.le_refl _) (fun _ _ e => e)) (Nat.le_refl _)) (V3.out.below (CZ1.out.below _ (Nat.le_refl _) (fun _ _ e => e)) (Nat.le_refl _)) HL1.out (P3.out.below (CZ1.out.below _ (Nat.le_refl _) (fun _ _ e => e))) (by have := HPL.out; omega)).mono ?_
  rintro e Z2 ⟨rfl, hb2⟩
  rw [← HR1.out]
  have CZ2 : Hid (Chg (fun _ => False) w3 Z2) := CZ1.out.then hb2
  clear hb2 CZ1
  clear hHeld
  refine hK.out _ _ CZ2.out (fun hHeld => ?_)
  clear hK K
  try simp only [Act.put, List.setIfInBounds_toArray, List.set_cons_zero, List.set_cons_succ]
  refine wpAnyH_take (i := 17) (oi := { dst := some 48, op := Op.binOp BinOp.eql 4 (Operand.tmp 40) (Operand.tmp 47) 4, type := 4, pos := "law.go:59", after := #[{ on := 9, ground := Ground.data }, { on := 16, ground := Ground.data }], guard := none }) (v := ?_) rfl (by kernel_rfl) (by kernel_rfl) (by kernel_rfl) (fun _ _ _ h => h) (Or.inl ⟨by rfl, ?_⟩) (by assumption) ?_
  rotate_left
  · intro w hSw
    clear hSw
    go_simp
    all_goals with_reducible rfl
  simp only [Act.put, List.setIfInBounds_toArray, List.set_cons_zero, List.set_cons_succ]
  refine wpAnyH_take (i := 18) (oi := { dst := some 49, op := Op.move (Operand.tmp 48), type := 4, pos := "law.go:59", after := #[{ on := 17, ground := Ground.data }, { on := 16, ground := Ground.chain }], guard := none }) (v := ?_) rfl (by kernel_rfl) (by kernel_rfl) (by kernel_rfl) (fun _ _ _ h => h) (Or.inl ⟨by rfl, ?_⟩) (by assumption) ?_
  rotate_left
  · intro w hSw
    clear hSw
    go_simp
    all_goals with_reducible rfl
  simp only [Act.put, List.setIfInBounds_toArray, List.set_cons_zero, List.set_cons_succ]
  refine wpAnyH_take (i := 19) (oi := { dst := some 50, op := Op.move (Operand.tmp 0), type := 3, pos := "law.go:59", after := #[{ on := 18, ground := Ground.guard }], guard := some (18, true) }) (v := ?_) rfl (by kernel_rfl) (by kernel_rfl) (by kernel_rfl) (fun _ _ _ h => h) (Or.inl ⟨by rfl, ?_⟩) (by assumption) ?_
  rotate_left
  · intro w hSw
    clear hSw
    go_simp
    all_goals with_reducible rfl
  simp only [Act.put, List.setIfInBounds_toArray, List.set_cons_zero, List.set_cons_succ]
  refine wpAnyH_take (i := 20) (oi := { dst := some 51, op := Op.move (Operand.tmp 6), type := 28, pos := "law.go:59", after := #[{ on := 18, ground := Ground.guard }], guard := some (18, true) }) (v := ?_) rfl (by kernel_rfl) (by kernel_rfl) (by kernel_rfl) (fun _ _ _ h => h) (Or.inl ⟨by rfl, ?_⟩) (by assumption) ?_
  rotate_left
  · intro w hSw
    clear hSw
    go_simp
    all_goals with_reducible rfl
  simp only [Act.put, List.setIfInBounds_toArray, List.set_cons_zero, List.set_cons_succ]
  refine wpAnyH_take (i := 21) (oi := { dst := some 52, op := Op.move (Operand.tmp 7), type := 28, pos := "law.go:59", after := #[{ on := 18, ground := Ground.guard }], guard := some (18, true) }) (v := ?_) rfl (by kernel_rfl) (by kernel_rfl) (by kernel_rfl) (fun _ _ _ h => h) (Or.inl ⟨by rfl, ?_⟩) (by assumption) ?_
  rotate_left
  · intro w hSw
    clear hSw
    go_simp
    all_goals with_reducible rfl
  simp only [Act.put, List.setIfInBounds_toArray, List.set_cons_zero, List.set_cons_succ]
  refine wpAnyH_take (i := 22) (oi := { dst := some 53, op := Op.load 23 (Operand.tmp 17), type := 23, pos := "law.go:59", after := #[{ on := 18, ground := Ground.guard }], guard := some (18, true) }) (v := .agg (S.v8l old).toArray) rfl (by kernel_rfl) (by kernel_rfl) (by kernel_rfl) (fun _ _ _ h => h) (yieldsIf_load_mid (by rfl) _ _ rfl (w.heap.size + 1) 0 rfl (S.v8l old) _ (fun _ hSw => rangeAt_row (hSw.row RO3.out (fun e => e))) Tryd.underlying23 rfl hso) (by assumption) ?_
  simp only [Act.put, List.setIfInBounds_toArray, List.set_cons_zero, List.set_cons_succ]
  refine wpAnyH_take (i := 23) (oi := { dst := some 54, op := Op.load 23 (Operand.tmp 14), type := 23, pos := "law.go:59", after := #[{ on := 18, ground := Ground.guard }], guard := some (18, true) }) (v := .agg (S.v8l rt).toArray) rfl (by kernel_rfl) (by kernel_rfl) (by kernel_rfl) (fun _ _ _ h => h) (yieldsIf_load_mid (by rfl) _ _ rfl w.heap.size 0 rfl (S.v8l rt) _ (fun _ hSw => rangeAt_row (hSw.row RT3.out (fun e => e))) Tryd.underlying23 rfl hsr) (by assumption) ?_
  simp only [Act.put, List.setIfInBounds_toArray, List.set_cons_zero, List.set_cons_succ]
  refine wpAnyH_take (i := 24) (oi := { dst := some 55, op := Op.move (Operand.tmp 20), type := 32, pos := "law.go:59", after := #[{ on := 18, ground := Ground.guard }], guard := some (18, true) }) (v := ?_) rfl (by kernel_rfl) (by kernel_rfl) (by kernel_rfl) (fun _ _ _ h => h) (Or.inl ⟨by rfl, ?_⟩) (by assumption) ?_
  rotate_left
  · intro w hSw
    clear hSw
    go_simp
    all_goals with_reducible rfl
  simp only [Act.put, List.setIfInBounds_toArray, List.set_cons_zero, List.set_cons_succ]
  refine wpAnyH_take (i := 25) (oi := { dst := some 56, op := Op.move (Operand.tmp 4), type := 32, pos := "law.go:59", after := #[{ on := 18, ground := Ground.guard }], guard := some (18, true) }) (v := ?_) rfl (by kernel_rfl) (by kernel_rfl) (by kernel_rfl) (fun _ _ _ h => h) (Or.inl ⟨by rfl, ?_⟩) (by assumption) ?_
  rotate_left
  · intro w hSw
    clear hSw
    go_simp
    all_goals with_reducible rfl
  simp only [Act.put, List.setIfInBounds_toArray, List.set_cons_zero, List.set_cons_succ]
  refine wpAnyH_take (i := 26) (oi := { dst := some 57, op := Op.call { callee := Callee.builtin Builtin.len, args := #[Operand.tmp 56], argTypes := #[32] }, type := 3, pos := "law.go:59", after := #[{ on := 25, ground := Ground.data }, { on := 18, ground := Ground.guard }], guard := some (18, true) }) (v := ?_) rfl (by kernel_rfl) (by kernel_rfl) (by kernel_rfl) (fun _ _ _ h => h) (Or.inl ⟨by rfl, ?_⟩) (by assumption) ?_
  rotate_left
  · intro w hSw
    clear hSw
    go_simp
    all_goals with_reducible rfl
  simp only [Act.put, List.setIfInBounds_toArray, List.set_cons_zero, List.set_cons_succ]
  refine wpAnyH_take (i := 27) (oi := { dst := some 58, op := Op.slice 32 (Operand.tmp 55) none (some (Operand.tmp 57)) none, type := 32, pos := "law.go:59", after := #[{ on := 24, ground := Ground.data }, { on := 26, ground := Ground.data }, { on := 18, ground := Ground.guard }], guard := some (18, true) }) (v := ?_) rfl (by kernel_rfl) (by kernel_rfl) (by kernel_rfl) (fun _ _ _ h => h) (Or.inl ⟨by rfl, ?_⟩) (by assumption) ?_
  rotate_left
  · intro w hSw
    clear hSw
    go_simp
    all_goals with_reducible rfl
  simp only [Act.put, List.setIfInBounds_toArray, List.set_cons_zero, List.set_cons_succ]
  refine wpAnyH_take (i := 29) (oi := { dst := some 60, op := Op.move (Operand.tmp 19), type := 33, pos := "law.go:59", after := #[{ on := 18, ground := Ground.guard }], guard := some (18, true) }) (v := ?_) rfl (by kernel_rfl) (by kernel_rfl) (by kernel_rfl) (fun _ _ _ h => h) (Or.inl ⟨by rfl, ?_⟩) (by assumption) ?_
  rotate_left
  · intro w hSw
    clear hSw
    go_simp
    all_goals with_reducible rfl
  simp only [Act.put, List.setIfInBounds_toArray, List.set_cons_zero, List.set_cons_succ]
  refine wpAnyH_take (i := 30) (oi := { dst := some 61, op := Op.move (Operand.tmp 6), type := 28, pos := "law.go:59", after := #[{ on := 18, ground := Ground.guard }], guard := some (18, true) }) (v := ?_) rfl (by kernel_rfl) (by kernel_rfl) (by kernel_rfl) (fun _ _ _ h => h) (Or.inl ⟨by rfl, ?_⟩) (by assumption) ?_
  rotate_left
  · intro w hSw
    clear hSw
    go_simp
    all_goals with_reducible rfl
  simp only [Act.put, List.setIfInBounds_toArray, List.set_cons_zero, List.set_cons_succ]
  refine wpAnyH_take (i := 31) (oi := { dst := some 62, op := Op.move (Operand.tmp 7), type := 28, pos := "law.go:59", after := #[{ on := 18, ground := Ground.guard }], guard := some (18, true) }) (v := ?_) rfl (by kernel_rfl) (by kernel_rfl) (by kernel_rfl) (fun _ _ _ h => h) (Or.inl ⟨by rfl, ?_⟩) (by assumption) ?_
  rotate_left
  · intro w hSw
    clear hSw
    go_simp
    all_goals with_reducible rfl
  simp only [Act.put, List.setIfInBounds_toArray, List.set_cons_zero, List.set_cons_succ]
  refine wpAnyH_take (i := 32) (oi := { dst := some 63, op := Op.load 23 (Operand.tmp 17), type := 23, pos := "law.go:59", after := #[{ on := 18, ground := Ground.guard }], guard := some (18, true) }) (v := .agg (S.v8l old).toArray) rfl (by kernel_rfl) (by kernel_rfl) (by kernel_rfl) (fun _ _ _ h => h) (yieldsIf_load_mid (by rfl) _ _ rfl (w.heap.size + 1) 0 rfl (S.v8l old) _ (fun _ hSw => rangeAt_row (hSw.row RO3.out (fun e => e))) Tryd.underlying23 rfl hso) (by assumption) ?_
  simp only [Act.put, List.setIfInBounds_toArray, List.set_cons_zero, List.set_cons_succ]
  refine wpAnyH_take (i := 33) (oi := { dst := some 64, op := Op.load 23 (Operand.tmp 14), type := 23, pos := "law.go:59", after := #[{ on := 18, ground := Ground.guard }], guard := some (18, true) }) (v := .agg (S.v8l rt).toArray) rfl (by kernel_rfl) (by kernel_rfl) (by kernel_rfl) (fun _ _ _ h => h) (yieldsIf_load_mid (by rfl) _ _ rfl w.heap.size 0 rfl (S.v8l rt) _ (fun _ hSw => rangeAt_row (hSw.row RT3.out (fun e => e))) Tryd.underlying23 rfl hsr) (by assumption) ?_
  simp only [Act.put, List.setIfInBounds_toArray, List.set_cons_zero, List.set_cons_succ]
  refine wpAnyH_take (i := 34) (oi := { dst := some 65, op := Op.move (Operand.tmp 4), type := 32, pos := "law.go:59", after := #[{ on := 18, ground := Ground.guard }], guard := some (18, true) }) (v := ?_) rfl (by kernel_rfl) (by kernel_rfl) (by kernel_rfl) (fun _ _ _ h => h) (Or.inl ⟨by rfl, ?_⟩) (by assumption) ?_
  rotate_left
  · intro w hSw
    clear hSw
    go_simp
    all_goals with_reducible rfl
  simp only [Act.put, List.setIfInBounds_toArray, List.set_cons_zero, List.set_cons_succ]
  refine wpAnyH_ready (rs := [28]) (by kernel_rfl) (by simp) ?_
  refine AllReadyH.cons (o := { dst := some 59, op := Op.call { callee := Callee.value (Operand.func 12), args := #[Operand.tmp 50, Operand.tmp 51, Operand.tmp 52, Operand.tmp 53, Operand.tmp 54, Operand.tmp 58], argTypes := #[3, 28, 28, 23, 23, 32] }, type := 4, pos := "law.go:59", after := #[{ on := 19, ground := Ground.data }, { on := 20, ground := Ground.data }, { on := 21, ground := Ground.data }, { on := 22, ground := Ground.data }, { on := 23, ground := Ground.data }, { on := 27, ground := Ground.data }, { on := 18, ground := Ground.chain }, { on := 18, ground := Ground.guard }], guard := some (18, true) }) rfl (fun K hK => ?_) AllReadyH.nil
  go_simp
  refine (prefix_any a _ f t old rt HOLD.out HRT.out ps Z2 hf ht (FT.out.below (CZ2.out.below _ (Nat.le_refl _) (fun _ _ e => e))) HCP.out (HK.out.below (B3.out.trans (CZ2.out.below w.heap.size B3.out.size (fun k hk e => e))) h0)).mono ?_
  rintro e Z3 ⟨rfl, hb2⟩
  rw [← HR2.out]
  have CZ3 : Hid (Chg (fun _ => False) w3 Z3) := CZ2.out.then hb2
  clear hb2 CZ2
  clear hHeld
  refine hK.out _ _ CZ3.out (fun hHeld => ?_)
  clear hK K
  try simp only [Act.put, List.setIfInBounds_toArray, List.set_cons_zero, List.set_cons_succ]
  refine wpAnyH_ready (rs := [35]) (by kernel_rfl) (by simp) ?_
  refine AllReadyH.cons (o := { dst := some 66, op := Op.call { callee := Callee.value (Operand.func 17), args := #[Operand.tmp 60, Operand.tmp 61, Operand.tmp 62, Operand.tmp 63, Operand.tmp 64, Operand.tmp 65], argTypes := #[33, 28, 28, 23, 23, 32] }, type := 4, pos := "law.go:59", after := #[{ on := 29, ground := Ground.data }, { on := 30, ground := Ground.data }, { on := 31, ground := Ground.data }, { on := 32, ground := Ground.data }, { on := 33, ground := Ground.data }, { on := 34, ground := Ground.data }, { on := 28, ground := Ground.chain }, { on := 18, ground := Ground.guard }], guard := some (18, true) }) rfl (fun K hK => ?_) AllReadyH.nil
  go_simp
  refine (rprefix_any gh gT a _ f t old rt HOLD.out HRT.out ps Z3 hf ht (H3.out.below (CZ3.out.below _ (Nat.le_refl _) (fun _ _ e => e)) (Nat.le_refl _)) (P3.out.below (CZ3.out.below _ (Nat.le_refl _) (fun _ _ e => e))) (by have := HPL.out; omega)).mono ?_
  rintro e Z4 ⟨rfl, hb2⟩
  rw [← HR2.out]
  have CZ4 : Hid (Chg (fun _ => False) w3 Z4) := CZ3.out.then hb2
  clear hb2 CZ3
  clear hHeld
  refine hK.out _ _ CZ4.out (fun hHeld => ?_)
  clear hK K
  try simp only [Act.put, List.setIfInBounds_toArray, List.set_cons_zero, List.set_cons_succ]
  refine wpAnyH_take (i := 36) (oi := { dst := some 67, op := Op.binOp BinOp.eql 4 (Operand.tmp 59) (Operand.tmp 66) 4, type := 4, pos := "law.go:59", after := #[{ on := 28, ground := Ground.data }, { on := 35, ground := Ground.data }, { on := 18, ground := Ground.guard }], guard := some (18, true) }) (v := ?_) rfl (by kernel_rfl) (by kernel_rfl) (by kernel_rfl) (fun _ _ _ h => h) (Or.inl ⟨by rfl, ?_⟩) (by assumption) ?_
  rotate_left
  · intro w hSw
    clear hSw
    go_simp
    all_goals with_reducible rfl
  simp only [Act.put, List.setIfInBounds_toArray, List.set_cons_zero, List.set_cons_succ]
  refine wpAnyH_take (i := 37) (oi := { dst := some 68, op := Op.pick (Operand.tmp 49) (Operand.tmp 67) (Operand.const (Value.bool false)), type := 4, pos := "law.go:59", after := #[{ on := 18, ground := Ground.data }, { on := 36, ground := Ground.data }], guard := none }) (v := ?_) rfl (by kernel_rfl) (by kernel_rfl) (by kernel_rfl) (fun _ _ _ h => h) (Or.inl ⟨by rfl, ?_⟩) (by assumption) ?_
  rotate_left
  · intro w hSw
    clear hSw
    go_simp
    all_goals with_reducible rfl
  simp only [Act.put, List.setIfInBounds_toArray, List.set_cons_zero, List.set_cons_succ]
  refine wpAnyH_take (i := 38) (oi := { dst := some 69, op := Op.move (Operand.tmp 68), type := 4, pos := "law.go:59", after := #[{ on := 37, ground := Ground.data }, { on := 35, ground := Ground.chain }], guard := none }) (v := ?_) rfl (by kernel_rfl) (by kernel_rfl) (by kernel_rfl) (fun _ _ _ h => h) (Or.inl ⟨by rfl, ?_⟩) (by assumption) ?_
  rotate_left
  · intro w hSw
    clear hSw
    go_simp
    all_goals with_reducible rfl
  simp only [Act.put, List.setIfInBounds_toArray, List.set_cons_zero, List.set_cons_succ]
  refine wpAnyH_take (i := 39) (oi := { dst := some 70, op := Op.move (Operand.tmp 20), type := 32, pos := "law.go:59", after := #[{ on := 38, ground := Ground.guard }], guard := some (38, true) }) (v := ?_) rfl (by kernel_rfl) (by kernel_rfl) (by kernel_rfl) (fun _ _ _ h => h) (Or.inl ⟨by rfl, ?_⟩) (by assumption) ?_
  rotate_left
  · intro w hSw
    clear hSw
    go_simp
    all_goals with_reducible rfl
  simp only [Act.put, List.setIfInBounds_toArray, List.set_cons_zero, List.set_cons_succ]
  refine wpAnyH_take (i := 40) (oi := { dst := some 71, op := Op.move (Operand.tmp 4), type := 32, pos := "law.go:59", after := #[{ on := 38, ground := Ground.guard }], guard := some (38, true) }) (v := ?_) rfl (by kernel_rfl) (by kernel_rfl) (by kernel_rfl) (fun _ _ _ h => h) (Or.inl ⟨by rfl, ?_⟩) (by assumption) ?_
  rotate_left
  · intro w hSw
    clear hSw
    go_simp
    all_goals with_reducible rfl
  simp only [Act.put, List.setIfInBounds_toArray, List.set_cons_zero, List.set_cons_succ]
  refine wpAnyH_take (i := 41) (oi := { dst := some 72, op := Op.build 23 #[(0, Operand.const (Value.int IntKind.u8 9))], type := 23, pos := "law.go:59", after := #[{ on := 38, ground := Ground.guard }], guard := some (38, true) }) (v := .agg (S.v8 S.nine)) rfl (by kernel_rfl) (by kernel_rfl) (by kernel_rfl) (fun _ _ _ h => h) (yieldsIf_build (by rfl) 23 [(0, .const (.int .u8 9))] rfl _ (fun w => bmark w)) (by assumption) ?_
  simp only [Act.put, List.setIfInBounds_toArray, List.set_cons_zero, List.set_cons_succ]
  refine wpAnyH_ready (rs := [42]) (by kernel_rfl) (by simp) ?_
  refine AllReadyH.cons (o := { dst := some 73, op := Op.call { callee := Callee.value (Operand.func 18), args := #[Operand.tmp 70, Operand.tmp 71, Operand.tmp 72], argTypes := #[32, 32, 23] }, type := 4, pos := "law.go:59", after := #[{ on := 39, ground := Ground.data }, { on := 40, ground := Ground.data }, { on := 41, ground := Ground.data }, { on := 38, ground := Ground.chain }, { on := 38, ground := Ground.guard }], guard := some (38, true) }) rfl (fun K hK => ?_) AllReadyH.nil
  go_simp
  refine (intact_dig _ _ ps S.nine Z4 (FA.out.below (CZ4.out.below _ (Nat.le_refl _) (fun _ _ e => e))) HCF.out (P3.out.below (CZ4.out.below _ (Nat.le_refl _) (fun _ _ e => e))) S.nine_length HPL.out).mono ?_
  rintro e Z5 ⟨rfl, hb2⟩
  have CZ5 : Hid (Chg (fun _ => False) w3 Z5) := CZ4.out.then hb2
  clear hb2 CZ4
  clear hHeld
  refine hK.out _ _ CZ5.out (fun hHeld => ?_)
  clear hK K
  try simp only [Act.put, List.setIfInBounds_toArray, List.set_cons_zero, List.set_cons_succ]
  refine wpAnyH_take (i := 43) (oi := { dst := some 74, op := Op.pick (Operand.tmp 69) (Operand.tmp 73) (Operand.const (Value.bool false)), type := 4, pos := "law.go:59", after := #[{ on := 38, ground := Ground.data }, { on := 42, ground := Ground.data }], guard := none }) (v := ?_) rfl (by kernel_rfl) (by kernel_rfl) (by kernel_rfl) (fun _ _ _ h => h) (Or.inl ⟨by rfl, ?_⟩) (by assumption) ?_
  rotate_left
  · intro w hSw
    clear hSw
    go_simp
    all_goals with_reducible rfl
  simp only [Act.put, List.setIfInBounds_toArray, List.set_cons_zero, List.set_cons_succ]
  refine wpAnyH_take (i := 44) (oi := { dst := some 75, op := Op.move (Operand.tmp 74), type := 4, pos := "law.go:59", after := #[{ on := 43, ground := Ground.data }, { on := 42, ground := Ground.chain }], guard := none }) (v := ?_) rfl (by kernel_rfl) (by kernel_rfl) (by kernel_rfl) (fun _ _ _ h => h) (Or.inl ⟨by rfl, ?_⟩) (by assumption) ?_
  rotate_left
  · intro w hSw
    clear hSw
    go_simp
    all_goals with_reducible rfl
  simp only [Act.put, List.setIfInBounds_toArray, List.set_cons_zero, List.set_cons_succ]
  refine wpAnyH_ready (rs := [45]) (by kernel_rfl) (by simp) ?_
  refine AllReadyH.cons (o := { dst := some 76, op := Op.call { callee := Callee.value (Operand.func 13), args := #[], argTypes := #[] }, type := 4, pos := "law.go:59", after := #[{ on := 44, ground := Ground.chain }, { on := 44, ground := Ground.guard }], guard := some (44, true) }) rfl (fun K hK => ?_) AllReadyH.nil
  go_simp
  refine (known9_any Z5 (HK.out.below (B3.out.trans (CZ5.out.below w.heap.size B3.out.size (fun k hk e => e))) h0)).mono ?_
  rintro e Z6 ⟨rfl, hb2⟩
  have CZ6 : Hid (Chg (fun _ => False) w3 Z6) := CZ5.out.then hb2
  clear hb2 CZ5
  clear hHeld
  refine hK.out _ _ CZ6.out (fun hHeld => ?_)
  clear hK K
  try simp only [Act.put, List.setIfInBounds_toArray, List.set_cons_zero, List.set_cons_succ]
  refine wpAnyH_take (i := 46) (oi := { dst := some 77, op := Op.pick (Operand.tmp 75) (Operand.tmp 76) (Operand.const (Value.bool false)), type := 4, pos := "law.go:59", after := #[{ on := 44, ground := Ground.data }, { on := 45, ground := Ground.data }], guard := none }) (v := ?_) rfl (by kernel_rfl) (by kernel_rfl) (by kernel_rfl) (fun _ _ _ h => h) (Or.inl ⟨by rfl, ?_⟩) (by assumption) ?_
  rotate_left
  · intro w hSw
    clear hSw
    go_simp
    all_goals with_reducible rfl
  simp only [Act.put, List.setIfInBounds_toArray, List.set_cons_zero, List.set_cons_succ]
  refine wpAnyH_take (i := 47) (oi := { dst := some 18, op := Op.assign (Operand.tmp 77), type := 4, pos := "law.go:59", after := #[{ on := 46, ground := Ground.data }, { on := 45, ground := Ground.chain }, { on := 0, ground := Ground.phase }, { on := 1, ground := Ground.phase }, { on := 2, ground := Ground.phase }, { on := 3, ground := Ground.phase }, { on := 4, ground := Ground.phase }, { on := 5, ground := Ground.phase }, { on := 6, ground := Ground.phase }, { on := 7, ground := Ground.phase }, { on := 8, ground := Ground.phase }, { on := 9, ground := Ground.phase }, { on := 10, ground := Ground.phase }, { on := 11, ground := Ground.phase }, { on := 12, ground := Ground.phase }, { on := 13, ground := Ground.phase }, { on := 14, ground := Ground.phase }, { on := 15, ground := Ground.phase }, { on := 16, ground := Ground.phase }, { on := 17, ground := Ground.phase }, { on := 18, ground := Ground.phase }, { on := 19, ground := Ground.phase }, { on := 20, ground := Ground.phase }, { on := 21, ground := Ground.phase }, { on := 22, ground := Ground.phase }, { on := 23, ground := Ground.phase }, { on := 24, ground := Ground.phase }, { on := 25, ground := Ground.phase }, { on := 26, ground := Ground.phase }, { on := 27, ground := Ground.phase }, { on := 28, ground := Ground.phase }, { on := 29, ground := Ground.phase }, { on := 30, ground := Ground.phase }, { on := 31, ground := Ground.phase }, { on := 32, ground := Ground.phase }, { on := 33, ground := Ground.phase }, { on := 34, ground := Ground.phase }, { on := 35, ground := Ground.phase }, { on := 36, ground := Ground.phase }, { on := 37, ground := Ground.phase }, { on := 38, ground := Ground.phase }, { on := 39, ground := Ground.phase }, { on := 40, ground := Ground.phase }, { on := 41, ground := Ground.phase }, { on := 42, ground := Ground.phase }, { on := 43, ground := Ground.phase }, { on := 44, ground := Ground.phase }, { on := 45, ground := Ground.phase }, { on := 46, ground := Ground.phase }], guard := none }) (v := ?_) rfl (by kernel_rfl) (by kernel_rfl) (by kernel_rfl) (fun _ _ _ h => h) (Or.inl ⟨by rfl, ?_⟩) (by assumption) ?_
  rotate_left
  · intro w hSw
    clear hSw
    go_simp
    all_goals with_reducible rfl
  simp only [Act.put, List.setIfInBounds_toArray, List.set_cons_zero, List.set_cons_succ]
  refine wpAnyH_done (by kernel_rfl) ?_ _
  refine NoPanic.normal ?_
  clear hHeld
  have BF := hide (B3.out.trans (CZ6.out.below w.heap.size B3.out.size (fun k hk e => e)))
  clear CZ6
  go_wp2_with fail
  go_ret
  exact ⟨rfl, BF.out⟩
end Go.Proofs.YtlbggkmblkhjoaaDoor
