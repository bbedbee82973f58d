/- Mint. -/
import Derived.Test.YtlcilclhaahopaaDoorTc
namespace Go.Proofs.YtlcilclhaahopaaDoor
open Go.RowKit

/-- []byte of a constant text: its row is marked; nothing else. -/
theorem conv_mark {W : World} {g n c : Nat} {C : Array Value} (h : W.heap[g]? = some (.cells C 5 (0, 0))) :
    ∃ W', (convert 30 30 (.slice (some ⟨g, 0, none⟩) n c)).run Tryd.prog W = .ok (.slice (some ⟨g, 0, none⟩) n c) W' ∧ W'.heap[g]? = some (.cells C 5 (C.size, C.size + 1)) ∧ Chg (fun k => k = g) W W' ∧ (∀ a, W'.cell? a = W.cell? a) ∧ W'.heap.size = W.heap.size := by
  have hsh : W.shape? g = some (5, C.size) := by unfold World.shape?; rw [h]
  have r1 : (W.freeze ⟨g, C.size, none⟩ 1).heap[g]? = some (.cells C 5 (C.size, C.size + 1)) := by
    unfold World.freeze
    rw [if_neg (by decide)]
    show (W.heap.modify g _)[g]? = _
    rw [Array.getElem?_modify, if_pos rfl, h]
    rfl
  have r2 : ∀ k, k ≠ g → (W.freeze ⟨g, C.size, none⟩ 1).heap[k]? = W.heap[k]? := fun k hk => by
    unfold World.freeze
    rw [if_neg (by decide)]
    show (W.heap.modify g _)[k]? = _
    rw [Array.getElem?_modify, if_neg (fun e => hk e.symm)]
  have r3 : (W.freeze ⟨g, C.size, none⟩ 1).heap.size = W.heap.size := by
    unfold World.freeze
    rw [if_neg (by decide)]
    show (W.heap.modify g _).size = _
    simp
  refine ⟨W.freeze ⟨g, C.size, none⟩ 1, ?_, r1, ⟨?_, ?_, ?_, Nat.le_of_eq r3.symm, fun k _ hk => r2 k hk⟩, fun a => ?_, r3⟩
  · simp [convert, run_underlying Tryd.underlying30, run_underlying Tryd.underlying5, markStringish, hsh]
  · unfold World.freeze; rw [if_neg (by decide)]
  · unfold World.freeze; rw [if_neg (by decide)]
  · unfold World.freeze; rw [if_neg (by decide)]
  · by_cases e : a.block = g
    · unfold World.cell?
      rw [e, r1, h]
    · exact World.cell?_of_block (r2 _ e)
theorem SliceAt.cells {w W : World} {v : Value} {bs : List UInt8} (h : SliceAt w v bs) (hs : W.heap.size = w.heap.size) (hc : ∀ a, W.cell? a = w.cell? a) : SliceAt W v bs := by
  rcases h with h | h | ⟨b, off, cap, rfl, h1, h2, h3, h4⟩
  · exact Or.inl h
  · exact Or.inr (Or.inl h)
  · exact Or.inr (Or.inr ⟨b, off, cap, rfl, h1, h2, by omega, fun j hj => (hc _).trans (h4 j hj)⟩)
theorem step_cv_when {md : Region.Mode} {ops : Array Oper} {Q : Exit → Act → World → Prop} {S : World → Prop} {fuel : Nat} {listed : Array Bool} {a : Act} {w : World} {i : Nat} {o : Oper} {rs : List Nat} (ho : ops[i]? = some o) (hw : Region.wanted o (yielded ops a.tmps) = true) (t1 t2 : TypeId) (x : Operand)
    (hop : o.op = .convert t1 t2 x) (vx : Value) (hx : a.eval x = vx) (v' : Value) (w' : World) (hr : (convert t1 t2 vx).run Tryd.prog w = .ok v' w') (hrest : AllReadyH Tryd.prog md ops Q S fuel listed a w rs)
    (h : S w' ∧ (S w' → wpAnyH Tryd.prog md ops Q S fuel (listed.setIfInBounds i true) (a.put o.dst v') w')) : AllReadyH Tryd.prog md ops Q S fuel listed a w (i :: rs) := by
  subst hx
  refine AllReadyH.cons ho (fun K hK => ?_) hrest
  rw [if_pos hw]
  unfold Oper.wp execOp
  simp only [hop, Sem.run_bind, hr, Result.andThen_ok]
  exact hK.out _ _ h.1 h.2
theorem bs_tok (W : World) : (Instr.buildSlice 30 5 #[(0, .int .u8 116), (1, .int .u8 111), (2, .int .u8 107), (3, .int .u8 101), (4, .int .u8 110)]).run Tryd.prog W = .ok (.slice (some ⟨W.heap.size, 0, none⟩) 5 5) (W.alloc (.cells (S.v8 [116, 111, 107, 101, 110]) 5)) := by
  rw [show S.v8 [116, 111, 107, 101, 110] = #[.int .u8 116, .int .u8 111, .int .u8 107, .int .u8 101, .int .u8 110] from rfl]
  go_simp
theorem row_text {W : World} {g n : Nat} {l : List UInt8} {p : Nat × Nat} (h : W.heap[g]? = some (.cells (S.v8 l) 5 p)) (hn : l.length = n) (hl : n ≤ 100000) : SliceAt W (.slice (some ⟨g, 0, none⟩) n n) l :=
  Or.inr (Or.inr ⟨g, 0, n, by rw [hn], by omega, by omega, block_lt_of_row h, fun j hj => by
    rw [Nat.zero_add, cell_of_row W g j _ _ _ h]
    simp [S.v8, hj]⟩)
theorem info30s : (Tryd.prog.info? 30).map (fun i => (i.zero, i.size, i.bytes)) = some (some (.slice none 0 0), 1, 24) := by kernel_rfl
theorem bs122two (W : World) (u v : Value) (hu : u.cells = #[u]) (hv : v.cells = #[v]) : (Instr.buildSlice 122 2 #[(0, u), (1, v)]).run Tryd.prog W = .ok (.slice (some ⟨W.heap.size, 0, none⟩) 2 2) (W.alloc (.cells #[u, v] 30)) := by
  obtain ⟨i, hi, hz, hs, _⟩ := info_parts info30s
  refine run_buildSlice W 122 30 2 _ _ i _ Tryd.underlying122 hi hz (by rw [hs]; omega) (by rw [hs]; omega) ?_
  have h := Great.fill_whole (s := 1) (by omega) [u, v] ((Array.range (2 * i.size)).map ((Value.slice none 0 0).cells[· % (Value.slice none 0 0).cells.size]!)) (fun x hx => by
    simp only [List.mem_cons, List.not_mem_nil, or_false] at hx
    rcases hx with rfl | rfl
    · rw [hu]; rfl
    · rw [hv]; rfl) (by simp [hs])
  rw [hs] at h ⊢
  refine h.trans ?_
  simp [hu, hv]
theorem listAt2 {w : World} {g : Nat} {u v : Value} {a b : List UInt8} {t : TypeId} (h : w.heap[g]? = some (.cells #[u, v] t (0, 0))) (hu : SliceAt w u a) (hv : SliceAt w v b) : ListAt w g [a, b] :=
  ⟨block_lt_of_row h, fun j hj => by
    rcases (by simp at hj; omega : j = 0 ∨ j = 1) with rfl | rfl
    · exact ⟨_, (cell_of_row w _ 0 _ _ _ h).trans rfl, hu⟩
    · exact ⟨_, (cell_of_row w _ 1 _ _ _ h).trans rfl, hv⟩⟩
theorem dig_all {w : World} {g : Nat} {d : List UInt8} (h : w.heap[g]? = some (.cells (S.v8 d) 25 (0, 0))) (hd : d.length = 32) : SliceAt w (.slice (some ⟨g, 0, none⟩) 32 32) d := by
  have := dig_part h hd 32 (Nat.le_refl _)
  rwa [List.take_of_length_le (Nat.le_of_eq hd)] at this
/-- A token that reads so. -/
def TkIs (w : World) (v : Value) (t : S.Tk) : Prop := ∃ cv, v = .agg (encT t.id cv t.tag).toArray ∧ CvAt w cv t.cs
theorem TkIs.below {w W : World} {v : Value} {t : S.Tk} (h : TkIs w v t) (hb : Below w.heap.size w W) : TkIs W v t := by
  obtain ⟨cv, e, h⟩ := h
  exact ⟨cv, e, h.below hb⟩
set_option maxHeartbeats 8000000 in
set_option maxRecDepth 10000 in
theorem mint_any (r : List UInt8) (id : Nat) (w : World) (hr : r.length = 32) (hid : id < 4294967296) (hK : KAt w) :
   Calls Tryd.prog 9 #[.agg (S.v8 r), .int .u32 (id : Int)] w fun e w' => e = .returned (.agg (encT id (.slice none 0 0) (S.mint r id).tag).toArray) ∧ Below w.heap.size w w' := by
  have q3 : IntKind.u64.wrap (id : Int) = (id : Int) := wrap_u64_lt id (by omega)
  have HK := hide hK
  have h0 := hK.pos
  have HR := hide hr
  clear hK hr hid
  go_enter Tryd.func9, Tryd.ntmps9
  go_upto_region 1 with (refine wpList_alloc_known rfl 27 rfl _ _ (alloc27 _) ?_)
  generalize hW0 : w.alloc _ = W0
  generalize hW1 : W0.alloc _ = W1
  have B0 : Below w.heap.size w W0 := by rw [← hW0]; exact (Below.refl _ _).alloc (Nat.le_refl _) _
  have s0 : W0.heap.size = w.heap.size + 1 := by rw [← hW0]; simp
  have r0 : W0.heap[w.heap.size]? = some (.cells (S.v8 r) 25 (0, 0)) := by rw [← hW0]; exact heap_alloc_new _ _
  have B1 : Below W0.heap.size W0 W1 := by rw [← hW1]; exact (Below.refl _ _).alloc (Nat.le_refl _) _
  have s1 : W1.heap.size = w.heap.size + 2 := by rw [← hW1]; simp [s0]
  have r1 : W1.heap[w.heap.size + 1]? = some (.cells tk0 27 (0, 0)) := by rw [← hW1, ← s0]; exact heap_alloc_new _ _
  have BB : Hid (Below w.heap.size w W1) := (B0.trans (B1.mono (by omega)))
  have Q0 : Hid (W1.heap[w.heap.size]? = some (.cells (S.v8 r) 25 (0, 0))) := ((B1.block _ (by omega)).trans r0)
  have Q1 : Hid (W1.heap[w.heap.size + 1]? = some (.cells tk0 27 (0, 0))) := r1
  rw [s0]
  clear hW0 B0 s0 r0 hW1 B1 s1 r1
  go_wp2_with fail
  refine (newWriter_any W1).mono ?_
  rintro e w1 ⟨rfl, h1, h2⟩
  obtain ⟨gw, hgw⟩ : ∃ gw, gw = W1.heap.size := ⟨_, rfl⟩
  have HG : Hid (gw = W1.heap.size) := hgw
  rw [← hgw] at h1 ⊢
  have X1 := hide h1
  have H1 : Hid (Below W1.heap.size W1 w1) := h2
  clear h1 h2 hgw
  go_wp2_with fail
  refine (wnumber_is id gw _ w1 rfl rfl X1.out (by simp)).mono ?_
  rintro e w2 ⟨rfl, v2, h3, h4⟩
  have hb := h4.base H1.out.size (Nat.le_of_eq HG.out.symm) (nil_base _)
  have WR := hide h3
  have H2 := hide (H1.out.trans hb.1)
  clear h3 h4 hb H1 X1
  have BB2 := hide (BB.out.trans (H2.out.mono BB.out.size))
  have Q0b : Hid (w2.heap[w.heap.size]? = some (.cells (S.v8 r) 25 (0, 0))) := (H2.out.block _ (block_lt_of_row Q0.out)).trans Q0.out
  have Q1b : Hid (w2.heap[w.heap.size + 1]? = some (.cells tk0 27 (0, 0))) := (H2.out.block _ (block_lt_of_row Q1.out)).trans Q1.out
  have L0 := hide (block_lt_of_row Q0b.out)
  have L1 := hide (block_lt_of_row Q1b.out)
  have LG := hide WR.out.lt
  have LV := hide (fun k (e : v2.ownBlock = some k) => WR.out.text.lt e)
  rw [List.nil_append, size_4] at WR
  generalize hT : S.num id 4 = T at WR
  have hTl : T.length = 4 := by rw [← hT]; simp [S.num_length]
  have HT : Hid (S.mintText id = [116, 111, 107, 101, 110] ++ T) := by rw [← hT]; rfl
  clear hT q3 BB Q0 Q1 H2 HG
  go_upto_region 3 with fail
  refine wp_region_noPanic ?_
  refine wp_region_held_drew (S := (fun W => Chg (fun k => k = w.heap.size + 1) w2 W)) follows ((Chg.refl _ _).drew) (fun hHeld => ?_)
  clear hHeld
  have hHeld : Chg (fun k => k = w.heap.size + 1) w2 w2.drew := (Chg.refl _ _).drew
  have CZ0 := hide hHeld
  have Q0b' : Hid (w2.drew.heap[w.heap.size]? = some (.cells (S.v8 r) 25 (0, 0))) := Q0b.out
  have Q1b' : Hid (w2.drew.heap[(w.heap.size + 1)]? = some (.cells tk0 27 (0, 0))) := Q1b.out
  have WR' : Hid (WrIs w2.drew gw v2 T) := WR.out.chg (p := fun _ => False) (Chg.ofBelow' ((Below.refl _ _).drew)) (fun e => e) (fun _ _ e => e)
  generalize w2.drew = Z0 at CZ0 hHeld Q0b' Q1b' WR' ⊢
  refine wpAnyH_take (i := 0) (oi := { dst := some 11, op := Op.move (Operand.tmp 1), type := 22, pos := "token.go:27", after := #[], guard := none }) (v := ?_) rfl (by kernel_rfl) (by kernel_rfl) (by kernel_rfl) (fun _ _ _ h => h) (Or.inl ⟨by rfl, ?_⟩) (by assumption) ?_
  rotate_left
  · intro w hSw
    clear hSw
    go_simp
    all_goals with_reducible rfl
  simp only [Act.put, List.setIfInBounds_toArray, List.set_cons_zero, List.set_cons_succ]
  refine wpAnyH_take (i := 1) (oi := { dst := some 12, op := Op.slice 25 (Operand.tmp 2) none none none, type := 30, pos := "token.go:27", after := #[], guard := none }) (v := ?_) rfl (by kernel_rfl) (by kernel_rfl) (by kernel_rfl) (fun _ _ _ h => h) (Or.inl ⟨by rfl, ?_⟩) (by assumption) ?_
  rotate_left
  · intro w hSw
    clear hSw
    go_simp
    all_goals with_reducible rfl
  simp only [Act.put, List.setIfInBounds_toArray, List.set_cons_zero, List.set_cons_succ]
  refine wpAnyH_take (i := 4) (oi := { dst := some 15, op := Op.move (Operand.tmp 5), type := 75, pos := "token.go:27", after := #[], guard := none }) (v := ?_) rfl (by kernel_rfl) (by kernel_rfl) (by kernel_rfl) (fun _ _ _ h => h) (Or.inl ⟨by rfl, ?_⟩) (by assumption) ?_
  rotate_left
  · intro w hSw
    clear hSw
    go_simp
    all_goals with_reducible rfl
  simp only [Act.put, List.setIfInBounds_toArray, List.set_cons_zero, List.set_cons_succ]
  refine wpAnyH_ready (rs := [2, 5]) (by kernel_rfl) (by simp) ?_
  refine step_buildSlice_as (o := { dst := some 13, op := Op.buildSlice 30 5 #[(0, Operand.const (Value.int IntKind.u8 116)), (1, Operand.const (Value.int IntKind.u8 111)), (2, Operand.const (Value.int IntKind.u8 107)), (3, Operand.const (Value.int IntKind.u8 101)), (4, Operand.const (Value.int IntKind.u8 110))], type := 30, pos := "token.go:27", after := #[], guard := none }) rfl rfl 30 5 [(0, .const (.int .u8 116)), (1, .const (.int .u8 111)), (2, .const (.int .u8 107)), (3, .const (.int .u8 101)), (4, .const (.int .u8 110))] rfl [(0, .int .u8 116), (1, .int .u8 111), (2, .int .u8 107), (3, .int .u8 101), (4, .int .u8 110)] rfl _ _ (bs_tok Z0) ?_ ⟨CZ0.out.alloc _, fun hHeld => ?_⟩
  rotate_left
  · skip
    clear hHeld
    simp only [Act.put, List.setIfInBounds_toArray, List.set_cons_zero, List.set_cons_succ]
    obtain ⟨gk, hgk⟩ : ∃ gg, gg = Z0.heap.size := ⟨_, rfl⟩
    rw [← hgk]
    generalize hZ : Z0.alloc _ = Z1
    have hb2 : Below Z0.heap.size Z0 Z1 := by rw [← hZ]; exact (Below.refl _ _).alloc (Nat.le_refl _) _
    have Rgk : Hid (Z1.heap[gk]? = some (.cells (S.v8 [116, 111, 107, 101, 110]) 5 (0, 0))) := by rw [← hZ, hgk]; exact heap_alloc_new _ _
    have Ggk := hide (show w2.heap.size ≤ gk by rw [hgk]; exact CZ0.out.size)
    clear hZ hgk
    replace Q0b' : Hid (Z1.heap[w.heap.size]? = some (.cells (S.v8 r) 25 (0, 0))) := (hb2.block _ (block_lt_of_row Q0b'.out)).trans Q0b'.out
    replace Q1b' : Hid (Z1.heap[(w.heap.size + 1)]? = some (.cells tk0 27 (0, 0))) := (hb2.block _ (block_lt_of_row Q1b'.out)).trans Q1b'.out
    replace WR' : Hid (WrIs Z1 gw v2 T) := WR'.out.chg (p := fun _ => False) (Chg.ofBelow' hb2) (fun e => e) (fun _ _ e => e)
    have CZ1 : Hid (Chg (fun k => k = w.heap.size + 1) w2 Z1) := CZ0.out.then hb2
    clear hb2 CZ0
    have hHeld := CZ1.out
    refine wpAnyH_ready (rs := [3, 5]) (by kernel_rfl) (by simp) ?_
    obtain ⟨Z2, hst, r6, C6, CS, SS⟩ := conv_mark (n := 5) (c := 5) Rgk.out
    refine step_cv_when (o := { dst := some 14, op := Op.convert 30 30 (Operand.tmp 13), type := 30, pos := "token.go:27", after := #[{ on := 2, ground := Ground.data }], guard := none }) rfl rfl 30 30 (.tmp 13) rfl _ rfl _ Z2 hst ?_ ⟨CZ1.out.trans C6 (fun k hk e => absurd e (Nat.ne_of_lt (Nat.lt_of_lt_of_le hk Ggk.out))), fun hHeld => ?_⟩
    rotate_left
    · skip
      clear hHeld
      simp only [Act.put, List.setIfInBounds_toArray, List.set_cons_zero, List.set_cons_succ]
      replace Q0b' : Hid (Z2.heap[w.heap.size]? = some (.cells (S.v8 r) 25 (0, 0))) := C6.row Q0b'.out (fun e => absurd e (Nat.ne_of_lt (Nat.lt_of_lt_of_le L0.out Ggk.out)))
      replace Q1b' : Hid (Z2.heap[(w.heap.size + 1)]? = some (.cells tk0 27 (0, 0))) := C6.row Q1b'.out (fun e => absurd e (Nat.ne_of_lt (Nat.lt_of_lt_of_le L1.out Ggk.out)))
      replace Rgk : Hid (Z2.heap[gk]? = some (.cells (S.v8 [116, 111, 107, 101, 110]) 5 (5, 6))) := r6
      replace WR' : Hid (WrIs Z2 gw v2 T) := WR'.out.chg C6 (fun e => absurd e (Nat.ne_of_lt (Nat.lt_of_lt_of_le LG.out Ggk.out))) (fun k hk e => absurd e (Nat.ne_of_lt (Nat.lt_of_lt_of_le (LV.out k hk) Ggk.out)))
      have CZ2 : Hid (Chg (fun k => k = w.heap.size + 1) w2 Z2) := CZ1.out.trans C6 (fun k hk e => absurd e (Nat.ne_of_lt (Nat.lt_of_lt_of_le hk Ggk.out)))
      clear hst r6 C6 CS SS CZ1
      have hHeld := CZ2.out
      refine wpAnyH_ready (rs := [5]) (by kernel_rfl) (by simp) ?_
      refine AllReadyH.cons (o := { dst := some 16, op := Op.call { callee := Callee.value (Operand.func 38), args := #[Operand.tmp 15], argTypes := #[75] }, type := 30, pos := "token.go:27", after := #[{ on := 4, ground := Ground.data }], guard := none }) rfl (fun K hK => ?_) AllReadyH.nil
      go_simp
      refine (done_any gw v2 T Z2 WR'.out (by omega)).mono ?_
      rintro e Z3 ⟨rfl, hr5, hb2⟩
      have ST : Hid (SliceAt Z3 (.slice (some ⟨Z2.heap.size, 0, none⟩) 4 4) T) := row_text hr5 hTl (by omega)
      rw [hTl]
      clear hr5
      obtain ⟨gd, hgd⟩ : ∃ gd, gd = Z2.heap.size := ⟨_, rfl⟩
      rw [← hgd] at ST ⊢
      clear hgd
      replace Q0b' : Hid (Z3.heap[w.heap.size]? = some (.cells (S.v8 r) 25 (0, 0))) := (hb2.block _ (block_lt_of_row Q0b'.out)).trans Q0b'.out
      replace Q1b' : Hid (Z3.heap[(w.heap.size + 1)]? = some (.cells tk0 27 (0, 0))) := (hb2.block _ (block_lt_of_row Q1b'.out)).trans Q1b'.out
      replace Rgk : Hid (Z3.heap[gk]? = some (.cells (S.v8 [116, 111, 107, 101, 110]) 5 (5, 6))) := (hb2.block _ (block_lt_of_row Rgk.out)).trans Rgk.out
      replace WR' : Hid (WrIs Z3 gw v2 T) := WR'.out.chg (p := fun _ => False) (Chg.ofBelow' hb2) (fun e => e) (fun _ _ e => e)
      have CZ3 : Hid (Chg (fun k => k = w.heap.size + 1) w2 Z3) := CZ2.out.then hb2
      clear hb2 CZ2
      clear hHeld
      refine hK.out _ _ CZ3.out (fun hHeld => ?_)
      clear hK K
      try simp only [Act.put, List.setIfInBounds_toArray, List.set_cons_zero, List.set_cons_succ]
      refine wpAnyH_ready (rs := [6]) (by kernel_rfl) (by simp) ?_
      refine step_buildSlice_as (o := { dst := some 17, op := Op.buildSlice 122 2 #[(0, Operand.tmp 14), (1, Operand.tmp 16)], type := 122, pos := "token.go:27", after := #[{ on := 3, ground := Ground.data }, { on := 5, ground := Ground.data }], guard := none }) rfl rfl 122 2 [(0, .tmp 14), (1, .tmp 16)] rfl [(0, .slice (some ⟨gk, 0, none⟩) 5 5), (1, .slice (some ⟨gd, 0, none⟩) 4 4)] rfl _ _ (bs122two Z3 _ _ rfl rfl) AllReadyH.nil ⟨CZ3.out.alloc _, fun hHeld => ?_⟩
      clear hHeld
      simp only [Act.put, List.setIfInBounds_toArray, List.set_cons_zero, List.set_cons_succ]
      obtain ⟨gl, hgl⟩ : ∃ gg, gg = Z3.heap.size := ⟨_, rfl⟩
      rw [← hgl]
      generalize hZ : Z3.alloc _ = Z4
      have hb2 : Below Z3.heap.size Z3 Z4 := by rw [← hZ]; exact (Below.refl _ _).alloc (Nat.le_refl _) _
      have Rgl : Hid (Z4.heap[gl]? = some (.cells #[.slice (some ⟨gk, 0, none⟩) 5 5, .slice (some ⟨gd, 0, none⟩) 4 4] 30 (0, 0))) := by rw [← hZ, hgl]; exact heap_alloc_new _ _
      have Ggl := hide (show w2.heap.size ≤ gl by rw [hgl]; exact CZ3.out.size)
      clear hZ hgl
      replace Q0b' : Hid (Z4.heap[w.heap.size]? = some (.cells (S.v8 r) 25 (0, 0))) := (hb2.block _ (block_lt_of_row Q0b'.out)).trans Q0b'.out
      replace Q1b' : Hid (Z4.heap[(w.heap.size + 1)]? = some (.cells tk0 27 (0, 0))) := (hb2.block _ (block_lt_of_row Q1b'.out)).trans Q1b'.out
      replace Rgk : Hid (Z4.heap[gk]? = some (.cells (S.v8 [116, 111, 107, 101, 110]) 5 (5, 6))) := (hb2.block _ (block_lt_of_row Rgk.out)).trans Rgk.out
      replace WR' : Hid (WrIs Z4 gw v2 T) := WR'.out.chg (p := fun _ => False) (Chg.ofBelow' hb2) (fun e => e) (fun _ _ e => e)
      replace ST : Hid (SliceAt Z4 (.slice (some ⟨gd, 0, none⟩) 4 4) T) := ST.out.below hb2 (Nat.le_refl _)
      have CZ4 : Hid (Chg (fun k => k = w.heap.size + 1) w2 Z4) := CZ3.out.then hb2
      clear hb2 CZ3
      have hHeld := CZ4.out
      refine wpAnyH_ready (rs := [7]) (by kernel_rfl) (by simp) ?_
      refine AllReadyH.cons (o := { dst := some 18, op := Op.call { callee := Callee.value (Operand.func 37), args := #[Operand.tmp 17], argTypes := #[122] }, type := 30, pos := "token.go:27", after := #[{ on := 6, ground := Ground.data }, { on := 5, ground := Ground.chain }], guard := none }) rfl (fun K hK => ?_) AllReadyH.nil
      go_simp
      refine (join_any gl 2 2 [[116, 111, 107, 101, 110], T] Z4 rfl (by omega) (by omega) (listAt2 Rgl.out (row_text Rgk.out rfl (by omega)) ST.out) (by simp [hTl])).mono ?_
      rintro e Z5 ⟨gj, rfl, hgj, hrj, hb2⟩
      have eJ : ([[116, 111, 107, 101, 110], T] : List (List UInt8)).flatten = S.mintText id := by rw [HT.out]; simp
      have lJ := S.mintText_length id
      rw [eJ] at hrj ⊢
      rw [lJ] at hrj ⊢
      have SJ : Hid (SliceAt Z5 (.slice (some ⟨gj, 0, none⟩) 9 9) (S.mintText id)) := by have := hrj.sliceAt (by rw [lJ]; omega); rw [lJ] at this; exact this
      clear hrj hgj eJ lJ
      replace Q0b' : Hid (Z5.heap[w.heap.size]? = some (.cells (S.v8 r) 25 (0, 0))) := (hb2.block _ (block_lt_of_row Q0b'.out)).trans Q0b'.out
      replace Q1b' : Hid (Z5.heap[(w.heap.size + 1)]? = some (.cells tk0 27 (0, 0))) := (hb2.block _ (block_lt_of_row Q1b'.out)).trans Q1b'.out
      replace Rgk : Hid (Z5.heap[gk]? = some (.cells (S.v8 [116, 111, 107, 101, 110]) 5 (5, 6))) := (hb2.block _ (block_lt_of_row Rgk.out)).trans Rgk.out
      replace Rgl : Hid (Z5.heap[gl]? = some (.cells #[.slice (some ⟨gk, 0, none⟩) 5 5, .slice (some ⟨gd, 0, none⟩) 4 4] 30 (0, 0))) := (hb2.block _ (block_lt_of_row Rgl.out)).trans Rgl.out
      replace WR' : Hid (WrIs Z5 gw v2 T) := WR'.out.chg (p := fun _ => False) (Chg.ofBelow' hb2) (fun e => e) (fun _ _ e => e)
      replace ST : Hid (SliceAt Z5 (.slice (some ⟨gd, 0, none⟩) 4 4) T) := ST.out.below hb2 (Nat.le_refl _)
      have CZ5 : Hid (Chg (fun k => k = w.heap.size + 1) w2 Z5) := CZ4.out.then hb2
      clear hb2 CZ4
      clear hHeld
      refine hK.out _ _ CZ5.out (fun hHeld => ?_)
      clear hK K
      try simp only [Act.put, List.setIfInBounds_toArray, List.set_cons_zero, List.set_cons_succ]
      refine wpAnyH_ready (rs := [8]) (by kernel_rfl) (by simp) ?_
      refine AllReadyH.cons (o := { dst := some 19, op := Op.call { callee := Callee.value (Operand.func 36), args := #[Operand.tmp 12, Operand.tmp 18], argTypes := #[30, 30] }, type := 25, pos := "token.go:27", after := #[{ on := 1, ground := Ground.data }, { on := 7, ground := Ground.data }, { on := 7, ground := Ground.chain }], guard := none }) rfl (fun K hK => ?_) AllReadyH.nil
      go_simp
      refine (Mac_any _ r _ (S.mintText id) Z5 (dig_all Q0b'.out HR.out) SJ.out (HK.out.below (BB2.out.trans (CZ5.out.below w.heap.size BB2.out.size (fun k hk e => by omega))) h0)).mono ?_
      rintro e Z6 ⟨rfl, hb2⟩
      obtain ⟨D, hD⟩ : ∃ DD, DD = S.mac r (S.mintText id) := ⟨_, rfl⟩
      rw [← hD]
      have LD := hide (show D.length = 32 by rw [hD]; exact S.mac_length _ _)
      have ED := hide hD
      clear hD
      replace Q0b' : Hid (Z6.heap[w.heap.size]? = some (.cells (S.v8 r) 25 (0, 0))) := (hb2.block _ (block_lt_of_row Q0b'.out)).trans Q0b'.out
      replace Q1b' : Hid (Z6.heap[(w.heap.size + 1)]? = some (.cells tk0 27 (0, 0))) := (hb2.block _ (block_lt_of_row Q1b'.out)).trans Q1b'.out
      replace Rgk : Hid (Z6.heap[gk]? = some (.cells (S.v8 [116, 111, 107, 101, 110]) 5 (5, 6))) := (hb2.block _ (block_lt_of_row Rgk.out)).trans Rgk.out
      replace Rgl : Hid (Z6.heap[gl]? = some (.cells #[.slice (some ⟨gk, 0, none⟩) 5 5, .slice (some ⟨gd, 0, none⟩) 4 4] 30 (0, 0))) := (hb2.block _ (block_lt_of_row Rgl.out)).trans Rgl.out
      replace WR' : Hid (WrIs Z6 gw v2 T) := WR'.out.chg (p := fun _ => False) (Chg.ofBelow' hb2) (fun e => e) (fun _ _ e => e)
      replace ST : Hid (SliceAt Z6 (.slice (some ⟨gd, 0, none⟩) 4 4) T) := ST.out.below hb2 (Nat.le_refl _)
      replace SJ : Hid (SliceAt Z6 (.slice (some ⟨gj, 0, none⟩) 9 9) (S.mintText id)) := SJ.out.below hb2 (Nat.le_refl _)
      have CZ6 : Hid (Chg (fun k => k = w.heap.size + 1) w2 Z6) := CZ5.out.then hb2
      clear hb2 CZ5
      clear hHeld
      refine hK.out _ _ CZ6.out (fun hHeld => ?_)
      clear hK K
      try simp only [Act.put, List.setIfInBounds_toArray, List.set_cons_zero, List.set_cons_succ]
      refine wpAnyH_ready (rs := [9]) (by kernel_rfl) (by simp) ?_
      refine step_build_as (o := { dst := some 20, op := Op.build 27 #[(0, Operand.tmp 11), (2, Operand.tmp 19)], type := 27, pos := "token.go:27", after := #[{ on := 0, ground := Ground.data }, { on := 8, ground := Ground.data }], guard := none }) rfl rfl 27 [(0, .tmp 11), (2, .tmp 19)] rfl [(0, .int .u32 (id : Int)), (2, .agg (S.v8 D))] rfl (.agg (encT id (.slice none 0 0) D).toArray) (build27n id D LD.out Z6) AllReadyH.nil ⟨CZ6.out, fun hHeld => ?_⟩
      simp only [Act.put, List.setIfInBounds_toArray, List.set_cons_zero, List.set_cons_succ]
      refine wpAnyH_ready (rs := [10]) (by kernel_rfl) (by simp) ?_
      obtain ⟨Z7, hst, r6, C6, s6⟩ := store_t (id := id) (ao := none) (n := 0) (m := 0) (tag := D) Q1b'.out tk0_size LD.out
      refine step_store_as (o := { dst := none, op := Op.store 27 (Operand.tmp 4) (Operand.tmp 20), type := 0, pos := "token.go:27", after := #[{ on := 9, ground := Ground.data }, { on := 8, ground := Ground.chain }, { on := 0, ground := Ground.phase }, { on := 1, ground := Ground.phase }, { on := 2, ground := Ground.phase }, { on := 3, ground := Ground.phase }, { on := 4, ground := Ground.phase }, { on := 5, ground := Ground.phase }, { on := 6, ground := Ground.phase }, { on := 7, ground := Ground.phase }, { on := 8, ground := Ground.phase }, { on := 9, ground := Ground.phase }], guard := none }) rfl rfl 27 (.tmp 4) (.tmp 20) rfl _ _ rfl rfl Z7 hst AllReadyH.nil ⟨CZ6.out.trans C6 (fun k hk e => by first | exact e | exact Or.inl e | exact Or.inr e | omega), fun hHeld => ?_⟩
      replace Q0b' : Hid (Z7.heap[w.heap.size]? = some (.cells (S.v8 r) 25 (0, 0))) := C6.row Q0b'.out (fun e => by have := block_lt_of_row Rgk.out; have := Ggk.out; have := Ggl.out; have := L1.out; omega)
      replace Q1b' : Hid (Z7.heap[(w.heap.size + 1)]? = some (.cells (encT id (.slice none 0 0) D).toArray 27 (0, 0))) := r6
      replace Rgk : Hid (Z7.heap[gk]? = some (.cells (S.v8 [116, 111, 107, 101, 110]) 5 (5, 6))) := C6.row Rgk.out (fun e => by have := block_lt_of_row Rgk.out; have := Ggk.out; have := Ggl.out; have := L1.out; omega)
      replace Rgl : Hid (Z7.heap[gl]? = some (.cells #[.slice (some ⟨gk, 0, none⟩) 5 5, .slice (some ⟨gd, 0, none⟩) 4 4] 30 (0, 0))) := C6.row Rgl.out (fun e => by have := block_lt_of_row Rgk.out; have := Ggk.out; have := Ggl.out; have := L1.out; omega)
      have CZ7 : Hid (Chg (fun k => k = w.heap.size + 1) w2 Z7) := CZ6.out.trans C6 (fun k hk e => by first | exact e | exact Or.inl e | exact Or.inr e | omega)
      clear hst r6 C6 s6 CZ6
      simp only [Act.put]
      refine wpAnyH_done (by kernel_rfl) ?_ _
      refine NoPanic.normal ?_
      have BF := hide (BB2.out.trans (CZ7.out.below w.heap.size BB2.out.size (fun k hk e => by omega)))
      clear hHeld
      generalize Z7 = Y at BF Q1b' ⊢
      go_wp2_with fail
      exact bodyPost_ret (v := .agg (encT id (.slice none 0 0) D).toArray) (results_cell_row (g := w.heap.size + 1) (t := 27) (fr := (0, 0)) Tryd.results9 _ _ _ _ rfl Q1b'.out Tryd.underlying27 rfl (size_t id _ D LD.out)) rfl ⟨by simp only [S.mint]; rw [← ED.out], BF.out⟩
    refine AllReadyH.cons (o := { dst := some 16, op := Op.call { callee := Callee.value (Operand.func 38), args := #[Operand.tmp 15], argTypes := #[75] }, type := 30, pos := "token.go:27", after := #[{ on := 4, ground := Ground.data }], guard := none }) rfl (fun K hK => ?_) AllReadyH.nil
    go_simp
    refine (done_any gw v2 T Z1 WR'.out (by omega)).mono ?_
    rintro e Z2 ⟨rfl, hr5, hb2⟩
    have ST : Hid (SliceAt Z2 (.slice (some ⟨Z1.heap.size, 0, none⟩) 4 4) T) := row_text hr5 hTl (by omega)
    rw [hTl]
    clear hr5
    obtain ⟨gd, hgd⟩ : ∃ gd, gd = Z1.heap.size := ⟨_, rfl⟩
    rw [← hgd] at ST ⊢
    clear hgd
    replace Q0b' : Hid (Z2.heap[w.heap.size]? = some (.cells (S.v8 r) 25 (0, 0))) := (hb2.block _ (block_lt_of_row Q0b'.out)).trans Q0b'.out
    replace Q1b' : Hid (Z2.heap[(w.heap.size + 1)]? = some (.cells tk0 27 (0, 0))) := (hb2.block _ (block_lt_of_row Q1b'.out)).trans Q1b'.out
    replace Rgk : Hid (Z2.heap[gk]? = some (.cells (S.v8 [116, 111, 107, 101, 110]) 5 (0, 0))) := (hb2.block _ (block_lt_of_row Rgk.out)).trans Rgk.out
    replace WR' : Hid (WrIs Z2 gw v2 T) := WR'.out.chg (p := fun _ => False) (Chg.ofBelow' hb2) (fun e => e) (fun _ _ e => e)
    have CZ2 : Hid (Chg (fun k => k = w.heap.size + 1) w2 Z2) := CZ1.out.then hb2
    clear hb2 CZ1
    clear hHeld
    refine hK.out _ _ CZ2.out (fun hHeld => ?_)
    clear hK K
    try simp only [Act.put, List.setIfInBounds_toArray, List.set_cons_zero, List.set_cons_succ]
    refine wpAnyH_ready (rs := [3]) (by kernel_rfl) (by simp) ?_
    obtain ⟨Z3, hst, r6, C6, CS, SS⟩ := conv_mark (n := 5) (c := 5) Rgk.out
    refine step_cv_when (o := { dst := some 14, op := Op.convert 30 30 (Operand.tmp 13), type := 30, pos := "token.go:27", after := #[{ on := 2, ground := Ground.data }], guard := none }) rfl rfl 30 30 (.tmp 13) rfl _ rfl _ Z3 hst AllReadyH.nil ⟨CZ2.out.trans C6 (fun k hk e => absurd e (Nat.ne_of_lt (Nat.lt_of_lt_of_le hk Ggk.out))), fun hHeld => ?_⟩
    clear hHeld
    simp only [Act.put, List.setIfInBounds_toArray, List.set_cons_zero, List.set_cons_succ]
    replace Q0b' : Hid (Z3.heap[w.heap.size]? = some (.cells (S.v8 r) 25 (0, 0))) := C6.row Q0b'.out (fun e => absurd e (Nat.ne_of_lt (Nat.lt_of_lt_of_le L0.out Ggk.out)))
    replace Q1b' : Hid (Z3.heap[(w.heap.size + 1)]? = some (.cells tk0 27 (0, 0))) := C6.row Q1b'.out (fun e => absurd e (Nat.ne_of_lt (Nat.lt_of_lt_of_le L1.out Ggk.out)))
    replace Rgk : Hid (Z3.heap[gk]? = some (.cells (S.v8 [116, 111, 107, 101, 110]) 5 (5, 6))) := r6
    replace WR' : Hid (WrIs Z3 gw v2 T) := WR'.out.chg C6 (fun e => absurd e (Nat.ne_of_lt (Nat.lt_of_lt_of_le LG.out Ggk.out))) (fun k hk e => absurd e (Nat.ne_of_lt (Nat.lt_of_lt_of_le (LV.out k hk) Ggk.out)))
    replace ST : Hid (SliceAt Z3 (.slice (some ⟨gd, 0, none⟩) 4 4) T) := ST.out.cells SS CS
    have CZ3 : Hid (Chg (fun k => k = w.heap.size + 1) w2 Z3) := CZ2.out.trans C6 (fun k hk e => absurd e (Nat.ne_of_lt (Nat.lt_of_lt_of_le hk Ggk.out)))
    clear hst r6 C6 CS SS CZ2
    have hHeld := CZ3.out
    refine wpAnyH_ready (rs := [6]) (by kernel_rfl) (by simp) ?_
    refine step_buildSlice_as (o := { dst := some 17, op := Op.buildSlice 122 2 #[(0, Operand.tmp 14), (1, Operand.tmp 16)], type := 122, pos := "token.go:27", after := #[{ on := 3, ground := Ground.data }, { on := 5, ground := Ground.data }], guard := none }) rfl rfl 122 2 [(0, .tmp 14), (1, .tmp 16)] rfl [(0, .slice (some ⟨gk, 0, none⟩) 5 5), (1, .slice (some ⟨gd, 0, none⟩) 4 4)] rfl _ _ (bs122two Z3 _ _ rfl rfl) AllReadyH.nil ⟨CZ3.out.alloc _, fun hHeld => ?_⟩
    clear hHeld
    simp only [Act.put, List.setIfInBounds_toArray, List.set_cons_zero, List.set_cons_succ]
    obtain ⟨gl, hgl⟩ : ∃ gg, gg = Z3.heap.size := ⟨_, rfl⟩
    rw [← hgl]
    generalize hZ : Z3.alloc _ = Z4
    have hb2 : Below Z3.heap.size Z3 Z4 := by rw [← hZ]; exact (Below.refl _ _).alloc (Nat.le_refl _) _
    have Rgl : Hid (Z4.heap[gl]? = some (.cells #[.slice (some ⟨gk, 0, none⟩) 5 5, .slice (some ⟨gd, 0, none⟩) 4 4] 30 (0, 0))) := by rw [← hZ, hgl]; exact heap_alloc_new _ _
    have Ggl := hide (show w2.heap.size ≤ gl by rw [hgl]; exact CZ3.out.size)
    clear hZ hgl
    replace Q0b' : Hid (Z4.heap[w.heap.size]? = some (.cells (S.v8 r) 25 (0, 0))) := (hb2.block _ (block_lt_of_row Q0b'.out)).trans Q0b'.out
    replace Q1b' : Hid (Z4.heap[(w.heap.size + 1)]? = some (.cells tk0 27 (0, 0))) := (hb2.block _ (block_lt_of_row Q1b'.out)).trans Q1b'.out
    replace Rgk : Hid (Z4.heap[gk]? = some (.cells (S.v8 [116, 111, 107, 101, 110]) 5 (5, 6))) := (hb2.block _ (block_lt_of_row Rgk.out)).trans Rgk.out
    replace WR' : Hid (WrIs Z4 gw v2 T) := WR'.out.chg (p := fun _ => False) (Chg.ofBelow' hb2) (fun e => e) (fun _ _ e => e)
    replace ST : Hid (SliceAt Z4 (.slice (some ⟨gd, 0, none⟩) 4 4) T) := ST.out.below hb2 (Nat.le_refl _)
    have CZ4 : Hid (Chg (fun k => k = w.heap.size + 1) w2 Z4) := CZ3.out.then hb2
    clear hb2 CZ3
    have hHeld := CZ4.out
    refine wpAnyH_ready (rs := [7]) (by kernel_rfl) (by simp) ?_
    refine AllReadyH.cons (o := { dst := some 18, op := Op.call { callee := Callee.value (Operand.func 37), args := #[Operand.tmp 17], argTypes := #[122] }, type := 30, pos := "token.go:27", after := #[{ on := 6, ground := Ground.data }, { on := 5, ground := Ground.chain }], guard := none }) rfl (fun K hK => ?_) AllReadyH.nil
    go_simp
    refine (join_any gl 2 2 [[116, 111, 107, 101, 110], T] Z4 rfl (by omega) (by omega) (listAt2 Rgl.out (row_text Rgk.out rfl (by omega)) ST.out) (by simp [hTl])).mono ?_
    rintro e Z5 ⟨gj, rfl, hgj, hrj, hb2⟩
    have eJ : ([[116, 111, 107, 101, 110], T] : List (List UInt8)).flatten = S.mintText id := by rw [HT.out]; simp
    have lJ := S.mintText_length id
    rw [eJ] at hrj ⊢
    rw [lJ] at hrj ⊢
    have SJ : Hid (SliceAt Z5 (.slice (some ⟨gj, 0, none⟩) 9 9) (S.mintText id)) := by have := hrj.sliceAt (by rw [lJ]; omega); rw [lJ] at this; exact this
    clear hrj hgj eJ lJ
    replace Q0b' : Hid (Z5.heap[w.heap.size]? = some (.cells (S.v8 r) 25 (0, 0))) := (hb2.block _ (block_lt_of_row Q0b'.out)).trans Q0b'.out
    replace Q1b' : Hid (Z5.heap[(w.heap.size + 1)]? = some (.cells tk0 27 (0, 0))) := (hb2.block _ (block_lt_of_row Q1b'.out)).trans Q1b'.out
    replace Rgk : Hid (Z5.heap[gk]? = some (.cells (S.v8 [116, 111, 107, 101, 110]) 5 (5, 6))) := (hb2.block _ (block_lt_of_row Rgk.out)).trans Rgk.out
    replace Rgl : Hid (Z5.heap[gl]? = some (.cells #[.slice (some ⟨gk, 0, none⟩) 5 5, .slice (some ⟨gd, 0, none⟩) 4 4] 30 (0, 0))) := (hb2.block _ (block_lt_of_row Rgl.out)).trans Rgl.out
    replace WR' : Hid (WrIs Z5 gw v2 T) := WR'.out.chg (p := fun _ => False) (Chg.ofBelow' hb2) (fun e => e) (fun _ _ e => e)
    replace ST : Hid (SliceAt Z5 (.slice (some ⟨gd, 0, none⟩) 4 4) T) := ST.out.below hb2 (Nat.le_refl _)
    have CZ5 : Hid (Chg (fun k => k = w.heap.size + 1) w2 Z5) := CZ4.out.then hb2
    clear hb2 CZ4
    clear hHeld
    refine hK.out _ _ CZ5.out (fun hHeld => ?_)
    clear hK K
    try simp only [Act.put, List.setIfInBounds_toArray, List.set_cons_zero, List.set_cons_succ]
    refine wpAnyH_ready (rs := [8]) (by kernel_rfl) (by simp) ?_
    refine AllReadyH.cons (o := { dst := some 19, op := Op.call { callee := Callee.value (Operand.func 36), args := #[Operand.tmp 12, Operand.tmp 18], argTypes := #[30, 30] }, type := 25, pos := "token.go:27", after := #[{ on := 1, ground := Ground.data }, { on := 7, ground := Ground.data }, { on := 7, ground := Ground.chain }], guard := none }) rfl (fun K hK => ?_) AllReadyH.nil
    go_simp
    refine (Mac_any _ r _ (S.mintText id) Z5 (dig_all Q0b'.out HR.out) SJ.out (HK.out.below (BB2.out.trans (CZ5.out.below w.heap.size BB2.out.size (fun k hk e => by omega))) h0)).mono ?_
    rintro e Z6 ⟨rfl, hb2⟩
    obtain ⟨D, hD⟩ : ∃ DD, DD = S.mac r (S.mintText id) := ⟨_, rfl⟩
    rw [← hD]
    have LD := hide (show D.length = 32 by rw [hD]; exact S.mac_length _ _)
    have ED := hide hD
    clear hD
    replace Q0b' : Hid (Z6.heap[w.heap.size]? = some (.cells (S.v8 r) 25 (0, 0))) := (hb2.block _ (block_lt_of_row Q0b'.out)).trans Q0b'.out
    replace Q1b' : Hid (Z6.heap[(w.heap.size + 1)]? = some (.cells tk0 27 (0, 0))) := (hb2.block _ (block_lt_of_row Q1b'.out)).trans Q1b'.out
    replace Rgk : Hid (Z6.heap[gk]? = some (.cells (S.v8 [116, 111, 107, 101, 110]) 5 (5, 6))) := (hb2.block _ (block_lt_of_row Rgk.out)).trans Rgk.out
    replace Rgl : Hid (Z6.heap[gl]? = some (.cells #[.slice (some ⟨gk, 0, none⟩) 5 5, .slice (some ⟨gd, 0, none⟩) 4 4] 30 (0, 0))) := (hb2.block _ (block_lt_of_row Rgl.out)).trans Rgl.out
    replace WR' : Hid (WrIs Z6 gw v2 T) := WR'.out.chg (p := fun _ => False) (Chg.ofBelow' hb2) (fun e => e) (fun _ _ e => e)
    replace ST : Hid (SliceAt Z6 (.slice (some ⟨gd, 0, none⟩) 4 4) T) := ST.out.below hb2 (Nat.le_refl _)
    replace SJ : Hid (SliceAt Z6 (.slice (some ⟨gj, 0, none⟩) 9 9) (S.mintText id)) := SJ.out.below hb2 (Nat.le_refl _)
    have CZ6 : Hid (Chg (fun k => k = w.heap.size + 1) w2 Z6) := CZ5.out.then hb2
    clear hb2 CZ5
    clear hHeld
    refine hK.out _ _ CZ6.out (fun hHeld => ?_)
    clear hK K
    try simp only [Act.put, List.setIfInBounds_toArray, List.set_cons_zero, List.set_cons_succ]
    refine wpAnyH_ready (rs := [9]) (by kernel_rfl) (by simp) ?_
    refine step_build_as (o := { dst := some 20, op := Op.build 27 #[(0, Operand.tmp 11), (2, Operand.tmp 19)], type := 27, pos := "token.go:27", after := #[{ on := 0, ground := Ground.data }, { on := 8, ground := Ground.data }], guard := none }) rfl rfl 27 [(0, .tmp 11), (2, .tmp 19)] rfl [(0, .int .u32 (id : Int)), (2, .agg (S.v8 D))] rfl (.agg (encT id (.slice none 0 0) D).toArray) (build27n id D LD.out Z6) AllReadyH.nil ⟨CZ6.out, fun hHeld => ?_⟩
    simp only [Act.put, List.setIfInBounds_toArray, List.set_cons_zero, List.set_cons_succ]
    refine wpAnyH_ready (rs := [10]) (by kernel_rfl) (by simp) ?_
    obtain ⟨Z7, hst, r6, C6, s6⟩ := store_t (id := id) (ao := none) (n := 0) (m := 0) (tag := D) Q1b'.out tk0_size LD.out
    refine step_store_as (o := { dst := none, op := Op.store 27 (Operand.tmp 4) (Operand.tmp 20), type := 0, pos := "token.go:27", after := #[{ on := 9, ground := Ground.data }, { on := 8, ground := Ground.chain }, { on := 0, ground := Ground.phase }, { on := 1, ground := Ground.phase }, { on := 2, ground := Ground.phase }, { on := 3, ground := Ground.phase }, { on := 4, ground := Ground.phase }, { on := 5, ground := Ground.phase }, { on := 6, ground := Ground.phase }, { on := 7, ground := Ground.phase }, { on := 8, ground := Ground.phase }, { on := 9, ground := Ground.phase }], guard := none }) rfl rfl 27 (.tmp 4) (.tmp 20) rfl _ _ rfl rfl Z7 hst AllReadyH.nil ⟨CZ6.out.trans C6 (fun k hk e => by first | exact e | exact Or.inl e | exact Or.inr e | omega), fun hHeld => ?_⟩
    replace Q0b' : Hid (Z7.heap[w.heap.size]? = some (.cells (S.v8 r) 25 (0, 0))) := C6.row Q0b'.out (fun e => by have := block_lt_of_row Rgk.out; have := Ggk.out; have := Ggl.out; have := L1.out; omega)
    replace Q1b' : Hid (Z7.heap[(w.heap.size + 1)]? = some (.cells (encT id (.slice none 0 0) D).toArray 27 (0, 0))) := r6
    replace Rgk : Hid (Z7.heap[gk]? = some (.cells (S.v8 [116, 111, 107, 101, 110]) 5 (5, 6))) := C6.row Rgk.out (fun e => by have := block_lt_of_row Rgk.out; have := Ggk.out; have := Ggl.out; have := L1.out; omega)
    replace Rgl : Hid (Z7.heap[gl]? = some (.cells #[.slice (some ⟨gk, 0, none⟩) 5 5, .slice (some ⟨gd, 0, none⟩) 4 4] 30 (0, 0))) := C6.row Rgl.out (fun e => by have := block_lt_of_row Rgk.out; have := Ggk.out; have := Ggl.out; have := L1.out; omega)
    have CZ7 : Hid (Chg (fun k => k = w.heap.size + 1) w2 Z7) := CZ6.out.trans C6 (fun k hk e => by first | exact e | exact Or.inl e | exact Or.inr e | omega)
    clear hst r6 C6 s6 CZ6
    simp only [Act.put]
    refine wpAnyH_done (by kernel_rfl) ?_ _
    refine NoPanic.normal ?_
    have BF := hide (BB2.out.trans (CZ7.out.below w.heap.size BB2.out.size (fun k hk e => by omega)))
    clear hHeld
    generalize Z7 = Y at BF Q1b' ⊢
    go_wp2_with fail
    exact bodyPost_ret (v := .agg (encT id (.slice none 0 0) D).toArray) (results_cell_row (g := w.heap.size + 1) (t := 27) (fr := (0, 0)) Tryd.results9 _ _ _ _ rfl Q1b'.out Tryd.underlying27 rfl (size_t id _ D LD.out)) rfl ⟨by simp only [S.mint]; rw [← ED.out], BF.out⟩
  refine AllReadyH.cons (o := { dst := some 16, op := Op.call { callee := Callee.value (Operand.func 38), args := #[Operand.tmp 15], argTypes := #[75] }, type := 30, pos := "token.go:27", after := #[{ on := 4, ground := Ground.data }], guard := none }) rfl (fun K hK => ?_) AllReadyH.nil
  go_simp
  refine (done_any gw v2 T Z0 WR'.out (by omega)).mono ?_
  rintro e Z1 ⟨rfl, hr5, hb2⟩
  have ST : Hid (SliceAt Z1 (.slice (some ⟨Z0.heap.size, 0, none⟩) 4 4) T) := row_text hr5 hTl (by omega)
  rw [hTl]
  clear hr5
  obtain ⟨gd, hgd⟩ : ∃ gd, gd = Z0.heap.size := ⟨_, rfl⟩
  rw [← hgd] at ST ⊢
  clear hgd
  replace Q0b' : Hid (Z1.heap[w.heap.size]? = some (.cells (S.v8 r) 25 (0, 0))) := (hb2.block _ (block_lt_of_row Q0b'.out)).trans Q0b'.out
  replace Q1b' : Hid (Z1.heap[(w.heap.size + 1)]? = some (.cells tk0 27 (0, 0))) := (hb2.block _ (block_lt_of_row Q1b'.out)).trans Q1b'.out
  replace WR' : Hid (WrIs Z1 gw v2 T) := WR'.out.chg (p := fun _ => False) (Chg.ofBelow' hb2) (fun e => e) (fun _ _ e => e)
  have CZ1 : Hid (Chg (fun k => k = w.heap.size + 1) w2 Z1) := CZ0.out.then hb2
  clear hb2 CZ0
  clear hHeld
  refine hK.out _ _ CZ1.out (fun hHeld => ?_)
  clear hK K
  try simp only [Act.put, List.setIfInBounds_toArray, List.set_cons_zero, List.set_cons_succ]
  refine wpAnyH_ready (rs := [2]) (by kernel_rfl) (by simp) ?_
  refine step_buildSlice_as (o := { dst := some 13, op := Op.buildSlice 30 5 #[(0, Operand.const (Value.int IntKind.u8 116)), (1, Operand.const (Value.int IntKind.u8 111)), (2, Operand.const (Value.int IntKind.u8 107)), (3, Operand.const (Value.int IntKind.u8 101)), (4, Operand.const (Value.int IntKind.u8 110))], type := 30, pos := "token.go:27", after := #[], guard := none }) rfl rfl 30 5 [(0, .const (.int .u8 116)), (1, .const (.int .u8 111)), (2, .const (.int .u8 107)), (3, .const (.int .u8 101)), (4, .const (.int .u8 110))] rfl [(0, .int .u8 116), (1, .int .u8 111), (2, .int .u8 107), (3, .int .u8 101), (4, .int .u8 110)] rfl _ _ (bs_tok Z1) AllReadyH.nil ⟨CZ1.out.alloc _, fun hHeld => ?_⟩
  clear hHeld
  simp only [Act.put, List.setIfInBounds_toArray, List.set_cons_zero, List.set_cons_succ]
  obtain ⟨gk, hgk⟩ : ∃ gg, gg = Z1.heap.size := ⟨_, rfl⟩
  rw [← hgk]
  generalize hZ : Z1.alloc _ = Z2
  have hb2 : Below Z1.heap.size Z1 Z2 := by rw [← hZ]; exact (Below.refl _ _).alloc (Nat.le_refl _) _
  have Rgk : Hid (Z2.heap[gk]? = some (.cells (S.v8 [116, 111, 107, 101, 110]) 5 (0, 0))) := by rw [← hZ, hgk]; exact heap_alloc_new _ _
  have Ggk := hide (show w2.heap.size ≤ gk by rw [hgk]; exact CZ1.out.size)
  clear hZ hgk
  replace Q0b' : Hid (Z2.heap[w.heap.size]? = some (.cells (S.v8 r) 25 (0, 0))) := (hb2.block _ (block_lt_of_row Q0b'.out)).trans Q0b'.out
  replace Q1b' : Hid (Z2.heap[(w.heap.size + 1)]? = some (.cells tk0 27 (0, 0))) := (hb2.block _ (block_lt_of_row Q1b'.out)).trans Q1b'.out
  replace WR' : Hid (WrIs Z2 gw v2 T) := WR'.out.chg (p := fun _ => False) (Chg.ofBelow' hb2) (fun e => e) (fun _ _ e => e)
  replace ST : Hid (SliceAt Z2 (.slice (some ⟨gd, 0, none⟩) 4 4) T) := ST.out.below hb2 (Nat.le_refl _)
  have CZ2 : Hid (Chg (fun k => k = w.heap.size + 1) w2 Z2) := CZ1.out.then hb2
  clear hb2 CZ1
  have hHeld := CZ2.out
  refine wpAnyH_ready (rs := [3]) (by kernel_rfl) (by simp) ?_
  obtain ⟨Z3, hst, r6, C6, CS, SS⟩ := conv_mark (n := 5) (c := 5) Rgk.out
  refine step_cv_when (o := { dst := some 14, op := Op.convert 30 30 (Operand.tmp 13), type := 30, pos := "token.go:27", after := #[{ on := 2, ground := Ground.data }], guard := none }) rfl rfl 30 30 (.tmp 13) rfl _ rfl _ Z3 hst AllReadyH.nil ⟨CZ2.out.trans C6 (fun k hk e => absurd e (Nat.ne_of_lt (Nat.lt_of_lt_of_le hk Ggk.out))), fun hHeld => ?_⟩
  clear hHeld
  simp only [Act.put, List.setIfInBounds_toArray, List.set_cons_zero, List.set_cons_succ]
  replace Q0b' : Hid (Z3.heap[w.heap.size]? = some (.cells (S.v8 r) 25 (0, 0))) := C6.row Q0b'.out (fun e => absurd e (Nat.ne_of_lt (Nat.lt_of_lt_of_le L0.out Ggk.out)))
  replace Q1b' : Hid (Z3.heap[(w.heap.size + 1)]? = some (.cells tk0 27 (0, 0))) := C6.row Q1b'.out (fun e => absurd e (Nat.ne_of_lt (Nat.lt_of_lt_of_le L1.out Ggk.out)))
  replace Rgk : Hid (Z3.heap[gk]? = some (.cells (S.v8 [116, 111, 107, 101, 110]) 5 (5, 6))) := r6
  replace WR' : Hid (WrIs Z3 gw v2 T) := WR'.out.chg C6 (fun e => absurd e (Nat.ne_of_lt (Nat.lt_of_lt_of_le LG.out Ggk.out))) (fun k hk e => absurd e (Nat.ne_of_lt (Nat.lt_of_lt_of_le (LV.out k hk) Ggk.out)))
  replace ST : Hid (SliceAt Z3 (.slice (some ⟨gd, 0, none⟩) 4 4) T) := ST.out.cells SS CS
  have CZ3 : Hid (Chg (fun k => k = w.heap.size + 1) w2 Z3) := CZ2.out.trans C6 (fun k hk e => absurd e (Nat.ne_of_lt (Nat.lt_of_lt_of_le hk Ggk.out)))
  clear hst r6 C6 CS SS CZ2
  have hHeld := CZ3.out
  refine wpAnyH_ready (rs := [6]) (by kernel_rfl) (by simp) ?_
  refine step_buildSlice_as (o := { dst := some 17, op := Op.buildSlice 122 2 #[(0, Operand.tmp 14), (1, Operand.tmp 16)], type := 122, pos := "token.go:27", after := #[{ on := 3, ground := Ground.data }, { on := 5, ground := Ground.data }], guard := none }) rfl rfl 122 2 [(0, .tmp 14), (1, .tmp 16)] rfl [(0, .slice (some ⟨gk, 0, none⟩) 5 5), (1, .slice (some ⟨gd, 0, none⟩) 4 4)] rfl _ _ (bs122two Z3 _ _ rfl rfl) AllReadyH.nil ⟨CZ3.out.alloc _, fun hHeld => ?_⟩
  clear hHeld
  simp only [Act.put, List.setIfInBounds_toArray, List.set_cons_zero, List.set_cons_succ]
  obtain ⟨gl, hgl⟩ : ∃ gg, gg = Z3.heap.size := ⟨_, rfl⟩
  rw [← hgl]
  generalize hZ : Z3.alloc _ = Z4
  have hb2 : Below Z3.heap.size Z3 Z4 := by rw [← hZ]; exact (Below.refl _ _).alloc (Nat.le_refl _) _
  have Rgl : Hid (Z4.heap[gl]? = some (.cells #[.slice (some ⟨gk, 0, none⟩) 5 5, .slice (some ⟨gd, 0, none⟩) 4 4] 30 (0, 0))) := by rw [← hZ, hgl]; exact heap_alloc_new _ _
  have Ggl := hide (show w2.heap.size ≤ gl by rw [hgl]; exact CZ3.out.size)
  clear hZ hgl
  replace Q0b' : Hid (Z4.heap[w.heap.size]? = some (.cells (S.v8 r) 25 (0, 0))) := (hb2.block _ (block_lt_of_row Q0b'.out)).trans Q0b'.out
  replace Q1b' : Hid (Z4.heap[(w.heap.size + 1)]? = some (.cells tk0 27 (0, 0))) := (hb2.block _ (block_lt_of_row Q1b'.out)).trans Q1b'.out
  replace Rgk : Hid (Z4.heap[gk]? = some (.cells (S.v8 [116, 111, 107, 101, 110]) 5 (5, 6))) := (hb2.block _ (block_lt_of_row Rgk.out)).trans Rgk.out
  replace WR' : Hid (WrIs Z4 gw v2 T) := WR'.out.chg (p := fun _ => False) (Chg.ofBelow' hb2) (fun e => e) (fun _ _ e => e)
  replace ST : Hid (SliceAt Z4 (.slice (some ⟨gd, 0, none⟩) 4 4) T) := ST.out.below hb2 (Nat.le_refl _)
  have CZ4 : Hid (Chg (fun k => k = w.heap.size + 1) w2 Z4) := CZ3.out.then hb2
  clear hb2 CZ3
  have hHeld := CZ4.out
  refine wpAnyH_ready (rs := [7]) (by kernel_rfl) (by simp) ?_
  refine AllReadyH.cons (o := { dst := some 18, op := Op.call { callee := Callee.value (Operand.func 37), args := #[Operand.tmp 17], argTypes := #[122] }, type := 30, pos := "token.go:27", after := #[{ on := 6, ground := Ground.data }, { on := 5, ground := Ground.chain }], guard := none }) rfl (fun K hK => ?_) AllReadyH.nil
  go_simp
  refine (join_any gl 2 2 [[116, 111, 107, 101, 110], T] Z4 rfl (by omega) (by omega) (listAt2 Rgl.out (row_text Rgk.out rfl (by omega)) ST.out) (by simp [hTl])).mono ?_
  rintro e Z5 ⟨gj, rfl, hgj, hrj, hb2⟩
  have eJ : ([[116, 111, 107, 101, 110], T] : List (List UInt8)).flatten = S.mintText id := by rw [HT.out]; simp
  have lJ := S.mintText_length id
  rw [eJ] at hrj ⊢
  rw [lJ] at hrj ⊢
  have SJ : Hid (SliceAt Z5 (.slice (some ⟨gj, 0, none⟩) 9 9) (S.mintText id)) := by have := hrj.sliceAt (by rw [lJ]; omega); rw [lJ] at this; exact this
  clear hrj hgj eJ lJ
  replace Q0b' : Hid (Z5.heap[w.heap.size]? = some (.cells (S.v8 r) 25 (0, 0))) := (hb2.block _ (block_lt_of_row Q0b'.out)).trans Q0b'.out
  replace Q1b' : Hid (Z5.heap[(w.heap.size + 1)]? = some (.cells tk0 27 (0, 0))) := (hb2.block _ (block_lt_of_row Q1b'.out)).trans Q1b'.out
  replace Rgk : Hid (Z5.heap[gk]? = some (.cells (S.v8 [116, 111, 107, 101, 110]) 5 (5, 6))) := (hb2.block _ (block_lt_of_row Rgk.out)).trans Rgk.out
  replace Rgl : Hid (Z5.heap[gl]? = some (.cells #[.slice (some ⟨gk, 0, none⟩) 5 5, .slice (some ⟨gd, 0, none⟩) 4 4] 30 (0, 0))) := (hb2.block _ (block_lt_of_row Rgl.out)).trans Rgl.out
  replace WR' : Hid (WrIs Z5 gw v2 T) := WR'.out.chg (p := fun _ => False) (Chg.ofBelow' hb2) (fun e => e) (fun _ _ e => e)
  replace ST : Hid (SliceAt Z5 (.slice (some ⟨gd, 0, none⟩) 4 4) T) := ST.out.below hb2 (Nat.le_refl _)
  have CZ5 : Hid (Chg (fun k => k = w.heap.size + 1) w2 Z5) := CZ4.out.then hb2
  clear hb2 CZ4
  clear hHeld
  refine hK.out _ _ CZ5.out (fun hHeld => ?_)
  clear hK K
  try simp only [Act.put, List.setIfInBounds_toArray, List.set_cons_zero, List.set_cons_succ]
  refine wpAnyH_ready (rs := [8]) (by kernel_rfl) (by simp) ?_
  refine AllReadyH.cons (o := { dst := some 19, op := Op.call { callee := Callee.value (Operand.func 36), args := #[Operand.tmp 12, Operand.tmp 18], argTypes := #[30, 30] }, type := 25, pos := "token.go:27", after := #[{ on := 1, ground := Ground.data }, { on := 7, ground := Ground.data }, { on := 7, ground := Ground.chain }], guard := none }) rfl (fun K hK => ?_) AllReadyH.nil
  go_simp
  refine (Mac_any _ r _ (S.mintText id) Z5 (dig_all Q0b'.out HR.out) SJ.out (HK.out.below (BB2.out.trans (CZ5.out.below w.heap.size BB2.out.size (fun k hk e => by omega))) h0)).mono ?_
  rintro e Z6 ⟨rfl, hb2⟩
  obtain ⟨D, hD⟩ : ∃ DD, DD = S.mac r (S.mintText id) := ⟨_, rfl⟩
  rw [← hD]
  have LD := hide (show D.length = 32 by rw [hD]; exact S.mac_length _ _)
  have ED := hide hD
  clear hD
  replace Q0b' : Hid (Z6.heap[w.heap.size]? = some (.cells (S.v8 r) 25 (0, 0))) := (hb2.block _ (block_lt_of_row Q0b'.out)).trans Q0b'.out
  replace Q1b' : Hid (Z6.heap[(w.heap.size + 1)]? = some (.cells tk0 27 (0, 0))) := (hb2.block _ (block_lt_of_row Q1b'.out)).trans Q1b'.out
  replace Rgk : Hid (Z6.heap[gk]? = some (.cells (S.v8 [116, 111, 107, 101, 110]) 5 (5, 6))) := (hb2.block _ (block_lt_of_row Rgk.out)).trans Rgk.out
  replace Rgl : Hid (Z6.heap[gl]? = some (.cells #[.slice (some ⟨gk, 0, none⟩) 5 5, .slice (some ⟨gd, 0, none⟩) 4 4] 30 (0, 0))) := (hb2.block _ (block_lt_of_row Rgl.out)).trans Rgl.out
  replace WR' : Hid (WrIs Z6 gw v2 T) := WR'.out.chg (p := fun _ => False) (Chg.ofBelow' hb2) (fun e => e) (fun _ _ e => e)
  replace ST : Hid (SliceAt Z6 (.slice (some ⟨gd, 0, none⟩) 4 4) T) := ST.out.below hb2 (Nat.le_refl _)
  replace SJ : Hid (SliceAt Z6 (.slice (some ⟨gj, 0, none⟩) 9 9) (S.mintText id)) := SJ.out.below hb2 (Nat.le_refl _)
  have CZ6 : Hid (Chg (fun k => k = w.heap.size + 1) w2 Z6) := CZ5.out.then hb2
  clear hb2 CZ5
  clear hHeld
  refine hK.out _ _ CZ6.out (fun hHeld => ?_)
  clear hK K
  try simp only [Act.put, List.setIfInBounds_toArray, List.set_cons_zero, List.set_cons_succ]
  refine wpAnyH_ready (rs := [9]) (by kernel_rfl) (by simp) ?_
  refine step_build_as (o := { dst := some 20, op := Op.build 27 #[(0, Operand.tmp 11), (2, Operand.tmp 19)], type := 27, pos := "token.go:27", after := #[{ on := 0, ground := Ground.data }, { on := 8, ground := Ground.data }], guard := none }) rfl rfl 27 [(0, .tmp 11), (2, .tmp 19)] rfl [(0, .int .u32 (id : Int)), (2, .agg (S.v8 D))] rfl (.agg (encT id (.slice none 0 0) D).toArray) (build27n id D LD.out Z6) AllReadyH.nil ⟨CZ6.out, fun hHeld => ?_⟩
  simp only [Act.put, List.setIfInBounds_toArray, List.set_cons_zero, List.set_cons_succ]
  refine wpAnyH_ready (rs := [10]) (by kernel_rfl) (by simp) ?_
  obtain ⟨Z7, hst, r6, C6, s6⟩ := store_t (id := id) (ao := none) (n := 0) (m := 0) (tag := D) Q1b'.out tk0_size LD.out
  refine step_store_as (o := { dst := none, op := Op.store 27 (Operand.tmp 4) (Operand.tmp 20), type := 0, pos := "token.go:27", after := #[{ on := 9, ground := Ground.data }, { on := 8, ground := Ground.chain }, { on := 0, ground := Ground.phase }, { on := 1, ground := Ground.phase }, { on := 2, ground := Ground.phase }, { on := 3, ground := Ground.phase }, { on := 4, ground := Ground.phase }, { on := 5, ground := Ground.phase }, { on := 6, ground := Ground.phase }, { on := 7, ground := Ground.phase }, { on := 8, ground := Ground.phase }, { on := 9, ground := Ground.phase }], guard := none }) rfl rfl 27 (.tmp 4) (.tmp 20) rfl _ _ rfl rfl Z7 hst AllReadyH.nil ⟨CZ6.out.trans C6 (fun k hk e => by first | exact e | exact Or.inl e | exact Or.inr e | omega), fun hHeld => ?_⟩
  replace Q0b' : Hid (Z7.heap[w.heap.size]? = some (.cells (S.v8 r) 25 (0, 0))) := C6.row Q0b'.out (fun e => by have := block_lt_of_row Rgk.out; have := Ggk.out; have := Ggl.out; have := L1.out; omega)
  replace Q1b' : Hid (Z7.heap[(w.heap.size + 1)]? = some (.cells (encT id (.slice none 0 0) D).toArray 27 (0, 0))) := r6
  replace Rgk : Hid (Z7.heap[gk]? = some (.cells (S.v8 [116, 111, 107, 101, 110]) 5 (5, 6))) := C6.row Rgk.out (fun e => by have := block_lt_of_row Rgk.out; have := Ggk.out; have := Ggl.out; have := L1.out; omega)
  replace Rgl : Hid (Z7.heap[gl]? = some (.cells #[.slice (some ⟨gk, 0, none⟩) 5 5, .slice (some ⟨gd, 0, none⟩) 4 4] 30 (0, 0))) := C6.row Rgl.out (fun e => by have := block_lt_of_row Rgk.out; have := Ggk.out; have := Ggl.out; have := L1.out; omega)
  have CZ7 : Hid (Chg (fun k => k = w.heap.size + 1) w2 Z7) := CZ6.out.trans C6 (fun k hk e => by first | exact e | exact Or.inl e | exact Or.inr e | omega)
  clear hst r6 C6 s6 CZ6
  simp only [Act.put]
  refine wpAnyH_done (by kernel_rfl) ?_ _
  refine NoPanic.normal ?_
  have BF := hide (BB2.out.trans (CZ7.out.below w.heap.size BB2.out.size (fun k hk e => by omega)))
  clear hHeld
  generalize Z7 = Y at BF Q1b' ⊢
  go_wp2_with fail
  exact bodyPost_ret (v := .agg (encT id (.slice none 0 0) D).toArray) (results_cell_row (g := w.heap.size + 1) (t := 27) (fr := (0, 0)) Tryd.results9 _ _ _ _ rfl Q1b'.out Tryd.underlying27 rfl (size_t id _ D LD.out)) rfl ⟨by simp only [S.mint]; rw [← ED.out], BF.out⟩
end Go.Proofs.YtlcilclhaahopaaDoor
