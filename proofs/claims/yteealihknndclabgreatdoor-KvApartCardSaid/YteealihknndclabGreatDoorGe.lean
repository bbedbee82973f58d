/- numberSize brings a number between 1 and 8; copyOf answers a copy in memory of its own; nothing that was there changes. -/
/- A Writer: what is written is behind what was written; only the writer's own memory changes. -/
/- A Writer's Bytes and Digest: what is written is behind what was written; only the writer's own memory changes. -/
/- A Reader: its state, refused, refuse, take: what they answer is the plain function's; only the reader's own block changes. -/
import Derived.Test.YteealihknndclabGreatDoorBase
import Derived.Laws.Bits64b
import Derived.Laws.BitsAllLaws
namespace Go.Proofs.YteealihknndclabGreatDoor
open Go.RowKit
namespace S
def size (k : Int) : Nat := (min (max k 1) 8).toNat
theorem size_le (k : Int) : size k <= 8 := by unfold size; omega
theorem oP (k : Int) : (size k : Int) = min (max k 1) 8 := by unfold size; omega
end S
set_option maxHeartbeats 400000 in
theorem kZ (k : Int) (w : World) :
  Calls Tryz.prog 119 #[.int .i64 k] w fun e w' => e = .returned (.int .i64 (S.size k : Int)) /\ w = w' := by
 go_enter Tryz.func119, Tryz.ntmps119
 by_cases h1 : k < 1
 ·have e : (S.size k : Int) = 1 := by rw [S.oP]; omega
  have HE := hide e
  clear e
  go_wp2
  go_ret
  exact ⟨by rw [HE.out]; rfl, rfl⟩
 ·by_cases h8 : 8 < k
  ·have e : (S.size k : Int) = 8 := by rw [S.oP]; omega
   have HE := hide e
   clear e
   go_wp2
   go_ret
   exact ⟨by rw [HE.out]; rfl, rfl⟩
  ·have e : (S.size k : Int) = k := by rw [S.oP]; omega
   have HE := hide e
   clear e
   go_wp2
   go_ret
   exact ⟨by rw [HE.out]; rfl, rfl⟩
set_option maxHeartbeats 800000 in
set_option maxRecDepth 100000 in
theorem nA (v : Value) (bs : List UInt8) (w : World) (hv : SliceAt w v bs) :
  Calls Tryz.prog 120 #[v] w fun e w' => e = .returned (.slice (some ⟨w.heap.size, 0, none⟩) bs.length bs.length) /\ w'.heap[w.heap.size]? = some (.cells (S.v8 bs) 5 (0, 0)) /\ Below w.heap.size w w' := by
 obtain ⟨ao, len, cap, rfl, hlen, hmax, hsrc⟩ := hv.shape
 have hmk : ∀ w : World, (Instr.makeSlice 22 (.int .i64 (len : Int)) (.int .i64 (len : Int))).run Tryz.prog w = .ok (.slice (some ⟨w.heap.size, 0, none⟩) len len) (w.alloc (.cells (S.v8 (S.zeros len)) 5)) := fun w => di len (by omega) w
 have HS := hide hsrc
 have HN : Hid ((S.v8l bs).length = Nat.min len len) := by show (S.v8l bs).length = Nat.min len len; rw [S.ae]; show _ = min _ _; omega
 have HF : Hid (0 + (S.v8l bs).length <= (S.v8l (S.zeros len)).length) := by show 0 + (S.v8l bs).length <= (S.v8l (S.zeros len)).length; rw [S.ae, S.ae, S.zeros_length]; omega
 have HNX : Hid (Below w.heap.size w (w.alloc (.cells (S.v8 (S.zeros len)) 5))) := ba ..
 have HL := hide hlen
 clear hsrc hv hlen
 go_enter Tryz.func120, Tryz.ntmps120
 go_wp2_with (first | (refine wpList_copy_splice rfl (.tmp 7) (.tmp 8) 22 22 rfl 5 Tryz.underlying22 kP _ _ _ _ _ _ rfl rfl w.heap.size 0 (S.v8l (S.zeros len)) 5 (heap_alloc_new _ _) (S.v8l bs) HN.out (eZ _ HS.out HNX.out) HF.out (S.df _) w.heap.size (w.alloc (.cells (S.v8 (S.zeros len)) 5)) (Below.refl _ _) (lr _) ?_; intro w2 HG2 hB2; have HG3 := hide (jg HG2); clear HG2; have HN2 := hide (HNX.out.trans hB2); clear hB2))
 go_ret
 refine ⟨by rw [HL.out]; rfl, ?_, HN2.out⟩
 have e : splice (S.zeros len) 0 bs = bs := by rw [dS, show len - bs.length = 0 from by have := HL.out; omega]; simp [S.zeros]
 rw [<- e]; exact HG3.out
end Go.Proofs.YteealihknndclabGreatDoor
namespace Go.Proofs.YteealihknndclabGreatDoor
open Go.RowKit
namespace S
def num (n : Nat) : Nat -> List UInt8
 | 0 => []
 | m + 1 => UInt8.ofNat (n / 256 ^ m) :: num n m
theorem ak (n m : Nat) : (num n m).length = m := by
 induction m with
 | zero => rfl
 | succ m ih => simp [num, ih]
end S
structure gW (w : World) (g : Nat) (v : Value) (bs : List UInt8) : Prop where
 row : w.heap[g]? = some (.cells #[v] 209 (0, 0))
 text : dz w v bs
 sep : v.ownBlock ≠ some g
structure lN (g : Nat) (v : Value) (w : World) (v' : Value) (w' : World) : Prop where
 chg : Chg (fun k => k = g \/ v.ownBlock = some k) w w'
 own : ∀ k, v'.ownBlock = some k -> v.ownBlock = some k \/ w.heap.size <= k
theorem lN.refl (g : Nat) (v : Value) (w : World) : lN g v w v w := ⟨Chg.refl _ _, fun _ h => Or.inl h⟩
theorem lN.trans {g : Nat} {v v1 v2 : Value} {w w1 w2 : World} (h : lN g v w v1 w1) (k : lN g v1 w1 v2 w2) : lN g v w v2 w2 :=
 ⟨h.chg.trans k.chg (fun j hj e => by
   rcases e with e | e
   ·exact Or.inl e
   ·rcases h.own j e with h' | h'
    ·exact Or.inr h'
    ·omega),
  fun j e => by
   rcases k.own j e with e | e
   ·exact h.own j e
   ·exact Or.inr (ltr h.chg.size e)⟩
theorem gW.chg {p : Nat -> Prop} {w W : World} {g : Nat} {v : Value} {bs : List UInt8} (h : gW w g v bs) (hc : Chg p w W) (hg : ¬ p g) (hv : ∀ k, v.ownBlock = some k -> ¬ p k) : gW W g v bs :=
 ⟨hc.row h.row hg, h.text.chg hc hv, h.sep⟩
theorem gW.lt {w : World} {g : Nat} {v : Value} {bs : List UInt8} (h : gW w g v bs) : g < w.heap.size := aa h.row
theorem gW.put {w X : World} {g : Nat} {v v' : Value} {bs xs : List UInt8} (hs : v.ownBlock ≠ some g) (hg : g < w.heap.size) (hr : X.heap[g]? = some (.cells #[v] 209 (0, 0))) (hu : dz X v' (bs ++ xs)) (hc : Chg (fun k => k = g \/ v.ownBlock = some k) w X) (ho : ∀ k, v'.ownBlock = some k -> v.ownBlock = some k \/ w.heap.size <= k) :
  gW (X.setCell ⟨g, 0, none⟩ v') g v' (bs ++ xs) /\ lN g v w v' (X.setCell ⟨g, 0, none⟩ v') := by
 have hne : ∀ k, v'.ownBlock = some k -> k ≠ g := fun k hk e => by
  rcases ho k hk with h' | h'
  ·exact hs (e ▸ h')
  ·omega
 refine ⟨⟨?_, hu.kept fun k hk => heap_setCell_other _ _ _ _ (hne k hk), fun e => hne g e rfl⟩, ⟨hc.setCell g 0 v' (fun _ => Or.inl rfl), ho⟩⟩
 rw [heap_setCell_same _ _ _ _ _ _ hr]
 rfl
theorem iw (w : World) :
  Calls Tryz.prog 73 #[] w fun e w' => e = .returned (.pointer (some ⟨w.heap.size, 0, none⟩)) /\ gW w' w.heap.size (.slice none 0 0) [] /\ Below w.heap.size w w' := by
 go_enter Tryz.func73, Tryz.ntmps73
 go_wp2
 go_ret
 exact ⟨rfl, ⟨heap_alloc_new _ _, wR _, by simp [Value.ownBlock]⟩, ba ..⟩
theorem lH (g : Nat) (v : Value) (bs : List UInt8) (w : World) (hw : gW w g v bs) (hb : bs.length <= 140737488355328) :
  Calls Tryz.prog 77 #[.pointer (some ⟨g, 0, none⟩)] w fun e w' => e = .returned (.slice (some ⟨w.heap.size, 0, none⟩) bs.length bs.length) /\ w'.heap[w.heap.size]? = some (.cells (S.v8 bs) 5 (0, 0)) /\ Below w.heap.size w w' := by
 have c0 := jI hw.row
 have SL := hide (hw.text.sliceAt hb)
 obtain ⟨ao, c, hv⟩ := hw.text.shape
 subst hv
 clear hw
 go_enter Tryz.func77, Tryz.ntmps77
 go_wp2_with fail
 refine (nA _ bs _ SL.out).mono ?_
 rintro e w1 ⟨rfl, h1, h2⟩
 have H1 := hide h1
 have H2 := hide h2
 clear h1 h2 c0
 go_wp2_with fail
 go_ret
 exact ⟨rfl, H1.out, H2.out⟩
theorem Ej (n m : Nat) (hm : m < 8) : IntKind.u8.wrap ((n : Int) / 2 ^ (8 * (m : Int)).toNat) = ((UInt8.ofNat (n / 256 ^ m)).toNat : Int) := by
 have e : (8 * (m : Int)).toNat = 8 * m := by omega
 rw [e, show (2 : Int) ^ (8 * m) = ((256 ^ m : Nat) : Int) from by rw [Int.pow_mul]; norm_cast, <- Int.natCast_ediv]
 generalize n / 256 ^ m = q
 rw [IntKind.wrap_u8', UInt8.toNat_ofNat']
 omega
theorem Aq (w : World) (x : UInt8) : SliceAt (w.alloc (.cells #[.int .u8 (x.toNat : Int)] 5)) (.slice (some ⟨w.heap.size, 0, none⟩) 1 1) [x] :=
 Or.inr (Or.inr ⟨w.heap.size, 0, 1, rfl, lr _, by simp, by simp, fun j hj => by
  obtain rfl : j = 0 := by simpa using hj
  exact jI (heap_alloc_new _ _)⟩)
set_option maxHeartbeats 1600000 in
set_option maxRecDepth 100000 in
theorem kS (g : Nat) (v : Value) (bs : List UInt8) (n : Nat) (k : Int) (w : World) (hw : gW w g v bs) (hb : bs.length + 8 <= 140737488355328) :
  Calls Tryz.prog 75 #[.pointer (some ⟨g, 0, none⟩), .int .u64 (n : Int), .int .i64 k] w fun e w' => e = .returned (.tuple #[]) /\ ∃ v', gW w' g v' (bs ++ S.num n (S.size k)) /\ lN g v w v' w' := by
 have HW := hide hw
 have HB := hide hb
 clear hw hb
 go_enter Tryz.func75, Tryz.ntmps75
 go_wp2_with fail
 refine (kZ k w).mono ?_
 rintro e w1 ⟨rfl, rfl⟩
 obtain ⟨sz, hsz⟩ : ∃ sz, sz = S.size k := ⟨_, rfl⟩
 have hs8 : sz <= 8 := by rw [hsz]; exact S.size_le k
 rw [<- hsz]
 have HSZ := hide hsz
 clear hsz
 go_wp2_with fail
 go_loopw [6] (fun i wr => ∃ (left : Nat) (v1 : Value) (acc : List UInt8), left <= sz /\ i = .int .i64 (left : Int) /\ acc ++ S.num n left = bs ++ S.num n sz /\ acc.length + left <= bs.length + 8 /\ gW wr g v1 acc /\ lN g v w v1 wr) (fun i _ => (intOf i).toNat)
 case atStart => exact ⟨sz, v, bs, lr _, rfl, rfl, by omega, HW.out, lN.refl _ _ _⟩
 case round =>
  obtain ⟨left, v1, acc, hl, rfl, hacc, hal, hwr, hto⟩ := hrel
  by_cases h0 : 0 < left
  ·obtain ⟨m, rfl⟩ : ∃ m, left = m + 1 := ⟨left - 1, by omega⟩
   have q1 : (0 : Int) < ((m + 1 : Nat) : Int) := by omega
   obtain ⟨ao, c, hv1⟩ := hwr.text.shape
   subst hv1
   obtain ⟨x, hx⟩ : ∃ x : UInt8, x = UInt8.ofNat (n / 256 ^ m) := ⟨_, rfl⟩
   have s1 := Ej n m (by omega)
   rw [<- hx] at s1
   have Gw : Hid (acc ++ ([x] ++ S.num n m) = bs ++ S.num n sz) := by show acc ++ ([x] ++ S.num n m) = bs ++ S.num n sz; rw [<- hacc, hx]; rfl
   have HAL : Hid (acc.length + [x].length + m <= bs.length + 8) := by show acc.length + 1 + m <= bs.length + 8; omega
   have w1 : IntKind.i64.wrap (m : Int) = (m : Int) := by rw [IntKind.wrap_i64]; omega
   have w2 : IntKind.i64.wrap (8 * (m : Int)) = 8 * (m : Int) := by rw [IntKind.wrap_i64]; omega
   have ROW := hide hwr.row
   have UR := hide hwr.text
   have SEP := hide hwr.sep
   have TO := hide hto
   clear hx hacc hwr hto HW
   go_wp2_with fail
   refine wp_region_noPanic ?_
   refine wp_region_held_drew (S := (fun _ => True)) follows trivial (fun hHeld => ?_)
   refine tq 0 ?_
   simp only [uA]
   refine tq 1 ?_
   simp only [uA]
   refine tq 2 ?_
   simp only [uA]
   refine tq 3 ?_
   simp only [uA]
   refine tq 5 ?_
   simp only [uA]
   refine tq 6 ?_
   simp only [uA]
   refine tq 7 ?_
   simp only [uA]
   refine tq 8 ?_
   simp only [uA]
   refine tq 9 ?_
   simp only [uA]
   refine tq 10 ?_
   simp only [uA]
   refine rdy [4, 11] ?_
   refine AllReadyH.cons (o := ⟨_, _, _, _, _, _⟩) rfl (fun K hK => ?_) ?_
   ·skip
    have c0 := jI ROW.out
    go_simp
    refine hK.out _ _ trivial (fun hHeld => ?_)
    clear hK K c0
    try simp only [uA]
    refine r1 11 fun K hK => ?_
    go_simp
    refine hK.out _ _ trivial (fun hHeld => ?_)
    clear hK K 
    try simp only [uA]
    generalize hX : World.drew (World.alloc wr _) = X
    have rX : Hid (X.heap[g]? = some (.cells #[.slice ao acc.length c] 209 (0, 0))) := by rw [<- hX]; exact (heap_alloc_old _ _ (aa ROW.out)).trans ROW.out
    have uX : Hid (dz X (.slice ao acc.length c) acc) := by rw [<- hX]; exact UR.out.kept fun k hk => heap_alloc_old _ _ (UR.out.lt hk)
    have cX : Hid (Chg (fun k => k = g \/ (Value.slice ao acc.length c).ownBlock = some k) wr X) := by rw [<- hX]; exact ((Chg.refl _ _).alloc _).drew
    have nX : Hid (SliceAt X (.slice (some ⟨wr.heap.size, 0, none⟩) 1 1) [x]) := by rw [<- hX]; exact (Aq wr x).of_heap rfl
    clear hX hHeld
    refine rdy [12] ?_
    refine bK (o := ⟨_, _, _, _, _, _⟩) rfl rfl _ _ 22 22 rfl _ _ rfl rfl (bf _ _ _ acc [x] 22 uX.out nX.out (by show acc.length + 1 <= 140737488355328; have := HB.out; omega)) AllReadyH.nil ?_
    rintro v2 Y ⟨hu, hg, ho⟩
    obtain ⟨ao2, c2, hv2⟩ := hu.shape
    simp only [List.length_append, List.length_singleton] at hv2
    subst hv2
    refine ⟨trivial, fun hHeld => ?_⟩
    try simp only [uA]
    have rY : Y.heap[g]? = some (.cells #[.slice ao acc.length c] 209 (0, 0)) := (hg.block g (aa rX.out) (fun e => SEP.out e.symm)).trans rX.out
    have Z := hide (gW.put SEP.out (aa ROW.out) rY hu (cX.out.grown hg (fun k _ h => Or.inr h)) (fun k hk => by rcases ho k hk with h' | h'; exact Or.inl h'; exact Or.inr (ltr cX.out.size h')))
    have RY := hide rY
    clear rY hu hg ho rX uX cX nX
    refine tq 13 ?_
    simp only [uA]
    refine tq 14 ?_
    simp only [uA]
    refine r1 15 fun K hK => ?_
    have c1 := jI RY.out
    have f1 := frozen_of_row _ _ 0 _ _ RY.out
    go_simp
    refine hK.out _ _ trivial (fun hHeld => ?_)
    clear hK K c1 f1
    try simp only [uA]
    refine wpAnyH_done (by kernel_rfl) ?_ _
    refine NoPanic.normal ?_
    clear hHeld RY
    go_wp2_with fail
    go_roundw
    case rel => exact ⟨m, _, acc ++ [x], by omega, by go_num, by rw [List.append_assoc]; exact Gw.out, by rw [List.length_append]; exact HAL.out, Z.out.1, TO.out.trans Z.out.2⟩
    case measure => simp [intOf]
   refine c1 fun K hK => ?_
   go_simp
   refine hK.out _ _ trivial (fun hHeld => ?_)
   clear hK K 
   try simp only [uA]
   have rD : Hid ((World.alloc wr (.cells #[.int .u8 (x.toNat : Int)] 5)).heap[g]? = some (.cells #[.slice ao acc.length c] 209 (0, 0))) := (heap_alloc_old _ _ (aa ROW.out)).trans ROW.out
   refine r1 4 fun K hK => ?_
   have c0 := jI rD.out
   go_simp
   refine hK.out _ _ trivial (fun hHeld => ?_)
   clear hK K c0 rD
   try simp only [uA]
   generalize hX : World.drew (World.alloc wr _) = X
   have rX : Hid (X.heap[g]? = some (.cells #[.slice ao acc.length c] 209 (0, 0))) := by rw [<- hX]; exact (heap_alloc_old _ _ (aa ROW.out)).trans ROW.out
   have uX : Hid (dz X (.slice ao acc.length c) acc) := by rw [<- hX]; exact UR.out.kept fun k hk => heap_alloc_old _ _ (UR.out.lt hk)
   have cX : Hid (Chg (fun k => k = g \/ (Value.slice ao acc.length c).ownBlock = some k) wr X) := by rw [<- hX]; exact ((Chg.refl _ _).alloc _).drew
   have nX : Hid (SliceAt X (.slice (some ⟨wr.heap.size, 0, none⟩) 1 1) [x]) := by rw [<- hX]; exact (Aq wr x).of_heap rfl
   clear hX hHeld
   refine rdy [12] ?_
   refine bK (o := ⟨_, _, _, _, _, _⟩) rfl rfl _ _ 22 22 rfl _ _ rfl rfl (bf _ _ _ acc [x] 22 uX.out nX.out (by show acc.length + 1 <= 140737488355328; have := HB.out; omega)) AllReadyH.nil ?_
   rintro v2 Y ⟨hu, hg, ho⟩
   obtain ⟨ao2, c2, hv2⟩ := hu.shape
   simp only [List.length_append, List.length_singleton] at hv2
   subst hv2
   refine ⟨trivial, fun hHeld => ?_⟩
   try simp only [uA]
   have rY : Y.heap[g]? = some (.cells #[.slice ao acc.length c] 209 (0, 0)) := (hg.block g (aa rX.out) (fun e => SEP.out e.symm)).trans rX.out
   have Z := hide (gW.put SEP.out (aa ROW.out) rY hu (cX.out.grown hg (fun k _ h => Or.inr h)) (fun k hk => by rcases ho k hk with h' | h'; exact Or.inl h'; exact Or.inr (ltr cX.out.size h')))
   have RY := hide rY
   clear rY hu hg ho rX uX cX nX
   refine tq 13 ?_
   simp only [uA]
   refine tq 14 ?_
   simp only [uA]
   refine r1 15 fun K hK => ?_
   have c1 := jI RY.out
   have f1 := frozen_of_row _ _ 0 _ _ RY.out
   go_simp
   refine hK.out _ _ trivial (fun hHeld => ?_)
   clear hK K c1 f1
   try simp only [uA]
   refine wpAnyH_done (by kernel_rfl) ?_ _
   refine NoPanic.normal ?_
   clear hHeld RY
   go_wp2_with fail
   go_roundw
   case rel => exact ⟨m, _, acc ++ [x], by omega, by go_num, by rw [List.append_assoc]; exact Gw.out, by rw [List.length_append]; exact HAL.out, Z.out.1, TO.out.trans Z.out.2⟩
   case measure => simp [intOf]
  ·obtain rfl : left = 0 := by omega
   have q1 : ¬ ((0 : Int) < ((0 : Nat) : Int)) := by omega
   have Z : Hid (gW wr g v1 (bs ++ S.num n (S.size k)) /\ lN g v w v1 wr) := by
    rw [<- HSZ.out, <- hacc, show S.num n 0 = [] from rfl, List.append_nil]
    exact ⟨hwr, hto⟩
   clear hacc hwr hto HW
   go_wp2_with fail
   go_end0
   exact ⟨rfl, _, Z.out.1, Z.out.2⟩
end Go.Proofs.YteealihknndclabGreatDoor
namespace Go.Proofs.YteealihknndclabGreatDoor
open Go.RowKit
def S.text (xs : List UInt8) : List UInt8 := S.num (xs.length % 65536) 2 ++ xs.take (xs.length % 65536)
theorem S.text_length (xs : List UInt8) : (S.text xs).length = 2 + xs.length % 65536 := by
 rw [S.text, List.length_append, S.ak, List.length_take]
 have := Nat.mod_le xs.length 65536
 omega
def AV (p : Nat -> Prop) (w : World) (u : Value) (xs : List UInt8) : Prop := ∀ W, Chg p w W -> SliceAt W u xs
theorem AV.now {p : Nat -> Prop} {w : World} {u : Value} {xs : List UInt8} (h : AV p w u xs) : SliceAt w u xs := h w (Chg.refl _ _)
theorem uw {p : Nat -> Prop} {w : World} {t : Nat} {xs : List UInt8} (h : w.heap[t]? = some (.cells (S.v8 xs) 5 (0, 0))) (hp : ¬ p t) (hl : xs.length <= 140737488355328) : AV p w (.slice (some ⟨t, 0, none⟩) xs.length xs.length) xs := fun _ hc =>
 Or.inr (Or.inr ⟨t, 0, xs.length, rfl, lr _, hl, Nat.lt_of_lt_of_le (aa h) hc.size, fun j hj => by rw [Nat.zero_add]; exact bL (hc.row h hp) j hj⟩)
theorem SliceAt.chg {w W : World} {v : Value} {xs : List UInt8} (h : SliceAt w v xs) (hb : ∀ k, k < w.heap.size -> W.heap[k]? = w.heap[k]?) (hs : w.heap.size <= W.heap.size) : SliceAt W v xs := by
 rcases h with h | h | ⟨b, off, cap, e, h1, h2, h3, h4⟩
 ·exact Or.inl h
 ·exact Or.inr (Or.inl h)
 ·exact Or.inr (Or.inr ⟨b, off, cap, e, h1, h2, Nat.lt_of_lt_of_le h3 hs, fun j hj => (World.cell?_of_block (hb b h3)).trans (h4 j hj)⟩)
theorem oU : S.size 2 = 2 := by decide
set_option maxHeartbeats 1600000 in
set_option maxRecDepth 100000 in
theorem mM (g : Nat) (v u : Value) (bs xs : List UInt8) (w : World) (hw : gW w g v bs) (hu : AV (fun k => k = g \/ v.ownBlock = some k) w u xs) (hb : bs.length + 65544 <= 140737488355328) :
  Calls Tryz.prog 74 #[.pointer (some ⟨g, 0, none⟩), u] w fun e w' => e = .returned (.tuple #[]) /\ ∃ v', gW w' g v' (bs ++ S.text xs) /\ lN g v w v' w' := by
 have HW := hide hw
 have HU := hide hu
 have HB := hide hb
 obtain ⟨aou, len, cap, rfl, hlen, hmax⟩ := hu.now.form
 have q1 : (0 : Int) <= (len : Int) := by omega
 obtain ⟨cnt, hcnt⟩ : ∃ cnt, cnt = len % 65536 := ⟨_, rfl⟩
 have e1 : (len : Int).tmod 65536 = (cnt : Int) := by rw [Int.tmod_eq_emod_of_nonneg q1, hcnt]; omega
 have q2 : cnt < 65536 := by omega
 have q3 : (0 : Int) <= (cnt : Int) := by omega
 have q4 : (cnt : Int) <= (len : Int) := by omega
 have q5 : (cnt : Int) < 18446744073709551616 := by omega
 have q6 : (cnt : Int) <= (cap : Int) := by have := hu.now.le_cap; omega
 have HL := hide hlen
 have HC := hide hcnt
 clear hw hu hb hlen hcnt
 go_enter Tryz.func74, Tryz.ntmps74
 go_wp2_with fail
 refine (kS g v bs cnt 2 w HW.out (by have := HB.out; omega)).mono ?_
 rintro e w1 ⟨rfl, v1, hw1, hto1⟩
 rw [oU] at hw1
 obtain ⟨acc, hacc⟩ : ∃ acc, acc = bs ++ S.num cnt 2 := ⟨_, rfl⟩
 rw [<- hacc] at hw1
 obtain ⟨yA, hn⟩ : ∃ n, n = acc.length := ⟨_, rfl⟩
 have hal : acc.length = bs.length + 2 := by rw [hacc, List.length_append, S.ak]
 obtain ⟨ao, c, hv1⟩ := hw1.text.shape
 rw [<- hn] at hv1
 subst hv1
 have ROW : Hid (w1.heap[g]? = some (.cells #[.slice ao yA c] 209 (0, 0))) := hw1.row
 have UR := hide hw1.text
 have SEP := hide hw1.sep
 have TO := hide hto1
 have SX : Hid (SliceAt w1 (.slice aou cnt cap) (xs.take cnt)) := j5 (HU.out w1 hto1.chg) cnt (by omega)
 have LEN : Hid (acc.length + (xs.take cnt).length <= 140737488355328) := by show acc.length + (xs.take cnt).length <= 140737488355328; rw [List.length_take]; have := HB.out; omega
 have FIN : Hid (acc ++ xs.take cnt = bs ++ S.text xs) := by show acc ++ xs.take cnt = bs ++ S.text xs; rw [hacc, S.text, <- HL.out, <- HC.out, List.append_assoc]
 clear hw1 hto1 hacc hal hn HU HW
 go_wp2_with fail
 refine wp_region_noPanic ?_
 refine wp_region_held_drew (S := (fun _ => True)) follows trivial (fun hHeld => ?_)
 refine tq 0 ?_
 simp only [uA]
 refine tq 1 ?_
 simp only [uA]
 refine tq 2 ?_
 simp only [uA]
 refine tq 3 ?_
 simp only [uA]
 refine tq 5 ?_
 simp only [uA]
 refine tq 6 ?_
 simp only [uA]
 refine tq 7 ?_
 simp only [uA]
 refine r1 4 fun K hK => ?_
 have c0 := jI ROW.out
 go_simp
 refine hK.out _ _ trivial (fun hHeld => ?_)
 clear hK K c0
 try simp only [uA]
 refine rdy [8] ?_
 refine bK (o := ⟨_, _, _, _, _, _⟩) rfl rfl _ _ 22 22 rfl _ _ rfl rfl (bf _ _ _ acc (xs.take cnt) 22 UR.out SX.out LEN.out) AllReadyH.nil ?_
 rintro v2 Y ⟨hu, hg, ho⟩
 obtain ⟨ao2, c2, hv2⟩ := hu.shape
 generalize hLL : List.length (acc ++ _) = LL at hv2
 subst hv2
 refine ⟨trivial, fun hHeld => ?_⟩
 try simp only [uA]
 have rY : Y.heap[g]? = some (.cells #[.slice ao yA c] 209 (0, 0)) := (hg.block g (aa ROW.out) (fun e => SEP.out e.symm)).trans ROW.out
 have Z := hide (gW.put SEP.out (aa ROW.out) rY hu (((Chg.refl _ w1).drew).grown hg (fun k _ h => Or.inr h)) ho)
 have RY := hide rY
 clear rY hu hg ho hLL
 refine tq 9 ?_
 simp only [uA]
 refine tq 10 ?_
 simp only [uA]
 refine r1 11 fun K hK => ?_
 have c1 := jI RY.out
 have f1 := frozen_of_row _ _ 0 _ _ RY.out
 go_simp
 refine hK.out _ _ trivial (fun hHeld => ?_)
 clear hK K c1 f1
 try simp only [uA]
 refine wpAnyH_done (by kernel_rfl) ?_ _
 refine NoPanic.normal ?_
 clear hHeld RY
 go_wp2_with fail
 go_end0
 exact ⟨rfl, _, by rw [<- FIN.out]; exact Z.out.1, TO.out.trans Z.out.2⟩
set_option maxHeartbeats 1600000 in
set_option maxRecDepth 100000 in
theorem pV (g : Nat) (v : Value) (bs d : List UInt8) (w0 : World) (hd : d.length = 32) (hw : gW w0 g v bs) (hb : bs.length + 32 <= 140737488355328) :
  Calls Tryz.prog 181 #[.pointer (some ⟨g, 0, none⟩), .agg (S.v8 d)] w0 fun e w' => e = .returned (.tuple #[]) /\ ∃ v', gW w' g v' (bs ++ d) /\ lN g v w0 v' w' := by
 have HW := hide hw
 obtain ⟨yA, hn⟩ : ∃ n, n = bs.length := ⟨_, rfl⟩
 obtain ⟨acc, hacc⟩ : ∃ acc, acc = bs := ⟨_, rfl⟩
 obtain ⟨ao, c, hv1⟩ := hw.text.shape
 rw [<- hn] at hv1
 subst hv1
 have LEN : Hid (acc.length + d.length <= 140737488355328) := by show acc.length + d.length <= 140737488355328; rw [hacc]; omega
 have HD := hide hd
 have HA := hide hacc
 clear hw hb hn hd hacc
 go_enter Tryz.func181, Tryz.ntmps181
 go_wp2_with fail
 generalize hW : w0.alloc _ = w1
 have r1 : w1.heap[w0.heap.size]? = some (.cells (S.v8 d) 184 (0, 0)) := by rw [<- hW]; exact heap_alloc_new _ _
 have hc1 : Chg (fun k => k = g \/ (Value.slice ao yA c).ownBlock = some k) w0 w1 := by rw [<- hW]; exact (Chg.refl _ _).alloc _
 have hb1 : Below w0.heap.size w0 w1 := by rw [<- hW]; exact ba ..
 have hw1 : gW w1 g (.slice ao yA c) acc := by rw [HA.out]; exact HW.out.chg (p := fun _ => False) (Chg.ofBelow' hb1) (fun e => e) (fun _ _ e => e)
 have ROW := hide hw1.row
 have UR := hide hw1.text
 have SEP := hide hw1.sep
 have TO : Hid (lN g (.slice ao yA c) w0 (.slice ao yA c) w1) := ⟨hc1, fun k hk => Or.inl hk⟩
 have SX : Hid (SliceAt w1 (.slice (some ⟨w0.heap.size, 0, none⟩) 32 32) d) := Or.inr (Or.inr ⟨w0.heap.size, 0, 32, by rw [HD.out], by rw [HD.out]; omega, by rw [HD.out]; omega, aa r1, fun j hj => by rw [Nat.zero_add]; exact bL r1 j hj⟩)
 clear hW r1 hc1 hb1 hw1 HW
 generalize w0.heap.size = gd at *
 refine wp_region_noPanic ?_
 refine wp_region_held_drew (S := (fun _ => True)) follows trivial (fun hHeld => ?_)
 refine tq 0 ?_
 simp only [uA]
 refine tq 1 ?_
 simp only [uA]
 refine tq 2 ?_
 simp only [uA]
 refine tq 3 ?_
 simp only [uA]
 refine tq 5 ?_
 simp only [uA]
 refine r1 4 fun K hK => ?_
 have c0 := jI ROW.out
 go_simp
 refine hK.out _ _ trivial (fun hHeld => ?_)
 clear hK K c0
 try simp only [uA]
 refine rdy [6] ?_
 refine bK (o := ⟨_, _, _, _, _, _⟩) rfl rfl _ _ 22 22 rfl _ _ rfl rfl (bf _ _ _ acc d 22 UR.out SX.out LEN.out) AllReadyH.nil ?_
 rintro v2 Y ⟨hu, hg, ho⟩
 obtain ⟨ao2, c2, hv2⟩ := hu.shape
 generalize hLL : List.length (acc ++ _) = LL at hv2
 subst hv2
 refine ⟨trivial, fun hHeld => ?_⟩
 try simp only [uA]
 have rY : Y.heap[g]? = some (.cells #[.slice ao yA c] 209 (0, 0)) := (hg.block g (aa ROW.out) (fun e => SEP.out e.symm)).trans ROW.out
 have Z := hide (gW.put SEP.out (aa ROW.out) rY hu (((Chg.refl _ w1).drew).grown hg (fun k _ h => Or.inr h)) ho)
 have RY := hide rY
 clear rY hu hg ho hLL
 refine tq 7 ?_
 simp only [uA]
 refine tq 8 ?_
 simp only [uA]
 refine r1 9 fun K hK => ?_
 have c1 := jI RY.out
 have f1 := frozen_of_row _ _ 0 _ _ RY.out
 go_simp
 refine hK.out _ _ trivial (fun hHeld => ?_)
 clear hK K c1 f1
 try simp only [uA]
 refine wpAnyH_done (by kernel_rfl) ?_ _
 refine NoPanic.normal ?_
 clear hHeld RY
 go_wp2_with fail
 go_end0
 exact ⟨rfl, _, by rw [<- HA.out]; exact Z.out.1, TO.out.trans Z.out.2⟩
end Go.Proofs.YteealihknndclabGreatDoor
namespace Go.Proofs.YteealihknndclabGreatDoor
open Go.RowKit
namespace S
structure Rd where
 bs : List UInt8
 pl : Nat
 ba : Int
 why : Int
def Rd.refuse (r : Rd) (a y : Int) : Rd := if r.why = 0 then { r with ba := a, why := y } else r
def Rd.take (r : Rd) (n : Nat) : Rd × List UInt8 :=
 if r.why = 0 then (if r.pl + n <= r.bs.length then ({ r with pl := r.pl + n }, (r.bs.drop r.pl).take n) else ({ r with ba := r.bs.length, why := 10 }, [])) else (r, [])
end S
structure dh (w : World) (g t : Nat) (r : S.Rd) : Prop where
 row : w.heap[g]? = some (.cells #[.slice (some ⟨t, 0, none⟩) r.bs.length r.bs.length, .int .i64 (r.pl : Int), .int .i64 r.ba, .int .i64 r.why] 215 (0, 0))
 text : w.heap[t]? = some (.cells (S.v8 r.bs) 5 (0, 0))
 sep : t ≠ g
 pl : r.pl <= r.bs.length
 len : r.bs.length <= 140737488355328
theorem dh.chg {p : Nat -> Prop} {w W : World} {g t : Nat} {r : S.Rd} (h : dh w g t r) (hc : Chg p w W) (hg : ¬ p g) (ht : ¬ p t) : dh W g t r :=
 ⟨hc.row h.row hg, hc.row h.text ht, h.sep, h.pl, h.len⟩
theorem dh.below {w W : World} {g t : Nat} {r : S.Rd} (h : dh w g t r) (hb : Below w.heap.size w W) : dh W g t r := h.chg (p := fun _ => False) (Chg.ofBelow' hb) (fun e => e) (fun e => e)
theorem dh.lt {w : World} {g t : Nat} {r : S.Rd} (h : dh w g t r) : g < w.heap.size := aa h.row
theorem dh.tlt {w : World} {g t : Nat} {r : S.Rd} (h : dh w g t r) : t < w.heap.size := aa h.text
theorem iy (v : Value) (bs : List UInt8) (w : World) (hv : SliceAt w v bs) (hb : bs.length <= 140737488355328) :
  Calls Tryz.prog 125 #[v] w fun e w' => ∃ g t, e = .returned (.pointer (some ⟨g, 0, none⟩)) /\ w.heap.size <= g /\ w.heap.size <= t /\ dh w' g t ⟨bs, 0, 0, 0⟩ /\ Below w.heap.size w w' := by
 have HV := hide hv
 clear hv
 go_enter Tryz.func125, Tryz.ntmps125
 go_wp2_with fail
 refine (nA _ bs w HV.out).mono ?_
 rintro e w1 ⟨rfl, h1, h2⟩
 have H1 := hide h1
 have H2 := hide h2
 have hlt := aa h1
 clear h1 h2
 go_wp2_with fail
 go_ret
 exact ⟨w1.heap.size, w.heap.size, rfl, H2.out.size, lr _, ⟨heap_alloc_new _ _, (heap_alloc_old _ _ hlt).trans H1.out, by omega, Nat.zero_le _, hb⟩, H2.out.alloc H2.out.size _⟩
theorem dU (g t : Nat) (r : S.Rd) (w : World) (hr : dh w g t r) :
  Calls Tryz.prog 128 #[.pointer (some ⟨g, 0, none⟩)] w fun e w' => e = .returned (.bool (r.why != 0)) /\ w = w' := by
 obtain ⟨c0, c1, c2, c3⟩ := aQ hr.row
 clear hr
 go_enter Tryz.func128, Tryz.ntmps128
 go_wp2
 go_ret
 exact ⟨rfl, rfl⟩
theorem qf (g t : Nat) (r : S.Rd) (a y : Int) (w : World) (hr : dh w g t r) :
  Calls Tryz.prog 126 #[.pointer (some ⟨g, 0, none⟩), .int .i64 a, .int .i64 y] w fun e w' => e = .returned (.tuple #[]) /\ dh w' g t (r.refuse a y) /\ Chg (fun k => k = g) w w' := by
 have HR := hide hr
 obtain ⟨c0, c1, c2, c3⟩ := aQ hr.row
 have f2 := frozen_of_row _ _ 2 _ _ hr.row
 have f3 := frozen_of_row _ _ 3 _ _ hr.row
 clear hr
 by_cases h0 : r.why = 0
 ·have b0 : (r.why != 0) = false := by simp [h0]
  have E : Hid (r.refuse a y = { r with ba := a, why := y }) := by show r.refuse a y = _; unfold S.Rd.refuse; rw [if_pos h0]
  clear h0
  go_enter Tryz.func126, Tryz.ntmps126
  go_wp2_with fail
  refine (dU g t r w HR.out).mono ?_
  rintro e w1 ⟨rfl, rfl⟩
  go_wp2_with fail
  go_end0
  have R2 := heap_setCell_same _ _ 2 _ _ (.int .i64 a) HR.out.row
  have R3 := heap_setCell_same _ _ 3 _ _ (.int .i64 y) R2
  refine ⟨rfl, ?_, ((Chg.refl (fun k => k = g) w).setCell g 2 _ (fun _ => rfl)).setCell g 3 _ (fun _ => rfl)⟩
  rw [E.out]
  exact ⟨R3, ((heap_setCell_other _ _ _ _ HR.out.sep).trans (heap_setCell_other _ _ _ _ HR.out.sep)).trans HR.out.text, HR.out.sep, HR.out.pl, HR.out.len⟩
 ·have b0 : (r.why != 0) = true := by simp [h0]
  have E : Hid (r.refuse a y = r) := by show r.refuse a y = _; unfold S.Rd.refuse; rw [if_neg h0]
  clear h0
  go_enter Tryz.func126, Tryz.ntmps126
  go_wp2_with fail
  refine (dU g t r w HR.out).mono ?_
  rintro e w1 ⟨rfl, rfl⟩
  go_wp2_with fail
  go_end0
  exact ⟨rfl, by rw [E.out]; exact HR.out, Chg.refl _ _⟩
theorem dh.drewN {w : World} {g t : Nat} {r : S.Rd} (n : Nat) (h : dh w g t r) : dh (w.drewN n) g t r := h.chg (p := fun _ => False) ((Chg.refl _ _).drewN n) (fun e => e) (fun e => e)
theorem dh.sliceAt {w : World} {g t : Nat} {r : S.Rd} (h : dh w g t r) : SliceAt w (.slice (some ⟨t, 0, none⟩) r.bs.length r.bs.length) r.bs := (uw (p := fun _ => False) h.text (fun e => e) h.len).now
theorem yL {w : World} {g t pl : Nat} {r : S.Rd} (h : dh w g t { r with pl := pl }) (n : Nat) (hf : r.pl + n <= r.bs.length) : SliceAt w (.slice (if r.bs.length = r.pl then some ⟨t, 0, none⟩ else some ⟨t, r.pl, none⟩) n (r.bs.length - r.pl)) ((r.bs.drop r.pl).take n) := by
 have hp := jS h.sliceAt r.pl (r.pl + n) (Nat.le_add_right _ _) hf
 have e : (r.bs.take (r.pl + n)).drop r.pl = (r.bs.drop r.pl).take n := by rw [List.drop_take, Nat.add_sub_cancel_left]
 rw [Nat.add_sub_cancel_left, Option.map_some, Addr.add_lit, Nat.zero_add] at hp
 rw [<- e]
 exact hp
set_option maxHeartbeats 800000 in
set_option maxRecDepth 100000 in
theorem nK (g t : Nat) (r : S.Rd) (n : Nat) (w : World) (hn : n <= 140737488355328) (hr : dh w g t r) :
  Calls Tryz.prog 127 #[.pointer (some ⟨g, 0, none⟩), .int .i64 (n : Int)] w fun e w' => ∃ v, e = .returned v /\ SliceAt w' v (r.take n).2 /\ dh w' g t (r.take n).1 /\ Chg (fun k => k = g) w w' := by
 have HR := hide hr
 obtain ⟨c0, c1, c2, c3⟩ := aQ hr.row
 have f1 := frozen_of_row _ _ 1 _ _ hr.row
 have hp := hr.pl
 have hl := hr.len
 have q0 : IntKind.i64.wrap ((r.bs.length : Int) - (r.pl : Int)) = (r.bs.length : Int) - (r.pl : Int) := by rw [IntKind.wrap_i64]; omega
 clear hr
 by_cases hfit : r.pl + n <= r.bs.length
 ·have q1 : ¬ ((r.bs.length : Int) - (r.pl : Int) < (n : Int)) := by omega
  by_cases h0 : r.why = 0
  ·have b0 : (r.why != 0) = false := by simp [h0]
   have E : Hid (r.take n = ({ r with pl := r.pl + n }, (r.bs.drop r.pl).take n)) := by show r.take n = _; unfold S.Rd.take; rw [if_pos h0, if_pos hfit]
   have q2 : IntKind.i64.wrap ((r.pl : Int) + (n : Int)) = ((r.pl + n : Nat) : Int) := by rw [IntKind.wrap_i64]; omega
   have q3 : (0 : Int) <= (r.pl : Int) := by omega
   have q4 : (r.pl : Int) <= (r.pl : Int) + (n : Int) := by omega
   have q5 : (r.pl : Int) + (n : Int) <= (r.bs.length : Int) := by omega
   have HRD : ∀ w1 : World, dh w1 g t r -> dh (w1.setCell ⟨g, 1, none⟩ (.int .i64 ((r.pl : Int) + (n : Int)))) g t { r with pl := r.pl + n } := fun w1 h1 => by
    have R1 := heap_setCell_same _ _ 1 _ _ (.int .i64 ((r.pl : Int) + (n : Int))) h1.row
    exact ⟨R1, (heap_setCell_other _ _ _ _ h1.sep).trans h1.text, h1.sep, hfit, h1.len⟩
   have RD := hide HRD
   clear h0 HRD
   go_enter Tryz.func127, Tryz.ntmps127
   go_wp2_with fail
   go_quiet (fail)
   generalize hw1 : w.drewN nq = w1
   have HR1 : Hid (dh w1 g t r) := by rw [<- hw1]; exact HR.out.drewN nq
   have HC1 : Hid (Chg (fun k => k = g) w w1) := by rw [<- hw1]; exact (Chg.refl _ _).drewN nq
   clear hw1 c0 c1 c2 c3 f1
   go_wp2_with fail
   refine (dU g t r w1 HR1.out).mono ?_
   rintro e w2 ⟨rfl, rfl⟩
   obtain ⟨c0, c1, c2, c3⟩ := aQ HR1.out.row
   have f1 := frozen_of_row _ _ 1 _ _ HR1.out.row
   go_wp2_with fail
   go_quiet (fail)
   go_wp2_with fail
   all_goals
    go_ret
    have RX := RD.out w1 HR1.out
    have SP := yL RX n hfit
    first | rw [if_pos h, show r.bs.length - r.pl = 0 from by omega] at SP | rw [if_neg h] at SP
    refine ⟨_, rfl, ?_, ?_, ?_⟩
    ·rw [E.out]; exact SP.of_heap rfl
    ·rw [E.out]; exact RX.drewN _
    ·exact (HC1.out.setCell g 1 _ (fun _ => rfl)).drewN _
  ·have b0 : (r.why != 0) = true := by simp [h0]
   have E : Hid (r.take n = (r, [])) := by show r.take n = _; unfold S.Rd.take; rw [if_neg h0]
   clear h0
   go_enter Tryz.func127, Tryz.ntmps127
   go_wp2_with fail
   go_quiet (fail)
   go_wp2_with fail
   refine (dU g t r _ (HR.out.drewN nq)).mono ?_
   rintro e w1 ⟨rfl, rfl⟩
   go_wp2_with fail
   go_ret
   exact ⟨_, rfl, by rw [E.out]; exact Or.inl ⟨rfl, rfl⟩, by rw [E.out]; exact HR.out.drewN nq, (Chg.refl _ _).drewN nq⟩
 ·have q1 : (r.bs.length : Int) - (r.pl : Int) < (n : Int) := by omega
  go_enter Tryz.func127, Tryz.ntmps127
  go_wp2_with fail
  go_quiet (fail)
  go_wp2_with fail
  refine (qf g t r _ 10 _ (HR.out.drewN nq)).mono ?_
  rintro e w1 ⟨rfl, h1, h2⟩
  have H1 := hide h1
  have H2 := hide h2
  have b0 : ((r.refuse (r.bs.length : Int) 10).why != 0) = true := by
   unfold S.Rd.refuse
   split
   ·rfl
   ·rename_i h; simpa using h
  have E : Hid (r.take n = (r.refuse (r.bs.length : Int) 10, [])) := by
   show r.take n = (r.refuse (r.bs.length : Int) 10, [])
   unfold S.Rd.take S.Rd.refuse
   by_cases h : r.why = 0
   ·rw [if_pos h, if_pos h, if_neg hfit]
   ·rw [if_neg h, if_neg h]
  clear h1 h2 c0 c1 c2 c3 f1
  go_wp2_with fail
  refine (dU g t _ w1 H1.out).mono ?_
  rintro e w2 ⟨rfl, rfl⟩
  go_wp2_with fail
  go_ret
  exact ⟨_, rfl, by rw [E.out]; exact Or.inl ⟨rfl, rfl⟩, by rw [E.out]; exact H1.out, ((Chg.refl _ _).drewN nq).trans H2.out (fun _ _ h => h)⟩
namespace S
def val (xs : List UInt8) : Nat := xs.foldl (fun a x => a * 256 + x.toNat) 0
theorem Dy (xs : List UInt8) (x : UInt8) : val (xs ++ [x]) = val xs * 256 + x.toNat := by simp [val]
theorem yE (xs : List UInt8) : ∀ a m : Nat, a < 256 ^ m -> xs.foldl (fun a x => a * 256 + x.toNat) a < 256 ^ (m + xs.length) := by
 induction xs with
 | nil => intro a m h; exact h
 | cons x l ih =>
  intro a m h
  rw [List.foldl_cons, List.length_cons, show m + (l.length + 1) = (m + 1) + l.length from by omega]
  refine ih _ _ ?_
  rw [Nat.pow_succ]
  have := x.toNat_lt
  omega
theorem oJ (xs : List UInt8) : val xs < 256 ^ xs.length := by
 have := yE xs 0 0 (by decide)
 rwa [Nat.zero_add] at this
theorem Dx (xs : List UInt8) (k : Nat) (h : k < xs.length) : val (xs.take (k + 1)) = val (xs.take k) * 256 + (xs.getD k 0).toNat := by
 rw [List.take_succ_eq_append_getElem h, Dy]
 simp [List.getD_eq_getElem?_getD, h]
def Rd.number (r : Rd) (k : Int) : Rd × Nat := ((r.take (size k)).1, val (r.take (size k)).2)
theorem Rd.take_len (r : Rd) (n : Nat) : (r.take n).2.length <= n := by
 unfold Rd.take
 split
 ·split
  ·simp only [List.length_take]; omega
  ·simp
 ·simp
end S
theorem or_byte (a : Nat) (x : UInt8) (ha : a * 256 < 18446744073709551616) : bits .or .u64 (IntKind.u64.wrap ((a : Int) * 256)) (IntKind.u64.wrap (x.toNat : Int)) = ((a * 256 + x.toNat : Nat) : Int) := by
 have hx := x.toNat_lt
 have e1 : IntKind.u64.wrap ((a : Int) * 256) = ((a * 256 : Nat) : Int) := by rw [IntKind.wrap_u64]; omega
 have e2 : IntKind.u64.wrap (x.toNat : Int) = (x.toNat : Int) := by rw [IntKind.wrap_u64]; omega
 rw [e1, e2, u64_or_nat _ _ ha (by omega)]
 have := Nat.shiftLeft_add_eq_or_of_lt (i := 8) (b := x.toNat) (by omega) a
 rw [Nat.shiftLeft_eq] at this
 rw [show a * 256 = a * 2 ^ 8 from rfl, this]
theorem Bg (xs : List UInt8) (j : Nat) (h : j < xs.length) (h8 : xs.length <= 8) : S.val (xs.take j) * 256 < 18446744073709551616 := by
 have h1 := S.oJ (xs.take j)
 have h2 : (xs.take j).length <= 7 := by rw [List.length_take]; omega
 have h3 : 256 ^ (xs.take j).length <= 256 ^ 7 := Nat.pow_le_pow_right (by decide) h2
 have h4 : (256 : Nat) ^ 7 = 72057594037927936 := by decide
 omega
set_option maxHeartbeats 800000 in
set_option maxRecDepth 100000 in
theorem qg (g t : Nat) (r : S.Rd) (k : Int) (w : World) (hr : dh w g t r) :
  Calls Tryz.prog 81 #[.pointer (some ⟨g, 0, none⟩), .int .i64 k] w fun e w' => e = .returned (.int .u64 ((r.number k).2 : Int)) /\ dh w' g t (r.number k).1 /\ Chg (fun k => k = g) w w' := by
 have HR := hide hr
 clear hr
 go_enter Tryz.func81, Tryz.ntmps81
 go_wp2_with fail
 refine (kZ k w).mono ?_
 rintro e w1 ⟨rfl, rfl⟩
 go_wp2_with fail
 refine (nK g t r (S.size k) w (by have := S.size_le k; omega) HR.out).mono ?_
 rintro e w1 ⟨v, rfl, hv, hr1, hc1⟩
 obtain ⟨xs, hxs⟩ : ∃ xs, xs = (r.take (S.size k)).2 := ⟨_, rfl⟩
 have hl8 : xs.length <= 8 := by rw [hxs]; exact ltr (r.take_len _) (S.size_le k)
 rw [<- hxs] at hv
 have FIN : Hid (S.val xs = (r.number k).2) := by show S.val xs = (r.number k).2; rw [hxs]; rfl
 have R1 : Hid (dh w1 g t (r.number k).1) := hr1
 have C1 := hide hc1
 have HV := hide hv
 obtain ⟨ao, len, cap, rfl, hlen, hmax⟩ := hv.form
 have HL := hide hlen
 clear hv hr1 hc1 hxs hlen HR
 have hln : len <= 8 := by have := HL.out; omega
 go_wp2_with fail
 go_loopw [5, 13] (fun n i wr => ∃ k : Nat, k <= len /\ i = .int .i64 (k : Int) /\ n = .int .u64 (S.val (xs.take k) : Int) /\ wr = w1) (fun _ i _ => len - (intOf i).toNat)
 case atStart => exact ⟨0, Nat.zero_le _, rfl, rfl, rfl⟩
 case round =>
  obtain ⟨j, hj, rfl, rfl, rfl⟩ := hrel
  by_cases hlt : j < len
  ·have q1 : (0 : Int) <= (j : Int) := by omega
   have q2 : (j : Int) < (len : Int) := by omega
   have hp : 0 < xs.length := by have := HL.out; omega
   obtain ⟨b, off, rfl, _, _, hc⟩ := HV.out.src hp
   have c1 := hc j (by have := HL.out; omega)
   have q4 : IntKind.i64.wrap ((j : Int) + 1) = (j : Int) + 1 := by rw [IntKind.wrap_i64]; omega
   have hjx : j < xs.length := by have := HL.out; omega
   have e1 := or_byte (S.val (xs.take j)) (xs.getD j 0) (Bg xs j hjx hl8)
   rw [<- S.Dx xs j hjx] at e1
   generalize xs.getD j 0 = x at c1 e1
   clear hc
   go_wp2
   exact ⟨⟨j + 1, by omega, by go_num, rfl, trivial⟩, by simp [intOf]; omega⟩
  ·obtain rfl : j = len := by omega
   have q2 : ¬ ((j : Int) < (j : Int)) := by omega
   have E : Hid (S.val (xs.take j) = (r.number k).2) := by rw [<- FIN.out, HL.out, List.take_length]; exact rfl
   go_wp2
   go_ret
   exact ⟨by rw [<- E.out]; rfl, R1.out, C1.out⟩
end Go.Proofs.YteealihknndclabGreatDoor
namespace Go.Proofs.YteealihknndclabGreatDoor
open Go.RowKit
namespace S
def Rd.bytes (r : Rd) (most : Int) : Rd × List UInt8 :=
 (if most < ((r.number 2).2 : Int) then (r.number 2).1.refuse (r.pl : Int) 3 else (r.number 2).1).take (r.number 2).2
def Rd.digest (r : Rd) : Rd × List UInt8 := ((r.take 32).1, splice (zeros 32) 0 (r.take 32).2)
theorem Rd.digest_length (r : Rd) : r.digest.2.length = 32 := by
 show (splice (zeros 32) 0 (r.take 32).2).length = 32
 rw [length_splice _ _ _ (by have := r.take_len 32; rw [zeros_length]; omega), zeros_length]
def Rd.fin (r : Rd) : Int × Int := if r.why = 0 then (if r.pl < r.bs.length then ((r.pl : Int), 11) else (0, 0)) else (r.ba, r.why)
theorem zb (r : Rd) : (r.number 2).2 < 65536 := by
 have h1 := oJ (r.take (size 2)).2
 have h2 : (r.take (size 2)).2.length <= 2 := r.take_len (size 2)
 have h3 : 256 ^ (r.take (size 2)).2.length <= 256 ^ 2 := Nat.pow_le_pow_right (by decide) h2
 exact Nat.lt_of_lt_of_le h1 h3
end S
theorem lK {B : Nat} {w W : World} (h : Below B w W) (n : Nat) : Below B w (W.drewN n) := ⟨h.os, h.tape, h.output, h.size, h.block⟩
set_option maxHeartbeats 800000 in
set_option maxRecDepth 100000 in
theorem rG (g t : Nat) (r : S.Rd) (most : Int) (w : World) (hr : dh w g t r) :
  Calls Tryz.prog 80 #[.pointer (some ⟨g, 0, none⟩), .int .i64 most] w fun e w' => ∃ q, e = .returned (.slice (some ⟨q, 0, none⟩) (r.bytes most).2.length (r.bytes most).2.length) /\ w.heap.size <= q /\ w'.heap[q]? = some (.cells (S.v8 (r.bytes most).2) 5 (0, 0)) /\ dh w' g t (r.bytes most).1 /\ Chg (fun k => k = g) w w' := by
 have HR := hide hr
 obtain ⟨c0, c1, c2, c3⟩ := aQ hr.row
 clear hr
 go_enter Tryz.func80, Tryz.ntmps80
 go_wp2_with fail
 refine (qg g t r 2 w HR.out).mono ?_
 rintro e w1 ⟨rfl, h1, h2⟩
 obtain ⟨c, hc⟩ : ∃ c, c = (r.number 2).2 := ⟨_, rfl⟩
 have hlt : c < 65536 := by rw [hc]; exact S.zb r
 rw [<- hc]
 have HC := hide hc
 have R1 := hide h1
 have C1 := hide h2
 have q1 : IntKind.i64.wrap (c : Int) = (c : Int) := by rw [IntKind.wrap_i64]; omega
 clear h1 h2 c0 c1 c2 c3 hc
 by_cases hm : most < (c : Int)
 focus
  have E : Hid (r.bytes most = ((r.number 2).1.refuse (r.pl : Int) 3).take c) := by show r.bytes most = _; unfold S.Rd.bytes; rw [<- HC.out, if_pos hm]
  go_wp2_with fail
  refine (qf g t _ _ 3 w1 R1.out).mono ?_
  rintro e w2 ⟨rfl, h1, h2⟩
  have R2 := hide h1
  have C2 := hide (C1.out.trans h2 (fun _ _ h => h))
  clear h1 h2 C1 R1
  go_wp2_with fail
  refine (nK g t _ c w2 (by omega) R2.out).mono ?_
  rintro e w3 ⟨v, rfl, hv, h1, h2⟩
  rw [<- E.out] at hv h1
  have R3 := hide h1
  have C3 := hide (C2.out.trans h2 (fun _ _ h => h))
  have SV := hide hv
 rotate_left
 focus
  have E : Hid (r.bytes most = (r.number 2).1.take c) := by show r.bytes most = _; unfold S.Rd.bytes; rw [<- HC.out, if_neg hm]
  have R2 := R1
  have C2 := C1
  clear R1 C1
  go_wp2_with fail
  refine (nK g t _ c w1 (by omega) R2.out).mono ?_
  rintro e w3 ⟨v, rfl, hv, h1, h2⟩
  rw [<- E.out] at hv h1
  have R3 := hide h1
  have C3 := hide (C2.out.trans h2 (fun _ _ h => h))
  have SV := hide hv
 all_goals
  clear h1 h2 hv C2 R2
  go_wp2_with fail
  refine (nA v _ w3 SV.out).mono ?_
  rintro e w4 ⟨rfl, h1, h2⟩
  have N4 := hide h1
  have R4 := hide (R3.out.below h2)
  have C4 := hide (C3.out.trans (Chg.ofBelow' (p := fun k => k = g) h2) (fun _ _ h => h))
  have hq := C3.out.size
  clear h1 h2 R3 C3 SV
  generalize hXS : (r.bytes most).2 = XS at *
  generalize hXR : (r.bytes most).1 = XR at *
  have HXS := hide hXS
  have HXR := hide hXR
  clear hXS hXR E
  go_wp2_with fail
  go_ret
  exact ⟨w3.heap.size, by rw [HXS.out]; rfl, hq, by rw [HXS.out]; exact N4.out, by rw [HXR.out]; exact R4.out, C4.out⟩
set_option maxHeartbeats 800000 in
set_option maxRecDepth 100000 in
theorem Eo (g t : Nat) (r : S.Rd) (w : World) (hr : dh w g t r) :
  Calls Tryz.prog 82 #[.pointer (some ⟨g, 0, none⟩)] w fun e w' => ((r.fin.2 = 0 /\ e = .returned .nilIface) \/ (r.fin.2 ≠ 0 /\ ∃ q, e = .returned (.iface 217 (.pointer (some ⟨q, 0, none⟩))) /\ w.heap.size <= q /\ w'.heap[q]? = some (.cells #[.int .i64 r.fin.1, .int .i64 r.fin.2] 213 (0, 0)))) /\ Below w.heap.size w w' := by
 have HR := hide hr
 obtain ⟨c0, c1, c2, c3⟩ := aQ hr.row
 clear hr
 by_cases h0 : r.why = 0
 ·have b0 : (r.why != 0) = false := by simp [h0]
  by_cases hp : r.pl < r.bs.length
  ·have E : Hid (r.fin = ((r.pl : Int), 11)) := by show r.fin = _; unfold S.Rd.fin; rw [if_pos h0, if_pos hp]
   have q1 : (r.pl : Int) < (r.bs.length : Int) := by omega
   clear h0
   go_enter Tryz.func82, Tryz.ntmps82
   go_wp2_with fail
   refine (dU g t r w HR.out).mono ?_
   rintro e w1 ⟨rfl, rfl⟩
   go_wp2_with fail
   go_quiet (fail)
   go_wp2_with fail
   go_ret
   refine ⟨Or.inr ⟨by rw [E.out]; exact (by decide : (11 : Int) ≠ 0), w.heap.size, rfl, lr _, ?_⟩, ?_⟩
   ·rw [E.out]; exact heap_alloc_new w _
   ·exact lK (ba ..) nq
  ·have E : Hid (r.fin = (0, 0)) := by show r.fin = _; unfold S.Rd.fin; rw [if_pos h0, if_neg hp]
   have q1 : ¬ ((r.pl : Int) < (r.bs.length : Int)) := by omega
   clear h0
   go_enter Tryz.func82, Tryz.ntmps82
   go_wp2_with fail
   refine (dU g t r w HR.out).mono ?_
   rintro e w1 ⟨rfl, rfl⟩
   go_wp2_with fail
   go_quiet (fail)
   go_wp2_with fail
   go_ret
   exact ⟨Or.inl ⟨by rw [E.out], rfl⟩, lK (Below.refl _ _) nq⟩
 ·have b0 : (r.why != 0) = true := by simp [h0]
  have E : Hid (r.fin = (r.ba, r.why)) := by show r.fin = _; unfold S.Rd.fin; rw [if_neg h0]
  have HW := hide h0
  clear h0
  go_enter Tryz.func82, Tryz.ntmps82
  go_wp2_with fail
  refine (dU g t r w HR.out).mono ?_
  rintro e w1 ⟨rfl, rfl⟩
  go_wp2_with fail
  go_ret
  refine ⟨Or.inr ⟨by rw [E.out]; exact HW.out, w.heap.size, rfl, lr _, ?_⟩, ?_⟩
  ·rw [E.out]; exact heap_alloc_new w _
  ·exact ba ..
end Go.Proofs.YteealihknndclabGreatDoor
namespace Go.Proofs.YteealihknndclabGreatDoor
open Go.RowKit
theorem size40 : (Tryz.prog.info? 184).map (·.size) = some 32 := by kernel_rfl
theorem rC (d : List UInt8) (h : d.length = 32) : (Tryz.prog.info? 184).map (·.size) = some (S.v8 d).size := by rw [S.aU, h]; exact size40
theorem Ba (d : List UInt8) (h : d.length = 32) : (S.v8 (S.zeros 32)).size = (S.v8 d).size := by rw [S.aU, S.aU, h]; rfl
set_option maxHeartbeats 1600000 in
set_option maxRecDepth 100000 in
theorem xw (g t : Nat) (r : S.Rd) (w : World) (hr : dh w g t r) :
  Calls Tryz.prog 206 #[.pointer (some ⟨g, 0, none⟩)] w fun e w' => e = .returned (.agg (S.v8 r.digest.2)) /\ dh w' g t r.digest.1 /\ Chg (fun k => k = g) w w' := by
 have HR := hide hr
 have hg := hr.lt
 have ht := hr.tlt
 clear hr
 go_enter Tryz.func206, Tryz.ntmps206
 go_wp2_with fail
 generalize hW : World.alloc (World.alloc w _) _ = W
 have ra : W.heap[w.heap.size]? = some (.cells (S.v8 (S.zeros 32)) 184 (0, 0)) := by rw [<- hW]; exact heap_alloc2_old _ _ _
 have rb : W.heap[w.heap.size + 1]? = some (.cells (S.v8 (S.zeros 32)) 184 (0, 0)) := by rw [<- hW]; exact heap_alloc2_new _ _ _
 have hc : Chg (fun k => k = g) w W := by rw [<- hW]; exact ((Chg.refl _ _).alloc _).alloc _
 have hb : Below w.heap.size w W := by rw [<- hW]; exact (ba ..).alloc (by simp) _
 have RA := hide ra
 have RB := hide rb
 have CW := hide hc
 have RW := hide (HR.out.below hb)
 clear hW ra rb hc hb HR
 generalize hga : w.heap.size = ga at *
 refine wp_region_noPanic ?_
 refine wp_region_held_drew (S := (fun _ => True)) follows trivial (fun hHeld => ?_)
 refine tq 0 ?_
 simp only [uA]
 refine tq 1 ?_
 simp only [uA]
 refine r1 2 fun K hK => ?_
 go_simp
 refine (nK g t r 32 W.drew (by omega) (RW.out.chg (p := fun _ => False) ((Chg.refl _ _).drew) (fun e => e) (fun e => e))).mono ?_
 rintro e w3 ⟨v, rfl, hv, h1, h2⟩
 obtain ⟨xs, hxs⟩ : ∃ xs, xs = (r.take 32).2 := ⟨_, rfl⟩
 have hxl : xs.length <= 32 := by rw [hxs]; exact r.take_len 32
 rw [<- hxs] at hv
 have FIN : Hid (splice (S.zeros 32) 0 xs = r.digest.2) := by rw [hxs]; exact rfl
 have R3 : Hid (dh w3 g t r.digest.1) := h1
 have C3 := hide (CW.out.trans (((Chg.refl (fun k => k = g) W).drew).trans h2 (fun _ _ h => h)) (fun _ _ h => h))
 have RA3 := hide (h2.row (g := ga) RA.out (by omega))
 have RB3 := hide (h2.row (g := ga + 1) RB.out (by omega))
 obtain ⟨ao, len, cap, rfl, hlen, hmax, hsrc⟩ := hv.shape
 have HS := hide hsrc
 have HN : Hid ((S.v8l xs).length = Nat.min len 32) := by show (S.v8l xs).length = Nat.min len 32; rw [S.ae]; show _ = min _ _; omega
 have HF : Hid (0 + (S.v8l xs).length <= (S.v8l (S.zeros 32)).length) := by show 0 + (S.v8l xs).length <= (S.v8l (S.zeros 32)).length; rw [S.ae, S.ae, S.zeros_length]; omega
 clear hv h1 h2 hxs hlen hsrc CW RA RB RW
 go_wp2_with fail
 refine hK.out _ _ trivial (fun hHeld => ?_)
 clear hK K 
 try simp only [uA]
 refine r1 3 fun K hK => ?_
 refine step_copy_splice rfl (.tmp 4) (.tmp 6) 22 22 rfl 5 Tryz.underlying22 kP _ _ _ _ _ _ rfl rfl (ga + 1) 0 (S.v8l (S.zeros 32)) 184 RB3.out (S.v8l xs) HN.out (eZ _ HS.out (Below.refl _ _)) HF.out (S.df _) (ga + 1) w3 (Below.refl _ _) (lr _) ?_
 intro w4 HG4 hB4
 have RB4 := hide (jg HG4)
 rw [FIN.out] at RB4
 have RA4 := hide ((hB4.block ga (by omega)).trans RA3.out)
 have R4 := hide (R3.out.chg (p := fun k => ga + 1 <= k) (Chg.ofBelow hB4 (fun _ _ h => h)) (by omega) (by omega))
 have C4 := hide (C3.out.trans (Chg.ofBelow (p := fun k => ga + 1 <= k) hB4 (fun _ _ h => h)) (fun k hk h => by omega))
 clear HG4 hB4 R3 C3 RA3 RB3 HS HN HF FIN
 refine hK.out _ _ trivial (fun hHeld => ?_)
 clear hK K 
 try simp only [uA]
 refine wpAnyH_done (by kernel_rfl) ?_ _
 refine NoPanic.normal ?_
 clear hHeld
 go_wp2_with (first | refine wpList_load_row rfl 184 _ rfl (ga + 1) rfl 184 _ _ _ RB4.out Tryz.underlying184 rfl (rC _ r.digest_length) ?_ | refine wpList_store_row rfl 184 _ _ rfl ga (S.v8 r.digest.2) rfl rfl 184 _ RA4.out (rC _ r.digest_length) (Ba _ r.digest_length) (S.jU _) ?_)
 refine bodyPost_ret (v := .agg (S.v8 r.digest.2)) (results_cell_row (g := ga) (t := 184) (fr := (0, 0)) Tryz.results206 _ _ _ _ rfl (setRow_heap _ _ _ _ _ _ RA4.out) Tryz.underlying184 rfl (rC _ r.digest_length)) rfl ⟨rfl, ?_, ?_⟩
 ·exact R4.out.chg (p := fun k => ga <= k) (Chg.ofBelow (below_setRow (Below.refl ga w4) (lr _) _) (fun _ _ h => h)) (by omega) (by omega)
 ·exact C4.out.trans (Chg.ofBelow (p := fun k => ga <= k) (below_setRow (Below.refl ga w4) (lr _) _) (fun _ _ h => h)) (fun k hk h => by omega)
end Go.Proofs.YteealihknndclabGreatDoor
namespace Go.Proofs.YteealihknndclabGreatDoor
open Go.RowKit
namespace S
theorem Dz (x : UInt8) (l : List UInt8) : val (x :: l) = x.toNat * 256 ^ l.length + val l := by
 have key : ∀ (l : List UInt8) (a : Nat), l.foldl (fun a x => a * 256 + x.toNat) a = a * 256 ^ l.length + l.foldl (fun a x => a * 256 + x.toNat) 0 := by
  intro l
  induction l with
  | nil => intro a; simp
  | cons y t ih =>
   intro a
   rw [List.foldl_cons, List.foldl_cons, ih (a * 256 + y.toNat), ih (0 * 256 + y.toNat), List.length_cons, Nat.pow_succ, Nat.add_mul]
   simp only [Nat.zero_mul, Nat.zero_add]
   rw [Nat.mul_assoc, Nat.mul_comm 256, Nat.add_assoc]
 unfold val
 rw [List.foldl_cons, key]
 simp
theorem ik (n m : Nat) : val (num n m) = n % 256 ^ m := by
 induction m with
 | zero => simp [num, val, Nat.mod_one]
 | succ m ih =>
  rw [num, Dz, ak, ih, UInt8.toNat_ofNat']
  have h := Nat.mod_mul_right_div_self n (256 ^ m) 256
  have h2 := Nat.div_add_mod (n % (256 ^ m * 256)) (256 ^ m)
  rw [h, Nat.mod_mul_right_mod] at h2
  have e : (2 : Nat) ^ 8 = 256 := by decide
  rw [e, show 256 ^ (m + 1) = 256 ^ m * 256 from Nat.pow_succ .., <- h2, Nat.mul_comm]
theorem Rd.take_app (A B C : List UInt8) (ba : Int) : (Rd.mk (A ++ (B ++ C)) A.length ba 0).take B.length = (⟨A ++ (B ++ C), A.length + B.length, ba, 0⟩, B) := by
 unfold Rd.take
 rw [if_pos rfl, if_pos (by simp only [List.length_append]; omega)]
 simp
theorem Rd.number_app (A B C : List UInt8) (ba k : Int) (h : B.length = size k) : (Rd.mk (A ++ (B ++ C)) A.length ba 0).number k = (⟨A ++ (B ++ C), A.length + B.length, ba, 0⟩, val B) := by
 unfold Rd.number
 rw [<- h, Rd.take_app]
theorem Rd.bytes_app (A xs C : List UInt8) (ba most : Int) (hx : xs.length < 65536) (hm : (xs.length : Int) <= most) : (Rd.mk (A ++ (num xs.length 2 ++ (xs ++ C))) A.length ba 0).bytes most = (⟨A ++ (num xs.length 2 ++ (xs ++ C)), A.length + 2 + xs.length, ba, 0⟩, xs) := by
 have h1 := Rd.number_app A (num xs.length 2) (xs ++ C) ba 2 (by rw [ak]; decide)
 have e : (256 : Nat) ^ 2 = 65536 := by decide
 have h2 : val (num xs.length 2) = xs.length := by rw [ik, e]; exact Nat.mod_eq_of_lt hx
 unfold Rd.bytes
 rw [h1, h2]
 simp only
 rw [if_neg (by omega)]
 have h3 := Rd.take_app (A ++ num xs.length 2) xs C ba
 rw [List.append_assoc, List.length_append, ak] at h3
 rw [ak]
 exact h3
theorem fQ (xs : List UInt8) (h : xs.length < 65536) : text xs = num xs.length 2 ++ xs := by
 unfold text
 rw [Nat.mod_eq_of_lt h, List.take_length]
end S
end Go.Proofs.YteealihknndclabGreatDoor
