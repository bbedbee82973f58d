/- BtreeNumbers. -/
import Derived.Test.YteealihknndclaaGreatDoorEh
namespace Go.Proofs.YteealihknndclaaGreatDoor
open Go.RowKit
theorem gone_es : S.mrg [] (S.lasts [⟨[97], [49], false⟩, ⟨[97], [], true⟩, ⟨[113], [], true⟩]) = [] := by kernel_rfl
theorem gone_ok : S.NodeOk 0 (S.mrg [] (S.lasts [⟨[97], [49], false⟩, ⟨[97], [], true⟩, ⟨[113], [], true⟩])) := by
 rw [gone_es]
 exact ⟨fun x hx => by simp at hx, by unfold S.up; simp, by omega, by decide, fun _ x hx => by simp at hx, fun h => absurd rfl h⟩
theorem encCh_agg (a : Option Addr) (b c : Nat) (d : Option Addr) (e f : Nat) (g : Bool) : Value.agg (encCh ⟨a, b, c, d, e, f, g⟩).toArray = .agg #[.slice a b c, .slice d e f, .bool g] := rfl
theorem mk_bytes (n : Nat) (W : World) (hn : n ≤ 1000) : (Instr.makeSlice 32 (.int .i64 n) (.int .i64 n)).run Tryz.prog W = .ok (.slice (some ⟨W.heap.size, 0, none⟩) n n) (W.alloc (.cells (S.v8 (S.zeros n)) 5)) := make_bytes_big n (by omega) W
theorem new_row (n : Nat) (W : World) : ∃ g Z, g = W.heap.size ∧ W.alloc (.cells (S.v8 (S.zeros n)) 5) = Z ∧ Below W.heap.size W Z ∧ Z.heap[g]? = some (.cells (S.v8 (S.zeros n)) 5 (0, 0)) :=
 ⟨_, _, rfl, rfl, (Below.refl _ _).alloc (Nat.le_refl _) _, heap_alloc_new _ _⟩
theorem mtg {F G : World → Nat → Prop} {X : Prop} (h : (∀ W a, F W a → G W a) → X) (t : ∀ W a, F W a → G W a) : X := h t
theorem mtgg {F G : World → Nat → Nat → Prop} {X : Prop} (h : (∀ W a b, F W a b → G W a b) → X) (t : ∀ W a b, F W a b → G W a b) : X := h t
theorem mtc {F G : World → Option Addr → Nat → Nat → Option Addr → Nat → Nat → Bool → Prop} {X : Prop} (h : (∀ W a b c d e f g, F W a b c d e f g → G W a b c d e f g) → X) (t : ∀ W a b c d e f g, F W a b c d e f g → G W a b c d e f g) : X := h t
theorem mtcg {F G : World → Option Addr → Nat → Nat → Option Addr → Nat → Nat → Bool → Nat → Prop} {X : Prop} (h : (∀ W a b c d e f g h, F W a b c d e f g h → G W a b c d e f g h) → X) (t : ∀ W a b c d e f g h, F W a b c d e f g h → G W a b c d e f g h) : X := h t
theorem mtcgg {F G : World → Option Addr → Nat → Nat → Option Addr → Nat → Nat → Bool → Nat → Nat → Prop} {X : Prop} (h : (∀ W a b c d e f g h i, F W a b c d e f g h i → G W a b c d e f g h i) → X) (t : ∀ W a b c d e f g h i, F W a b c d e f g h i → G W a b c d e f g h i) : X := h t
set_option maxRecDepth 100000 in
theorem full_es : S.mrg [] (S.lasts [⟨[122], [], false⟩, ⟨S.zeros 40, S.zeros 400, false⟩]) = [⟨S.zeros 40, S.zeros 400, 0⟩, ⟨[122], [], 0⟩] := by kernel_rfl
set_option maxRecDepth 100000 in
theorem full_ok : S.NodeOk 0 (S.mrg [] (S.lasts [⟨[122], [], false⟩, ⟨S.zeros 40, S.zeros 400, false⟩])) := by
 rw [full_es]
 refine ⟨fun x hx => ?_, ?_, by omega, by decide, fun _ x hx => ?_, fun h => absurd rfl h⟩
 ·rcases List.mem_cons.1 hx with rfl | hx
  ·exact ⟨Nat.le_of_eq List.length_replicate, Nat.le_of_eq List.length_replicate, by decide, rfl⟩
  ·obtain rfl := List.mem_singleton.1 hx
   exact ⟨by decide, by decide, by decide, rfl⟩
 ·exact List.Pairwise.cons (fun b hb => by obtain rfl := List.mem_singleton.1 hb; decide +kernel) (List.pairwise_singleton _ _)
 ·rcases List.mem_cons.1 hx with rfl | hx
  ·intro h; exact absurd (congrArg List.length h) (by rw [show (S.zeros 40).length = 40 from List.length_replicate]; decide)
  ·obtain rfl := List.mem_singleton.1 hx
   intro h; cases h
set_option maxHeartbeats 32000000 in
set_option maxRecDepth 100000 in
theorem btreeNumbers_walk (w : World) (hK : KAt w) (h1 : 1 < w.heap.size) :
  Calls Tryz.prog 3 #[] w fun e w' => e = .returned (.bool true) ∧ Below w.heap.size w w' := by
 have HK := hide hK
 have HP : Hid (1 < w.heap.size) := h1
 clear hK h1
 go_enter Tryz.func3, Tryz.ntmps3
 go_wp2_with fail
 refine (begun_any w HK.out HP.out).mono ?_
 rintro e w1 ⟨o, gt, gs, rfl, hbt, lgt, lgs⟩
 have BT1 := hide hbt
 have K1 := hide (show KAt w1 by obtain ⟨d, p, t, pg, h1, _⟩ := hbt; exact h1.pgs.dk.k)
 have HP1 := hide (show 1 < w1.heap.size from Nat.lt_of_lt_of_le HP.out hbt.below.size)
 clear hbt lgt lgs
 go_wp2_with fail
 refine (new_any 7680 w1 (by omega) (by omega)).mono ?_
 rintro e w2 ⟨ob, rfl, hd, ho, b1⟩
 have BB2 := hide b1
 have BT2 := hide (BT1.out.then b1)
 have HD2 := hide hd
 have hptr : ob.ptr = .pointer (some ⟨ob.g, 0, none⟩) := rfl
 clear hd ho b1 BT1
 go_wp2_with fail
 refine (open_bare w2 ob (S.Dk.new 7680) HD2.out rfl (by simp [S.Dk.new]) (S.new_at 7680 0 (by omega))).mono ?_
 rintro e w3 ⟨rfl, b2⟩
 have BT3 := hide (BT2.out.then b2)
 clear b2 BT2 HD2 hptr
 go_wp2_with fail
 refine (chg13_any [] [120] (by decide) (by decide) _ _ rfl rfl w3).mono ?_
 rintro e w4 ⟨⟨ka1, kn1, kc1, va1, vn1, vc1, dr1⟩, rfl, hx1, k1, v1, b1⟩
 rw [encCh_agg]
 have BT4 := hide (BT3.out.then b1)
 have KV := hide (And.intro k1 v1)
 clear hx1 k1 v1 b1 BT3
 go_wp2_with fail
 refine (do_one_no gt w4 ka1 va1 kn1 kc1 vn1 vc1 dr1 (by rw [show kn1 = 0 from KV.out.1]; rfl)).mono ?_
 rintro e w5 ⟨rfl, b5⟩
 have BT5 := hide (BT4.out.then b5)
 clear b5 BT4 KV
 obtain ⟨Z41, hZ41⟩ : ∃ Z, Z = (⟨(S.zeros 41).toArray⟩ : ByteArray) := ⟨_, rfl⟩
 have HZ41 := hide hZ41
 have zs := zeros_str 41 (by omega) w5
 have zb : Below w5.heap.size w5 (w5.alloc (.cells (S.v8 (S.zeros 41)) 5)) := (Below.refl _ _).alloc (Nat.le_refl _) _
 have zm : (Instr.makeSlice 32 (.int .i64 41) (.int .i64 41)).run Tryz.prog w5 = .ok (.slice (some ⟨w5.heap.size, 0, none⟩) 41 41) (w5.alloc (.cells (S.v8 (S.zeros 41)) 5)) := make_bytes_big 41 (by omega) w5
 rw [← hZ41] at zs
 generalize w5.alloc (.cells (S.v8 (S.zeros 41)) 5) = w6 at zs zb zm
 have BT6 := hide (BT5.out.then zb)
 clear hZ41 zb BT5
 go_wp2_with fail
 clear zs zm
 refine (chg13_any (S.zeros 41) ([120]) (by simp [S.zeros]) (by simp) _ _ HZ41.out rfl w6).mono ?_
 rintro e w7 ⟨⟨ka2, kn2, kc2, va2, vn2, vc2, dr2⟩, rfl, hx2, k2, v2, b2⟩
 rw [encCh_agg]
 have BT7 := hide (BT6.out.then b2)
 have KV2 := hide (And.intro k2 v2)
 clear hx2 k2 v2 b2 BT6
 go_wp2_with fail
 refine (do_one_no gt w7 ka2 va2 kn2 kc2 vn2 vc2 dr2 (by rw [show kn2 = 41 by rw [KV2.out.1]; simp [S.zeros]]; simp)).mono ?_
 rintro e w8 ⟨rfl, b5⟩
 have BT8 := hide (BT7.out.then b5)
 clear b5 BT7 KV2
 obtain ⟨Z401, hZ401⟩ : ∃ Z, Z = (⟨(S.zeros 401).toArray⟩ : ByteArray) := ⟨_, rfl⟩
 have HZ401 := hide hZ401
 have zs := zeros_str 401 (by omega) w8
 have zb : Below w8.heap.size w8 (w8.alloc (.cells (S.v8 (S.zeros 401)) 5)) := (Below.refl _ _).alloc (Nat.le_refl _) _
 have zm : (Instr.makeSlice 32 (.int .i64 401) (.int .i64 401)).run Tryz.prog w8 = .ok (.slice (some ⟨w8.heap.size, 0, none⟩) 401 401) (w8.alloc (.cells (S.v8 (S.zeros 401)) 5)) := make_bytes_big 401 (by omega) w8
 rw [← hZ401] at zs
 generalize w8.alloc (.cells (S.v8 (S.zeros 401)) 5) = w9 at zs zb zm
 have BT9 := hide (BT8.out.then zb)
 clear hZ401 zb BT8
 go_wp2_with fail
 clear zs zm
 refine (chg13_any ([97]) (S.zeros 401) (by simp) (by simp [S.zeros]) _ _ rfl HZ401.out w9).mono ?_
 rintro e w10 ⟨⟨ka3, kn3, kc3, va3, vn3, vc3, dr3⟩, rfl, hx3, k3, v3, b3⟩
 rw [encCh_agg]
 have BT10 := hide (BT9.out.then b3)
 have KV3 := hide (And.intro k3 v3)
 clear hx3 k3 v3 b3 BT9
 go_wp2_with fail
 refine (do_one_no gt w10 ka3 va3 kn3 kc3 vn3 vc3 dr3 (by rw [show vn3 = 401 by rw [KV3.out.2]; simp [S.zeros]]; simp)).mono ?_
 rintro e w11 ⟨rfl, b5⟩
 have BT11 := hide (BT10.out.then b5)
 clear b5 BT10 KV3
 go_upto_region 9 with fail
 obtain ⟨w12, mk, hmkb, hels⟩ := make81 w11
 have BT12 := hide (BT11.out.then hmkb)
 have HELS := hide hels
 clear hmkb hels BT11
 go_wp2_with (with_reducible refine at_op ⟨some 50, .makeSlice 36 (.const (Value.int IntKind.i64 81)) (.const (Value.int IntKind.i64 81)), 36, "law.go:128", #[], none⟩ ?_; refine wpList_makeSlice_as rfl 36 _ _ rfl _ _ rfl rfl _ _ mk ?_)
 refine (do_no gt (.slice (some ⟨w11.heap.size, 0, none⟩) 81 81) (List.replicate 81 ⟨none, 0, 0, none, 0, 0, false⟩) w12 HELS.out (by rw [List.length_replicate]; simp)).mono ?_
 rintro e w13 ⟨rfl, b5⟩
 have BT13 := hide (BT12.out.then b5)
 clear b5 BT12 HELS mk
 go_wp2_with fail
 refine (chg13_any ([97]) ([49]) (by simp) (by simp) _ _ rfl rfl w13).mono ?_
 rintro e w14 ⟨⟨ka4, kn4, kc4, va4, vn4, vc4, dr4⟩, rfl, hx4, k4, v4, b4⟩
 rw [encCh_agg]
 have BT14 := hide (BT13.out.then b4)
 have KV4 := hide (And.intro k4 v4)
 have HX4 := hide hx4
 clear hx4 k4 v4 b4 BT13
 have cK : ∀ (W : World) (C : Array Value) (n c g : Nat), g = W.heap.size → (convert 32 32 (.slice (some ⟨g, 0, none⟩) n c)).run Tryz.prog (W.alloc (.cells C 5)) = .ok (.slice (some ⟨g, 0, none⟩) n c) (W.alloc (.cells C 5 (C.size, C.size + 1))) := fun W C n c g hg => by rw [hg]; exact convK32 W C n c
 go_wp2_with fail
 obtain ⟨c1, s97⟩ := lit_new w14 [97] #[.int .u8 97] 1 rfl rfl (by decide) (1, 2)
 generalize hW1 : w14.alloc (.cells #[.int .u8 97] 5 (1, 2)) = y1 at c1 s97 ⊢
 have z1 : y1.heap.size = w14.heap.size + 1 := by rw [← hW1]; simp
 obtain ⟨c2, s113⟩ := lit_new y1 [113] #[.int .u8 113] 1 rfl rfl (by decide) (1, 2)
 generalize hW2 : y1.alloc (.cells #[.int .u8 113] 5 (1, 2)) = y2 at c2 s113 ⊢
 have z2 : y2.heap.size = w14.heap.size + 1 + 1 := by rw [← hW2]; simp [z1]
 rw [z1] at s113
 have r3 : (y2.alloc (.cells #[.slice ka4 kn4 kc4, .slice va4 vn4 vc4, .bool dr4, .slice (some ⟨w14.heap.size, 0, none⟩) 1 1, .slice none 0 0, .bool true, .slice (some ⟨w14.heap.size + 1, 0, none⟩) 1 1, .slice none 0 0, .bool true] 34)).heap[w14.heap.size + 1 + 1]? = some (.cells (([⟨ka4, kn4, kc4, va4, vn4, vc4, dr4⟩, ⟨some ⟨w14.heap.size, 0, none⟩, 1, 1, none, 0, 0, true⟩, ⟨some ⟨w14.heap.size + 1, 0, none⟩, 1, 1, none, 0, 0, true⟩] : List ChV).flatMap encCh).toArray 34 (0, 0)) := by rw [← z2]; exact heap_alloc_new _ _
 have c3 : Below y2.heap.size y2 (y2.alloc (.cells #[.slice ka4 kn4 kc4, .slice va4 vn4 vc4, .bool dr4, .slice (some ⟨w14.heap.size, 0, none⟩) 1 1, .slice none 0 0, .bool true, .slice (some ⟨w14.heap.size + 1, 0, none⟩) 1 1, .slice none 0 0, .bool true] 34)) := (Below.refl _ _).alloc (Nat.le_refl _) _
 generalize hW3 : y2.alloc _ = y3 at r3 c3 ⊢
 have k4 := KV4.out
 have hd := do_ok w o gt gs 2 (w14.heap.size + 1 + 1) 0 3 [⟨ka4, kn4, kc4, va4, vn4, vc4, dr4⟩, ⟨some ⟨w14.heap.size, 0, none⟩, 1, 1, none, 0, 0, true⟩, ⟨some ⟨w14.heap.size + 1, 0, none⟩, 1, 1, none, 0, 0, true⟩] [⟨[97], [49], false⟩, ⟨[97], [], true⟩, ⟨[113], [], true⟩] [] y3
  (((BT14.out.then c1).then c2).then c3) (fun j u h => by rw [Nat.zero_add, cell_of_row y3 _ j _ _ _ r3]; simpa using h) (by simp) (by simp) (by simp)
  (by simp [ChV.good, k4.1, k4.2]) ⟨rfl, fun i x c hx hc => by
   match i, hx, hc with
   | 0, hx, hc => cases hx; cases hc; exact ((HX4.out.below c1).below c2).below c3
   | 1, hx, hc => cases hx; cases hc; exact ⟨(s97.below c2 (Nat.le_refl _)).below c3 (Nat.le_refl _), Or.inl ⟨rfl, rfl⟩, rfl⟩
   | 2, hx, hc => cases hx; cases hc; exact ⟨s113.below c3 (Nat.le_refl _), Or.inl ⟨rfl, rfl⟩, rfl⟩⟩ (by simp) gone_ok (by omega)
 rw [gone_es] at hd
 refine hd.mono ?_
 clear hd r3 c1 c2 c3 s97 s113 z1 z2 hW1 hW2 hW3 k4 cK
 rintro e w15 ⟨rfl, o', ho', hbt', hch, hown⟩
 have BT15 := hide hbt'
 have HO := hide ho'
 clear ho' hbt' hch hown HX4 KV4 BT14
 go_wp2_with fail
 obtain ⟨pg, hrd, htr, hlf⟩ := BT15.out.rds
 refine (len_0 w15.heap.size gt gs pg [] w15 hrd htr hlf).mono ?_
 rintro e w16 ⟨rfl, b5⟩
 have BT16 := hide (BT15.out.then b5)
 clear b5 BT15 hrd htr hlf
 go_upto_region 12 with fail
 obtain ⟨Z40, hZ40⟩ : ∃ Z, Z = (⟨(S.zeros 40).toArray⟩ : ByteArray) := ⟨_, rfl⟩
 have HZ40 := hide hZ40
 clear hZ40
 obtain ⟨Z400, hZ400⟩ : ∃ Z, Z = (⟨(S.zeros 400).toArray⟩ : ByteArray) := ⟨_, rfl⟩
 have HZ400 := hide hZ400
 clear hZ400
 refine wp_region_noPanic ?_
 refine wp_region_held_drew (S := (fun _ => True)) follows trivial (fun hHeld => ?_)
 have BTz : Hid (BtO w w16.drew o' gt gs 4 []) := BT16.out.then ((Below.refl _ _).drew)
 clear BT16
 generalize w16.drew = A0 at BTz ⊢
 refine tq 0 ?_
 simp only [Act.put, uB, uC, uD]
 clear hHeld
 apply mtcgg (F := fun W kz nz lz vz mz uz dz g40 g400 => BtO w W o' gt gs 4 [] ∧ ChIs W ⟨kz, nz, lz, vz, mz, uz, dz⟩ ⟨[122], [], false⟩ ∧ (nz = 1 ∧ mz = 0))
 ·intro T12345
  apply mtcgg (F := fun W kz nz lz vz mz uz dz g40 g400 => BtO w W o' gt gs 4 [] ∧ ChIs W ⟨kz, nz, lz, vz, mz, uz, dz⟩ ⟨[122], [], false⟩ ∧ (nz = 1 ∧ mz = 0) ∧ W.heap[g400]? = some (.cells (S.v8 (S.zeros 400)) 5 (0, 0)))
  ·intro T1234
   apply mtcgg (F := fun W kz nz lz vz mz uz dz g40 g400 => BtO w W o' gt gs 4 [] ∧ ChIs W ⟨kz, nz, lz, vz, mz, uz, dz⟩ ⟨[122], [], false⟩ ∧ (nz = 1 ∧ mz = 0) ∧ W.heap[g40]? = some (.cells (S.v8 (S.zeros 40)) 5 (0, 0)))
   ·intro T1245
    apply mtgg (F := fun W g40 g400 => BtO w W o' gt gs 4 [])
    ·intro T2345
     apply mtcg (F := fun W kz nz lz vz mz uz dz g40 => BtO w W o' gt gs 4 [] ∧ ChIs W ⟨kz, nz, lz, vz, mz, uz, dz⟩ ⟨[122], [], false⟩ ∧ (nz = 1 ∧ mz = 0))
     ·intro T123
      apply mtcgg (F := fun W kz nz lz vz mz uz dz g40 g400 => BtO w W o' gt gs 4 [] ∧ ChIs W ⟨kz, nz, lz, vz, mz, uz, dz⟩ ⟨[122], [], false⟩ ∧ (nz = 1 ∧ mz = 0) ∧ W.heap[g40]? = some (.cells (S.v8 (S.zeros 40)) 5 (0, 0)) ∧ W.heap[g400]? = some (.cells (S.v8 (S.zeros 400)) 5 (0, 0)))
      ·intro T124
       apply mtcg (F := fun W kz nz lz vz mz uz dz g400 => BtO w W o' gt gs 4 [] ∧ ChIs W ⟨kz, nz, lz, vz, mz, uz, dz⟩ ⟨[122], [], false⟩ ∧ (nz = 1 ∧ mz = 0))
       ·intro T145
        apply mtgg (F := fun W g40 g400 => BtO w W o' gt gs 4 [] ∧ W.heap[g400]? = some (.cells (S.v8 (S.zeros 400)) 5 (0, 0)))
        ·intro T234
         apply mtgg (F := fun W g40 g400 => BtO w W o' gt gs 4 [] ∧ W.heap[g40]? = some (.cells (S.v8 (S.zeros 40)) 5 (0, 0)))
         ·intro T245
          apply mtcg (F := fun W kz nz lz vz mz uz dz g40 => BtO w W o' gt gs 4 [] ∧ ChIs W ⟨kz, nz, lz, vz, mz, uz, dz⟩ ⟨[122], [], false⟩ ∧ (nz = 1 ∧ mz = 0) ∧ W.heap[g40]? = some (.cells (S.v8 (S.zeros 40)) 5 (0, 0)))
          ·intro T12
           apply mtcg (F := fun W kz nz lz vz mz uz dz g400 => BtO w W o' gt gs 4 [] ∧ ChIs W ⟨kz, nz, lz, vz, mz, uz, dz⟩ ⟨[122], [], false⟩ ∧ (nz = 1 ∧ mz = 0) ∧ W.heap[g400]? = some (.cells (S.v8 (S.zeros 400)) 5 (0, 0)))
           ·intro T14
            apply mtg (F := fun W g40 => BtO w W o' gt gs 4 [])
            ·intro T23
             apply mtgg (F := fun W g40 g400 => BtO w W o' gt gs 4 [] ∧ W.heap[g40]? = some (.cells (S.v8 (S.zeros 40)) 5 (0, 0)) ∧ W.heap[g400]? = some (.cells (S.v8 (S.zeros 400)) 5 (0, 0)))
             ·intro T24
              apply mtg (F := fun W g400 => BtO w W o' gt gs 4 [])
              ·intro T45
               apply mtc (F := fun W kz nz lz vz mz uz dz => BtO w W o' gt gs 4 [] ∧ ChIs W ⟨kz, nz, lz, vz, mz, uz, dz⟩ ⟨[122], [], false⟩ ∧ (nz = 1 ∧ mz = 0))
               ·intro T1
                apply mtg (F := fun W g40 => BtO w W o' gt gs 4 [] ∧ W.heap[g40]? = some (.cells (S.v8 (S.zeros 40)) 5 (0, 0)))
                ·intro T2
                 apply mtg (F := fun W g400 => BtO w W o' gt gs 4 [] ∧ W.heap[g400]? = some (.cells (S.v8 (S.zeros 400)) 5 (0, 0)))
                 ·intro T4
                  have BT := BTz
                  have hHeld := trivial
                  refine rdy [1, 2, 4] ?_
                  refine AllReadyH.cons (o := ⟨_, _, _, _, _, _⟩) rfl (fun K hK => ?_) ?_
                  ·skip
                   go_simp
                   refine (chg13_any [122] [] (by simp) (by simp) _ _ rfl rfl A0).mono ?_
                   rintro e Z ⟨⟨kz, nz, lz, vz, mz, uz, dz⟩, rfl, hx, k1, v1, hb⟩
                   rw [encCh_agg]
                   refine hK.out _ _ trivial (fun _ => ?_)
                   clear hK K
                   try simp only [Act.put, uB, uC, uD]
                   exact T1 Z kz nz lz vz mz uz dz ⟨BT.out.then hb, hx, ⟨k1, v1⟩⟩
                  refine AllReadyH.cons (o := ⟨_, _, _, _, _, _⟩) rfl (fun K hK => ?_) ?_
                  ·skip
                   have zm : (Instr.makeSlice 32 (.int .i64 40) (.int .i64 40)).run Tryz.prog A0 = _ := mk_bytes 40 A0 (by omega)
                   go_simp
                   obtain ⟨g40, Z, hg, hZ, hb, hr⟩ := new_row 40 A0
                   rw [← hg, hZ]
                   refine hK.out _ _ trivial (fun _ => ?_)
                   clear hK K
                   try simp only [Act.put, uB, uC, uD]
                   exact T2 Z g40 ⟨BT.out.then hb, hr⟩
                  refine c1 fun K hK => ?_
                  have zm : (Instr.makeSlice 32 (.int .i64 400) (.int .i64 400)).run Tryz.prog A0 = _ := mk_bytes 400 A0 (by omega)
                  go_simp
                  obtain ⟨g400, Z, hg, hZ, hb, hr⟩ := new_row 400 A0
                  rw [← hg, hZ]
                  refine hK.out _ _ trivial (fun _ => ?_)
                  clear hK K
                  try simp only [Act.put, uB, uC, uD]
                  exact T4 Z g400 ⟨BT.out.then hb, hr⟩
                 ·rintro W g400 ⟨hbt, r400⟩
                  have BT := hide hbt
                  have R400 := hide r400
                  clear hbt r400
                  have hHeld := trivial
                  refine rdy [1, 2, 5] ?_
                  refine AllReadyH.cons (o := ⟨_, _, _, _, _, _⟩) rfl (fun K hK => ?_) ?_
                  ·skip
                   go_simp
                   refine (chg13_any [122] [] (by simp) (by simp) _ _ rfl rfl W).mono ?_
                   rintro e Z ⟨⟨kz, nz, lz, vz, mz, uz, dz⟩, rfl, hx, k1, v1, hb⟩
                   rw [encCh_agg]
                   refine hK.out _ _ trivial (fun _ => ?_)
                   clear hK K
                   try simp only [Act.put, uB, uC, uD]
                   exact T14 Z kz nz lz vz mz uz dz g400 ⟨BT.out.then hb, hx, ⟨k1, v1⟩, (hb.block g400 (block_lt_of_row R400.out)).trans R400.out⟩
                  refine AllReadyH.cons (o := ⟨_, _, _, _, _, _⟩) rfl (fun K hK => ?_) ?_
                  ·skip
                   have zm : (Instr.makeSlice 32 (.int .i64 40) (.int .i64 40)).run Tryz.prog W = _ := mk_bytes 40 W (by omega)
                   go_simp
                   obtain ⟨g40, Z, hg, hZ, hb, hr⟩ := new_row 40 W
                   rw [← hg, hZ]
                   refine hK.out _ _ trivial (fun _ => ?_)
                   clear hK K
                   try simp only [Act.put, uB, uC, uD]
                   exact T24 Z g40 g400 ⟨BT.out.then hb, hr, (hb.block g400 (block_lt_of_row R400.out)).trans R400.out⟩
                  refine c1 fun K hK => ?_
                  have zs : (convert 32 9 (.slice (some ⟨g400, 0, none⟩) 400 400)).run Tryz.prog W = .ok (.string Z400) W := by rw [HZ400.out]; exact conv_slice (slice_row R400.out (by simp [S.zeros]) (by simp [S.zeros]))
                  go_simp
                  refine hK.out _ _ trivial (fun _ => ?_)
                  clear hK K
                  try simp only [Act.put, uB, uC, uD]
                  exact T45 W g400 BT.out
                ·rintro W g40 ⟨hbt, r40⟩
                 have BT := hide hbt
                 have R40 := hide r40
                 clear hbt r40
                 have hHeld := trivial
                 refine rdy [1, 3, 4] ?_
                 refine AllReadyH.cons (o := ⟨_, _, _, _, _, _⟩) rfl (fun K hK => ?_) ?_
                 ·skip
                  go_simp
                  refine (chg13_any [122] [] (by simp) (by simp) _ _ rfl rfl W).mono ?_
                  rintro e Z ⟨⟨kz, nz, lz, vz, mz, uz, dz⟩, rfl, hx, k1, v1, hb⟩
                  rw [encCh_agg]
                  refine hK.out _ _ trivial (fun _ => ?_)
                  clear hK K
                  try simp only [Act.put, uB, uC, uD]
                  exact T12 Z kz nz lz vz mz uz dz g40 ⟨BT.out.then hb, hx, ⟨k1, v1⟩, (hb.block g40 (block_lt_of_row R40.out)).trans R40.out⟩
                 refine AllReadyH.cons (o := ⟨_, _, _, _, _, _⟩) rfl (fun K hK => ?_) ?_
                 ·skip
                  have zs : (convert 32 9 (.slice (some ⟨g40, 0, none⟩) 40 40)).run Tryz.prog W = .ok (.string Z40) W := by rw [HZ40.out]; exact conv_slice (slice_row R40.out (by simp [S.zeros]) (by simp [S.zeros]))
                  go_simp
                  refine hK.out _ _ trivial (fun _ => ?_)
                  clear hK K
                  try simp only [Act.put, uB, uC, uD]
                  exact T23 W g40 BT.out
                 refine c1 fun K hK => ?_
                 have zm : (Instr.makeSlice 32 (.int .i64 400) (.int .i64 400)).run Tryz.prog W = _ := mk_bytes 400 W (by omega)
                 go_simp
                 obtain ⟨g400, Z, hg, hZ, hb, hr⟩ := new_row 400 W
                 rw [← hg, hZ]
                 refine hK.out _ _ trivial (fun _ => ?_)
                 clear hK K
                 try simp only [Act.put, uB, uC, uD]
                 exact T24 Z g40 g400 ⟨BT.out.then hb, (hb.block g40 (block_lt_of_row R40.out)).trans R40.out, hr⟩
               ·rintro W kz nz lz vz mz uz dz ⟨hbt, hx, kv⟩
                have BT := hide hbt
                have HX := hide hx
                have KV := hide kv
                clear hbt hx kv
                have hHeld := trivial
                refine rdy [2, 4] ?_
                refine AllReadyH.cons (o := ⟨_, _, _, _, _, _⟩) rfl (fun K hK => ?_) ?_
                ·skip
                 have zm : (Instr.makeSlice 32 (.int .i64 40) (.int .i64 40)).run Tryz.prog W = _ := mk_bytes 40 W (by omega)
                 go_simp
                 obtain ⟨g40, Z, hg, hZ, hb, hr⟩ := new_row 40 W
                 rw [← hg, hZ]
                 refine hK.out _ _ trivial (fun _ => ?_)
                 clear hK K
                 try simp only [Act.put, uB, uC, uD]
                 exact T12 Z kz nz lz vz mz uz dz g40 ⟨BT.out.then hb, HX.out.below hb, KV.out, hr⟩
                refine c1 fun K hK => ?_
                have zm : (Instr.makeSlice 32 (.int .i64 400) (.int .i64 400)).run Tryz.prog W = _ := mk_bytes 400 W (by omega)
                go_simp
                obtain ⟨g400, Z, hg, hZ, hb, hr⟩ := new_row 400 W
                rw [← hg, hZ]
                refine hK.out _ _ trivial (fun _ => ?_)
                clear hK K
                try simp only [Act.put, uB, uC, uD]
                exact T14 Z kz nz lz vz mz uz dz g400 ⟨BT.out.then hb, HX.out.below hb, KV.out, hr⟩
              ·rintro W g400 hbt
               have BT := hide hbt
               clear hbt
               have hHeld := trivial
               refine rdy [1, 2] ?_
               refine AllReadyH.cons (o := ⟨_, _, _, _, _, _⟩) rfl (fun K hK => ?_) ?_
               ·skip
                go_simp
                refine (chg13_any [122] [] (by simp) (by simp) _ _ rfl rfl W).mono ?_
                rintro e Z ⟨⟨kz, nz, lz, vz, mz, uz, dz⟩, rfl, hx, k1, v1, hb⟩
                rw [encCh_agg]
                refine hK.out _ _ trivial (fun _ => ?_)
                clear hK K
                try simp only [Act.put, uB, uC, uD]
                exact T145 Z kz nz lz vz mz uz dz g400 ⟨BT.out.then hb, hx, ⟨k1, v1⟩⟩
               refine c1 fun K hK => ?_
               have zm : (Instr.makeSlice 32 (.int .i64 40) (.int .i64 40)).run Tryz.prog W = _ := mk_bytes 40 W (by omega)
               go_simp
               obtain ⟨g40, Z, hg, hZ, hb, hr⟩ := new_row 40 W
               rw [← hg, hZ]
               refine hK.out _ _ trivial (fun _ => ?_)
               clear hK K
               try simp only [Act.put, uB, uC, uD]
               exact T245 Z g40 g400 ⟨BT.out.then hb, hr⟩
             ·rintro W g40 g400 ⟨hbt, r40, r400⟩
              have BT := hide hbt
              have R40 := hide r40
              have R400 := hide r400
              clear hbt r40 r400
              have hHeld := trivial
              refine rdy [1, 3, 5] ?_
              refine AllReadyH.cons (o := ⟨_, _, _, _, _, _⟩) rfl (fun K hK => ?_) ?_
              ·skip
               go_simp
               refine (chg13_any [122] [] (by simp) (by simp) _ _ rfl rfl W).mono ?_
               rintro e Z ⟨⟨kz, nz, lz, vz, mz, uz, dz⟩, rfl, hx, k1, v1, hb⟩
               rw [encCh_agg]
               refine hK.out _ _ trivial (fun _ => ?_)
               clear hK K
               try simp only [Act.put, uB, uC, uD]
               exact T124 Z kz nz lz vz mz uz dz g40 g400 ⟨BT.out.then hb, hx, ⟨k1, v1⟩, (hb.block g40 (block_lt_of_row R40.out)).trans R40.out, (hb.block g400 (block_lt_of_row R400.out)).trans R400.out⟩
              refine AllReadyH.cons (o := ⟨_, _, _, _, _, _⟩) rfl (fun K hK => ?_) ?_
              ·skip
               have zs : (convert 32 9 (.slice (some ⟨g40, 0, none⟩) 40 40)).run Tryz.prog W = .ok (.string Z40) W := by rw [HZ40.out]; exact conv_slice (slice_row R40.out (by simp [S.zeros]) (by simp [S.zeros]))
               go_simp
               refine hK.out _ _ trivial (fun _ => ?_)
               clear hK K
               try simp only [Act.put, uB, uC, uD]
               exact T234 W g40 g400 ⟨BT.out, R400.out⟩
              refine c1 fun K hK => ?_
              have zs : (convert 32 9 (.slice (some ⟨g400, 0, none⟩) 400 400)).run Tryz.prog W = .ok (.string Z400) W := by rw [HZ400.out]; exact conv_slice (slice_row R400.out (by simp [S.zeros]) (by simp [S.zeros]))
              go_simp
              refine hK.out _ _ trivial (fun _ => ?_)
              clear hK K
              try simp only [Act.put, uB, uC, uD]
              exact T245 W g40 g400 ⟨BT.out, R40.out⟩
            ·rintro W g40 hbt
             have BT := hide hbt
             clear hbt
             have hHeld := trivial
             refine rdy [1, 4] ?_
             refine AllReadyH.cons (o := ⟨_, _, _, _, _, _⟩) rfl (fun K hK => ?_) ?_
             ·skip
              go_simp
              refine (chg13_any [122] [] (by simp) (by simp) _ _ rfl rfl W).mono ?_
              rintro e Z ⟨⟨kz, nz, lz, vz, mz, uz, dz⟩, rfl, hx, k1, v1, hb⟩
              rw [encCh_agg]
              refine hK.out _ _ trivial (fun _ => ?_)
              clear hK K
              try simp only [Act.put, uB, uC, uD]
              exact T123 Z kz nz lz vz mz uz dz g40 ⟨BT.out.then hb, hx, ⟨k1, v1⟩⟩
             refine c1 fun K hK => ?_
             have zm : (Instr.makeSlice 32 (.int .i64 400) (.int .i64 400)).run Tryz.prog W = _ := mk_bytes 400 W (by omega)
             go_simp
             obtain ⟨g400, Z, hg, hZ, hb, hr⟩ := new_row 400 W
             rw [← hg, hZ]
             refine hK.out _ _ trivial (fun _ => ?_)
             clear hK K
             try simp only [Act.put, uB, uC, uD]
             exact T234 Z g40 g400 ⟨BT.out.then hb, hr⟩
           ·rintro W kz nz lz vz mz uz dz g400 ⟨hbt, hx, kv, r400⟩
            have BT := hide hbt
            have HX := hide hx
            have KV := hide kv
            have R400 := hide r400
            clear hbt hx kv r400
            have hHeld := trivial
            refine rdy [2, 5] ?_
            refine AllReadyH.cons (o := ⟨_, _, _, _, _, _⟩) rfl (fun K hK => ?_) ?_
            ·skip
             have zm : (Instr.makeSlice 32 (.int .i64 40) (.int .i64 40)).run Tryz.prog W = _ := mk_bytes 40 W (by omega)
             go_simp
             obtain ⟨g40, Z, hg, hZ, hb, hr⟩ := new_row 40 W
             rw [← hg, hZ]
             refine hK.out _ _ trivial (fun _ => ?_)
             clear hK K
             try simp only [Act.put, uB, uC, uD]
             exact T124 Z kz nz lz vz mz uz dz g40 g400 ⟨BT.out.then hb, HX.out.below hb, KV.out, hr, (hb.block g400 (block_lt_of_row R400.out)).trans R400.out⟩
            refine c1 fun K hK => ?_
            have zs : (convert 32 9 (.slice (some ⟨g400, 0, none⟩) 400 400)).run Tryz.prog W = .ok (.string Z400) W := by rw [HZ400.out]; exact conv_slice (slice_row R400.out (by simp [S.zeros]) (by simp [S.zeros]))
            go_simp
            refine hK.out _ _ trivial (fun _ => ?_)
            clear hK K
            try simp only [Act.put, uB, uC, uD]
            exact T145 W kz nz lz vz mz uz dz g400 ⟨BT.out, HX.out, KV.out⟩
          ·rintro W kz nz lz vz mz uz dz g40 ⟨hbt, hx, kv, r40⟩
           have BT := hide hbt
           have HX := hide hx
           have KV := hide kv
           have R40 := hide r40
           clear hbt hx kv r40
           have hHeld := trivial
           refine rdy [3, 4] ?_
           refine AllReadyH.cons (o := ⟨_, _, _, _, _, _⟩) rfl (fun K hK => ?_) ?_
           ·skip
            have zs : (convert 32 9 (.slice (some ⟨g40, 0, none⟩) 40 40)).run Tryz.prog W = .ok (.string Z40) W := by rw [HZ40.out]; exact conv_slice (slice_row R40.out (by simp [S.zeros]) (by simp [S.zeros]))
            go_simp
            refine hK.out _ _ trivial (fun _ => ?_)
            clear hK K
            try simp only [Act.put, uB, uC, uD]
            exact T123 W kz nz lz vz mz uz dz g40 ⟨BT.out, HX.out, KV.out⟩
           refine c1 fun K hK => ?_
           have zm : (Instr.makeSlice 32 (.int .i64 400) (.int .i64 400)).run Tryz.prog W = _ := mk_bytes 400 W (by omega)
           go_simp
           obtain ⟨g400, Z, hg, hZ, hb, hr⟩ := new_row 400 W
           rw [← hg, hZ]
           refine hK.out _ _ trivial (fun _ => ?_)
           clear hK K
           try simp only [Act.put, uB, uC, uD]
           exact T124 Z kz nz lz vz mz uz dz g40 g400 ⟨BT.out.then hb, HX.out.below hb, KV.out, (hb.block g40 (block_lt_of_row R40.out)).trans R40.out, hr⟩
         ·rintro W g40 g400 ⟨hbt, r40⟩
          have BT := hide hbt
          have R40 := hide r40
          clear hbt r40
          have hHeld := trivial
          refine rdy [1, 3] ?_
          refine AllReadyH.cons (o := ⟨_, _, _, _, _, _⟩) rfl (fun K hK => ?_) ?_
          ·skip
           go_simp
           refine (chg13_any [122] [] (by simp) (by simp) _ _ rfl rfl W).mono ?_
           rintro e Z ⟨⟨kz, nz, lz, vz, mz, uz, dz⟩, rfl, hx, k1, v1, hb⟩
           rw [encCh_agg]
           refine hK.out _ _ trivial (fun _ => ?_)
           clear hK K
           try simp only [Act.put, uB, uC, uD]
           exact T1245 Z kz nz lz vz mz uz dz g40 g400 ⟨BT.out.then hb, hx, ⟨k1, v1⟩, (hb.block g40 (block_lt_of_row R40.out)).trans R40.out⟩
          refine c1 fun K hK => ?_
          have zs : (convert 32 9 (.slice (some ⟨g40, 0, none⟩) 40 40)).run Tryz.prog W = .ok (.string Z40) W := by rw [HZ40.out]; exact conv_slice (slice_row R40.out (by simp [S.zeros]) (by simp [S.zeros]))
          go_simp
          refine hK.out _ _ trivial (fun _ => ?_)
          clear hK K
          try simp only [Act.put, uB, uC, uD]
          exact T2345 W g40 g400 BT.out
        ·rintro W g40 g400 ⟨hbt, r400⟩
         have BT := hide hbt
         have R400 := hide r400
         clear hbt r400
         have hHeld := trivial
         refine rdy [1, 5] ?_
         refine AllReadyH.cons (o := ⟨_, _, _, _, _, _⟩) rfl (fun K hK => ?_) ?_
         ·skip
          go_simp
          refine (chg13_any [122] [] (by simp) (by simp) _ _ rfl rfl W).mono ?_
          rintro e Z ⟨⟨kz, nz, lz, vz, mz, uz, dz⟩, rfl, hx, k1, v1, hb⟩
          rw [encCh_agg]
          refine hK.out _ _ trivial (fun _ => ?_)
          clear hK K
          try simp only [Act.put, uB, uC, uD]
          exact T1234 Z kz nz lz vz mz uz dz g40 g400 ⟨BT.out.then hb, hx, ⟨k1, v1⟩, (hb.block g400 (block_lt_of_row R400.out)).trans R400.out⟩
         refine c1 fun K hK => ?_
         have zs : (convert 32 9 (.slice (some ⟨g400, 0, none⟩) 400 400)).run Tryz.prog W = .ok (.string Z400) W := by rw [HZ400.out]; exact conv_slice (slice_row R400.out (by simp [S.zeros]) (by simp [S.zeros]))
         go_simp
         refine hK.out _ _ trivial (fun _ => ?_)
         clear hK K
         try simp only [Act.put, uB, uC, uD]
         exact T2345 W g40 g400 BT.out
       ·rintro W kz nz lz vz mz uz dz g400 ⟨hbt, hx, kv⟩
        have BT := hide hbt
        have HX := hide hx
        have KV := hide kv
        clear hbt hx kv
        have hHeld := trivial
        refine r1 2 fun K hK => ?_
        have zm : (Instr.makeSlice 32 (.int .i64 40) (.int .i64 40)).run Tryz.prog W = _ := mk_bytes 40 W (by omega)
        go_simp
        obtain ⟨g40, Z, hg, hZ, hb, hr⟩ := new_row 40 W
        rw [← hg, hZ]
        refine hK.out _ _ trivial (fun _ => ?_)
        clear hK K
        try simp only [Act.put, uB, uC, uD]
        exact T1245 Z kz nz lz vz mz uz dz g40 g400 ⟨BT.out.then hb, HX.out.below hb, KV.out, hr⟩
      ·rintro W kz nz lz vz mz uz dz g40 g400 ⟨hbt, hx, kv, r40, r400⟩
       have BT := hide hbt
       have HX := hide hx
       have KV := hide kv
       have R40 := hide r40
       have R400 := hide r400
       clear hbt hx kv r40 r400
       have hHeld := trivial
       refine rdy [3, 5] ?_
       refine AllReadyH.cons (o := ⟨_, _, _, _, _, _⟩) rfl (fun K hK => ?_) ?_
       ·skip
        have zs : (convert 32 9 (.slice (some ⟨g40, 0, none⟩) 40 40)).run Tryz.prog W = .ok (.string Z40) W := by rw [HZ40.out]; exact conv_slice (slice_row R40.out (by simp [S.zeros]) (by simp [S.zeros]))
        go_simp
        refine hK.out _ _ trivial (fun _ => ?_)
        clear hK K
        try simp only [Act.put, uB, uC, uD]
        exact T1234 W kz nz lz vz mz uz dz g40 g400 ⟨BT.out, HX.out, KV.out, R400.out⟩
       refine c1 fun K hK => ?_
       have zs : (convert 32 9 (.slice (some ⟨g400, 0, none⟩) 400 400)).run Tryz.prog W = .ok (.string Z400) W := by rw [HZ400.out]; exact conv_slice (slice_row R400.out (by simp [S.zeros]) (by simp [S.zeros]))
       go_simp
       refine hK.out _ _ trivial (fun _ => ?_)
       clear hK K
       try simp only [Act.put, uB, uC, uD]
       exact T1245 W kz nz lz vz mz uz dz g40 g400 ⟨BT.out, HX.out, KV.out, R40.out⟩
     ·rintro W kz nz lz vz mz uz dz g40 ⟨hbt, hx, kv⟩
      have BT := hide hbt
      have HX := hide hx
      have KV := hide kv
      clear hbt hx kv
      have hHeld := trivial
      refine r1 4 fun K hK => ?_
      have zm : (Instr.makeSlice 32 (.int .i64 400) (.int .i64 400)).run Tryz.prog W = _ := mk_bytes 400 W (by omega)
      go_simp
      obtain ⟨g400, Z, hg, hZ, hb, hr⟩ := new_row 400 W
      rw [← hg, hZ]
      refine hK.out _ _ trivial (fun _ => ?_)
      clear hK K
      try simp only [Act.put, uB, uC, uD]
      exact T1234 Z kz nz lz vz mz uz dz g40 g400 ⟨BT.out.then hb, HX.out.below hb, KV.out, hr⟩
    ·rintro W g40 g400 hbt
     have BT := hide hbt
     clear hbt
     have hHeld := trivial
     refine r1 1 fun K hK => ?_
     go_simp
     refine (chg13_any [122] [] (by simp) (by simp) _ _ rfl rfl W).mono ?_
     rintro e Z ⟨⟨kz, nz, lz, vz, mz, uz, dz⟩, rfl, hx, k1, v1, hb⟩
     rw [encCh_agg]
     refine hK.out _ _ trivial (fun _ => ?_)
     clear hK K
     try simp only [Act.put, uB, uC, uD]
     exact T12345 Z kz nz lz vz mz uz dz g40 g400 ⟨BT.out.then hb, hx, ⟨k1, v1⟩⟩
   ·rintro W kz nz lz vz mz uz dz g40 g400 ⟨hbt, hx, kv, r40⟩
    have BT := hide hbt
    have HX := hide hx
    have KV := hide kv
    have R40 := hide r40
    clear hbt hx kv r40
    have hHeld := trivial
    refine r1 3 fun K hK => ?_
    have zs : (convert 32 9 (.slice (some ⟨g40, 0, none⟩) 40 40)).run Tryz.prog W = .ok (.string Z40) W := by rw [HZ40.out]; exact conv_slice (slice_row R40.out (by simp [S.zeros]) (by simp [S.zeros]))
    go_simp
    refine hK.out _ _ trivial (fun _ => ?_)
    clear hK K
    try simp only [Act.put, uB, uC, uD]
    exact T12345 W kz nz lz vz mz uz dz g40 g400 ⟨BT.out, HX.out, KV.out⟩
  ·rintro W kz nz lz vz mz uz dz g40 g400 ⟨hbt, hx, kv, r400⟩
   have BT := hide hbt
   have HX := hide hx
   have KV := hide kv
   have R400 := hide r400
   clear hbt hx kv r400
   have hHeld := trivial
   refine r1 5 fun K hK => ?_
   have zs : (convert 32 9 (.slice (some ⟨g400, 0, none⟩) 400 400)).run Tryz.prog W = .ok (.string Z400) W := by rw [HZ400.out]; exact conv_slice (slice_row R400.out (by simp [S.zeros]) (by simp [S.zeros]))
   go_simp
   refine hK.out _ _ trivial (fun _ => ?_)
   clear hK K
   try simp only [Act.put, uB, uC, uD]
   exact T12345 W kz nz lz vz mz uz dz g40 g400 ⟨BT.out, HX.out, KV.out⟩
 ·rintro W kz nz lz vz mz uz dz g40 g400 ⟨hbt, hx, kv⟩
  have BTy := hide hbt
  have HXy := hide hx
  have KVz := hide kv
  clear hbt hx kv
  have hHeld : True := trivial
  refine r1 6 fun K hK => ?_
  go_simp
  refine (chg13_any (S.zeros 40) (S.zeros 400) (by simp [S.zeros]) (by simp [S.zeros]) _ _ HZ40.out HZ400.out W).mono ?_
  rintro e C1 ⟨⟨ky, ny, ly, vy, my, uy, dy⟩, rfl, hx, k1, v1, hb⟩
  rw [encCh_agg]
  have BTx := hide (BTy.out.then hb)
  have HXx := hide (HXy.out.below hb)
  have HYx := hide hx
  have KVy := hide (And.intro k1 v1)
  clear hx k1 v1 hb BTy HXy hHeld
  refine hK.out _ _ trivial (fun hHeld => ?_)
  clear hK K
  try simp only [Act.put, uB, uC, uD]
  refine r1 7 fun K hK => ?_
  clear hHeld
  go_simp
  obtain ⟨gc, hgc⟩ : ∃ g, g = C1.heap.size := ⟨_, rfl⟩
  rw [← hgc]
  have r3 : (C1.alloc (.cells #[.slice kz nz lz, .slice vz mz uz, .bool dz, .slice ky ny ly, .slice vy my uy, .bool dy] 34)).heap[gc]? = some (.cells (([⟨kz, nz, lz, vz, mz, uz, dz⟩, ⟨ky, ny, ly, vy, my, uy, dy⟩] : List ChV).flatMap encCh).toArray 34 (0, 0)) := by rw [hgc]; exact heap_alloc_new _ _
  have c3 : Below C1.heap.size C1 (C1.alloc (.cells #[.slice kz nz lz, .slice vz mz uz, .bool dz, .slice ky ny ly, .slice vy my uy, .bool dy] 34)) := (Below.refl _ _).alloc (Nat.le_refl _) _
  generalize hW3 : C1.alloc _ = C2 at r3 c3 ⊢
  have BTw := hide (BTx.out.then c3)
  have HXw := hide (HXx.out.below c3)
  have HYw := hide (HYx.out.below c3)
  have R3 := hide r3
  clear hW3 hgc r3 c3 BTx HXx HYx
  refine hK.out _ _ trivial (fun hHeld => ?_)
  clear hK K
  try simp only [Act.put, uB, uC, uD]
  refine r1 8 fun K hK => ?_
  clear hHeld
  go_simp
  have hd := do_ok w o' gt gs 4 gc 0 2 [⟨kz, nz, lz, vz, mz, uz, dz⟩, ⟨ky, ny, ly, vy, my, uy, dy⟩] [⟨[122], [], false⟩, ⟨S.zeros 40, S.zeros 400, false⟩] [] C2 BTw.out (fun j u h => by rw [Nat.zero_add, cell_of_row C2 _ j _ _ _ R3.out]; simpa using h) (by simp) (by simp) (by simp)
   (by have a1 := KVz.out; have a2 := KVy.out; simp [S.zeros] at a2; simp [ChV.good, a1.1, a1.2, a2.1, a2.2]) ⟨rfl, fun i x c hx hc => by
    match i, hx, hc with
    | 0, hx, hc => cases hx; cases hc; exact HXw.out
    | 1, hx, hc => cases hx; cases hc; exact HYw.out⟩ (by simp) full_ok (by omega)
  rw [full_es] at hd
  refine hd.mono ?_
  clear hd R3 HXw HYw KVz KVy BTw
  rintro e C3 ⟨rfl, o2, ho2, hbt, hch, hown⟩
  have BTv := hide hbt
  have HO2 := hide (ho2.trans HO.out)
  clear hbt ho2 hch hown
  refine hK.out _ _ trivial (fun hHeld => ?_)
  clear hK K hHeld
  try simp only [Act.put, uB, uC, uD]
  have hHeld : True := trivial
  refine tq 9 ?_
  simp only [Act.put, uB, uC, uD]
  clear hHeld
  refine wpAnyH_done (by kernel_rfl) ?_ _
  refine NoPanic.normal ?_
  go_wp2_with fail
  have hop : o.ptr = o2.ptr := by show Value.pointer (some ⟨o.g, 0, none⟩) = Value.pointer (some ⟨o2.g, 0, none⟩); rw [HO2.out]
  obtain ⟨d2, p2, t2, pg2, hb1, htr, hst, hn1, hn2, hle⟩ := BTv.out
  have HB1 := hide hb1
  clear hb1 htr hst hn1 hn2 hle
  rw [hop]
  refine (open_0 w C3 o2 d2 p2 t2 pg2 _ HB1.out).mono ?_
  rintro e C4 ⟨gt2, gs2, rfl, htr, hst, -, -, hb⟩
  have BTu := hide (BTv.out.then hb)
  have HB2 := hide (HB1.out.then hb)
  have TR := hide htr
  have SA := hide hst
  clear htr hst hb HB1 BTv hop
  go_wp2_with fail
  refine (len_0 C4.heap.size gt2 gs2 pg2 _ C4 (HB2.out.rds SA.out) TR.out HB2.out.leaf).mono ?_
  rintro e C5 ⟨rfl, hb⟩
  have BTt := hide (BTu.out.then hb)
  clear hb BTu HB2 TR SA
  go_wp2_with fail
  refine (do_nil gt C5).mono ?_
  rintro e C6 ⟨rfl, hb⟩
  have BTs := hide (BTt.out.then hb)
  clear hb BTt
  have KZ := hide (show KAt C6 by obtain ⟨d, p, t, pg, h1, _⟩ := BTs.out; exact h1.pgs.dk.k)
  have PZ := hide (show 1 < C6.heap.size from Nat.lt_of_lt_of_le HP.out BTs.out.below.size)
  go_wp2_with fail
  refine (known_any C6 KZ.out PZ.out).mono ?_
  rintro e C7 ⟨rfl, hb⟩
  have BL := hide (BTs.out.below.trans (hb.mono BTs.out.below.size))
  clear hb
  go_wp2_with fail
  go_ret
  exact ⟨rfl, BL.out⟩
end Go.Proofs.YteealihknndclaaGreatDoor
