/- Chapter 16's runs: FairNumbers' walk. -/
import Derived.Test.YtnplijgdklnipaaFi
namespace Go.Proofs.Ytnplijgdklnipaa
open Go.RowKit
def S.z2 : List S.Ln := [⟨0, 0, 0⟩, ⟨0, 0, 0⟩]
set_option maxHeartbeats 6400000 in
set_option maxRecDepth 100000 in
theorem fairNumbers_walk (w : World) : Calls Try.prog 3 #[] w fun e w' => e = .returned (.bool true) ∧ Below w.heap.size w w' := by
  have hk : (S.pos 1 S.k0.length = 1 ∧ S.lane S.k0 1 = 1 ∧ S.took S.k0 1 2 = 4 ∧ S.next S.k0 1 = 0 ∧ S.after S.k0 1 2 = [⟨1, 5, 0⟩, ⟨2, 1, 0⟩]) ∧
    (S.pos 5 ([] : List S.Ln).length = 0 ∧ S.lane [] 0 = -1 ∧ S.took [] 0 1 = 0 ∧ S.next [] 0 = 0 ∧ S.after [] 0 1 = []) ∧
    (S.pos (-1) S.z2.length = 0 ∧ S.lane S.z2 0 = -1 ∧ S.took S.z2 0 1 = 0 ∧ S.next S.z2 0 = 0 ∧ S.after S.z2 0 1 = S.z2) ∧
    (S.pos 1 S.z2.length = 1 ∧ S.lane S.z2 1 = -1 ∧ S.took S.z2 1 1 = 0 ∧ S.next S.z2 1 = 1 ∧ S.after S.z2 1 1 = S.z2) ∧ S.wait (-5) 0 9 0 = 1 := by decide
  have K := hide hk
  clear hk
  have hbs := bs_two 1 5 0 2 5 0
  have hbz := bs_two 0 0 0 0 0 0
  go_enter Try.func3, Try.ntmps3
  go_wp2_with fail
  go_at_call 9
  generalize hX : World.alloc _ _ = X
  have BX : Below w.heap.size w X := by rw [← hX]; exact one_below _ _
  have LX : LnAt X (.slice (some ⟨w.heap.size, 0, none⟩) 2 2) S.k0 := two_at (by rw [← hX]; exact heap_alloc_new _ _)
  refine (Serve_any _ S.k0 1 2 X LX (by intro x hx; simp [S.k0] at hx; rcases hx with rfl | rfl <;> (unfold S.Mild; simp)) (by decide)).mono ?_
  rintro e W1 ⟨u, rfl, hu, hb⟩
  rw [K.out.1.1] at hu ⊢
  rw [K.out.1.2.1, K.out.1.2.2.1, K.out.1.2.2.2.1]
  rw [K.out.1.2.2.2.2] at hu
  have B1 := hide (BX.trans (hb.mono BX.size))
  obtain ⟨a1, cp1, rfl⟩ := hu.form
  have R1 := hide hu
  clear hb LX BX hX hu
  go_upto_region 2 with fail
  generalize hY : World.alloc _ _ = Y1
  have D1 : Hid (Cel Y1 W1.heap.size 23 (.int .i64 1) (.int .i64 4) (.int .i64 0) ∧ Rw 28 3 encL X.heap.size Y1 (.slice a1 2 cp1) [⟨1, 5, 0⟩, ⟨2, 1, 0⟩]) := by
    show _ ∧ _
    rw [← hY]; exact ⟨Cel.new _ _ _ _ _, R1.out.below (one_below _ _)⟩
  have C1 : Hid (Below w.heap.size w Y1) := by
    show Below _ _ _
    rw [← hY]; exact B1.out.trans ((one_below _ _).mono B1.out.size)
  clear hY R1 B1
  generalize W1.heap.size = g1 at D1 ⊢
  go_wp2_with fail
  go_at_call 9
  have B2a := C1
  refine (Serve_any _ [] 5 1 Y1 (LnAt.nil _) (by intro x hx; simp at hx) (by decide)).mono ?_
  rintro e W2 ⟨u, rfl, hu, hb⟩
  rw [K.out.2.1.1] at hu ⊢
  rw [K.out.2.1.2.1, K.out.2.1.2.2.1, K.out.2.1.2.2.2.1]
  rw [K.out.2.1.2.2.2.2] at hu
  obtain ⟨a2, cp2, rfl⟩ := hu.form
  have D1b := hide (show Below Y1.heap.size Y1 W2 from hb)
  have Bw := hide (B2a.out.trans (hb.mono B2a.out.size))
  clear hb hu B2a C1
  go_upto_region 3 with fail
  generalize hY : World.alloc _ _ = Y2
  have bb : Below Y1.heap.size Y1 Y2 := by rw [← hY]; exact D1b.out.trans ((one_below _ _).mono D1b.out.size)
  have E1 := hide (And.intro (D1.out.1.below bb) (D1.out.2.below bb))
  have E2 : Hid (Cel Y2 W2.heap.size 23 (.int .i64 (-1)) (.int .i64 0) (.int .i64 0)) := by
    show Cel _ _ _ _ _ _
    rw [← hY]; exact Cel.new _ _ _ _ _
  have C2 : Hid (Below w.heap.size w Y2) := by
    show Below _ _ _
    rw [← hY]; exact Bw.out.trans ((one_below _ _).mono Bw.out.size)
  clear hY bb Bw D1b D1
  have D1 := E1
  have D2 := E2
  clear E1 E2
  generalize W2.heap.size = g2 at D2 ⊢
  go_wp2_with fail
  go_at_call 9
  generalize hX3 : World.alloc _ _ = X3
  have b3 : Below Y2.heap.size Y2 X3 := by rw [← hX3]; exact one_below _ _
  have B3a : Hid (Below w.heap.size w X3) := C2.out.trans (b3.mono C2.out.size)
  have LX : LnAt X3 (.slice (some ⟨Y2.heap.size, 0, none⟩) 2 2) S.z2 := two_at (by rw [← hX3]; exact heap_alloc_new _ _)
  refine (Serve_any _ S.z2 (-1) 1 X3 LX (by intro x hx; simp [S.z2] at hx; subst hx; unfold S.Mild; simp) (by decide)).mono ?_
  rintro e W3 ⟨u, rfl, hu, hb⟩
  rw [K.out.2.2.1.1] at hu ⊢
  rw [K.out.2.2.1.2.1, K.out.2.2.1.2.2.1, K.out.2.2.1.2.2.2.1]
  rw [K.out.2.2.1.2.2.2.2] at hu
  obtain ⟨a3, cp3, rfl⟩ := hu.form
  have D1b := hide (show Below Y2.heap.size Y2 W3 from b3.trans (hb.mono b3.size))
  have Bw := hide (B3a.out.trans (hb.mono B3a.out.size))
  clear hb hu B3a C2 LX b3 hX3
  go_upto_region 4 with fail
  generalize hY : World.alloc _ _ = Y3
  have bb : Below Y2.heap.size Y2 Y3 := by rw [← hY]; exact D1b.out.trans ((one_below _ _).mono D1b.out.size)
  have E1 := hide (And.intro (D1.out.1.below bb) (D1.out.2.below bb))
  have E2 := hide (D2.out.below bb)
  have E3 : Hid (Cel Y3 W3.heap.size 23 (.int .i64 (-1)) (.int .i64 0) (.int .i64 0)) := by
    show Cel _ _ _ _ _ _
    rw [← hY]; exact Cel.new _ _ _ _ _
  have C3 : Hid (Below w.heap.size w Y3) := by
    show Below _ _ _
    rw [← hY]; exact Bw.out.trans ((one_below _ _).mono Bw.out.size)
  clear hY bb Bw D1b D1 D2
  have D1 := E1
  have D2 := E2
  have D3 := E3
  clear E1 E2 E3
  generalize W3.heap.size = g3 at D3 ⊢
  go_wp2_with fail
  go_at_call 9
  generalize hX4 : World.alloc _ _ = X4
  have b4 : Below Y3.heap.size Y3 X4 := by rw [← hX4]; exact one_below _ _
  have B4a : Hid (Below w.heap.size w X4) := C3.out.trans (b4.mono C3.out.size)
  have LX : LnAt X4 (.slice (some ⟨Y3.heap.size, 0, none⟩) 2 2) S.z2 := two_at (by rw [← hX4]; exact heap_alloc_new _ _)
  refine (Serve_any _ S.z2 1 1 X4 LX (by intro x hx; simp [S.z2] at hx; subst hx; unfold S.Mild; simp) (by decide)).mono ?_
  rintro e W4 ⟨u, rfl, hu, hb⟩
  rw [K.out.2.2.2.1.1] at hu ⊢
  rw [K.out.2.2.2.1.2.1, K.out.2.2.2.1.2.2.1, K.out.2.2.2.1.2.2.2.1]
  rw [K.out.2.2.2.1.2.2.2.2] at hu
  obtain ⟨a4, cp4, rfl⟩ := hu.form
  have D1b := hide (show Below Y3.heap.size Y3 W4 from b4.trans (hb.mono b4.size))
  have Bw := hide (B4a.out.trans (hb.mono B4a.out.size))
  clear hb hu B4a C3 LX b4 hX4
  go_upto_region 5 with fail
  generalize hY : World.alloc _ _ = Y4
  have bb : Below Y3.heap.size Y3 Y4 := by rw [← hY]; exact D1b.out.trans ((one_below _ _).mono D1b.out.size)
  have E1 := hide (And.intro (D1.out.1.below bb) (D1.out.2.below bb))
  have E2 := hide (D2.out.below bb)
  have E3 := hide (D3.out.below bb)
  have E4 : Hid (Cel Y4 W4.heap.size 23 (.int .i64 (-1)) (.int .i64 0) (.int .i64 1)) := by
    show Cel _ _ _ _ _ _
    rw [← hY]; exact Cel.new _ _ _ _ _
  have C4 : Hid (Below w.heap.size w Y4) := by
    show Below _ _ _
    rw [← hY]; exact Bw.out.trans ((one_below _ _).mono Bw.out.size)
  clear hY bb Bw D1b D1 D2 D3
  have D1 := E1
  have D2 := E2
  have D3 := E3
  have D4 := E4
  clear E1 E2 E3 E4
  generalize W4.heap.size = g4 at D4 ⊢
  obtain ⟨c0, c1, c2⟩ := D1.out.1.c
  obtain ⟨e0, e1, e2⟩ := D2.out.c
  obtain ⟨f0, f1, f2⟩ := D3.out.c
  obtain ⟨h0, h1, h2⟩ := D4.out.c
  obtain ⟨g, rfl, -, -, -, hr⟩ := D1.out.2.lane 1 (by decide)
  obtain ⟨d0, d1, d2⟩ := lane_cells hr
  replace d0 : Y4.cell? ⟨g, 3, none⟩ = some (.int .i64 2) := d0
  replace d1 : Y4.cell? ⟨g, 4, none⟩ = some (.int .i64 1) := d1
  replace d2 : Y4.cell? ⟨g, 5, none⟩ = some (.int .i64 0) := d2
  clear hr hbs hbz
  go_wp2_with fail
  go_at_call 10
  refine (wait_any (-5) 0 9 0 Y4).mono ?_
  rintro e W5 ⟨rfl, rfl⟩
  rw [K.out.2.2.2.2]
  go_wp2_with fail
  go_at_call 11
  refine (known_any Y4).mono ?_
  rintro e W6 ⟨rfl, hb⟩
  have B6 := hide (C4.out.trans (hb.mono C4.out.size))
  clear hb
  go_wp2
  go_ret
  exact ⟨rfl, B6.out⟩
end Go.Proofs.Ytnplijgdklnipaa
