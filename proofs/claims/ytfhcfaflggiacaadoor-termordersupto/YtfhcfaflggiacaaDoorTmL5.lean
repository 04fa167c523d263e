/- TermOrders. -/
import Derived.Test.YtfhcfaflggiacaaDoorTmV5
import Derived.Test.YtfhcfaflggiacaaDoorTmW13
import Derived.Test.YtfhcfaflggiacaaDoorTmV1
namespace Go.Proofs.YtfhcfaflggiacaaDoor
open Go.RowKit
open Tt

set_option maxHeartbeats 4000000 in
set_option maxRecDepth 100000 in
theorem termOrders_walk (x y t : Tm) (vx vy vt : Value) (w : World) (hkx : bk x ≤ 1048576) (hky : bk y ≤ 1048576) (hkt : bk t ≤ 1048576) (rx : Rep w (Lo w) x vx) (ry : Rep w (Lo w) y vy) (rt : Rep w (Lo w) t vt) (htab : TabB w.heap.size w) :
    Calls Tryd.prog 5 #[vx, vy, vt] w fun e w' => e = .returned (.bool true) ∧ Below w.heap.size w w' := by
  have hsx := sz_le_bk x
  have hsy := sz_le_bk y
  have hst := sz_le_bk t
  have hlx := fun W h => Large_any x 200 (Lo W) vx W (by omega) (rx.lo (w' := W) h) (fun _ h => h)
  have hly := fun W h => Large_any y 200 (Lo W) vy W (by omega) (ry.lo (w' := W) h) (fun _ h => h)
  have hlt := fun W h => Large_any t 200 (Lo W) vt W (by omega) (rt.lo (w' := W) h) (fun _ h => h)
  have hxy := fun W h (h2 : sz x ≤ 262144) => Order_any x y (Lo W) vx vy W h2 (rx.lo (w' := W) h) (ry.lo h) (fun _ h => h)
  have hyt := fun W h (h2 : sz y ≤ 262144) => Order_any y t (Lo W) vy vt W h2 (ry.lo (w' := W) h) (rt.lo h) (fun _ h => h)
  have hxt := fun W h (h2 : sz x ≤ 262144) => Order_any x t (Lo W) vx vt W h2 (rx.lo (w' := W) h) (rt.lo h) (fun _ h => h)
  have hyx := fun W h (h2 : sz y ≤ 262144) => Order_any y x (Lo W) vy vx W h2 (ry.lo (w' := W) h) (rx.lo h) (fun _ h => h)
  have hxx := fun W h (h2 : sz x ≤ 262144) => Order_any x x (Lo W) vx vx W h2 (rx.lo (w' := W) h) (rx.lo h) (fun _ h => h)
  have hrf := fun W h (h2 : sz x ≤ 262144) => refOrder_any x y (Lo W) vx vy W h2 (rx.lo (w' := W) h) (ry.lo h) (fun _ h => h)
  have hsm := fun W h (h2 : sz x ≤ 262144) => Same_any x y (Lo W) vx vy W h2 (rx.lo (w' := W) h) (ry.lo h) (fun _ h => h)
  have htr := ord_tr x y t
  have hsgx := ord_sg x y
  have hsgy := ord_sg y t
  have hsgz := ord_sg x t
  rw [ord_neg x y] at hyx
  rw [ord_refl] at hxx
  obtain ⟨X, hX⟩ : ∃ X, X = ord x y := ⟨_, rfl⟩
  obtain ⟨Y, hY⟩ : ∃ Y, Y = ord y t := ⟨_, rfl⟩
  obtain ⟨Z, hZ⟩ : ∃ Z, Z = ord x t := ⟨_, rfl⟩
  obtain ⟨Nx, hNx⟩ : ∃ N, N = sz x := ⟨_, rfl⟩
  obtain ⟨Ny, hNy⟩ : ∃ N, N = sz y := ⟨_, rfl⟩
  obtain ⟨Nt, hNt⟩ : ∃ N, N = sz t := ⟨_, rfl⟩
  rw [← hX] at hxy hyx hrf hsm htr hsgx
  rw [← hY] at hyt htr hsgy
  rw [← hZ] at hxt htr hsgz
  rw [← hNx] at hlx hxy hxt hxx hrf hsm hsx
  rw [← hNy] at hly hyt hyx hsy
  rw [← hNt] at hlt hst
  clear hX hY hZ hNx hNy hNt
  obtain ⟨k1, s1, n1, l1⟩ := x
  obtain ⟨k2, s2, n2, l2⟩ := y
  obtain ⟨k3, s3, n3, l3⟩ := t
  obtain ⟨A1, ca1, rfl, -, -⟩ := rep_mk.1 rx
  obtain ⟨A2, ca2, rfl, -, -⟩ := rep_mk.1 ry
  obtain ⟨A3, ca3, rfl, -, -⟩ := rep_mk.1 rt
  obtain ⟨z, hz⟩ : ∃ z, z = w.heap.size := ⟨_, rfl⟩
  obtain ⟨W2, hW2⟩ : ∃ W2, W2 = (((w.alloc (.cells #[.int .i64 k1, .string ⟨⟨s1⟩⟩, .int .i64 n1, .slice A1 l1.length ca1] 25)).alloc (.cells #[.int .i64 k2, .string ⟨⟨s2⟩⟩, .int .i64 n2, .slice A2 l2.length ca2] 25)).alloc (.cells #[.int .i64 k3, .string ⟨⟨s3⟩⟩, .int .i64 n3, .slice A3 l3.length ca3] 25)) := ⟨_, rfl⟩
  have hB2 : Below w.heap.size w W2 := by rw [hW2]; exact (((Below.refl _ _).alloc (Nat.le_refl _) _).alloc (by simp) _).alloc (by simp; omega) _
  have hs2 : W2.heap.size = z + 3 := by rw [hW2, hz]; simp
  have hg0 : W2.heap[z]? = some (.cells #[.int .i64 k1, .string ⟨⟨s1⟩⟩, .int .i64 n1, .slice A1 l1.length ca1] 25 (0, 0)) := by
    rw [hW2, hz, heap_alloc_old _ _ (by simp; omega), heap_alloc_old _ _ (by simp)]; exact heap_alloc_new w _
  have hg1 : W2.heap[z + 1]? = some (.cells #[.int .i64 k2, .string ⟨⟨s2⟩⟩, .int .i64 n2, .slice A2 l2.length ca2] 25 (0, 0)) := by
    rw [hW2, hz, heap_alloc_old _ _ (by simp)]
    have := heap_alloc_new (w.alloc (.cells #[.int .i64 k1, .string ⟨⟨s1⟩⟩, .int .i64 n1, .slice A1 l1.length ca1] 25)) (.cells #[.int .i64 k2, .string ⟨⟨s2⟩⟩, .int .i64 n2, .slice A2 l2.length ca2] 25)
    rwa [World.size_alloc] at this
  have hg2 : W2.heap[z + 2]? = some (.cells #[.int .i64 k3, .string ⟨⟨s3⟩⟩, .int .i64 n3, .slice A3 l3.length ca3] 25 (0, 0)) := by
    rw [hW2, hz]
    have := heap_alloc_new ((w.alloc (.cells #[.int .i64 k1, .string ⟨⟨s1⟩⟩, .int .i64 n1, .slice A1 l1.length ca1] 25)).alloc (.cells #[.int .i64 k2, .string ⟨⟨s2⟩⟩, .int .i64 n2, .slice A2 l2.length ca2] 25)) (.cells #[.int .i64 k3, .string ⟨⟨s3⟩⟩, .int .i64 n3, .slice A3 l3.length ca3] 25)
    rwa [World.size_alloc, World.size_alloc] at this
  have HC : Hid (∀ W, Below W2.heap.size W2 W → Below w.heap.size w W ∧ (W.cell? ⟨z, 0, none⟩ = some (.int .i64 k1) ∧ W.cell? ⟨z, 1, none⟩ = some (.string ⟨⟨s1⟩⟩) ∧ W.cell? ⟨z, 2, none⟩ = some (.int .i64 n1) ∧ W.cell? ⟨z, 3, none⟩ = some (.slice A1 l1.length ca1)) ∧ (W.cell? ⟨z + 1, 0, none⟩ = some (.int .i64 k2) ∧ W.cell? ⟨z + 1, 1, none⟩ = some (.string ⟨⟨s2⟩⟩) ∧ W.cell? ⟨z + 1, 2, none⟩ = some (.int .i64 n2) ∧ W.cell? ⟨z + 1, 3, none⟩ = some (.slice A2 l2.length ca2)) ∧ (W.cell? ⟨z + 2, 0, none⟩ = some (.int .i64 k3) ∧ W.cell? ⟨z + 2, 1, none⟩ = some (.string ⟨⟨s3⟩⟩) ∧ W.cell? ⟨z + 2, 2, none⟩ = some (.int .i64 n3) ∧ W.cell? ⟨z + 2, 3, none⟩ = some (.slice A3 l3.length ca3))) := fun W h =>
    ⟨hB2.trans (h.mono hB2.size), cell4 ((h.block z (by omega)).trans hg0), cell4 ((h.block (z + 1) (by omega)).trans hg1), cell4 ((h.block (z + 2) (by omega)).trans hg2)⟩
  have HWK := Lib.hid (works_any W2 (htab.up hB2))
  have HLX := Lib.hid hlx
  have HLY := Lib.hid hly
  have HLT := Lib.hid hlt
  have HXY := Lib.hid hxy
  have HYT := Lib.hid hyt
  have HXT := Lib.hid hxt
  have HYX := Lib.hid hyx
  have HXX := Lib.hid hxx
  have HRF := Lib.hid hrf
  have HSM := Lib.hid hsm
  have HTR := Lib.hid htr
  have HSGX := Lib.hid hsgx
  have HSGY := Lib.hid hsgy
  have HSGZ := Lib.hid hsgz
  have HW2 := Lib.hid hW2
  have HZ := Lib.hid hz
  clear rx ry rt htab hW2 hz hB2 hs2 hg0 hg1 hg2 htr hsgx hsgy hsgz hlx hly hlt hxy hyt hxt hyx hxx hrf hsm
  go_enter Tryd.func5, Tryd.ntmps5
  go_wp2_with fail
  rw [← HW2.out, ← HZ.out]
  refine HWK.out.mono ?_
  rintro _ w3 ⟨rfl, b3⟩
  have HB3 := Lib.hid b3
  obtain ⟨hb, ⟨c0, c1, c2, c3⟩, ⟨d0, d1, d2, d3⟩, ⟨e0, e1, e2, e3⟩⟩ := HC.out w3 b3
  have HL := Lib.hid (HLX.out w3 hb)
  clear b3 hb HWK
  obtain ⟨B1, hB1⟩ : ∃ B, B = decide (200 < Nx) := ⟨_, rfl⟩
  rw [← hB1] at HL
  have HQ1 := Lib.hid hB1
  clear hB1
  go_wp2_with fail
  refine HL.out.mono ?_
  rintro _ w4 ⟨rfl, b4⟩
  have HB4 : Hid (Below W2.heap.size W2 w4) := HB3.out.trans (b4.mono HB3.out.size)
  clear c0 c1 c2 c3 d0 d1 d2 d3 e0 e1 e2 e3 HL b4 HB3
  obtain ⟨hb, ⟨c0, c1, c2, c3⟩, ⟨d0, d1, d2, d3⟩, ⟨e0, e1, e2, e3⟩⟩ := HC.out w4 HB4.out
  have HL := Lib.hid (HLY.out w4 hb)
  skip
  clear hb
  obtain ⟨B2, hB2⟩ : ∃ B, B = decide (200 < Ny) := ⟨_, rfl⟩
  rw [← hB2] at HL
  have HQ2 := Lib.hid hB2
  clear hB2
  go_wp2_with fail
  refine HL.out.mono ?_
  rintro _ w5 ⟨rfl, b5⟩
  have HB5 : Hid (Below W2.heap.size W2 w5) := HB4.out.trans (b5.mono HB4.out.size)
  clear c0 c1 c2 c3 d0 d1 d2 d3 e0 e1 e2 e3 HL b5 HB4
  obtain ⟨hb, ⟨c0, c1, c2, c3⟩, ⟨d0, d1, d2, d3⟩, ⟨e0, e1, e2, e3⟩⟩ := HC.out w5 HB5.out
  have HL := Lib.hid (HLT.out w5 hb)
  skip
  clear hb
  obtain ⟨B3, hB3⟩ : ∃ B, B = decide (200 < Nt) := ⟨_, rfl⟩
  rw [← hB3] at HL
  have HQ3 := Lib.hid hB3
  clear hB3
  go_wp2_with fail
  refine HL.out.mono ?_
  rintro _ w6 ⟨rfl, b6⟩
  have HB6 : Hid (Below W2.heap.size W2 w6) := HB5.out.trans (b6.mono HB5.out.size)
  clear c0 c1 c2 c3 d0 d1 d2 d3 e0 e1 e2 e3 HL b6 HB5
  obtain ⟨hb, ⟨c0, c1, c2, c3⟩, ⟨d0, d1, d2, d3⟩, ⟨e0, e1, e2, e3⟩⟩ := HC.out w6 HB6.out
  have HBW := Lib.hid hb
  clear hb
  by_cases hlarge : (B1 || B2 || B3) = true
  · cases B1
    · cases B2
      · cases B3
        · cases hlarge
        · go_wp2
          go_ret
          exact ⟨rfl, HBW.out⟩
      · go_wp2
        go_ret
        exact ⟨rfl, HBW.out⟩
    · go_wp2
      go_ret
      exact ⟨rfl, HBW.out⟩
  obtain rfl : B1 = false := by cases B1 <;> simp_all
  obtain rfl : B2 = false := by cases B2 <;> simp_all
  obtain rfl : B3 = false := by cases B3 <;> simp_all
  have hx200 : Nx ≤ 262144 := by have := HQ1.out; have : Nx ≤ 200 := (by simpa using this); omega
  have hy200 : Ny ≤ 262144 := by have := HQ2.out; have : Ny ≤ 200 := (by simpa using this); omega
  clear hlarge HQ1 HQ2 HQ3
  have HL := Lib.hid (HXY.out w6 HBW.out hx200)
  clear HBW
  have hX3 : X = -1 ∨ X = 0 ∨ X = 1 := by have := HSGX.out; obtain ⟨h1, h2⟩ := this; omega
  have hY3 : Y = -1 ∨ Y = 0 ∨ Y = 1 := by have := HSGY.out; obtain ⟨h1, h2⟩ := this; omega
  have hZ3 : Z = -1 ∨ Z = 0 ∨ Z = 1 := by have := HSGZ.out; obtain ⟨h1, h2⟩ := this; omega
  rcases hX3 with rfl | rfl | rfl
  · skip
    go_wp2_with fail
    refine HL.out.mono ?_
    rintro _ w7 ⟨rfl, b7⟩
    have HB7 : Hid (Below W2.heap.size W2 w7) := HB6.out.trans (b7.mono HB6.out.size)
    clear c0 c1 c2 c3 d0 d1 d2 d3 e0 e1 e2 e3 HL b7 HB6
    obtain ⟨hb, ⟨c0, c1, c2, c3⟩, ⟨d0, d1, d2, d3⟩, ⟨e0, e1, e2, e3⟩⟩ := HC.out w7 HB7.out
    have HL := Lib.hid (HYT.out w7 hb hy200)
    skip
    clear hb
    go_wp2_with fail
    refine HL.out.mono ?_
    rintro _ w8 ⟨rfl, b8⟩
    have HB8 : Hid (Below W2.heap.size W2 w8) := HB7.out.trans (b8.mono HB7.out.size)
    clear c0 c1 c2 c3 d0 d1 d2 d3 e0 e1 e2 e3 HL b8 HB7
    obtain ⟨hb, ⟨c0, c1, c2, c3⟩, ⟨d0, d1, d2, d3⟩, ⟨e0, e1, e2, e3⟩⟩ := HC.out w8 HB8.out
    have HL := Lib.hid (HXT.out w8 hb hx200)
    skip
    clear hb
    go_wp2_with fail
    refine HL.out.mono ?_
    rintro _ w9 ⟨rfl, b9⟩
    have HB9 : Hid (Below W2.heap.size W2 w9) := HB8.out.trans (b9.mono HB8.out.size)
    clear c0 c1 c2 c3 d0 d1 d2 d3 e0 e1 e2 e3 HL b9 HB8
    obtain ⟨hb, ⟨c0, c1, c2, c3⟩, ⟨d0, d1, d2, d3⟩, ⟨e0, e1, e2, e3⟩⟩ := HC.out w9 HB9.out
    have HL := Lib.hid (HRF.out w9 hb hx200)
    skip
    clear hb
    go_wp2_with fail
    refine HL.out.mono ?_
    rintro _ w10 ⟨rfl, b10⟩
    have HB10 : Hid (Below W2.heap.size W2 w10) := HB9.out.trans (b10.mono HB9.out.size)
    clear c0 c1 c2 c3 d0 d1 d2 d3 e0 e1 e2 e3 HL b10 HB9
    obtain ⟨hb, ⟨c0, c1, c2, c3⟩, ⟨d0, d1, d2, d3⟩, ⟨e0, e1, e2, e3⟩⟩ := HC.out w10 HB10.out
    have HL := Lib.hid (HYX.out w10 hb hy200)
    skip
    clear hb
    rw [show -(-1 : Int) = 1 from rfl] at HL
    go_wp2_with fail
    refine HL.out.mono ?_
    rintro _ w11 ⟨rfl, b11⟩
    have HB11 : Hid (Below W2.heap.size W2 w11) := HB10.out.trans (b11.mono HB10.out.size)
    clear c0 c1 c2 c3 d0 d1 d2 d3 e0 e1 e2 e3 HL b11 HB10
    obtain ⟨hb, ⟨c0, c1, c2, c3⟩, ⟨d0, d1, d2, d3⟩, ⟨e0, e1, e2, e3⟩⟩ := HC.out w11 HB11.out
    have HL := Lib.hid (HSM.out w11 hb hx200)
    skip
    clear hb
    rw [show decide ((-1 : Int) = 0) = false from rfl] at HL
    go_wp2_with fail
    refine HL.out.mono ?_
    rintro _ w12 ⟨rfl, b12⟩
    have HB12 : Hid (Below W2.heap.size W2 w12) := HB11.out.trans (b12.mono HB11.out.size)
    clear c0 c1 c2 c3 d0 d1 d2 d3 e0 e1 e2 e3 HL b12 HB11
    obtain ⟨hb, ⟨c0, c1, c2, c3⟩, ⟨d0, d1, d2, d3⟩, ⟨e0, e1, e2, e3⟩⟩ := HC.out w12 HB12.out
    have HL := Lib.hid (HXX.out w12 hb hx200)
    skip
    clear hb
    go_wp2_with fail
    refine HL.out.mono ?_
    rintro _ w13 ⟨rfl, b13⟩
    have HB13 : Hid (Below W2.heap.size W2 w13) := HB12.out.trans (b13.mono HB12.out.size)
    clear c0 c1 c2 c3 d0 d1 d2 d3 e0 e1 e2 e3 HL b13 HB12
    obtain ⟨hb, ⟨c0, c1, c2, c3⟩, ⟨d0, d1, d2, d3⟩, ⟨e0, e1, e2, e3⟩⟩ := HC.out w13 HB13.out
    have HBW := Lib.hid hb
    clear hb
    have htr := HTR.out
    obtain ⟨t1, t2, t3, t4⟩ := htr
    rcases hY3 with rfl | rfl | rfl
    · obtain rfl : Z = -1 := by omega
      clear t1 t2 t3 t4
      go_wp2
      go_ret
      exact ⟨rfl, HBW.out⟩
    · obtain rfl : Z = -1 := by omega
      clear t1 t2 t3 t4
      go_wp2
      go_ret
      exact ⟨rfl, HBW.out⟩
    · clear t1 t2 t3 t4
      go_wp2
      go_ret
      exact ⟨rfl, HBW.out⟩
  · skip
    go_wp2_with fail
    refine HL.out.mono ?_
    rintro _ w7 ⟨rfl, b7⟩
    have HB7 : Hid (Below W2.heap.size W2 w7) := HB6.out.trans (b7.mono HB6.out.size)
    clear c0 c1 c2 c3 d0 d1 d2 d3 e0 e1 e2 e3 HL b7 HB6
    obtain ⟨hb, ⟨c0, c1, c2, c3⟩, ⟨d0, d1, d2, d3⟩, ⟨e0, e1, e2, e3⟩⟩ := HC.out w7 HB7.out
    have HL := Lib.hid (HYT.out w7 hb hy200)
    skip
    clear hb
    go_wp2_with fail
    refine HL.out.mono ?_
    rintro _ w8 ⟨rfl, b8⟩
    have HB8 : Hid (Below W2.heap.size W2 w8) := HB7.out.trans (b8.mono HB7.out.size)
    clear c0 c1 c2 c3 d0 d1 d2 d3 e0 e1 e2 e3 HL b8 HB7
    obtain ⟨hb, ⟨c0, c1, c2, c3⟩, ⟨d0, d1, d2, d3⟩, ⟨e0, e1, e2, e3⟩⟩ := HC.out w8 HB8.out
    have HL := Lib.hid (HXT.out w8 hb hx200)
    skip
    clear hb
    go_wp2_with fail
    refine HL.out.mono ?_
    rintro _ w9 ⟨rfl, b9⟩
    have HB9 : Hid (Below W2.heap.size W2 w9) := HB8.out.trans (b9.mono HB8.out.size)
    clear c0 c1 c2 c3 d0 d1 d2 d3 e0 e1 e2 e3 HL b9 HB8
    obtain ⟨hb, ⟨c0, c1, c2, c3⟩, ⟨d0, d1, d2, d3⟩, ⟨e0, e1, e2, e3⟩⟩ := HC.out w9 HB9.out
    have HL := Lib.hid (HRF.out w9 hb hx200)
    skip
    clear hb
    go_wp2_with fail
    refine HL.out.mono ?_
    rintro _ w10 ⟨rfl, b10⟩
    have HB10 : Hid (Below W2.heap.size W2 w10) := HB9.out.trans (b10.mono HB9.out.size)
    clear c0 c1 c2 c3 d0 d1 d2 d3 e0 e1 e2 e3 HL b10 HB9
    obtain ⟨hb, ⟨c0, c1, c2, c3⟩, ⟨d0, d1, d2, d3⟩, ⟨e0, e1, e2, e3⟩⟩ := HC.out w10 HB10.out
    have HL := Lib.hid (HYX.out w10 hb hy200)
    skip
    clear hb
    rw [show -(0 : Int) = 0 from rfl] at HL
    go_wp2_with fail
    refine HL.out.mono ?_
    rintro _ w11 ⟨rfl, b11⟩
    have HB11 : Hid (Below W2.heap.size W2 w11) := HB10.out.trans (b11.mono HB10.out.size)
    clear c0 c1 c2 c3 d0 d1 d2 d3 e0 e1 e2 e3 HL b11 HB10
    obtain ⟨hb, ⟨c0, c1, c2, c3⟩, ⟨d0, d1, d2, d3⟩, ⟨e0, e1, e2, e3⟩⟩ := HC.out w11 HB11.out
    have HL := Lib.hid (HSM.out w11 hb hx200)
    skip
    clear hb
    first | rw [show decide ((0 : Int) = 0) = true from rfl] at HL | simp only [decide_true] at HL
    go_wp2_with fail
    refine HL.out.mono ?_
    rintro _ w12 ⟨rfl, b12⟩
    have HB12 : Hid (Below W2.heap.size W2 w12) := HB11.out.trans (b12.mono HB11.out.size)
    clear c0 c1 c2 c3 d0 d1 d2 d3 e0 e1 e2 e3 HL b12 HB11
    obtain ⟨hb, ⟨c0, c1, c2, c3⟩, ⟨d0, d1, d2, d3⟩, ⟨e0, e1, e2, e3⟩⟩ := HC.out w12 HB12.out
    have HL := Lib.hid (HXX.out w12 hb hx200)
    skip
    clear hb
    go_wp2_with fail
    refine HL.out.mono ?_
    rintro _ w13 ⟨rfl, b13⟩
    have HB13 : Hid (Below W2.heap.size W2 w13) := HB12.out.trans (b13.mono HB12.out.size)
    clear c0 c1 c2 c3 d0 d1 d2 d3 e0 e1 e2 e3 HL b13 HB12
    obtain ⟨hb, ⟨c0, c1, c2, c3⟩, ⟨d0, d1, d2, d3⟩, ⟨e0, e1, e2, e3⟩⟩ := HC.out w13 HB13.out
    have HBW := Lib.hid hb
    clear hb
    have htr := HTR.out
    obtain ⟨t1, t2, t3, t4⟩ := htr
    rcases hY3 with rfl | rfl | rfl
    · obtain rfl : Z = -1 := by omega
      clear t1 t2 t3 t4
      go_wp2
      go_ret
      exact ⟨rfl, HBW.out⟩
    · obtain rfl : Z = 0 := by omega
      clear t1 t2 t3 t4
      go_wp2
      go_ret
      exact ⟨rfl, HBW.out⟩
    · clear t1 t2 t3 t4
      go_wp2
      go_ret
      exact ⟨rfl, HBW.out⟩
  · skip
    go_wp2_with fail
    refine HL.out.mono ?_
    rintro _ w7 ⟨rfl, b7⟩
    have HB7 : Hid (Below W2.heap.size W2 w7) := HB6.out.trans (b7.mono HB6.out.size)
    clear c0 c1 c2 c3 d0 d1 d2 d3 e0 e1 e2 e3 HL b7 HB6
    obtain ⟨hb, ⟨c0, c1, c2, c3⟩, ⟨d0, d1, d2, d3⟩, ⟨e0, e1, e2, e3⟩⟩ := HC.out w7 HB7.out
    have HL := Lib.hid (HYT.out w7 hb hy200)
    skip
    clear hb
    go_wp2_with fail
    refine HL.out.mono ?_
    rintro _ w8 ⟨rfl, b8⟩
    have HB8 : Hid (Below W2.heap.size W2 w8) := HB7.out.trans (b8.mono HB7.out.size)
    clear c0 c1 c2 c3 d0 d1 d2 d3 e0 e1 e2 e3 HL b8 HB7
    obtain ⟨hb, ⟨c0, c1, c2, c3⟩, ⟨d0, d1, d2, d3⟩, ⟨e0, e1, e2, e3⟩⟩ := HC.out w8 HB8.out
    have HL := Lib.hid (HXT.out w8 hb hx200)
    skip
    clear hb
    go_wp2_with fail
    refine HL.out.mono ?_
    rintro _ w9 ⟨rfl, b9⟩
    have HB9 : Hid (Below W2.heap.size W2 w9) := HB8.out.trans (b9.mono HB8.out.size)
    clear c0 c1 c2 c3 d0 d1 d2 d3 e0 e1 e2 e3 HL b9 HB8
    obtain ⟨hb, ⟨c0, c1, c2, c3⟩, ⟨d0, d1, d2, d3⟩, ⟨e0, e1, e2, e3⟩⟩ := HC.out w9 HB9.out
    have HL := Lib.hid (HRF.out w9 hb hx200)
    skip
    clear hb
    go_wp2_with fail
    refine HL.out.mono ?_
    rintro _ w10 ⟨rfl, b10⟩
    have HB10 : Hid (Below W2.heap.size W2 w10) := HB9.out.trans (b10.mono HB9.out.size)
    clear c0 c1 c2 c3 d0 d1 d2 d3 e0 e1 e2 e3 HL b10 HB9
    obtain ⟨hb, ⟨c0, c1, c2, c3⟩, ⟨d0, d1, d2, d3⟩, ⟨e0, e1, e2, e3⟩⟩ := HC.out w10 HB10.out
    have HL := Lib.hid (HYX.out w10 hb hy200)
    skip
    clear hb
    rw [show -(1 : Int) = -1 from rfl] at HL
    go_wp2_with fail
    refine HL.out.mono ?_
    rintro _ w11 ⟨rfl, b11⟩
    have HB11 : Hid (Below W2.heap.size W2 w11) := HB10.out.trans (b11.mono HB10.out.size)
    clear c0 c1 c2 c3 d0 d1 d2 d3 e0 e1 e2 e3 HL b11 HB10
    obtain ⟨hb, ⟨c0, c1, c2, c3⟩, ⟨d0, d1, d2, d3⟩, ⟨e0, e1, e2, e3⟩⟩ := HC.out w11 HB11.out
    have HL := Lib.hid (HSM.out w11 hb hx200)
    skip
    clear hb
    rw [show decide ((1 : Int) = 0) = false from rfl] at HL
    go_wp2_with fail
    refine HL.out.mono ?_
    rintro _ w12 ⟨rfl, b12⟩
    have HB12 : Hid (Below W2.heap.size W2 w12) := HB11.out.trans (b12.mono HB11.out.size)
    clear c0 c1 c2 c3 d0 d1 d2 d3 e0 e1 e2 e3 HL b12 HB11
    obtain ⟨hb, ⟨c0, c1, c2, c3⟩, ⟨d0, d1, d2, d3⟩, ⟨e0, e1, e2, e3⟩⟩ := HC.out w12 HB12.out
    have HL := Lib.hid (HXX.out w12 hb hx200)
    skip
    clear hb
    go_wp2_with fail
    refine HL.out.mono ?_
    rintro _ w13 ⟨rfl, b13⟩
    have HB13 : Hid (Below W2.heap.size W2 w13) := HB12.out.trans (b13.mono HB12.out.size)
    clear c0 c1 c2 c3 d0 d1 d2 d3 e0 e1 e2 e3 HL b13 HB12
    obtain ⟨hb, ⟨c0, c1, c2, c3⟩, ⟨d0, d1, d2, d3⟩, ⟨e0, e1, e2, e3⟩⟩ := HC.out w13 HB13.out
    have HBW := Lib.hid hb
    clear hb
    have htr := HTR.out
    obtain ⟨t1, t2, t3, t4⟩ := htr
    go_wp2
    go_ret
    exact ⟨rfl, HBW.out⟩
end Go.Proofs.YtfhcfaflggiacaaDoor
