/- Order, Same: the whole. -/
import Derived.Test.YtiidooponlbnmaaDoorTmW7
namespace Go.Proofs.YtiidooponlbnmaaDoor.Te
open Go.RowKit
open Tt

set_option maxHeartbeats 1000000 in
set_option maxRecDepth 100000 in
theorem order_any : ∀ x, OrderSaid x := Tm.ind (by
  intro k s n l ih y d di S vx vy w hdd hsz hx hy hS
  obtain ⟨k', s', n', l'⟩ := y
  have hsz0 := hsz
  rw [sz] at hsz
  obtain ⟨A, ca, rfl, -, hrow⟩ := rep_mk.1 hx
  obtain ⟨A', ca', rfl, -, hrow'⟩ := rep_mk.1 hy
  obtain ⟨z, hz⟩ : ∃ z, z = w.heap.size := ⟨_, rfl⟩
  obtain ⟨W2, hW2⟩ : ∃ W2, W2 = ((w.alloc (.cells #[.int .i64 k, .string ⟨⟨s⟩⟩, .int .i64 n, .slice A l.length ca] 33)).alloc (.cells #[.int .i64 k', .string ⟨⟨s'⟩⟩, .int .i64 n', .slice A' l'.length ca'] 33)) := ⟨_, rfl⟩
  have hB2 : Below w.heap.size w W2 := by rw [hW2]; exact ((Below.refl _ _).alloc (Nat.le_refl _) _).alloc (by simp) _
  have hs2 : W2.heap.size = z + 2 := by rw [hW2, hz]; simp
  have hg0 : W2.heap[z]? = some (.cells #[.int .i64 k, .string ⟨⟨s⟩⟩, .int .i64 n, .slice A l.length ca] 33 (0, 0)) := by
    rw [hW2, hz, heap_alloc_old _ _ (by simp)]; exact heap_alloc_new w _
  have hg1 : W2.heap[z + 1]? = some (.cells #[.int .i64 k', .string ⟨⟨s'⟩⟩, .int .i64 n', .slice A' l'.length ca'] 33 (0, 0)) := by
    rw [hW2, hz]
    have := heap_alloc_new (w.alloc (.cells #[.int .i64 k, .string ⟨⟨s⟩⟩, .int .i64 n, .slice A l.length ca] 33)) (.cells #[.int .i64 k', .string ⟨⟨s'⟩⟩, .int .i64 n', .slice A' l'.length ca'] 33)
    rwa [World.size_alloc] at this
  have hH := heads_any k k' s s' n n' A A' l.length ca l'.length ca' W2
  obtain ⟨R, hR⟩ : ∃ R, R = ord (.mk k s n l) (.mk k' s' n' l') := ⟨_, rfl⟩
  rw [← hR]
  rw [ord] at hR
  have hdi : di ≤ 262144 := by omega
  have hdi0 : 0 ≤ di := by omega
  have HC : Hid (∀ W, Below w.heap.size w W → Calls Tryd.prog 74 #[.slice A l.length ca, .slice A' l'.length ca', .func (.func 57) #[.int .i64 (di + 1)] #[]] W fun e w' => e = .returned (.int .i64 (ords l l')) ∧ Below W.heap.size W w') := fun W hW =>
    cmpf_any l l' ih (d + 1) (di + 1) S A A' ca ca' W (by omega) (by omega) (trow_below hrow hW hS) (trow_below hrow' hW hS) (fun b hb => Nat.lt_of_lt_of_le (hS b hb) hW.size)
  have HB2 := Lib.hid hB2
  have HS2 := Lib.hid hs2
  have HW2 := Lib.hid hW2
  have HG0 := Lib.hid hg0
  have HG1 := Lib.hid hg1
  have HZ := Lib.hid hz
  obtain ⟨c0, c1, c2, c3⟩ := cell4 hg0
  obtain ⟨d0, d1, d2, d3⟩ := cell4 hg1
  by_cases hh : hd k s n k' s' n' cs = 0
  · rw [if_neg (by simpa using hh)] at hR
    rw [hh] at hH
    have HH := Lib.hid hH
    rw [← hR] at HC
    clear hH hh hR hx hy hS hrow hrow' ih hB2 hs2 hW2 hg0 hg1 hz hdd hsz hsz0 c0 c1 c2 c3 d0 d1 d2 d3
    go_enter Tryd.func57, Tryd.ntmps57
    go_wp2_with fail
    rw [← HW2.out, ← HZ.out]
    refine HH.out.mono ?_
    rintro _ w1 ⟨rfl, hb1⟩
    have HB1 : Hid (Below w.heap.size w w1) := HB2.out.trans (hb1.mono HB2.out.size)
    obtain ⟨-, -, -, c3⟩ := cell4 ((hb1.block z (by rw [HS2.out]; omega)).trans HG0.out)
    obtain ⟨-, -, -, d3⟩ := cell4 ((hb1.block (z + 1) (by rw [HS2.out]; omega)).trans HG1.out)
    have HC1 := Lib.hid (HC.out w1 HB1.out)
    clear hb1 HH HC
    go_wp2_with fail
    refine HC1.out.mono ?_
    rintro _ w2 ⟨rfl, hb2⟩
    have HB3 : Hid (Below w.heap.size w w2) := HB1.out.trans (hb2.mono HB1.out.size)
    clear hb2 HC1
    go_wp2
    go_ret
    exact ⟨rfl, HB3.out⟩
  · rw [if_pos hh] at hR
    rw [← hR] at hH hh
    have HH := Lib.hid hH
    clear hH hR hx hy hS hrow hrow' ih hB2 hs2 hW2 hg0 hg1 hz hdd hsz hsz0 c0 c1 c2 c3 d0 d1 d2 d3 HC
    go_enter Tryd.func57, Tryd.ntmps57
    go_wp2_with fail
    rw [← HW2.out, ← HZ.out]
    refine HH.out.mono ?_
    rintro _ w1 ⟨rfl, hb1⟩
    have HB1 : Hid (Below w.heap.size w w1) := HB2.out.trans (hb1.mono HB2.out.size)
    clear hb1 HH
    go_wp2
    go_ret
    exact ⟨rfl, HB1.out⟩)

set_option maxHeartbeats 400000 in
set_option maxRecDepth 100000 in
theorem Order_any (x y : Tm) (S : Nat → Prop) (vx vy : Value) (w : World) (hsz : sz x ≤ 262144) (hx : Rep w S x vx) (hy : Rep w S y vy) (hS : ∀ b, S b → b < w.heap.size) :
    Calls Tryd.prog 43 #[vx, vy] w fun e w' => e = .returned (.int .i64 (ord x y)) ∧ Below w.heap.size w w' := by
  have ho := order_any x y 0 0 S vx vy
  obtain ⟨R, hR⟩ : ∃ R, R = ord x y := ⟨_, rfl⟩
  rw [← hR] at ho ⊢
  clear hR
  obtain ⟨k, s, n, l⟩ := x
  obtain ⟨k', s', n', l'⟩ := y
  have hx0 := hx
  have hy0 := hy
  obtain ⟨A, ca, rfl, -, -⟩ := rep_mk.1 hx
  obtain ⟨A', ca', rfl, -, -⟩ := rep_mk.1 hy
  obtain ⟨W2, hW2⟩ : ∃ W2, W2 = ((w.alloc (.cells #[.int .i64 k, .string ⟨⟨s⟩⟩, .int .i64 n, .slice A l.length ca] 33)).alloc (.cells #[.int .i64 k', .string ⟨⟨s'⟩⟩, .int .i64 n', .slice A' l'.length ca'] 33)) := ⟨_, rfl⟩
  have hB2 : Below w.heap.size w W2 := by rw [hW2]; exact ((Below.refl _ _).alloc (Nat.le_refl _) _).alloc (by simp) _
  have HO := Lib.hid (ho W2 rfl (by omega) (rep_below hx0 hB2 hS) (rep_below hy0 hB2 hS) (fun b hb => Nat.lt_of_lt_of_le (hS b hb) hB2.size))
  have HB2 := Lib.hid hB2
  have HW2 := Lib.hid hW2
  clear ho hx hy hx0 hy0 hS hB2 hW2 hsz
  go_enter Tryd.func43, Tryd.ntmps43
  go_wp2_with fail
  rw [← HW2.out]
  refine HO.out.mono ?_
  rintro _ w1 ⟨rfl, hb1⟩
  have HB1 : Hid (Below w.heap.size w w1) := HB2.out.trans (hb1.mono HB2.out.size)
  clear hb1 HO
  go_wp2
  go_ret
  exact ⟨rfl, HB1.out⟩

set_option maxHeartbeats 400000 in
set_option maxRecDepth 100000 in
theorem Same_any (x y : Tm) (S : Nat → Prop) (vx vy : Value) (w : World) (hsz : sz x ≤ 262144) (hx : Rep w S x vx) (hy : Rep w S y vy) (hS : ∀ b, S b → b < w.heap.size) :
    Calls Tryd.prog 24 #[vx, vy] w fun e w' => e = .returned (.bool (decide (ord x y = 0))) ∧ Below w.heap.size w w' := by
  have ho := Order_any x y S vx vy
  obtain ⟨R, hR⟩ : ∃ R, R = ord x y := ⟨_, rfl⟩
  rw [← hR] at ho ⊢
  clear hR
  have hsz0 := hsz
  obtain ⟨k, s, n, l⟩ := x
  obtain ⟨k', s', n', l'⟩ := y
  have hx0 := hx
  have hy0 := hy
  obtain ⟨A, ca, rfl, -, -⟩ := rep_mk.1 hx
  obtain ⟨A', ca', rfl, -, -⟩ := rep_mk.1 hy
  obtain ⟨W2, hW2⟩ : ∃ W2, W2 = ((w.alloc (.cells #[.int .i64 k, .string ⟨⟨s⟩⟩, .int .i64 n, .slice A l.length ca] 33)).alloc (.cells #[.int .i64 k', .string ⟨⟨s'⟩⟩, .int .i64 n', .slice A' l'.length ca'] 33)) := ⟨_, rfl⟩
  have hB2 : Below w.heap.size w W2 := by rw [hW2]; exact ((Below.refl _ _).alloc (Nat.le_refl _) _).alloc (by simp) _
  have HO := Lib.hid (ho W2 hsz0 (rep_below hx0 hB2 hS) (rep_below hy0 hB2 hS) (fun b hb => Nat.lt_of_lt_of_le (hS b hb) hB2.size))
  have HB2 := Lib.hid hB2
  have HW2 := Lib.hid hW2
  clear ho hx hy hx0 hy0 hS hB2 hW2 hsz
  go_enter Tryd.func24, Tryd.ntmps24
  go_wp2_with fail
  rw [← HW2.out]
  refine HO.out.mono ?_
  rintro _ w1 ⟨rfl, hb1⟩
  have HB1 : Hid (Below w.heap.size w w1) := HB2.out.trans (hb1.mono HB2.out.size)
  clear hb1 HO
  go_wp2
  go_ret
  refine ⟨?_, HB1.out⟩
  by_cases h : R = 0 <;> simp [h]
end Go.Proofs.YtiidooponlbnmaaDoor.Te
