/- The document's makers: Of, Num, Key, List, Seal, Sum, Row; its Same. -/
import Derived.Test.YtfhcfaflggiacaaDoorTmV5
import Derived.Test.YtfhcfaflggiacaaDoorTmV3
import Derived.Test.YtfhcfaflggiacaaDoorTmB
import Derived.Deep.RegionHeld3
namespace Go.Proofs.YtfhcfaflggiacaaDoor
open Go.RowKit
open Tt

set_option maxHeartbeats 400000 in
set_option maxRecDepth 100000 in
theorem refOf_any (s : List UInt8) (w : World) :
    Calls Tryd.prog 28 #[.string ⟨⟨s⟩⟩] w fun e w' => e = .returned (.agg #[.int .i64 0, .string ⟨⟨s⟩⟩, .int .i64 0, .slice none 0 0]) ∧ Below w.heap.size w w' := by
  go_enter Tryd.func28, Tryd.ntmps28
  go_wp2
  exact bodyPost_ret (results_term Tryd.results28 _ _ w.heap.size _ _ _ _ _ _ rfl (heap_alloc_new w _)) rfl ⟨rfl, (Below.refl _ _).alloc (Nat.le_refl _) _⟩

set_option maxHeartbeats 400000 in
set_option maxRecDepth 100000 in
theorem refNum_any (n : Int) (w : World) :
    Calls Tryd.prog 30 #[.int .i64 n] w fun e w' => e = .returned (.agg #[.int .i64 1, .string ⟨#[]⟩, .int .i64 n, .slice none 0 0]) ∧ Below w.heap.size w w' := by
  go_enter Tryd.func30, Tryd.ntmps30
  go_wp2
  exact bodyPost_ret (results_term Tryd.results30 _ _ w.heap.size _ _ _ _ _ _ rfl (heap_alloc_new w _)) rfl ⟨rfl, (Below.refl _ _).alloc (Nat.le_refl _) _⟩

set_option maxHeartbeats 400000 in
set_option maxRecDepth 100000 in
theorem refKey_any (s : List UInt8) (n : Int) (w : World) :
    Calls Tryd.prog 31 #[.string ⟨⟨s⟩⟩, .int .i64 n] w fun e w' => e = .returned (.agg #[.int .i64 2, .string ⟨⟨s⟩⟩, .int .i64 n, .slice none 0 0]) ∧ Below w.heap.size w w' := by
  go_enter Tryd.func31, Tryd.ntmps31
  go_wp2
  exact bodyPost_ret (results_term Tryd.results31 _ _ w.heap.size _ _ _ _ _ _ rfl (heap_alloc_new w _)) rfl ⟨rfl, (Below.refl _ _).alloc (Nat.le_refl _) _⟩

set_option maxHeartbeats 400000 in
set_option maxRecDepth 100000 in
theorem refList_any (A : Option Addr) (n c : Nat) (w : World) :
    Calls Tryd.prog 25 #[.slice A n c] w fun e w' => e = .returned (.agg #[.int .i64 3, .string ⟨#[]⟩, .int .i64 0, .slice A n c]) ∧ Below w.heap.size w w' := by
  go_enter Tryd.func25, Tryd.ntmps25
  go_wp2
  exact bodyPost_ret (results_term Tryd.results25 _ _ w.heap.size _ _ _ _ _ _ rfl (heap_alloc_new w _)) rfl ⟨rfl, (Below.refl _ _).alloc (Nat.le_refl _) _⟩

set_option maxHeartbeats 800000 in
set_option maxRecDepth 100000 in
theorem refSeal_any (x y : Tm) (vx vy : Value) (n : Int) (S : Nat → Prop) (w : World) (hx : Rep w S x vx) (hy : Rep w S y vy) (hS : ∀ b, S b → b < w.heap.size) :
    Calls Tryd.prog 36 #[vx, .int .i64 n, vy] w fun e w' => ∃ u, e = .returned (.agg #[.int .i64 4, .string ⟨#[]⟩, .int .i64 n, u]) ∧ Below w.heap.size w w' ∧ NewRow S w.heap.size w' [x, y] u := by
  obtain ⟨k1, s1, n1, l1⟩ := x
  obtain ⟨k2, s2, n2, l2⟩ := y
  have hx0 := hx
  have hy0 := hy
  obtain ⟨A1, c1, rfl, -, -⟩ := rep_mk.1 hx
  obtain ⟨A2, c2, rfl, -, -⟩ := rep_mk.1 hy
  clear hx hy
  obtain ⟨z, hz⟩ : ∃ z, z = w.heap.size := ⟨_, rfl⟩
  obtain ⟨W3, hW3⟩ : ∃ W3, W3 = (((w.alloc (.cells #[.int .i64 k1, .string ⟨⟨s1⟩⟩, .int .i64 n1, .slice A1 l1.length c1] 25)).alloc (.cells #[.int .i64 k2, .string ⟨⟨s2⟩⟩, .int .i64 n2, .slice A2 l2.length c2] 25)).alloc (.cells #[.int .i64 4, .string ⟨#[]⟩, .int .i64 n, .slice (some ⟨w.heap.size + 1 + 1 + 1, 0, none⟩) 2 2] 25)) := ⟨_, rfl⟩
  have hB3 : Below w.heap.size w W3 := by rw [hW3]; exact (((Below.refl _ _).alloc (Nat.le_refl _) _).alloc (by simp) _).alloc (by simp; omega) _
  have hs3 : W3.heap.size = z + 3 := by rw [hW3, hz]; simp
  have hg2 : W3.heap[z + 2]? = some (.cells #[.int .i64 4, .string ⟨#[]⟩, .int .i64 n, .slice (some ⟨z + 3, 0, none⟩) 2 2] 25 (0, 0)) := by
    have := heap_alloc_new ((w.alloc (.cells #[.int .i64 k1, .string ⟨⟨s1⟩⟩, .int .i64 n1, .slice A1 l1.length c1] 25)).alloc (.cells #[.int .i64 k2, .string ⟨⟨s2⟩⟩, .int .i64 n2, .slice A2 l2.length c2] 25)) (.cells #[.int .i64 4, .string ⟨#[]⟩, .int .i64 n, .slice (some ⟨w.heap.size + 1 + 1 + 1, 0, none⟩) 2 2] 25)
    rw [← hW3, World.size_alloc, World.size_alloc, ← hz] at this
    exact this
  have hS3 : ∀ b, S b → b < W3.heap.size := fun b hb => Nat.lt_of_lt_of_le (hS b hb) hB3.size
  obtain ⟨W4, hW4⟩ : ∃ W4, W4 = (W3.alloc (.cells #[.int .i64 k1, .string ⟨⟨s1⟩⟩, .int .i64 n1, .slice A1 l1.length c1, .int .i64 k2, .string ⟨⟨s2⟩⟩, .int .i64 n2, .slice A2 l2.length c2] 25)) := ⟨_, rfl⟩
  have hg3 : W4.heap[z + 3]? = some (.cells #[.int .i64 k1, .string ⟨⟨s1⟩⟩, .int .i64 n1, .slice A1 l1.length c1, .int .i64 k2, .string ⟨⟨s2⟩⟩, .int .i64 n2, .slice A2 l2.length c2] 25 (0, 0)) := by
    rw [hW4, ← hs3]; exact heap_alloc_new W3 _
  have hB4 : Below (z + 3) W3 W4 := by rw [hW4, ← hs3]; exact (Below.refl _ _).alloc (Nat.le_refl _) _
  have hs4 : W4.heap.size = z + 4 := by rw [hW4]; simp [hs3]
  have hels : Els W4 S [.mk k1 s1 n1 l1, .mk k2 s2 n2 l2] [.int .i64 k1, .string ⟨⟨s1⟩⟩, .int .i64 n1, .slice A1 l1.length c1, .int .i64 k2, .string ⟨⟨s2⟩⟩, .int .i64 n2, .slice A2 l2.length c2] := by
    rw [Els, Els, Els]
    exact ⟨rep_at (rep_below hx0 hB3 hS) hB4 (fun b hb => by have := hS3 b hb; omega), rep_at (rep_below hy0 hB3 hS) hB4 (fun b hb => by have := hS3 b hb; omega), rfl⟩
  have hg24 := (hB4.block (z + 2) (by omega)).trans hg2
  have HG2 := Lib.hid hg24
  have HG3 := Lib.hid hg3
  have HE := Lib.hid hels
  have HB4 : Hid (Below w.heap.size w W4) := hB3.trans (hB4.mono (by omega))
  have HW4 := Lib.hid hW4
  have HW3 := Lib.hid hW3
  have HZ := Lib.hid hz
  clear hS3 hx0 hy0 hg2 hg3 hg24 hels hB3 hB4 hW3 hW4 hs3 hs4 hz
  go_enter Tryd.func36, Tryd.ntmps36
  go_wp2
  have e4 := HW4.out
  rw [HW3.out] at e4
  rw [← e4, ← HZ.out]
  refine bodyPost_ret (results_term Tryd.results36 _ _ (z + 2) _ _ _ _ _ _ rfl HG2.out) rfl ⟨_, rfl, (by rw [HZ.out]; exact HB4.out), z + 3, _, rfl, (by omega), HG3.out, HE.out⟩

set_option maxHeartbeats 800000 in
set_option maxRecDepth 100000 in
theorem refSum_any (x y : Tm) (vx vy : Value) (n : Int) (S : Nat → Prop) (w : World) (hx : Rep w S x vx) (hy : Rep w S y vy) (hS : ∀ b, S b → b < w.heap.size) :
    Calls Tryd.prog 38 #[vx, .int .i64 n, vy] w fun e w' => ∃ u, e = .returned (.agg #[.int .i64 5, .string ⟨#[]⟩, .int .i64 n, u]) ∧ Below w.heap.size w w' ∧ NewRow S w.heap.size w' [x, y] u := by
  obtain ⟨k1, s1, n1, l1⟩ := x
  obtain ⟨k2, s2, n2, l2⟩ := y
  have hx0 := hx
  have hy0 := hy
  obtain ⟨A1, c1, rfl, -, -⟩ := rep_mk.1 hx
  obtain ⟨A2, c2, rfl, -, -⟩ := rep_mk.1 hy
  clear hx hy
  obtain ⟨z, hz⟩ : ∃ z, z = w.heap.size := ⟨_, rfl⟩
  obtain ⟨W3, hW3⟩ : ∃ W3, W3 = (((w.alloc (.cells #[.int .i64 k1, .string ⟨⟨s1⟩⟩, .int .i64 n1, .slice A1 l1.length c1] 25)).alloc (.cells #[.int .i64 k2, .string ⟨⟨s2⟩⟩, .int .i64 n2, .slice A2 l2.length c2] 25)).alloc (.cells #[.int .i64 5, .string ⟨#[]⟩, .int .i64 n, .slice (some ⟨w.heap.size + 1 + 1 + 1, 0, none⟩) 2 2] 25)) := ⟨_, rfl⟩
  have hB3 : Below w.heap.size w W3 := by rw [hW3]; exact (((Below.refl _ _).alloc (Nat.le_refl _) _).alloc (by simp) _).alloc (by simp; omega) _
  have hs3 : W3.heap.size = z + 3 := by rw [hW3, hz]; simp
  have hg2 : W3.heap[z + 2]? = some (.cells #[.int .i64 5, .string ⟨#[]⟩, .int .i64 n, .slice (some ⟨z + 3, 0, none⟩) 2 2] 25 (0, 0)) := by
    have := heap_alloc_new ((w.alloc (.cells #[.int .i64 k1, .string ⟨⟨s1⟩⟩, .int .i64 n1, .slice A1 l1.length c1] 25)).alloc (.cells #[.int .i64 k2, .string ⟨⟨s2⟩⟩, .int .i64 n2, .slice A2 l2.length c2] 25)) (.cells #[.int .i64 5, .string ⟨#[]⟩, .int .i64 n, .slice (some ⟨w.heap.size + 1 + 1 + 1, 0, none⟩) 2 2] 25)
    rw [← hW3, World.size_alloc, World.size_alloc, ← hz] at this
    exact this
  have hS3 : ∀ b, S b → b < W3.heap.size := fun b hb => Nat.lt_of_lt_of_le (hS b hb) hB3.size
  obtain ⟨W4, hW4⟩ : ∃ W4, W4 = (W3.alloc (.cells #[.int .i64 k1, .string ⟨⟨s1⟩⟩, .int .i64 n1, .slice A1 l1.length c1, .int .i64 k2, .string ⟨⟨s2⟩⟩, .int .i64 n2, .slice A2 l2.length c2] 25)) := ⟨_, rfl⟩
  have hg3 : W4.heap[z + 3]? = some (.cells #[.int .i64 k1, .string ⟨⟨s1⟩⟩, .int .i64 n1, .slice A1 l1.length c1, .int .i64 k2, .string ⟨⟨s2⟩⟩, .int .i64 n2, .slice A2 l2.length c2] 25 (0, 0)) := by
    rw [hW4, ← hs3]; exact heap_alloc_new W3 _
  have hB4 : Below (z + 3) W3 W4 := by rw [hW4, ← hs3]; exact (Below.refl _ _).alloc (Nat.le_refl _) _
  have hs4 : W4.heap.size = z + 4 := by rw [hW4]; simp [hs3]
  have hels : Els W4 S [.mk k1 s1 n1 l1, .mk k2 s2 n2 l2] [.int .i64 k1, .string ⟨⟨s1⟩⟩, .int .i64 n1, .slice A1 l1.length c1, .int .i64 k2, .string ⟨⟨s2⟩⟩, .int .i64 n2, .slice A2 l2.length c2] := by
    rw [Els, Els, Els]
    exact ⟨rep_at (rep_below hx0 hB3 hS) hB4 (fun b hb => by have := hS3 b hb; omega), rep_at (rep_below hy0 hB3 hS) hB4 (fun b hb => by have := hS3 b hb; omega), rfl⟩
  have hg24 := (hB4.block (z + 2) (by omega)).trans hg2
  have HG2 := Lib.hid hg24
  have HG3 := Lib.hid hg3
  have HE := Lib.hid hels
  have HB4 : Hid (Below w.heap.size w W4) := hB3.trans (hB4.mono (by omega))
  have HW4 := Lib.hid hW4
  have HW3 := Lib.hid hW3
  have HZ := Lib.hid hz
  clear hS3 hx0 hy0 hg2 hg3 hg24 hels hB3 hB4 hW3 hW4 hs3 hs4 hz
  go_enter Tryd.func38, Tryd.ntmps38
  go_wp2
  have e4 := HW4.out
  rw [HW3.out] at e4
  rw [← e4, ← HZ.out]
  refine bodyPost_ret (results_term Tryd.results38 _ _ (z + 2) _ _ _ _ _ _ rfl HG2.out) rfl ⟨_, rfl, (by rw [HZ.out]; exact HB4.out), z + 3, _, rfl, (by omega), HG3.out, HE.out⟩

set_option maxHeartbeats 800000 in
set_option maxRecDepth 100000 in
theorem refSame_any (x y : Tm) (S : Nat → Prop) (vx vy : Value) (w : World) (hsz : sz x ≤ 262144) (hx : Rep w S x vx) (hy : Rep w S y vy) (hS : ∀ b, S b → b < w.heap.size) :
    Calls Tryd.prog 14 #[vx, vy] w fun e w' => e = .returned (.bool (decide (ord x y = 0))) ∧ Below w.heap.size w w' := by
  have hc := refOrder_any x y S vx vy
  obtain ⟨R, hR⟩ : ∃ R, R = ord x y := ⟨_, rfl⟩
  rw [← hR] at hc ⊢
  clear hR
  obtain ⟨k1, s1, n1, l1⟩ := x
  obtain ⟨k2, s2, n2, l2⟩ := y
  have hx0 := hx
  have hy0 := hy
  obtain ⟨A1, c1, rfl, -, -⟩ := rep_mk.1 hx
  obtain ⟨A2, c2, rfl, -, -⟩ := rep_mk.1 hy
  obtain ⟨W2, hW2⟩ : ∃ W2, W2 = ((w.alloc (.cells #[.int .i64 k1, .string ⟨⟨s1⟩⟩, .int .i64 n1, .slice A1 l1.length c1] 25)).alloc (.cells #[.int .i64 k2, .string ⟨⟨s2⟩⟩, .int .i64 n2, .slice A2 l2.length c2] 25)) := ⟨_, rfl⟩
  have hB2 : Below w.heap.size w W2 := by rw [hW2]; exact ((Below.refl _ _).alloc (Nat.le_refl _) _).alloc (by simp) _
  have HC := Lib.hid (hc W2 hsz (rep_below hx0 hB2 hS) (rep_below hy0 hB2 hS) (fun b hb => Nat.lt_of_lt_of_le (hS b hb) hB2.size))
  have HB2 := Lib.hid hB2
  have HW2 := Lib.hid hW2
  clear hc hx hy hx0 hy0 hS hsz hB2 hW2
  go_enter Tryd.func14, Tryd.ntmps14
  go_wp2_with fail
  rw [← HW2.out]
  refine HC.out.mono ?_
  rintro _ w1 ⟨rfl, b1⟩
  have HB1 : Hid (Below w.heap.size w w1) := HB2.out.trans (b1.mono HB2.out.size)
  clear b1 HC HB2
  go_wp2
  go_ret
  exact ⟨rfl, HB1.out⟩

end Go.Proofs.YtfhcfaflggiacaaDoor
