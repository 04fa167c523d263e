/- The words' functions of the program: turned, small0, small1, big0, big1. -/
import Derived.Test.YticofjbngfjjlaaGreatDoorGAAePureC
namespace Go.Proofs.YticofjbngfjjlaaGreatDoor
open Go.RowKit
theorem boxed (x : Nat) (w : World) : (w.alloc (.cells #[.int .u32 x] 131)).cell? ⟨w.heap.size, 0, none⟩ = some (.int .u32 x) := cell_of_row _ _ 0 _ 131 (0, 0) (heap_alloc_new w _)

set_option maxRecDepth 100000 in
theorem turner_any (x : Nat) (w : World) :
    Calls Tryz.prog 202 #[.int .u32 x] w fun e w' => e = .returned (.func (.func 205) #[] #[.pointer (some ⟨w.heap.size, 0, none⟩)]) ∧ w.alloc (.cells #[.int .u32 x] 131) = w' := by
  go_enter Tryz.func202, Tryz.ntmps202
  go_wp2
  go_ret
  exact ⟨rfl, rfl⟩

set_option maxRecDepth 100000 in
theorem turned_any (x n : Nat) (k : Int) (g : Nat) (w : World) (hx : x < 4294967296) (hk : k = n) (h1 : 1 ≤ n) (h2 : n ≤ 31) (hc : w.cell? ⟨g, 0, none⟩ = some (.int .u32 x)) :
    Calls Tryz.prog 205 #[.int .i64 k, .pointer (some ⟨g, 0, none⟩)] w fun e w' => e = .returned (.int .u32 (Sh.rot x n : Nat)) ∧ w = w' := by
  subst hk
  go_enter Tryz.func205, Tryz.ntmps205
  go_wp2_with fail
  refine (rot_any x n w hx h1 h2).mono ?_
  rintro e w' ⟨rfl, rfl⟩
  go_wp2
  go_ret
  exact ⟨rfl, rfl⟩

set_option maxRecDepth 100000 in
theorem small0_any (x : Nat) (w : World) (hx : x < 4294967296) :
    Calls Tryz.prog 201 #[.int .u32 x] w fun e w' => e = .returned (.int .u32 (Sh.s0 x : Nat)) ∧ w.alloc (.cells #[.int .u32 x] 131) = w' := by
  go_enter Tryz.func201, Tryz.ntmps201
  go_wp2_with fail
  refine (turner_any x w).mono ?_
  rintro e w' ⟨rfl, rfl⟩
  go_wp2_with fail
  refine (turned_any x 7 7 _ _ hx rfl (by decide) (by decide) (boxed x w)).mono ?_
  rintro e w' ⟨rfl, rfl⟩
  go_wp2_with fail
  refine (turned_any x 18 18 _ _ hx rfl (by decide) (by decide) (boxed x w)).mono ?_
  rintro e w' ⟨rfl, rfl⟩
  go_wp2
  go_ret
  refine ⟨ret_u32 (?_ : bits BinOp.xor IntKind.u32 (bits BinOp.xor IntKind.u32 ↑(Sh.rot x 7) ↑(Sh.rot x 18)) (↑x / 8) = _), rfl⟩
  rw [show ((x : Int) / 8) = ((x / 8 : Nat) : Int) by simp, u32_xor_nat _ _ (Sh.rot_lt hx (by decide)) (Sh.rot_lt hx (by decide)), u32_xor_nat _ _ (Sh.xor_lt (Sh.rot_lt hx (by decide)) (Sh.rot_lt hx (by decide))) (by omega)]
  rfl

set_option maxRecDepth 100000 in
theorem small1_any (x : Nat) (w : World) (hx : x < 4294967296) :
    Calls Tryz.prog 200 #[.int .u32 x] w fun e w' => e = .returned (.int .u32 (Sh.s1 x : Nat)) ∧ w.alloc (.cells #[.int .u32 x] 131) = w' := by
  go_enter Tryz.func200, Tryz.ntmps200
  go_wp2_with fail
  refine (turner_any x w).mono ?_
  rintro e w' ⟨rfl, rfl⟩
  go_wp2_with fail
  refine (turned_any x 17 17 _ _ hx rfl (by decide) (by decide) (boxed x w)).mono ?_
  rintro e w' ⟨rfl, rfl⟩
  go_wp2_with fail
  refine (turned_any x 19 19 _ _ hx rfl (by decide) (by decide) (boxed x w)).mono ?_
  rintro e w' ⟨rfl, rfl⟩
  go_wp2
  go_ret
  refine ⟨ret_u32 (?_ : bits BinOp.xor IntKind.u32 (bits BinOp.xor IntKind.u32 ↑(Sh.rot x 17) ↑(Sh.rot x 19)) (↑x / 1024) = _), rfl⟩
  rw [show ((x : Int) / 1024) = ((x / 1024 : Nat) : Int) by simp, u32_xor_nat _ _ (Sh.rot_lt hx (by decide)) (Sh.rot_lt hx (by decide)), u32_xor_nat _ _ (Sh.xor_lt (Sh.rot_lt hx (by decide)) (Sh.rot_lt hx (by decide))) (by omega)]
  rfl

set_option maxRecDepth 100000 in
theorem big0_any (x : Nat) (w : World) (hx : x < 4294967296) :
    Calls Tryz.prog 185 #[.int .u32 x] w fun e w' => e = .returned (.int .u32 (Sh.S0 x : Nat)) ∧ w.alloc (.cells #[.int .u32 x] 131) = w' := by
  go_enter Tryz.func185, Tryz.ntmps185
  go_wp2_with fail
  refine (turner_any x w).mono ?_
  rintro e w' ⟨rfl, rfl⟩
  go_wp2_with fail
  refine (turned_any x 2 2 _ _ hx rfl (by decide) (by decide) (boxed x w)).mono ?_
  rintro e w' ⟨rfl, rfl⟩
  go_wp2_with fail
  refine (turned_any x 13 13 _ _ hx rfl (by decide) (by decide) (boxed x w)).mono ?_
  rintro e w' ⟨rfl, rfl⟩
  go_wp2_with fail
  refine (turned_any x 22 22 _ _ hx rfl (by decide) (by decide) (boxed x w)).mono ?_
  rintro e w' ⟨rfl, rfl⟩
  go_wp2
  go_ret
  refine ⟨ret_u32 (?_ : bits BinOp.xor IntKind.u32 (bits BinOp.xor IntKind.u32 ↑(Sh.rot x 2) ↑(Sh.rot x 13)) ↑(Sh.rot x 22) = _), rfl⟩
  rw [u32_xor_nat _ _ (Sh.rot_lt hx (by decide)) (Sh.rot_lt hx (by decide)), u32_xor_nat _ _ (Sh.xor_lt (Sh.rot_lt hx (by decide)) (Sh.rot_lt hx (by decide))) (Sh.rot_lt hx (by decide))]
  rfl

set_option maxRecDepth 100000 in
theorem big1_any (x : Nat) (w : World) (hx : x < 4294967296) :
    Calls Tryz.prog 183 #[.int .u32 x] w fun e w' => e = .returned (.int .u32 (Sh.S1 x : Nat)) ∧ w.alloc (.cells #[.int .u32 x] 131) = w' := by
  go_enter Tryz.func183, Tryz.ntmps183
  go_wp2_with fail
  refine (turner_any x w).mono ?_
  rintro e w' ⟨rfl, rfl⟩
  go_wp2_with fail
  refine (turned_any x 6 6 _ _ hx rfl (by decide) (by decide) (boxed x w)).mono ?_
  rintro e w' ⟨rfl, rfl⟩
  go_wp2_with fail
  refine (turned_any x 11 11 _ _ hx rfl (by decide) (by decide) (boxed x w)).mono ?_
  rintro e w' ⟨rfl, rfl⟩
  go_wp2_with fail
  refine (turned_any x 25 25 _ _ hx rfl (by decide) (by decide) (boxed x w)).mono ?_
  rintro e w' ⟨rfl, rfl⟩
  go_wp2
  go_ret
  refine ⟨ret_u32 (?_ : bits BinOp.xor IntKind.u32 (bits BinOp.xor IntKind.u32 ↑(Sh.rot x 6) ↑(Sh.rot x 11)) ↑(Sh.rot x 25) = _), rfl⟩
  rw [u32_xor_nat _ _ (Sh.rot_lt hx (by decide)) (Sh.rot_lt hx (by decide)), u32_xor_nat _ _ (Sh.xor_lt (Sh.rot_lt hx (by decide)) (Sh.rot_lt hx (by decide))) (Sh.rot_lt hx (by decide))]
  rfl
end Go.Proofs.YticofjbngfjjlaaGreatDoor

