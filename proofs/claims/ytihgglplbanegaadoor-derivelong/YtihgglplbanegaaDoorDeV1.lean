/- The document's answer: number. -/
import Derived.Test.YtihgglplbanegaaDoorDeW1
namespace Go.Proofs.YtihgglplbanegaaDoor
open Go.RowKit

/-- The eight bytes when k of them, from the end, are written. -/
def fl (u k : Nat) : List UInt8 := List.replicate (8 - k) 0 ++ (De.num u).drop (8 - k)
theorem fl_set (u k : Nat) (hk : k < 8) : (fl u k).set (7 - k) (Sh.byt (u / 2 ^ (8 * k))) = fl u (k + 1) := by
  rcases k with _ | _ | _ | _ | _ | _ | _ | _ | k
  all_goals first | rfl | omega
theorem fl_length (u k : Nat) (hk : k ≤ 8) : (fl u k).length = 8 := by
  rw [fl, List.length_append, List.length_replicate, List.length_drop, De.num_length]
  omega
theorem fl_end (u : Nat) : fl u 8 = De.num u := rfl
theorem fl_start (u : Nat) : fl u 0 = List.replicate 8 0 := rfl

set_option maxRecDepth 100000 in
set_option maxHeartbeats 1000000 in
theorem refNumber_any (n : Int) (w : World) :
    Calls Tryd.prog 25 #[.int .i64 n] w fun e w' => e = .returned (.string ⟨⟨De.num (De.un n)⟩⟩) ∧ Below w.heap.size w w' := by
  have hmk := make_full 8 (by omega) w
  simp only [Int.cast_ofNat_Int] at hmk
  have hu : IntKind.u64.wrap n = ((De.un n : Nat) : Int) := by rw [IntKind.wrap_u64, De.un_cast]
  have HLT := Lib.hid (De.un_lt n)
  generalize De.un n = u at *
  have HR0 : Row (w.alloc (.cells (bcells (List.replicate 8 0)) 5)) w.heap.size (fl u 0) := Row.new _ _
  have hb0 : Below w.heap.size w (w.alloc (.cells (bcells (List.replicate 8 0)) 5)) := (Below.refl _ _).alloc (Nat.le_refl _) _
  generalize w.alloc (.cells (bcells (List.replicate 8 0)) 5) = W0 at *
  obtain ⟨z, hz⟩ : ∃ z, z = w.heap.size := ⟨_, rfl⟩
  rw [← hz] at hmk HR0 hb0 ⊢
  have HZ := Lib.hid hz
  clear hz
  go_enter Tryd.func25, Tryd.ntmps25
  go_wp2
  go_loopw [4, 5] (fun vx vi wr => ∃ (k x : Nat) (i : Int), k ≤ 8 ∧ Hid (i = 7 - (k : Nat)) ∧ Hid (x = u / 2 ^ (8 * k)) ∧ vx = .int .u64 (x : Nat) ∧ vi = .int .i64 i ∧ Row wr z (fl u k) ∧ Below z w wr) (fun _ i _ => (intOf i + 1).toNat)
  case atStart => exact ⟨0, u, 7, by omega, rfl, by rw [Hid]; simp, rfl, rfl, HR0, hb0⟩
  case round =>
    obtain ⟨k, x, i, hk, HI, HX, rfl, rfl, HR, hb⟩ := hrel
    by_cases hlt : k < 8
    · have h0 : 0 ≤ i := by have := HI.out; omega
      have h1 : i ≤ 7 := by have := HI.out; omega
      obtain ⟨j, rfl⟩ := Int.eq_ofNat_of_zero_le h0
      have HJ : Hid (j = 7 - k) := by have := HI.out; rw [Hid]; omega
      have hv : (x : Int) % 256 = ((Sh.byt x).toNat : Nat) := by rw [Sh.byt, UInt8.toNat_ofNat']; omega
      have HS : Hid ((fl u k).set j (Sh.byt x) = fl u (k + 1)) := by rw [Hid, HJ.out, HX.out]; exact fl_set u k hlt
      have HX2 : Hid (x / 256 = u / 2 ^ (8 * (k + 1))) := by
        rw [Hid, HX.out, Nat.div_div_eq_div_mul, show 8 * (k + 1) = 8 * k + 8 from rfl, Nat.pow_add]
      have hxl : x < 18446744073709551616 := by
        rw [HX.out]
        exact Nat.lt_of_le_of_lt (Nat.div_le_self _ _) HLT.out
      have hput := HR.put j (Sh.byt x)
      have hfree := HR.free j
      have hget := HR.get j (by rw [fl_length u k hk]; omega) _ rfl
      have hj8 : (j : Int) < 8 := by omega
      generalize Sh.byt x = d at *
      generalize (fl u k).getD j 0 = d0 at *
      generalize fl u k = l at *
      go_wp2
      go_roundw
      case rel => exact ⟨k + 1, x / 256, (j : Int) - 1, by omega, by have := HI.out; rw [Hid]; omega, HX2, by go_num, by go_num, by rw [← HS.out]; exact hput, hb.setCell (p := ⟨z, j, none⟩) (Nat.le_refl _) _⟩
      case measure => simp [intOf]
    · obtain rfl : k = 8 := by omega
      have h0 : i < 0 := by have := HI.out; omega
      have hcv := conv_any wr z 8 (De.num u) 5 (0, 0) _ HR (fun j hj => bcells_at _ j hj)
      rw [De.num_length] at hcv
      obtain ⟨L, HL⟩ : ∃ L, Hid (De.num u = L) := ⟨_, rfl⟩
      rw [HL.out] at hcv
      go_wp2
      go_ret
      exact ⟨by rw [HL.out]; rfl, hb⟩
end Go.Proofs.YtihgglplbanegaaDoor
