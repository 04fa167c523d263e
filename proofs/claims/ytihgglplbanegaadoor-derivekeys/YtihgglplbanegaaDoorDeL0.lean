/- digits, of layer 6's laws. -/
import Derived.Test.YtihgglplbanegaaDoorDeW1
namespace Go.Proofs.YtihgglplbanegaaDoor
open Go.RowKit

theorem shr_byte (n : Int) (k : Nat) (hk : k < 8) : n / 2 ^ (8 * (7 - k)) % 256 = ((Sh.byt (De.un n / 2 ^ (8 * (7 - k)))).toNat : Nat) := by
  rw [Sh.byt, UInt8.toNat_ofNat', De.un]
  rcases k with _ | _ | _ | _ | _ | _ | _ | _ | k
  all_goals simp only [Nat.zero_add, Nat.reduceAdd, Nat.reduceSub, Nat.reduceMul, Nat.reducePow, Int.reducePow]
  all_goals omega

set_option maxRecDepth 100000 in
set_option maxHeartbeats 1000000 in
theorem digitsD_any (n : Int) (w : World) :
    Calls Tryd.prog 18 #[.int .i64 n] w fun e w' => e = .returned (.string ⟨⟨De.num (De.un n)⟩⟩) ∧ Below w.heap.size w w' := by
  have HB := Lib.hid (shr_byte n)
  have HL := Lib.hid (De.num_length (De.un n))
  have HCS := Lib.hid (De.num_snoc (De.un n))
  generalize De.num (De.un n) = L at *
  generalize De.un n = c at *
  go_enter Tryd.func18, Tryd.ntmps18
  go_wp2
  go_loopw [3, 4] (fun v vi wr => ∃ (k : Nat) (i : Int), k ≤ 8 ∧ Hid (i = 56 - 8 * (k : Nat)) ∧ vi = .int .i64 i ∧ v = .string ⟨⟨L.take k⟩⟩ ∧ Below w.heap.size w wr) (fun _ i _ => (intOf i + 8).toNat)
  case atStart => exact ⟨0, 56, by omega, rfl, rfl, rfl, Below.refl _ _⟩
  case round =>
    obtain ⟨k, i, hk, HI, rfl, rfl, hb⟩ := hrel
    have HL1 : Hid ((L.take k).length ≤ 8) := by rw [Hid, List.length_take, HL.out]; omega
    by_cases hlt : k < 8
    · have h0 : 0 ≤ i := by have := HI.out; omega
      have h1 : i ≤ 56 := by have := HI.out; omega
      obtain ⟨j, rfl⟩ := Int.eq_ofNat_of_zero_le h0
      have HJ : Hid (j = 8 * (7 - k)) := by have := HI.out; rw [Hid]; omega
      have hv := HB.out k hlt
      rw [← HJ.out] at hv
      have HS := Lib.hid (HCS.out k hlt)
      rw [← HJ.out] at HS
      generalize Sh.byt (c / 2 ^ j) = d at *
      generalize L.take k = t at *
      have hcv := conv_one wr d
      have hap : ByteArray.mk ⟨t⟩ ++ ByteArray.mk ⟨[d]⟩ = ⟨⟨t ++ [d]⟩⟩ := str_app _ _
      have hw : ¬ 9223372036854775807 < t.length + 1 := by have := HL1.out; omega
      go_wp2
      go_roundw
      case rel => exact ⟨k + 1, (j : Int) - 8, by omega, by have := HI.out; rw [Hid]; omega, by go_num, by rw [HS.out], hb.alloc hb.size _⟩
      case measure => simp [intOf]; omega
    · obtain rfl : k = 8 := by omega
      have h0 : i < 0 := by have := HI.out; omega
      have h1 : -8 ≤ i := by have := HI.out; omega
      have ht : L.take 8 = L := List.take_of_length_le (by rw [HL.out]; omega)
      rw [ht]
      clear ht
      go_wp2
      go_ret
      exact ⟨rfl, hb⟩
end Go.Proofs.YtihgglplbanegaaDoor
