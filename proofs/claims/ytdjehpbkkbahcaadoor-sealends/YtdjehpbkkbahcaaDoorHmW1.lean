/- hmac.Equal. -/
import Derived.Test.YtdjehpbkkbahcaaDoorShaW4
import Derived.Test.YtdjehpbkkbahcaaDoorHmPure
namespace Go.Proofs.YtdjehpbkkbahcaaDoor
open Go.RowKit

theorem Equal_len (a b : List UInt8) (w : World) (h : a.length ≠ b.length) :
    Calls Tryd.prog 30 #[.string ⟨⟨a⟩⟩, .string ⟨⟨b⟩⟩] w fun e w' => e = .returned (.bool false) ∧ w = w' := by
  have e1 : ((a.length : Int) != (b.length : Int)) = true := by simp; omega
  have e2 : (a.length != b.length) = true := by simpa using h
  have e3 : (a.length == b.length) = false := by simpa using h
  clear h
  go_enter Tryd.func30, Tryd.ntmps30
  go_wp2
  go_ret
  exact ⟨rfl, rfl⟩

/-- What the loop has gathered: nought just where the texts are the same so far. -/
def Odd (a b : List UInt8) (k : Nat) (v : Value) : Prop := ∃ d : Nat, d < 256 ∧ v = .int .u8 (d : Nat) ∧ (d = 0 ↔ a.take k = b.take k)

theorem or_zero (x y : Nat) : x ||| y = 0 ↔ x = 0 ∧ y = 0 := Nat.or_eq_zero_iff
theorem xor_zero (x y : UInt8) : x.toNat ^^^ y.toNat = 0 ↔ x = y := by
  constructor
  · intro h
    apply UInt8.toNat_inj.1
    have := congrArg (· ^^^ y.toNat) h
    simpa [Nat.xor_assoc] using this
  · rintro rfl
    exact Nat.xor_self _

theorem odd_next (a b : List UInt8) (k d : Nat) (ha : k < a.length) (hb : k < b.length) (h : d = 0 ↔ a.take k = b.take k) :
    d ||| ((a[k]'ha).toNat ^^^ (b[k]'hb).toNat) = 0 ↔ a.take (k + 1) = b.take (k + 1) := by
  rw [or_zero, xor_zero, h, take_snoc a k ha, take_snoc b k hb]
  constructor
  · rintro ⟨h1, h2⟩
    rw [h1, h2]
  · intro hh
    have hl : (a.take k).length = (b.take k).length := by simp; omega
    obtain ⟨h1, h2⟩ := List.append_inj hh hl
    exact ⟨h1, by simpa using h2⟩

theorem belowN {B : Nat} {a w : World} (h : Below B a w) (n : Nat) : Below B a (w.drewN n) := h.trans ⟨rfl, rfl, rfl, Nat.le_refl _, fun _ _ => rfl⟩
theorem ret_bool {a b : Bool} (h : a = b) : Ending.returned (.bool a) = .returned (.bool b) := by rw [h]
theorem u8_lt_or {x y : Nat} (hx : x < 256) (hy : y < 256) : x ||| y < 256 := Nat.or_lt_two_pow (n := 8) hx hy
theorem u8_lt_xor {x y : Nat} (hx : x < 256) (hy : y < 256) : x ^^^ y < 256 := Nat.xor_lt_two_pow (n := 8) hx hy
theorem odd_val (d x y : Nat) (hd : d < 256) (hx : x < 256) (hy : y < 256) : bits BinOp.or IntKind.u8 (d : Int) (bits BinOp.xor IntKind.u8 (x : Int) (y : Int)) = ((d ||| (x ^^^ y) : Nat) : Int) := by
  rw [u8_xor_nat _ _ hx hy, u8_or_nat _ _ hd (u8_lt_xor hx hy)]

set_option maxRecDepth 100000 in
theorem Equal_same (a b : List UInt8) (w : World) (h : a.length = b.length) (hs : a.length ≤ 9223372036854775807) :
    Calls Tryd.prog 30 #[.string ⟨⟨a⟩⟩, .string ⟨⟨b⟩⟩] w fun e w' => e = .returned (.bool (decide (a = b))) ∧ Below w.heap.size w w' := by
  have H := Lib.hid h
  have hs2 : b.length ≤ 9223372036854775807 := by omega
  have e1 : ((a.length : Int) != (b.length : Int)) = false := by simp [h]
  have e2 : (a.length != b.length) = false := by simp [h]
  clear h
  go_enter Tryd.func30, Tryd.ntmps30
  go_wp2
  go_loopw [5, 14] (fun v i wr => ∃ k : Nat, k ≤ a.length ∧ i = .int .i64 (k : Nat) ∧ Odd a b k v ∧ Below w.heap.size w wr) (fun _ i _ => a.length - (intOf i).toNat)
  case atStart => exact ⟨0, by omega, rfl, ⟨0, by decide, rfl, by simp⟩, Below.refl _ _⟩
  case round =>
    obtain ⟨k, hk, rfl, ⟨d, hd, rfl, hz⟩, hb⟩ := hrel
    by_cases hlt : k < a.length
    · have hlb : k < b.length := by have := H.out; omega
      have hba := byte_at a k hlt
      have hbb := byte_at b k hlb
      have HZ := Lib.hid (odd_next a b k d hlt hlb hz)
      have hca : a[k].toNat < 256 := UInt8.toNat_lt _
      have hcb : b[k].toNat < 256 := UInt8.toNat_lt _
      have HV := Lib.hid (odd_val d a[k].toNat b[k].toNat hd hca hcb)
      clear hz
      go_wp2
      go_quiet (fail)
      go_wp2
      go_roundw
      case rel => exact ⟨k + 1, by omega, by go_num, ⟨_, u8_lt_or hd (u8_lt_xor hca hcb), congrArg (Value.int IntKind.u8) HV.out, HZ.out⟩, belowN hb _⟩
      case measure => simp [intOf]; omega
    · obtain rfl : k = a.length := by omega
      have hz2 : ((d : Int) == 0) = decide (a = b) := by
        rw [List.take_of_length_le (Nat.le_refl _), List.take_of_length_le (by have := H.out; omega)] at hz
        rw [Bool.eq_iff_iff, beq_iff_eq, decide_eq_true_iff, ← hz]
        omega
      have HZ := Lib.hid hz2
      clear hz hz2
      go_wp2
      go_ret
      exact ⟨ret_bool HZ.out, hb⟩

theorem Equal_any (a b : List UInt8) (w : World) (hs : a.length ≤ 9223372036854775807) :
    Calls Tryd.prog 30 #[.string ⟨⟨a⟩⟩, .string ⟨⟨b⟩⟩] w fun e w' => e = .returned (.bool (decide (a = b))) ∧ Below w.heap.size w w' := by
  by_cases h : a.length = b.length
  · exact Equal_same a b w h hs
  · rw [decide_eq_false (fun e => h (by rw [e]))]
    exact (Equal_len a b w h).mono fun _ _ ⟨he, hw⟩ => ⟨he, hw ▸ Below.refl _ _⟩
end Go.Proofs.YtdjehpbkkbahcaaDoor
