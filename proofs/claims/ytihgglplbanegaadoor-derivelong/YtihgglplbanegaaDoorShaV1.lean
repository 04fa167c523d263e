/- The document's answer: turn. -/
import Derived.Test.YtihgglplbanegaaDoorShaW10
import Derived.Test.YtihgglplbanegaaDoorShaPureR
namespace Go.Proofs.YtihgglplbanegaaDoor
open Go.RowKit

theorem wrap_nat (n : Nat) (h : n ≤ 9223372036854775807) : wrap64 (n : Int) = n := by unfold wrap64; omega

set_option maxRecDepth 100000 in
theorem turn_any (x k : Nat) (ki : Int) (w : World) (hx : x < 4294967296) (hki : ki = k) (h1 : 1 ≤ k) (h2 : k ≤ 31) :
    Calls Tryd.prog 55 #[.int .i64 x, .int .i64 ki] w fun e w' => e = .returned (.int .i64 (Sh.rot x k : Nat)) ∧ ∃ n, w' = w.drewN n := by
  subst hki
  have hr := Sh.rot_lt hx (show k ≤ 32 by omega)
  have hpos : 0 < 2 ^ k := Nat.two_pow_pos k
  have hple : 2 ^ k ≤ 2 ^ 31 := Nat.pow_le_pow_right (by decide) h2
  have hdiv : 4294967296 / 2 ^ k = 2 ^ (32 - k) := by
    rw [← Sh.pow_split k (by omega), Nat.mul_div_cancel_left _ hpos]
  have hw : wrap64 ((2 : Int) ^ k) = ((2 ^ k : Nat) : Int) := by
    have : ((2 : Int) ^ k) = ((2 ^ k : Nat) : Int) := by simp
    rw [this]
    unfold wrap64
    omega
  have HR : Hid (Sh.rot x k = x / 2 ^ k + x % 2 ^ k * (4294967296 / 2 ^ k)) := by rw [Hid, hdiv]; rfl
  have hb : x % 2 ^ k * (4294967296 / 2 ^ k) < 4294967296 := Nat.lt_of_le_of_lt (Nat.le_add_left _ _) (HR.out ▸ hr)
  have hq : (4294967296 : Int).tdiv ((2 ^ k : Nat) : Int) = ((4294967296 / 2 ^ k : Nat) : Int) := (Int.ofNat_tdiv 4294967296 (2 ^ k)).symm
  have ha : (x : Int).tdiv ((2 ^ k : Nat) : Int) = ((x / 2 ^ k : Nat) : Int) := (Int.ofNat_tdiv x (2 ^ k)).symm
  have hm : (x : Int).tmod ((2 ^ k : Nat) : Int) = ((x % 2 ^ k : Nat) : Int) := (Int.ofNat_tmod x (2 ^ k)).symm
  have hal : x / 2 ^ k < 4294967296 := by have := Nat.div_le_self x (2 ^ k); omega
  have hql : 4294967296 / 2 ^ k ≤ 4294967296 := Nat.div_le_self _ _
  have E1 : Hid (wrap64 (((x % 2 ^ k : Nat) : Int) * ((4294967296 / 2 ^ k : Nat) : Int)) = ((x % 2 ^ k * (4294967296 / 2 ^ k) : Nat) : Int)) := by
    rw [Hid, ← Int.natCast_mul]
    exact wrap_nat _ (Nat.le_trans (Nat.le_of_lt hb) (by decide))
  have E2 : Hid (wrap64 (((x / 2 ^ k : Nat) : Int) + ((x % 2 ^ k * (4294967296 / 2 ^ k) : Nat) : Int)) = ((Sh.rot x k : Nat) : Int)) := by
    rw [Hid, HR.out, ← Int.natCast_add, ← HR.out]
    exact wrap_nat _ (Nat.le_trans (Nat.le_of_lt hr) (by decide))
  go_enter Tryd.func55, Tryd.ntmps55
  go_wp2_with fail
  rw [hw]
  have hp0 : ¬ ((2 ^ k : Nat) : Int) = 0 := by omega
  clear hw HR hdiv
  generalize x % 2 ^ k * (4294967296 / 2 ^ k) = bq at *
  generalize x % 2 ^ k = b at *
  generalize x / 2 ^ k = a at *
  generalize 4294967296 / 2 ^ k = q at *
  generalize 2 ^ k = p at *
  go_quiet (fail)
  go_wp2
  go_ret
  refine ⟨ret_i64 (?_ : wrap64 (↑a + wrap64 (↑b * ↑q)) = _), _, rfl⟩
  rw [E1.out, E2.out]
end Go.Proofs.YtihgglplbanegaaDoor
