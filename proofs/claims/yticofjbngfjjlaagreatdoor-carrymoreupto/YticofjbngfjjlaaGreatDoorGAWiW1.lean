import Derived.Test.YticofjbngfjjlaaGreatDoorRows
import Derived.Test.YticofjbngfjjlaaGreatDoorGATmQ
import Derived.WalkKit
import Derived.Below
import Derived.BigQuiet
import Derived.Deep.QuietTactic
import Derived.Lib.Hide
import Derived.ScopeJumps
namespace Go.Proofs.YticofjbngfjjlaaGreatDoor.Wi
open Go.RowKit
open Wr

theorem dg_lt {n : Nat} (h : n < 128) : dg n = 1 := by rw [dg, dif_pos h]
theorem dg_ge {n : Nat} (h : ¬ n < 128) : dg n = dg (n / 128) + 1 := by rw [dg, dif_neg h]
theorem dg_le (n : Nat) : 1 ≤ dg n ∧ dg n ≤ n + 1 := by
  induction n using Nat.strongRecOn with
  | ind n ih =>
    by_cases h : n < 128
    · rw [dg_lt h]; omega
    · rw [dg_ge h]
      have := ih (n / 128) (by omega)
      omega

set_option maxRecDepth 100000 in
set_option maxHeartbeats 400000 in
theorem digits_any (n : Nat) (w : World) (hn : n ≤ 4000000) :
    Calls Tryz.prog 188 #[.int .i64 n] w fun e w' => e = .returned (.int .i64 (dg n)) ∧ w = w' := by
  have hd := dg_le n
  go_enter Tryz.func188, Tryz.ntmps188
  go_wp2
  go_loop [0, 3] (fun a k => ∃ m j : Nat, a = .int .i64 m ∧ k = .int .i64 j ∧ m ≤ n ∧ Hid (dg n + 1 = dg m + j) ∧ j ≤ dg n) (fun a _ => (intOf a).toNat)
  case atStart => exact ⟨n, 1, rfl, rfl, Nat.le_refl _, Lib.hid rfl, hd.1⟩
  case round =>
    obtain ⟨m, j, rfl, rfl, hm, HE, hj⟩ := hrel
    by_cases hlt : m < 128
    · have hr : dg n = j := by have := HE.out; rw [dg_lt hlt] at this; omega
      have HR := Lib.hid hr
      clear hr
      go_wp2
      go_ret
      exact ⟨by rw [HR.out]; rfl, rfl⟩
    · have h1 := dg_ge hlt
      have h2 := dg_le (m / 128)
      have hx : dg n + 1 = dg (m / 128) + (j + 1) := by have := HE.out; omega
      have HX := Lib.hid hx
      have h3 : j + 1 ≤ dg n := by omega
      clear h1 h2 HE hx
      go_wp2
      go_round
      case rel => exact ⟨m / 128, j + 1, by go_num, by go_num, by omega, HX, h3⟩
      case measure => simp [intOf]; omega

theorem byte_at (s : List UInt8) (k : Nat) (h : k < s.length) : (ByteArray.mk ⟨s⟩)[k]'h = s[k] := rfl

/-- What readLength answers. -/
def rlVal : Except Int (Nat × Nat) → Value
  | .error x => .tuple #[.int .i64 0, .int .i64 0, .int .i64 x]
  | .ok (n, k) => .tuple #[.int .i64 n, .int .i64 k, .int .i64 0]

set_option maxRecDepth 100000 in
set_option maxHeartbeats 1000000 in
theorem readLength_any (s : List UInt8) (w : World) (hs : s.length ≤ 100000) :
    Calls Tryz.prog 168 #[.string ⟨⟨s⟩⟩] w fun e w' => e = .returned (rlVal (rl 0 0 s)) ∧ w = w' := by
  go_enter Tryz.func168, Tryz.ntmps168
  go_wp2
  refine wp_scope_jumps 0 (fun a' w' => w = w' ∧ ∃ (n k : Nat) (vn vk : Int) (u7 u8 u9 u10 u11 u12 u13 u14 u15 u16 u17 u18 u19 u20 u21 u22 u23 u24 u25 u26 u27 u28 u29 u30 u31 u32 u33 u34 : Value), a' = { tmps := #[.string ⟨⟨s⟩⟩, undef, .int .i64 0, .int .i64 0, .int .i64 0, .int .i64 vn, .int .i64 vk, u7, u8, u9, u10, u11, u12, u13, u14, u15, u16, u17, u18, u19, u20, u21, u22, u23, u24, u25, u26, u27, u28, u29, u30, u31, u32, u33, u34], defers := [] } ∧ Hid (vn = n) ∧ Hid (vk = k) ∧ Hid (rl n k (s.drop k) = rl 0 0 s) ∧ k ≤ s.length ∧ n ≤ 65663) (fun a' _ => s.length - (intOf (a'.tmps.getD 6 undef)).toNat) rfl ?_ ?_
  · by_cases hk' : s.length = 0
    · have hr : rl 0 0 s = .error 10 := by
        rw [List.eq_nil_of_length_eq_zero hk']
        simp [rl]
      have HR := Lib.hid hr
      clear hr
      have hb : ((0 : Int) == (s.length : Int)) = true := by simp [hk']
      have HK := Lib.hid hk'
      clear hk'
      go_wp2
      go_step3
      go_wp2
      simp only [Exit.jump]
      go_ret3
      exact ⟨by rw [HR.out]; rfl, rfl⟩
    have hlt : 0 < s.length := by omega
    have hd : s.drop 0 = s[0] :: s.drop (0 + 1) := List.drop_eq_getElem_cons hlt
    have hkb : ((0 : Int) == (s.length : Int)) = false := by simp; omega
    have hby := byte_at s 0 hlt
    generalize hbv : s[0] = b at hd hby
    have HB := Lib.hid hbv
    clear hbv
    have hE : rl 0 0 (s.drop 0) = rl 0 0 s := rfl
    rw [hd] at hE
    clear hd hk'
    have hlt8 : b.toNat < 256 := UInt8.toNat_lt b
    have hw : wrap64 (b.toNat : Int) = (b.toNat : Int) := by unfold wrap64; omega
    by_cases h0 : b.toNat = 128
    · have hr : rl 0 0 s = .error 13 := by
        rw [← hE]
        simp [rl, h0]
      have HR := Lib.hid hr
      clear hr hE
      have hb1 : ((b.toNat : Int) == 128) = true := by simp [h0]
      clear h0
      go_wp2
      go_step3
      go_wp2
      simp only [Exit.jump]
      go_ret3
      exact ⟨by rw [HR.out]; rfl, rfl⟩
    have hcur : rl 0 0 s = if b.toNat ≥ 128 then rl (0 * 128 + b.toNat % 128) (0 + 1) (s.drop (0 + 1)) else .ok (0 * 128 + b.toNat % 128, 0 + 1) := by
      rw [← hE, rl, if_neg (by omega), if_neg (by omega)]
    have hz2 : ((b.toNat : Int) == 128) = false := by simp; omega
    clear hE h0
    by_cases hge : b.toNat ≥ 128
    · rw [if_pos hge] at hcur
      have HR := Lib.hid hcur
      clear hcur
      go_wp2
      go_step3
      go_wp2
      go_step3
      exact ⟨rfl, rfl, b.toNat % 128, 1, _, _, _, _, _, _, _, _, _, _, _, _, _, _, _, _, _, _, _, _, _, _, _, _, _, _, _, _, _, _, rfl, Lib.hid (by omega), Lib.hid (by omega), Lib.hid (by rw [HR.out]; simp), by omega, by omega⟩
    · rw [if_neg hge] at hcur
      have HR := Lib.hid hcur
      clear hcur
      go_wp2
      go_step3
      go_wp2
      simp only [Exit.jump]
      go_ret3
      exact ⟨by rw [HR.out]; simp [rlVal], rfl⟩
  rintro a' w' ⟨rfl, n, k, vn, vk, u7, u8, u9, u10, u11, u12, u13, u14, u15, u16, u17, u18, u19, u20, u21, u22, u23, u24, u25, u26, u27, u28, u29, u30, u31, u32, u33, u34, rfl, Hn, Hk, HE, hk, hn⟩
  obtain rfl := Hn.out
  obtain rfl := Hk.out
  clear Hn Hk
  by_cases h5 : n > 512
  · have hr : rl 0 0 s = .error 11 := by
      rw [← HE.out]
      cases s.drop k <;> simp [rl, h5]
    have HR := Lib.hid hr
    clear hr
    go_wp2
    simp only [Exit.jump]
    go_ret3
    exact ⟨by rw [HR.out]; rfl, rfl⟩
  by_cases hk' : k = s.length
  · have hr : rl 0 0 s = .error 10 := by
      rw [← HE.out, hk', List.drop_length]
      simp [rl, h5]
    have HR := Lib.hid hr
    clear hr
    have hb : ((k : Int) == (s.length : Int)) = true := by simp [hk']
    clear HE
    subst hk'
    go_wp2
    simp only [Exit.jump]
    go_ret3
    exact ⟨by rw [HR.out]; rfl, rfl⟩
  have hlt : k < s.length := by omega
  have hd : s.drop k = s[k] :: s.drop (k + 1) := List.drop_eq_getElem_cons hlt
  have hkb : ((k : Int) == (s.length : Int)) = false := by simp; omega
  have hby := byte_at s k hlt
  generalize hbv : s[k] = b at hd hby
  have HB := Lib.hid hbv
  clear hbv
  have hE := HE.out
  rw [hd] at hE
  clear HE hd
  have hlt8 : b.toNat < 256 := UInt8.toNat_lt b
  have hw : wrap64 (b.toNat : Int) = (b.toNat : Int) := by unfold wrap64; omega
  by_cases h0 : k = 0 ∧ b.toNat = 128
  · obtain ⟨rfl, hb⟩ := h0
    have hr : rl 0 0 s = .error 13 := by
      rw [← hE]
      simp [rl, hb]
      omega
    have HR := Lib.hid hr
    clear hr hE
    have hb1 : ((b.toNat : Int) == 128) = true := by simp [hb]
    clear hb
    go_wp2
    simp only [Exit.jump]
    go_ret3
    exact ⟨by rw [HR.out]; rfl, rfl⟩
  have hkb0 : k = 0 → ¬ b.toNat = 128 := fun a c => h0 ⟨a, c⟩
  have hcur : rl 0 0 s = if b.toNat ≥ 128 then rl (n * 128 + b.toNat % 128) (k + 1) (s.drop (k + 1)) else .ok (n * 128 + b.toNat % 128, k + 1) := by
    rw [← hE, rl, if_neg h5, if_neg h0]
  clear hE h0
  have hz : (((k : Int) == 0) = true ∧ ((b.toNat : Int) == 128) = false) ∨ ((k : Int) == 0) = false := by
    by_cases h : k = 0
    · have := hkb0 h
      exact .inl ⟨by simp [h], by simp; omega⟩
    · exact .inr (by simp; omega)
  clear hkb0
  have h5' : n ≤ 512 := by omega
  clear h5
  by_cases hge : b.toNat ≥ 128
  · rw [if_pos hge] at hcur
    have HR := Lib.hid hcur
    clear hcur
    rcases hz with ⟨hz1, hz2⟩ | hz1
    all_goals
      go_wp2
      go_step3
      refine ⟨rfl, ⟨rfl, n * 128 + b.toNat % 128, k + 1, _, _, _, _, _, _, _, _, _, _, _, _, _, _, _, _, _, _, _, _, _, _, _, _, _, _, _, _, _, _, rfl, Lib.hid (by omega), Lib.hid (by omega), Lib.hid HR.out.symm, by omega, by omega⟩, ?_⟩
      simp [intOf]; omega
  · rw [if_neg hge] at hcur
    have HR := Lib.hid hcur
    clear hcur
    rcases hz with ⟨hz1, hz2⟩ | hz1
    all_goals
      go_wp2
      simp only [Exit.jump]
      go_ret3
      exact ⟨by rw [HR.out]; simp [rlVal], rfl⟩
end Go.Proofs.YticofjbngfjjlaaGreatDoor.Wi

