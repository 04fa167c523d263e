/- SealNonce's walk. -/
import Derived.Test.YtdjehpbkkbahcaaDoorSlL1
import Derived.Test.YtdjehpbkkbahcaaDoorHmW1
namespace Go.Proofs.YtdjehpbkkbahcaaDoor
open Go.RowKit

set_option maxRecDepth 100000 in
theorem sealNonce_no (b o p x y : List UInt8) (n : Int) (w : World) (HT : Tabs w) (HW : Hid WorksS) (h : 500 < b.length ∨ o.length ≠ 12 ∨ p.length ≠ 12 ∨ 500 < x.length ∨ 500 < y.length) :
    Calls Tryd.prog 7 #[.string ⟨⟨b⟩⟩, .int .i64 n, .string ⟨⟨o⟩⟩, .string ⟨⟨p⟩⟩, .string ⟨⟨x⟩⟩, .string ⟨⟨y⟩⟩] w fun e w' => e = .returned (.bool true) ∧ Below w.heap.size w w' := by
  by_cases h1 : 500 < b.length
  · have k1 : (500 : Int) < (b.length : Int) := by omega
    clear h h1
    go_enter Tryd.func7, Tryd.ntmps7
    go_wp2_with fail
    refine (HW.out w HT).mono ?_
    rintro _ w1 ⟨rfl, b1⟩
    go_wp2
    go_ret
    exact ⟨rfl, b1⟩
  · have k1 : ¬ (500 : Int) < (b.length : Int) := by omega
    by_cases h2 : o.length = 12
    · obtain ⟨o1, o2, o3, o4⟩ := len_true h2
      by_cases h3 : p.length = 12
      · obtain ⟨p1, p2, p3, p4⟩ := len_true h3
        simp only [Int.cast_ofNat_Int] at o1 o3 p1 p3
        by_cases h4 : 500 < x.length
        · have k4 : (500 : Int) < (x.length : Int) := by omega
          clear h h1 h2 h3 h4
          go_enter Tryd.func7, Tryd.ntmps7
          go_wp2_with fail
          refine (HW.out w HT).mono ?_
          rintro _ w1 ⟨rfl, b1⟩
          go_wp2
          go_ret
          exact ⟨rfl, b1⟩
        · have k4 : ¬ (500 : Int) < (x.length : Int) := by omega
          have k5 : (500 : Int) < (y.length : Int) := by omega
          clear h h1 h2 h3 h4
          go_enter Tryd.func7, Tryd.ntmps7
          go_wp2_with fail
          refine (HW.out w HT).mono ?_
          rintro _ w1 ⟨rfl, b1⟩
          go_wp2
          go_ret
          exact ⟨rfl, b1⟩
      · obtain ⟨p1, p2, p3, p4⟩ := len_false h3
        simp only [Int.cast_ofNat_Int] at o1 o3 p1 p3
        clear h h1 h2 h3
        go_enter Tryd.func7, Tryd.ntmps7
        go_wp2_with fail
        refine (HW.out w HT).mono ?_
        rintro _ w1 ⟨rfl, b1⟩
        go_wp2
        go_ret
        exact ⟨rfl, b1⟩
    · obtain ⟨o1, o2, o3, o4⟩ := len_false h2
      simp only [Int.cast_ofNat_Int] at o1 o3
      clear h h1 h2
      go_enter Tryd.func7, Tryd.ntmps7
      go_wp2_with fail
      refine (HW.out w HT).mono ?_
      rintro _ w1 ⟨rfl, b1⟩
      go_wp2
      go_ret
      exact ⟨rfl, b1⟩

theorem byte_beq (a b : UInt8) : (((a.toNat : Nat) : Int) == ((b.toNat : Nat) : Int)) = (a == b) := by
  rw [Bool.eq_iff_iff, beq_iff_eq, beq_iff_eq]
  constructor
  · intro h
    exact UInt8.toNat_inj.1 (by omega)
  · rintro rfl
    rfl

set_option maxRecDepth 100000 in
set_option maxHeartbeats 1000000 in
theorem sealNonce_yes (b o p x y s t u : List UInt8) (n : Int) (w : World) (HT : Tabs w) (HW : Hid WorksS) (hb : b.length ≤ 500) (ho : o.length = 12) (hp : p.length = 12) (hx : x.length ≤ 500) (hy : y.length ≤ 500)
    (HS : Hid (SealIs b n o x s 0)) (HU : Hid (SealIs b n o y t 0)) (HV : Hid (SealIs b n p x u 0)) (hs : s.length = x.length + 44) (ht : t.length = y.length + 44) (hsu : (s == u) = (o == p))
    (hat : Hid (∀ i, i < x.length → i < y.length → (s.getD (12 + i) 0 = t.getD (12 + i) 0 ↔ x.getD i 0 = y.getD i 0))) :
    Calls Tryd.prog 7 #[.string ⟨⟨b⟩⟩, .int .i64 n, .string ⟨⟨o⟩⟩, .string ⟨⟨p⟩⟩, .string ⟨⟨x⟩⟩, .string ⟨⟨y⟩⟩] w fun e w' => e = .returned (.bool true) ∧ Below w.heap.size w w' := by
  have k1 : ¬ (500 : Int) < (b.length : Int) := by omega
  have k4 : ¬ (500 : Int) < (x.length : Int) := by omega
  have k5 : ¬ (500 : Int) < (y.length : Int) := by omega
  obtain ⟨o1, o2, o3, o4⟩ := len_true ho
  obtain ⟨p1, p2, p3, p4⟩ := len_true hp
  simp only [Int.cast_ofNat_Int] at o1 o3 p1 p3
  obtain ⟨r, hr⟩ : ∃ r, (o == p) = r := ⟨_, rfl⟩
  rw [hr] at hsu
  have hrr : (r != r) = false := by simp
  have HL := Lib.hid hs
  have HLT := Lib.hid ht
  have HX := Lib.hid hx
  have HY := Lib.hid hy
  clear hb ho hp hx hy hs ht
  go_enter Tryd.func7, Tryd.ntmps7
  go_wp2_with fail
  refine (HW.out w HT).mono ?_
  rintro _ w1 ⟨rfl, b1⟩
  go_wp2_with fail
  refine (HS.out w1 (HT.below b1)).mono ?_
  rintro _ w2 ⟨rfl, hb2⟩
  have b2 := b1.trans (hb2.mono b1.size)
  clear hb2 b1
  go_wp2_with fail
  refine (HU.out w2 (HT.below b2)).mono ?_
  rintro _ w3 ⟨rfl, hb3⟩
  have b3 := b2.trans (hb3.mono b2.size)
  clear hb3 b2
  go_wp2_with fail
  refine (HV.out w3 (HT.below b3)).mono ?_
  rintro _ w4 ⟨rfl, hb4⟩
  have b4 := b3.trans (hb4.mono b3.size)
  clear hb4 b3 HS HU HV HW
  go_wp2
  go_loopw [20] (fun i wr => ∃ k : Nat, k ≤ x.length ∧ k ≤ y.length ∧ i = .int .i64 (k : Nat) ∧ Below w.heap.size w wr) (fun i _ => x.length - (intOf i).toNat)
  case atStart => exact ⟨0, by omega, by omega, rfl, b4⟩
  case round =>
    obtain ⟨k, hkx, hky, rfl, hb⟩ := hrel
    clear b4
    by_cases hlx : k < x.length
    · by_cases hly : k < y.length
      · obtain ⟨j, hj⟩ : ∃ j : Nat, j = 12 + k := ⟨_, rfl⟩
        have hls : j < s.length := by have := HL.out; omega
        have hlt : j < t.length := by have := HLT.out; omega
        have q0 := byte_at x k hlx
        have q1 := byte_at y k hly
        have q2 := byte_at s j hls
        have q3 := byte_at t j hlt
        have hq : (s[j] == t[j]) = (x[k] == y[k]) := by
          have := hat.out k hlx hly
          rw [← hj, getD_get s j hls, getD_get t j hlt, getD_get x k hlx, getD_get y k hly] at this
          rw [Bool.eq_iff_iff, beq_iff_eq, beq_iff_eq]
          exact this
        have v0 := byte_beq x[k] y[k]
        have v1 := byte_beq s[j] t[j]
        rw [hq] at v1
        obtain ⟨c, hc⟩ : ∃ c, (x[k] == y[k]) = c := ⟨_, rfl⟩
        rw [hc] at v0 v1
        have hcc : (c != c) = false := by simp
        have e0 : 12 + (k : Int) = (j : Int) := by omega
        have f1 : IntKind.i64.wrap (j : Int) = (j : Int) := by rw [IntKind.wrap_i64]; have := HX.out; omega
        have l0 : (k : Int) < x.length := by omega
        have l1 : (k : Int) < y.length := by omega
        have l2 : (j : Int) < s.length := by omega
        have l3 : (j : Int) < t.length := by omega
        have HJ := Lib.hid hj
        clear hq hc hj
        generalize x[k] = x0 at *
        generalize y[k] = y0 at *
        generalize s[j] = s0 at *
        generalize t[j] = t0 at *
        go_wp2
        go_quiet (fail)
        go_wp2
        go_roundw
        case rel => exact ⟨k + 1, by omega, by omega, by go_num, belowN hb _⟩
        case measure => simp [intOf]; omega
      · have l0 : (k : Int) < x.length := by omega
        have l1 : ¬ (k : Int) < y.length := by omega
        go_wp2
        go_ret
        exact ⟨rfl, hb⟩
    · have l0 : ¬ (k : Int) < x.length := by omega
      go_wp2
      go_ret
      exact ⟨rfl, hb⟩
end Go.Proofs.YtdjehpbkkbahcaaDoor
