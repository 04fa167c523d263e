/- The document's answer: root. -/
import Derived.Test.YtihgglplbanegaaDoorShaV4
import Derived.Test.YtihgglplbanegaaDoorShaV5
namespace Go.Proofs.YtihgglplbanegaaDoor
open Go.RowKit

set_option maxRecDepth 100000 in
set_option maxHeartbeats 2000000 in
theorem root_cube (p : Nat) (w : World) :
    Calls Tryd.prog 30 #[.int .i64 p, .bool true] w fun e w' => e = .returned (.int .i64 (Sh.root p true : Nat)) ∧ Below w.heap.size w w' := by
  have HR : Hid (Sh.root p true = Sh.rg p true 38 0 % 4294967296) := Lib.hid rfl
  have HW0 : Ints ((w.alloc (.cells #[.int .i64 0, .int .i64 0, .int .i64 0, .int .i64 0, .int .i64 (p : Nat)] 3)).alloc (.cells #[.int .i64 0, .int .i64 0, .int .i64 0, .int .i64 0, .int .i64 0, .int .i64 0, .int .i64 (p : Nat)] 3)) (.slice (some ⟨w.heap.size + 1, 0, none⟩) 7 7) (Sh.want p true) := by
    refine ⟨w.heap.size + 1, 7, rfl, by simp, fun i hi => ?_⟩
    rw [cell_of_row _ _ _ _ _ _ (heap_alloc2_new _ _ _)]
    match i, hi with
    | 0, _ => rfl
    | 1, _ => rfl
    | 2, _ => rfl
    | 3, _ => rfl
    | 4, _ => rfl
    | 5, _ => rfl
    | 6, _ => rfl
    | k + 7, h => exact absurd h (by simp [Sh.want])
  have hb0 : Below w.heap.size w ((w.alloc (.cells #[.int .i64 0, .int .i64 0, .int .i64 0, .int .i64 0, .int .i64 (p : Nat)] 3)).alloc (.cells #[.int .i64 0, .int .i64 0, .int .i64 0, .int .i64 0, .int .i64 0, .int .i64 0, .int .i64 (p : Nat)] 3)) := ((Below.refl _ _).alloc (Nat.le_refl _) _).alloc (by simp) _
  go_enter Tryd.func30, Tryd.ntmps30
  go_wp2_with fail
  generalize (w.alloc (.cells #[.int .i64 0, .int .i64 0, .int .i64 0, .int .i64 0, .int .i64 (p : Nat)] 3)).alloc (.cells #[.int .i64 0, .int .i64 0, .int .i64 0, .int .i64 0, .int .i64 0, .int .i64 0, .int .i64 (p : Nat)] 3) = wx at *
  go_loopw [6, 7, 8, 9] (fun nv bv _ _ wr => ∃ j n : Nat, j ≤ 38 ∧ nv = .int .i64 (n : Nat) ∧ bv = .int .i64 ((2 ^ j / 2 : Nat) : Int) ∧ Hid (Sh.rg p true j n = Sh.rg p true 38 0) ∧ n + 2 ^ j ≤ 274877906944 ∧ Ints wr (.slice (some ⟨w.heap.size + 1, 0, none⟩) 7 7) (Sh.want p true) ∧ Below w.heap.size w wr) (fun _ bv _ _ _ => (intOf bv).toNat)
  case atStart => exact ⟨38, 0, by omega, rfl, rfl, Lib.hid rfl, by decide, HW0, hb0⟩
  case round =>
    obtain ⟨j, n, hj, rfl, rfl, HG, hn, HW, hb⟩ := hrel
    clear HW0 hb0
    cases j with
    | zero =>
      have HG2 : Hid (Sh.rg p true 38 0 = n) := Lib.hid HG.out.symm
      rw [show ((2 ^ 0 / 2 : Nat) : Int) = 0 by rfl]
      have hn2 : n ≤ 274877906944 := by omega
      go_wp2
      go_ret
      exact ⟨by rw [HR.out, HG2.out]; rfl, hb⟩
    | succ j =>
      have HG2 : Hid (Sh.rg p true 38 0 = Sh.rg p true j (if Sh.above (Sh.pw (Sh.dg (n + 2 ^ j)) true) (Sh.want p true) then n else n + 2 ^ j)) := by rw [Hid, ← HG.out, Sh.rg]
      have e2 : 2 ^ (j + 1) / 2 = 2 ^ j := by rw [Nat.pow_succ]; omega
      rw [e2]
      rw [Nat.pow_succ] at hn
      have hB1 : 0 < 2 ^ j := Nat.two_pow_pos j
      have HB2 : Hid (((2 ^ j : Nat) : Int) / 2 = ((2 ^ j / 2 : Nat) : Int)) := Lib.hid rfl
      have HB3 : Hid (2 ^ j / 2 < 2 ^ j) := by rw [Hid]; omega
      clear e2 HG
      generalize hBB : 2 ^ j = B at *
      have HBB := Lib.hid hBB
      clear hBB
      have HD16 : Hid (∀ x ∈ Sh.dg (n + B), x < 65536) := by
        intro x hx
        simp [Sh.dg] at hx
        omega
      have HM16 : Hid (∀ x ∈ Sh.tm (Sh.dg (n + B)) (Sh.dg (n + B)), x < 65536) := tou_16 _ _ HD16.out HD16.out _
      have HPW : Hid (Sh.pw (Sh.dg (n + B)) true = (Sh.tm (Sh.tm (Sh.dg (n + B)) (Sh.dg (n + B))) (Sh.dg (n + B)))) := Lib.hid rfl
      rw [HPW.out] at HG2
      go_wp2_with fail
      rw [show ((n : Int) + (B : Int)) = ((n + B : Nat) : Int) by omega]
      refine (digits_any (n + B) wr (by omega)).mono ?_
      rintro _ w1 ⟨vd, rfl, HD, hb1⟩
      go_wp2_with fail
      refine (times_any vd vd (Sh.dg (n + B)) (Sh.dg (n + B)) w1 HD HD (by simp [Sh.dg]) (by simp [Sh.dg]) HD16 HD16).mono ?_
      rintro _ w2 ⟨vm, rfl, HM, hb2⟩
      go_wp2_with fail
      refine (times_any vm vd (Sh.tm (Sh.dg (n + B)) (Sh.dg (n + B))) (Sh.dg (n + B)) w2 HM (HD.below hb2) (by rw [Sh.tm, tou_length]; simp [Sh.dg]) (by simp [Sh.dg]) HM16 HD16).mono ?_
      rintro _ w3 ⟨vm, rfl, HM, hb3⟩
      go_wp2_with fail
      refine (above_any vm _ (Sh.tm (Sh.tm (Sh.dg (n + B)) (Sh.dg (n + B))) (Sh.dg (n + B))) (Sh.want p true) w3 HM (((HW.below hb1).below hb2).below hb3) (by rw [Sh.tm, tou_length, Sh.tm, tou_length]; simp [Sh.dg]) (by rw [Sh.tm, tou_length, Sh.tm, tou_length]; simp [Sh.dg, Sh.want])).mono ?_
      rintro _ w4 ⟨rfl, rfl⟩
      have b1 : Below w.heap.size w w1 := hb.trans (hb1.mono hb.size)
      have b2 : Below w.heap.size w w2 := b1.trans (hb2.mono b1.size)
      have b3 : Below w.heap.size w w3 := (b2.trans (hb3.mono b2.size))
      have HW3 : Ints w3 (.slice (some ⟨w.heap.size + 1, 0, none⟩) 7 7) (Sh.want p true) := ((HW.below hb1).below hb2).below hb3
      clear HM HD hb1 hb2 hb3 b1 b2 HW hb HM16 HD16 HPW
      by_cases hab : Sh.above (Sh.tm (Sh.tm (Sh.dg (n + B)) (Sh.dg (n + B))) (Sh.dg (n + B))) (Sh.want p true) = true
      · have HG3 : Hid (Sh.rg p true 38 0 = Sh.rg p true j n) := by rw [Hid, HG2.out, if_pos hab]
        rw [hab]
        clear HG2 hab
        go_wp2
        rw [HB2.out]
        go_roundw
        case rel => exact ⟨j, n, by omega, rfl, by rw [HBB.out], Lib.hid HG3.out.symm, by rw [HBB.out]; omega, HW3, b3⟩
        case measure => simp [intOf]; have := HB3.out; omega
      · have HG3 : Hid (Sh.rg p true 38 0 = Sh.rg p true j (n + B)) := by rw [Hid, HG2.out, if_neg hab]
        have hab' : Sh.above (Sh.tm (Sh.tm (Sh.dg (n + B)) (Sh.dg (n + B))) (Sh.dg (n + B))) (Sh.want p true) = false := by simpa using hab
        rw [hab']
        clear HG2 hab hab'
        go_wp2
        rw [HB2.out]
        go_roundw
        case rel => exact ⟨j, n + B, by omega, by go_num, by rw [HBB.out], Lib.hid HG3.out.symm, by rw [HBB.out]; omega, HW3, b3⟩
        case measure => simp [intOf]; have := HB3.out; omega

set_option maxRecDepth 100000 in
set_option maxHeartbeats 2000000 in
theorem root_square (p : Nat) (w : World) :
    Calls Tryd.prog 30 #[.int .i64 p, .bool false] w fun e w' => e = .returned (.int .i64 (Sh.root p false : Nat)) ∧ Below w.heap.size w w' := by
  have HR : Hid (Sh.root p false = Sh.rg p false 38 0 % 4294967296) := Lib.hid rfl
  have HW0 : Ints (w.alloc (.cells #[.int .i64 0, .int .i64 0, .int .i64 0, .int .i64 0, .int .i64 (p : Nat)] 3)) (.slice (some ⟨w.heap.size, 0, none⟩) 5 5) (Sh.want p false) := by
    refine ⟨w.heap.size, 5, rfl, by simp, fun i hi => ?_⟩
    rw [cell_of_row _ _ _ _ _ _ (heap_alloc_new _ _)]
    match i, hi with
    | 0, _ => rfl
    | 1, _ => rfl
    | 2, _ => rfl
    | 3, _ => rfl
    | 4, _ => rfl
    | k + 5, h => exact absurd h (by simp [Sh.want])
  have hb0 : Below w.heap.size w (w.alloc (.cells #[.int .i64 0, .int .i64 0, .int .i64 0, .int .i64 0, .int .i64 (p : Nat)] 3)) := (Below.refl _ _).alloc (Nat.le_refl _) _
  go_enter Tryd.func30, Tryd.ntmps30
  go_wp2_with fail
  generalize w.alloc (.cells #[.int .i64 0, .int .i64 0, .int .i64 0, .int .i64 0, .int .i64 (p : Nat)] 3) = wx at *
  go_loopw [6, 7, 8, 9] (fun nv bv _ _ wr => ∃ j n : Nat, j ≤ 38 ∧ nv = .int .i64 (n : Nat) ∧ bv = .int .i64 ((2 ^ j / 2 : Nat) : Int) ∧ Hid (Sh.rg p false j n = Sh.rg p false 38 0) ∧ n + 2 ^ j ≤ 274877906944 ∧ Ints wr (.slice (some ⟨w.heap.size, 0, none⟩) 5 5) (Sh.want p false) ∧ Below w.heap.size w wr) (fun _ bv _ _ _ => (intOf bv).toNat)
  case atStart => exact ⟨38, 0, by omega, rfl, rfl, Lib.hid rfl, by decide, HW0, hb0⟩
  case round =>
    obtain ⟨j, n, hj, rfl, rfl, HG, hn, HW, hb⟩ := hrel
    clear HW0 hb0
    cases j with
    | zero =>
      have HG2 : Hid (Sh.rg p false 38 0 = n) := Lib.hid HG.out.symm
      rw [show ((2 ^ 0 / 2 : Nat) : Int) = 0 by rfl]
      have hn2 : n ≤ 274877906944 := by omega
      go_wp2
      go_ret
      exact ⟨by rw [HR.out, HG2.out]; rfl, hb⟩
    | succ j =>
      have HG2 : Hid (Sh.rg p false 38 0 = Sh.rg p false j (if Sh.above (Sh.pw (Sh.dg (n + 2 ^ j)) false) (Sh.want p false) then n else n + 2 ^ j)) := by rw [Hid, ← HG.out, Sh.rg]
      have e2 : 2 ^ (j + 1) / 2 = 2 ^ j := by rw [Nat.pow_succ]; omega
      rw [e2]
      rw [Nat.pow_succ] at hn
      have hB1 : 0 < 2 ^ j := Nat.two_pow_pos j
      have HB2 : Hid (((2 ^ j : Nat) : Int) / 2 = ((2 ^ j / 2 : Nat) : Int)) := Lib.hid rfl
      have HB3 : Hid (2 ^ j / 2 < 2 ^ j) := by rw [Hid]; omega
      clear e2 HG
      generalize hBB : 2 ^ j = B at *
      have HBB := Lib.hid hBB
      clear hBB
      have HD16 : Hid (∀ x ∈ Sh.dg (n + B), x < 65536) := by
        intro x hx
        simp [Sh.dg] at hx
        omega
      have HM16 : Hid (∀ x ∈ Sh.tm (Sh.dg (n + B)) (Sh.dg (n + B)), x < 65536) := tou_16 _ _ HD16.out HD16.out _
      have HPW : Hid (Sh.pw (Sh.dg (n + B)) false = (Sh.tm (Sh.dg (n + B)) (Sh.dg (n + B)))) := Lib.hid rfl
      rw [HPW.out] at HG2
      go_wp2_with fail
      rw [show ((n : Int) + (B : Int)) = ((n + B : Nat) : Int) by omega]
      refine (digits_any (n + B) wr (by omega)).mono ?_
      rintro _ w1 ⟨vd, rfl, HD, hb1⟩
      go_wp2_with fail
      refine (times_any vd vd (Sh.dg (n + B)) (Sh.dg (n + B)) w1 HD HD (by simp [Sh.dg]) (by simp [Sh.dg]) HD16 HD16).mono ?_
      rintro _ w2 ⟨vm, rfl, HM, hb2⟩
      go_wp2_with fail
      refine (above_any vm _ (Sh.tm (Sh.dg (n + B)) (Sh.dg (n + B))) (Sh.want p false) w2 HM ((HW.below hb1).below hb2) (by rw [Sh.tm, tou_length]; simp [Sh.dg]) (by rw [Sh.tm, tou_length]; simp [Sh.dg, Sh.want])).mono ?_
      rintro _ w4 ⟨rfl, rfl⟩
      have b1 : Below w.heap.size w w1 := hb.trans (hb1.mono hb.size)
      have b2 : Below w.heap.size w w2 := b1.trans (hb2.mono b1.size)
      have b3 : Below w.heap.size w w2 := b2
      have HW3 : Ints w2 (.slice (some ⟨w.heap.size, 0, none⟩) 5 5) (Sh.want p false) := (HW.below hb1).below hb2
      clear HM HD hb1 hb2 b1 HW hb HM16 HD16 HPW
      by_cases hab : Sh.above (Sh.tm (Sh.dg (n + B)) (Sh.dg (n + B))) (Sh.want p false) = true
      · have HG3 : Hid (Sh.rg p false 38 0 = Sh.rg p false j n) := by rw [Hid, HG2.out, if_pos hab]
        rw [hab]
        clear HG2 hab
        go_wp2
        rw [HB2.out]
        go_roundw
        case rel => exact ⟨j, n, by omega, rfl, by rw [HBB.out], Lib.hid HG3.out.symm, by rw [HBB.out]; omega, HW3, b3⟩
        case measure => simp [intOf]; have := HB3.out; omega
      · have HG3 : Hid (Sh.rg p false 38 0 = Sh.rg p false j (n + B)) := by rw [Hid, HG2.out, if_neg hab]
        have hab' : Sh.above (Sh.tm (Sh.dg (n + B)) (Sh.dg (n + B))) (Sh.want p false) = false := by simpa using hab
        rw [hab']
        clear HG2 hab hab'
        go_wp2
        rw [HB2.out]
        go_roundw
        case rel => exact ⟨j, n + B, by omega, by go_num, by rw [HBB.out], Lib.hid HG3.out.symm, by rw [HBB.out]; omega, HW3, b3⟩
        case measure => simp [intOf]; have := HB3.out; omega
end Go.Proofs.YtihgglplbanegaaDoor
