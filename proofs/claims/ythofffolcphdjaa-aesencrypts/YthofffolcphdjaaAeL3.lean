/- AesKeys' walk. -/
import Derived.Test.YthofffolcphdjaaAeL1
namespace Go.Proofs.Ythofffolcphdjaa
open Go.RowKit

/-- A byte of the keys, by those ahead of it. -/
theorem ex_byte (key : List UInt8) (h : key.length = 16) (i : Nat) (h1 : 16 ≤ i) (h2 : i < 176) :
    (4 ≤ i % 16 → (Ae.ex key).getD i 0 = (Ae.ex key).getD (i - 16) 0 ^^^ (Ae.ex key).getD (i - 4) 0) ∧
    (i % 16 < 4 → i % 16 ≠ 0 → (Ae.ex key).getD i 0 = (Ae.ex key).getD (i - 16) 0 ^^^ Ae.sw ((Ae.ex key).getD (i - i % 16 - 4 + (i + 1) % 4) 0)) ∧
    (i % 16 = 0 → (Ae.ex key).getD i 0 = (Ae.ex key).getD (i - 16) 0 ^^^ (Ae.sw ((Ae.ex key).getD (i - i % 16 - 4 + (i + 1) % 4) 0) ^^^ Ae.twi ((i - 16) / 16) 1)) := by
  obtain ⟨n, hn⟩ : ∃ n, n = (i - 16) / 4 := ⟨_, rfl⟩
  obtain ⟨j, hj⟩ : ∃ j, j = i % 4 := ⟨_, rfl⟩
  have hi : i = 16 + 4 * n + j := by omega
  have hj4 : j < 4 := by omega
  have hr := ex_rec key h n j (by omega) hj4
  rw [← hi, show 4 * n + j = i - 16 by omega] at hr
  generalize Ae.ex key = E at *
  refine ⟨fun hq => ?_, fun hq h0 => ?_, fun hq => ?_⟩
  · rw [hr, Ae.lst_no _ n (by omega)]
    refine congrArg (E.getD (i - 16) 0 ^^^ ·) ?_
    match j, hj4, hi with
    | 0, _, hi => show E.getD (12 + 4 * n) 0 = _; rw [show i - 4 = 12 + 4 * n by omega]
    | 1, _, hi => show E.getD (13 + 4 * n) 0 = _; rw [show i - 4 = 13 + 4 * n by omega]
    | 2, _, hi => show E.getD (14 + 4 * n) 0 = _; rw [show i - 4 = 14 + 4 * n by omega]
    | 3, _, hi => show E.getD (15 + 4 * n) 0 = _; rw [show i - 4 = 15 + 4 * n by omega]
  · rw [hr, Ae.lst_yes _ n (by omega)]
    refine congrArg (E.getD (i - 16) 0 ^^^ ·) ?_
    match j, hj4, hi with
    | 0, _, hi => omega
    | 1, _, hi => show Ae.sw (E.getD (14 + 4 * n) 0) = _; rw [show i - i % 16 - 4 + (i + 1) % 4 = 14 + 4 * n by omega]
    | 2, _, hi => show Ae.sw (E.getD (15 + 4 * n) 0) = _; rw [show i - i % 16 - 4 + (i + 1) % 4 = 15 + 4 * n by omega]
    | 3, _, hi => show Ae.sw (E.getD (12 + 4 * n) 0) = _; rw [show i - i % 16 - 4 + (i + 1) % 4 = 12 + 4 * n by omega]
  · rw [hr, Ae.lst_yes _ n (by omega)]
    refine congrArg (E.getD (i - 16) 0 ^^^ ·) ?_
    obtain rfl : j = 0 := by omega
    show Ae.sw (E.getD (13 + 4 * n) 0) ^^^ Ae.twi (n / 4) 1 = _
    rw [show i - i % 16 - 4 + (i + 1) % 4 = 13 + 4 * n by omega, show (i - 16) / 16 = n / 4 by omega]

theorem getD_get (E : List UInt8) (i : Nat) (h : i < E.length) : E.getD i 0 = E[i] := by simp [List.getD_eq_getElem?_getD, h]
theorem belowQ {B : Nat} {a w : World} (h : Below B a w) (n : Nat) : Below B a (w.drewN n) := h.trans ⟨rfl, rfl, rfl, Nat.le_refl _, fun _ _ => rfl⟩

set_option maxRecDepth 100000 in
theorem aesKeys_no (k : List UInt8) (w : World) (h : k.length ≠ 16) :
    Calls Try.prog 7 #[.string ⟨⟨k⟩⟩] w fun e w' => e = .returned (.bool true) ∧ Below w.heap.size w w' := by
  have HX := Lib.hid fun W => Expand_no k W h
  obtain ⟨k1, k2, k3, k4⟩ := len_false h
  simp only [Int.cast_ofNat_Int] at k1 k3
  clear h
  go_enter Try.func7, Try.ntmps7
  go_wp2_with fail
  refine (worksA_any w).mono ?_
  rintro _ w1 ⟨rfl, c1⟩
  go_wp2_with fail
  refine (HX.out w1).mono ?_
  rintro _ _ ⟨rfl, rfl⟩
  go_wp2
  go_ret
  exact ⟨rfl, c1⟩

set_option maxRecDepth 100000 in
set_option maxHeartbeats 1000000 in
theorem aesKeys_yes (k : List UInt8) (w : World) (h : k.length = 16) :
    Calls Try.prog 7 #[.string ⟨⟨k⟩⟩] w fun e w' => e = .returned (.bool true) ∧ Below w.heap.size w w' := by
  have HX := Lib.hid fun W => Expand_yes k W h
  have HB := Lib.hid (ex_byte k h)
  have hl := Ae.ex_length k h
  have htk := ex_take k h
  generalize Ae.ex k = E at *
  have hcut : (ByteArray.mk ⟨E⟩).extract 0 16 = ⟨⟨k⟩⟩ := by rw [cut_str, List.drop_zero, Nat.sub_zero, htk]
  obtain ⟨k1, k2, k3, k4⟩ := len_true h
  obtain ⟨l1, l2, l3, l4⟩ := len_true hl
  simp only [Int.cast_ofNat_Int] at k1 k3 l1 l3
  have HL := Lib.hid hl
  have hE16 : 16 ≤ E.length := by omega
  clear h hl htk
  go_enter Try.func7, Try.ntmps7
  go_wp2_with fail
  refine (worksA_any w).mono ?_
  rintro _ w1 ⟨rfl, c1⟩
  go_wp2_with fail
  refine (HX.out w1).mono ?_
  rintro _ w2 ⟨rfl, hc2⟩
  have c2 := c1.trans (hc2.mono c1.size)
  clear hc2 c1 HX
  go_wp2
  go_loopw [5, 6] (fun r i wr => ∃ m : Nat, 16 ≤ m ∧ m ≤ 176 ∧ i = .int .i64 (m : Nat) ∧ r = .int .u8 ((Ae.twi ((m - 1) / 16) 1).toNat : Nat) ∧ Below w.heap.size w wr) (fun _ i _ => 176 - (intOf i).toNat)
  case atStart => exact ⟨16, by omega, by omega, rfl, rfl, c2⟩
  case round =>
    obtain ⟨m, hm1, hm2, rfl, rfl, hb⟩ := hrel
    by_cases hlt : m < 176
    · obtain ⟨B1, B2, B3⟩ := HB.out m hm1 hlt
      have hE := HL.out
      have i0 : m < E.length := by omega
      have i1 : m - 4 < E.length := by omega
      obtain ⟨q, hq16⟩ : ∃ q, q = m - 16 := ⟨_, rfl⟩
      have i2 : q < E.length := by omega
      have hsub : IntKind.i64.wrap ((m : Int) - 16) = (q : Nat) := by rw [IntWalk.i64_in _ (by omega)]; omega
      rw [← hq16] at B1 B2 B3
      have g0 := byte_at E m i0
      have g1 := byte_at E (m - 4) i1
      have g2 := byte_at E q i2
      have d0 : E.getD m 0 = E[m] := getD_get E m i0
      have d1 : E.getD (m - 4) 0 = E[m - 4] := getD_get E (m - 4) i1
      have d2 : E.getD q 0 = E[q] := getD_get E q i2
      rw [d0, d2] at B1 B2 B3
      rw [d1] at B1
      generalize hx0 : E[m] = x0 at *
      generalize hx1 : E[m - 4] = x1 at *
      generalize hx2 : E[q] = x2 at *
      clear d0 d1 d2
      by_cases hq : 4 ≤ m % 16
      · have hq' : ¬ ((m : Int) % 16 < 4) := by omega
        have hv : bits BinOp.xor IntKind.u8 (x2.toNat : Int) (x1.toNat : Int) = (x0.toNat : Nat) := by rw [xor_byte, ← B1 hq]
        have RR : Hid (Ae.twi ((m - 1) / 16) 1 = Ae.twi ((m + 1 - 1) / 16) 1) := by rw [Hid, show (m + 1 - 1) / 16 = (m - 1) / 16 by omega]
        have hb' := hb
        clear hq16 hE B1 B2 B3 hx0 hx1 hx2
        go_wp2
        go_quiet (fail)
        go_wp2
        go_roundw
        case rel => exact ⟨m + 1, by omega, by omega, by go_num, by rw [← RR.out], belowQ hb' _⟩
        case measure => simp [intOf]; omega
      · obtain ⟨p, hp⟩ : ∃ p, p = m - m % 16 - 4 + (m + 1) % 4 := ⟨_, rfl⟩
        have i3 : p < E.length := by omega
        have g3 := byte_at E p i3
        have d3 : E.getD p 0 = E[p] := getD_get E p i3
        rw [← hp, d3] at B2 B3
        generalize hx3 : E[p] = x3 at *
        have hpi : ((m : Int) - (m : Int) % 16 - 4 + ((m : Int) + 1) % 4) = (p : Nat) := by omega
        have hq' : ((m : Int) % 16 < 4) := by omega
        have HSW := Lib.hid fun W => Swap_any x3 W
        have i3' : (p : Int) < E.length := by omega
        clear hE d3
        by_cases h0 : m % 16 = 0
        · have h0' : (((m : Int) % 16) == 0) = true := by simp; omega
          have hB := B3 h0
          have HTM : Hid (∀ W, Calls Try.prog 10 #[.int .u8 ((Ae.twi ((m - 1) / 16) 1).toNat : Nat), .int .u8 2] W fun e w' => e = .returned (.int .u8 ((Ae.twi ((m + 1 - 1) / 16) 1).toNat : Nat)) ∧ W = w') := Lib.hid fun W => by
            have := Times_any (Ae.twi ((m - 1) / 16) 1) 2 W
            rw [Ae.tm_two, twi_next, show (m - 1) / 16 + 1 = (m + 1 - 1) / 16 by omega] at this
            exact this
          rw [show q / 16 = (m - 1) / 16 by omega] at hB
          generalize Ae.twi ((m - 1) / 16) 1 = r at *
          generalize Ae.sw x3 = y at *
          have hv1 := xor_byte y r
          have hv : bits BinOp.xor IntKind.u8 (x2.toNat : Int) ((y ^^^ r).toNat : Int) = (x0.toNat : Nat) := by rw [xor_byte, ← hB]
          generalize y ^^^ r = z at *
          clear hq16 hB B1 B2 B3 hx0 hx1 hx2 hx3 h0 hp
          go_wp2_with fail
          refine (HSW.out wr).mono ?_
          rintro _ wa ⟨rfl, hba⟩
          have b1 := hb.trans (hba.mono hb.size)
          clear hba hb HSW
          go_wp2_with fail
          refine (HTM.out wa).mono ?_
          rintro _ _ ⟨rfl, rfl⟩
          go_wp2
          go_quiet (fail)
          go_wp2
          go_roundw
          case rel => exact ⟨m + 1, by omega, by omega, by go_num, rfl, belowQ b1 _⟩
          case measure => simp [intOf]; omega
        · have h0' : (((m : Int) % 16) == 0) = false := by simp; omega
          have hB := B2 (by omega) h0
          have RR : Hid (Ae.twi ((m - 1) / 16) 1 = Ae.twi ((m + 1 - 1) / 16) 1) := by rw [Hid, show (m + 1 - 1) / 16 = (m - 1) / 16 by omega]
          generalize Ae.sw x3 = y at *
          have hv : bits BinOp.xor IntKind.u8 (x2.toNat : Int) (y.toNat : Int) = (x0.toNat : Nat) := by rw [xor_byte, ← hB]
          clear hq16 hB B1 B2 B3 hx0 hx1 hx2 hx3 h0 hp
          go_wp2_with fail
          refine (HSW.out wr).mono ?_
          rintro _ wa ⟨rfl, hba⟩
          have b1 := hb.trans (hba.mono hb.size)
          clear hba hb HSW
          go_wp2
          go_quiet (fail)
          go_wp2
          go_roundw
          case rel => exact ⟨m + 1, by omega, by omega, by go_num, by rw [← RR.out], belowQ b1 _⟩
          case measure => simp [intOf]; omega
    · obtain rfl : m = 176 := by omega
      go_wp2
      go_ret
      exact ⟨rfl, hb⟩

theorem aesKeys_walk (k : List UInt8) (w : World) :
    Calls Try.prog 7 #[.string ⟨⟨k⟩⟩] w fun e w' => e = .returned (.bool true) ∧ Below w.heap.size w w' := by
  by_cases h : k.length = 16
  · exact aesKeys_yes k w h
  · exact aesKeys_no k w h
end Go.Proofs.Ythofffolcphdjaa
