/- AesUnlike's walk. -/
import Derived.Test.YthofffolcphdjaaAeW9
namespace Go.Proofs.Ythofffolcphdjaa
open Go.RowKit

/-- What Encrypt answers, at any arguments. -/
def encA (k b : List UInt8) : List UInt8 := if k.length = 16 ∧ b.length = 16 then Ae.enc k b else []
theorem Encrypt_any (k b : List UInt8) (w : World) :
    Calls Try.prog 15 #[.string ⟨⟨k⟩⟩, .string ⟨⟨b⟩⟩] w fun e w' => e = .returned (.string ⟨⟨encA k b⟩⟩) ∧ Below w.heap.size w w' := by
  by_cases h : k.length = 16 ∧ b.length = 16
  · rw [encA, if_pos h]
    exact Encrypt_yes k b w h.1 h.2
  · rw [encA, if_neg h]
    exact (Encrypt_no k b w (by omega)).mono fun _ _ ⟨he, hw⟩ => ⟨he, hw ▸ Below.refl _ _⟩
def exA (k : List UInt8) : List UInt8 := if k.length = 16 then Ae.ex k else []
theorem Expand_any (k : List UInt8) (w : World) :
    Calls Try.prog 17 #[.string ⟨⟨k⟩⟩] w fun e w' => e = .returned (.string ⟨⟨exA k⟩⟩) ∧ Below w.heap.size w w' := by
  by_cases h : k.length = 16
  · rw [exA, if_pos h]
    exact Expand_yes k w h
  · rw [exA, if_neg h]
    exact (Expand_no k w h).mono fun _ _ ⟨he, hw⟩ => ⟨he, hw ▸ Below.refl _ _⟩

theorem len_true {l : List UInt8} {n : Nat} (h : l.length = n) : (((l.length : Int) != (n : Nat)) = false) ∧ ((l.length != n) = false) ∧ (((l.length : Int) == (n : Nat)) = true) ∧ ((l.length == n) = true) := by subst h; simp
theorem len_false {l : List UInt8} {n : Nat} (h : l.length ≠ n) : (((l.length : Int) != (n : Nat)) = true) ∧ ((l.length != n) = true) ∧ (((l.length : Int) == (n : Nat)) = false) ∧ ((l.length == n) = false) := by
  refine ⟨by simp; omega, by simpa using h, by simp; omega, by simpa using h⟩

set_option maxRecDepth 100000 in
theorem aesUnlike_yes (k a b : List UInt8) (w : World) (hk : k.length = 16) (ha : a.length = 16) (hb : b.length = 16) :
    Calls Try.prog 6 #[.string ⟨⟨k⟩⟩, .string ⟨⟨a⟩⟩, .string ⟨⟨b⟩⟩] w fun e w' => e = .returned (.bool true) ∧ Below w.heap.size w w' := by
  have HX := Lib.hid fun W => Encrypt_yes k a W hk ha
  have HY := Lib.hid fun W => Encrypt_yes k b W hk hb
  have hl := Ae.enc_length k a
  have hq : (Ae.enc k a == Ae.enc k b) = (a == b) := by
    rw [Bool.eq_iff_iff, beq_iff_eq, beq_iff_eq]
    exact ⟨fun h => Ae.enc_inj ha hb h, fun h => by rw [h]⟩
  generalize Ae.enc k a = x at *
  generalize Ae.enc k b = y at *
  obtain ⟨l1, l2, l3, l4⟩ := len_true hl
  obtain ⟨k1, k2, k3, k4⟩ := len_true hk
  obtain ⟨a1, a2, a3, a4⟩ := len_true ha
  obtain ⟨b1, b2, b3, b4⟩ := len_true hb
  simp only [Int.cast_ofNat_Int] at l1 l3 k1 k3 a1 a3 b1 b3
  generalize hab : (a == b) = q at *
  clear hl hk ha hb
  go_enter Try.func6, Try.ntmps6
  go_wp2_with fail
  refine (worksA_any w).mono ?_
  rintro _ w1 ⟨rfl, c1⟩
  go_wp2_with fail
  refine (HX.out w1).mono ?_
  rintro _ w2 ⟨rfl, hc2⟩
  have c2 := c1.trans (hc2.mono c1.size)
  clear hc2 c1 HX
  go_wp2_with fail
  refine (HY.out w2).mono ?_
  rintro _ w3 ⟨rfl, hc3⟩
  have c3 := c2.trans (hc3.mono c2.size)
  clear hc3 c2 HY
  go_wp2
  go_ret
  exact ⟨rfl, c3⟩

set_option maxRecDepth 100000 in
theorem aesUnlike_no (k a b : List UInt8) (w : World) (h : ¬ (k.length = 16 ∧ a.length = 16 ∧ b.length = 16)) :
    Calls Try.prog 6 #[.string ⟨⟨k⟩⟩, .string ⟨⟨a⟩⟩, .string ⟨⟨b⟩⟩] w fun e w' => e = .returned (.bool true) ∧ Below w.heap.size w w' := by
  have HX := Lib.hid fun W => Encrypt_any k a W
  have HY := Lib.hid fun W => Encrypt_any k b W
  have hx : ¬ (k.length = 16 ∧ a.length = 16) → encA k a = [] := fun h => if_neg h
  generalize encA k a = x at *
  generalize encA k b = y at *
  have HG : ∀ w3, Below w.heap.size w w3 → True := fun _ _ => trivial
  by_cases hk : k.length = 16
  · obtain ⟨k1, k2, k3, k4⟩ := len_true hk
    simp only [Int.cast_ofNat_Int] at k1 k3
    by_cases ha : a.length = 16
    · have hb : b.length ≠ 16 := fun hb => h ⟨hk, ha, hb⟩
      obtain ⟨a1, a2, a3, a4⟩ := len_true ha
      obtain ⟨b1, b2, b3, b4⟩ := len_false hb
      simp only [Int.cast_ofNat_Int] at a1 a3 b1 b3
      clear h hk ha hb hx HG
      go_enter Try.func6, Try.ntmps6
      go_wp2_with fail
      refine (worksA_any w).mono ?_
      rintro _ w1 ⟨rfl, c1⟩
      go_wp2_with fail
      refine (HX.out w1).mono ?_
      rintro _ w2 ⟨rfl, hc2⟩
      have c2 := c1.trans (hc2.mono c1.size)
      clear hc2 c1 HX
      go_wp2_with fail
      refine (HY.out w2).mono ?_
      rintro _ w3 ⟨rfl, hc3⟩
      have c3 := c2.trans (hc3.mono c2.size)
      clear hc3 c2 HY
      go_wp2
      all_goals go_ret
      all_goals exact ⟨rfl, c3⟩
    · have hx0 := hx (fun h => ha h.2)
      subst hx0
      obtain ⟨a1, a2, a3, a4⟩ := len_false ha
      simp only [Int.cast_ofNat_Int] at a1 a3
      clear h hk ha hx HG
      go_enter Try.func6, Try.ntmps6
      go_wp2_with fail
      refine (worksA_any w).mono ?_
      rintro _ w1 ⟨rfl, c1⟩
      go_wp2_with fail
      refine (HX.out w1).mono ?_
      rintro _ w2 ⟨rfl, hc2⟩
      have c2 := c1.trans (hc2.mono c1.size)
      clear hc2 c1 HX
      go_wp2_with fail
      refine (HY.out w2).mono ?_
      rintro _ w3 ⟨rfl, hc3⟩
      have c3 := c2.trans (hc3.mono c2.size)
      clear hc3 c2 HY
      go_wp2
      all_goals go_ret
      all_goals exact ⟨rfl, c3⟩
  · have hx0 := hx (fun h => hk h.1)
    subst hx0
    obtain ⟨k1, k2, k3, k4⟩ := len_false hk
    simp only [Int.cast_ofNat_Int] at k1 k3
    clear h hk hx HG
    go_enter Try.func6, Try.ntmps6
    go_wp2_with fail
    refine (worksA_any w).mono ?_
    rintro _ w1 ⟨rfl, c1⟩
    go_wp2_with fail
    refine (HX.out w1).mono ?_
    rintro _ w2 ⟨rfl, hc2⟩
    have c2 := c1.trans (hc2.mono c1.size)
    clear hc2 c1 HX
    go_wp2_with fail
    refine (HY.out w2).mono ?_
    rintro _ w3 ⟨rfl, hc3⟩
    have c3 := c2.trans (hc3.mono c2.size)
    clear hc3 c2 HY
    go_wp2
    all_goals go_ret
    all_goals exact ⟨rfl, c3⟩

theorem aesUnlike_walk (k a b : List UInt8) (w : World) :
    Calls Try.prog 6 #[.string ⟨⟨k⟩⟩, .string ⟨⟨a⟩⟩, .string ⟨⟨b⟩⟩] w fun e w' => e = .returned (.bool true) ∧ Below w.heap.size w w' := by
  by_cases h : k.length = 16 ∧ a.length = 16 ∧ b.length = 16
  · exact aesUnlike_yes k a b w h.1 h.2.1 h.2.2
  · exact aesUnlike_no k a b w h
end Go.Proofs.Ythofffolcphdjaa
