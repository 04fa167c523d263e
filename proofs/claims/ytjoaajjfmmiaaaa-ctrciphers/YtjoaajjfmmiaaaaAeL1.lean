/- AesUnlike's walk. -/
import Derived.Test.YtjoaajjfmmiaaaaAeW9
namespace Go.Proofs.Ytjoaajjfmmiaaaa
open Go.RowKit

/-- What Encrypt answers, at any arguments. -/
def encA (k b : List UInt8) : List UInt8 := if k.length = 16 ∧ b.length = 16 then Ae.enc k b else []
theorem Encrypt_any (k b : List UInt8) (w : World) :
    Calls Try.prog 13 #[.string ⟨⟨k⟩⟩, .string ⟨⟨b⟩⟩] w fun e w' => e = .returned (.string ⟨⟨encA k b⟩⟩) ∧ Below w.heap.size w w' := by
  by_cases h : k.length = 16 ∧ b.length = 16
  · rw [encA, if_pos h]
    exact Encrypt_yes k b w h.1 h.2
  · rw [encA, if_neg h]
    exact (Encrypt_no k b w (by omega)).mono fun _ _ ⟨he, hw⟩ => ⟨he, hw ▸ Below.refl _ _⟩
def exA (k : List UInt8) : List UInt8 := if k.length = 16 then Ae.ex k else []
theorem len_true {l : List UInt8} {n : Nat} (h : l.length = n) : (((l.length : Int) != (n : Nat)) = false) ∧ ((l.length != n) = false) ∧ (((l.length : Int) == (n : Nat)) = true) ∧ ((l.length == n) = true) := by subst h; simp
theorem len_false {l : List UInt8} {n : Nat} (h : l.length ≠ n) : (((l.length : Int) != (n : Nat)) = true) ∧ ((l.length != n) = true) ∧ (((l.length : Int) == (n : Nat)) = false) ∧ ((l.length == n) = false) := by
  refine ⟨by simp; omega, by simpa using h, by simp; omega, by simpa using h⟩

end Go.Proofs.Ytjoaajjfmmiaaaa
