/- AesEncrypts' walk. -/
import Derived.Test.YtjoaajjfmmiaaaaAeV5
import Derived.Test.YtjoaajjfmmiaaaaAeL1
namespace Go.Proofs.Ytjoaajjfmmiaaaa
open Go.RowKit

theorem refEncrypt_any (k b : List UInt8) (gt cap : Nat) (w : World) (ht : TabS w gt) :
    Calls Try.prog 16 #[.slice (some ⟨gt, 0, none⟩) 256 cap, .string ⟨⟨k⟩⟩, .string ⟨⟨b⟩⟩] w fun e w' => e = .returned (.string ⟨⟨encA k b⟩⟩) ∧ Below w.heap.size w w' := by
  by_cases h : k.length = 16 ∧ b.length = 16
  · rw [encA, if_pos h]
    exact refEncrypt_yes k b gt cap w h.1 h.2 ht
  · rw [encA, if_neg h]
    exact (refEncrypt_no k b _ w h).mono fun _ _ ⟨he, hw⟩ => ⟨he, hw ▸ Below.refl _ _⟩
theorem refExpand_any (k : List UInt8) (gt cap : Nat) (w : World) (ht : TabS w gt) :
    Calls Try.prog 26 #[.slice (some ⟨gt, 0, none⟩) 256 cap, .string ⟨⟨k⟩⟩] w fun e w' => e = .returned (.string ⟨⟨exA k⟩⟩) ∧ Below w.heap.size w w' := by
  by_cases h : k.length = 16
  · rw [exA, if_pos h]
    exact refExpand_yes k gt cap w h ht
  · rw [exA, if_neg h]
    exact (refExpand_no k _ w h).mono fun _ _ ⟨he, hw⟩ => ⟨he, hw ▸ Below.refl _ _⟩

end Go.Proofs.Ytjoaajjfmmiaaaa
