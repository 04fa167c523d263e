/- AesUnlike's walk. -/
import Derived.Test.YtdjehpbkkbahcaaDoorMkB
import Derived.Test.YtdjehpbkkbahcaaDoorAeW9
namespace Go.Proofs.YtdjehpbkkbahcaaDoor
open Go.RowKit

/-- What Encrypt answers, at any arguments. -/
def encA (k b : List UInt8) : List UInt8 := if k.length = 16 ∧ b.length = 16 then Ae.enc k b else []
set_option maxRecDepth 100000 in
theorem Encrypt_any (k b : List UInt8) (w : World) :
    Calls Tryd.prog 75 #[.string ⟨⟨k⟩⟩, .string ⟨⟨b⟩⟩] w fun e w' => e = .returned (.string ⟨⟨encA k b⟩⟩) ∧ Below w.heap.size w w' := by
  by_cases h : k.length = 16 ∧ b.length = 16
  · rw [encA, if_pos h]
    exact Encrypt_yes k b w h.1 h.2
  · rw [encA, if_neg h]
    exact (Encrypt_no k b w (by omega)).mono fun _ _ ⟨he, hw⟩ => ⟨he, hw ▸ Below.refl _ _⟩
def exA (k : List UInt8) : List UInt8 := if k.length = 16 then Ae.ex k else []
end Go.Proofs.YtdjehpbkkbahcaaDoor
