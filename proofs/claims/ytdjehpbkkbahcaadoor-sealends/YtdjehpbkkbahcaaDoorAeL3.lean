/- AesKeys' walk. -/
import Derived.Test.YtdjehpbkkbahcaaDoorMkB
import Derived.Test.YtdjehpbkkbahcaaDoorAeL1
namespace Go.Proofs.YtdjehpbkkbahcaaDoor
open Go.RowKit

/-- A byte of the keys, by those ahead of it. -/
theorem ex_byte (key : List UInt8) (h : key.length = 16) (i : Nat) (h1 : 16 ≤ i) (h2 : i < 176) :
    (4 ≤ i % 16 → (Ae.ex key).getD i 0 = (Ae.ex key).getD (i - 16) 0 ^^^ (Ae.ex key).getD (i - 4) 0) ∧
    (i % 16 < 4 → i % 16 ≠ 0 → (Ae.ex key).getD i 0 = (Ae.ex key).getD (i - 16) 0 ^^^ Ae.sw ((Ae.ex key).getD (i - i % 16 - 4 + (i + 1) % 4) 0)) ∧
    (i % 16 = 0 → (Ae.ex key).getD i 0 = (Ae.ex key).getD (i - 16) 0 ^^^ (Ae.sw ((Ae.ex key).getD (i - i % 16 - 4 + (i + 1) % 4) 0) ^^^ Ae.twi ((i - 16) / 16) 1)) := by
  obtain ⟨n, hn⟩ : ∃ n, n = (i - 16) / 4 := ⟨_, rfl⟩
  obtain ⟨j, hj⟩ : ∃ j, j = i % 4 := ⟨_, rfl⟩
  have hi : i = 16 + 4 * n + j := by omega
  have hj4 : j < 4 := by omega
  have hr := ex_rec key h n j (by omega) hj4
  rw [← hi, show 4 * n + j = i - 16 by omega] at hr
  generalize Ae.ex key = E at *
  refine ⟨fun hq => ?_, fun hq h0 => ?_, fun hq => ?_⟩
  · rw [hr, Ae.lst_no _ n (by omega)]
    refine congrArg (E.getD (i - 16) 0 ^^^ ·) ?_
    match j, hj4, hi with
    | 0, _, hi => show E.getD (12 + 4 * n) 0 = _; rw [show i - 4 = 12 + 4 * n by omega]
    | 1, _, hi => show E.getD (13 + 4 * n) 0 = _; rw [show i - 4 = 13 + 4 * n by omega]
    | 2, _, hi => show E.getD (14 + 4 * n) 0 = _; rw [show i - 4 = 14 + 4 * n by omega]
    | 3, _, hi => show E.getD (15 + 4 * n) 0 = _; rw [show i - 4 = 15 + 4 * n by omega]
  · rw [hr, Ae.lst_yes _ n (by omega)]
    refine congrArg (E.getD (i - 16) 0 ^^^ ·) ?_
    match j, hj4, hi with
    | 0, _, hi => omega
    | 1, _, hi => show Ae.sw (E.getD (14 + 4 * n) 0) = _; rw [show i - i % 16 - 4 + (i + 1) % 4 = 14 + 4 * n by omega]
    | 2, _, hi => show Ae.sw (E.getD (15 + 4 * n) 0) = _; rw [show i - i % 16 - 4 + (i + 1) % 4 = 15 + 4 * n by omega]
    | 3, _, hi => show Ae.sw (E.getD (12 + 4 * n) 0) = _; rw [show i - i % 16 - 4 + (i + 1) % 4 = 12 + 4 * n by omega]
  · rw [hr, Ae.lst_yes _ n (by omega)]
    refine congrArg (E.getD (i - 16) 0 ^^^ ·) ?_
    obtain rfl : j = 0 := by omega
    show Ae.sw (E.getD (13 + 4 * n) 0) ^^^ Ae.twi (n / 4) 1 = _
    rw [show i - i % 16 - 4 + (i + 1) % 4 = 13 + 4 * n by omega, show (i - 16) / 16 = n / 4 by omega]

theorem belowQ {B : Nat} {a w : World} (h : Below B a w) (n : Nat) : Below B a (w.drewN n) := h.trans ⟨rfl, rfl, rfl, Nat.le_refl _, fun _ _ => rfl⟩

end Go.Proofs.YtdjehpbkkbahcaaDoor
