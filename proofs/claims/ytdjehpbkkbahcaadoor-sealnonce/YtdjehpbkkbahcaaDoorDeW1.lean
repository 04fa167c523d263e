/- head, numbers. -/
import Derived.Test.YtdjehpbkkbahcaaDoorMkB
import Derived.Test.YtdjehpbkkbahcaaDoorDePure
namespace Go.Proofs.YtdjehpbkkbahcaaDoor
open Go.RowKit

set_option maxRecDepth 100000 in
theorem head_any (l : List UInt8) (w : World) (hl : l.length ≤ 100000) :
    Calls Tryd.prog 46 #[.string ⟨⟨l⟩⟩] w fun e w' => e = .returned (.string ⟨⟨De.lab l⟩⟩) ∧ w = w' := by
  have hap : ByteArray.mk ⟨l⟩ ++ ByteArray.mk #[0] = ⟨⟨De.lab l⟩⟩ := str_app l [0]
  have hw : ¬ 9223372036854775807 < l.length + 1 := by omega
  go_enter Tryd.func46, Tryd.ntmps46
  go_wp2
  go_ret
  exact ⟨rfl, rfl⟩

theorem own_cap (w : World) (m : Nat) (h : m ≤ 100000000) : OwnB (w.alloc (.cells (bcells (List.replicate m 0)) 5)) w.heap.size (.slice (some ⟨w.heap.size, 0, none⟩) 0 m) [] := by
  refine ⟨rfl, .inr ⟨w.heap.size, m, bcells (List.replicate m 0), rfl, Nat.le_refl _, heap_alloc_new _ _, Nat.zero_le _, ?_, ?_, rfl⟩⟩
  · simp only [maxLen]; omega
  · simp [bcells]

set_option maxRecDepth 100000 in
set_option maxHeartbeats 1000000 in
theorem numbers_one (n : Int) (g : Nat) (w : World) (hr : w.heap[g]? = some (.cells #[.int .i64 n] 3 (0, 0))) :
    Calls Tryd.prog 47 #[.slice (some ⟨g, 0, none⟩) 1 1] w fun e w' => e = .returned (.string ⟨⟨De.num (De.un n)⟩⟩) ∧ Below w.heap.size w w' := by
  have hg : g < w.heap.size := (Array.getElem?_eq_some_iff.1 hr).1
  have HC : Hid (w.cell? ⟨g, 0, none⟩ = some (.int .i64 n)) := cell_of_row _ _ _ _ _ _ hr
  have hmk := make_cap 8 (by omega) w
  simp only [Int.cast_ofNat_Int] at hmk
  have HO := own_cap w 8 (by omega)
  have hb0 : Below w.heap.size w (w.alloc (.cells (bcells (List.replicate 8 0)) 5)) := (Below.refl _ _).alloc (Nat.le_refl _) _
  have hu : IntKind.u64.wrap n = ((De.un n : Nat) : Int) := by rw [IntKind.wrap_u64, De.un_cast]
  have HL := Lib.hid (De.num_length (De.un n))
  have HCS := Lib.hid (De.num_snoc (De.un n))
  clear hr
  generalize bcells (List.replicate 8 0) = zs at *
  generalize De.num (De.un n) = L at *
  generalize De.un n = c at *
  go_enter Tryd.func47, Tryd.ntmps47
  go_wp2
  go_loopw [3, 13] (fun v i wr => ∃ k : Nat, k ≤ 1 ∧ i = .int .i64 k ∧ OwnB wr w.heap.size v (L.take (8 * k)) ∧ Below w.heap.size w wr) (fun _ i _ => 1 - (intOf i).toNat)
  case atStart => exact ⟨0, by omega, rfl, HO, hb0⟩
  case round =>
    obtain ⟨k, hk, rfl, HO1, hb1⟩ := hrel
    clear HO hb0
    by_cases hlt : k < 1
    · obtain rfl : k = 0 := by omega
      have hcell := (hb1.cell (p := ⟨g, 0, none⟩) hg).trans HC.out
      rw [Int.ofNat_zero]
      go_wp2
      go_loopw [3, 17] (fun v i wr2 => ∃ m : Nat, m ≤ 8 ∧ i = .int .i64 m ∧ OwnB wr2 w.heap.size v (L.take m) ∧ Below w.heap.size w wr2) (fun _ i _ => 8 - (intOf i).toNat)
      case atStart => exact ⟨0, by omega, rfl, HO1, hb1⟩
      case round =>
        obtain ⟨m, hm, rfl, HO2, hb2⟩ := hrel
        clear HO1 hb1 hcell
        by_cases hlm : m < 8
        · have hv : (c : Int) / 2 ^ (8 * (7 - m)) % 256 = ((Sh.byt (c / 2 ^ (8 * (7 - m)))).toNat : Nat) := by
            rw [Sh.byt, UInt8.toNat_ofNat']
            simp
          have HS := Lib.hid (HCS.out m hlm)
          have HL1 : Hid ((L.take m).length ≤ 8) := by rw [Hid, List.length_take, HL.out]; omega
          generalize Sh.byt (c / 2 ^ (8 * (7 - m))) = d at *
          have hz1 := hb2.size
          go_wp2_with (at_builtin; refine wpList_appB _ rfl (.tmp 20) (.tmp 28) rfl w.heap.size _ _ d rfl rfl HO2 (by have := HL1.out; omega) (by omega) ?_)
          intro v2 w2 HO3 hb3
          go_wp2
          go_roundw
          case rel => exact ⟨m + 1, by omega, by go_num, by rw [HS.out]; exact HO3, hb2.trans hb3⟩
          case measure => simp [intOf]; omega
        · obtain rfl : m = 8 := by omega
          go_wp2
          go_roundw
          case rel => exact ⟨1, by omega, by go_num, HO2, hb2⟩
          case measure => simp [intOf]
    · obtain rfl : k = 1 := by omega
      have ht : L.take (8 * 1) = L := List.take_of_length_le (by rw [HL.out]; omega)
      rw [ht] at HO1
      obtain ⟨g1, cap, cur, rfl, hgb, hcur, hcs⟩ := HO1.form (by rw [HL.out]; omega)
      have hcv := conv_any wr g1 cap L 5 (0, 0) cur hcur hcs
      clear hcs hcur ht
      go_wp2
      go_ret
      exact ⟨rfl, hb1⟩
end Go.Proofs.YtdjehpbkkbahcaaDoor
