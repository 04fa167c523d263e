/- span: Valid, Point. -/
import Derived.Test.YtddjbkadhihohaaSpW1
import Derived.RangeFuncBox
namespace Go.Proofs.Ytddjbkadhihohaa
open Go.RowKit
namespace Sp

/-- A span as a value. -/
def sv (a b : Int) : Value := .agg #[.int .i64 a, .int .i64 b]
/-- May a span be? -/
def vld (a b : Int) : Bool := ok a && ok b && decide (a ≤ b)

theorem heap_alloc_old' (w : World) (o : Obj) {i : Nat} (h : i < w.heap.size) : (w.alloc o).heap[i]? = w.heap[i]? := Below.heap_alloc w o i h
theorem cell2 {w : World} {g : Nat} {v0 v1 : Value} {t : TypeId} {fr : Nat × Nat} (h : w.heap[g]? = some (.cells #[v0, v1] t fr)) :
    w.cell? ⟨g, 0, none⟩ = some v0 ∧ w.cell? ⟨g, 1, none⟩ = some v1 := by
  constructor <;> simp [World.cell?, h]
theorem new2 (w : World) (a b : Int) (t : TypeId) : Row (w.alloc (.cells #[.int .i64 a, .int .i64 b] t)) w.heap.size [a, b] := ⟨t, World.alloc_heap_new w _⟩

set_option maxHeartbeats 1000000 in
set_option maxRecDepth 100000 in
theorem Valid_any (a b : Int) (w : World) :
    Calls Try.prog 10 #[sv a b] w fun e w' => e = .returned (.bool (vld a b)) ∧ Below w.heap.size w w' := by
  unfold sv
  have hb0 : Below w.heap.size w (w.alloc (.cells #[.int .i64 a, .int .i64 b] 23)) := (Below.refl _ _).alloc (Nat.le_refl _) _
  have hg0 := World.alloc_heap_new w (.cells #[.int .i64 a, .int .i64 b] 23)
  have hs0 : (w.alloc (.cells #[.int .i64 a, .int .i64 b] 23)).heap.size = w.heap.size + 1 := by simp
  obtain ⟨z, hz⟩ : ∃ z, z = w.heap.size := ⟨_, rfl⟩
  rw [← hz] at hb0 hg0 hs0 ⊢
  have HZ := Lib.hid hz
  have HB0 := Lib.hid hb0
  have HG0 := Lib.hid hg0
  have HS0 := Lib.hid hs0
  clear hb0 hg0 hs0 hz
  go_enter Try.func10, Try.ntmps10
  go_wp2_with fail
  rw [← HZ.out]
  generalize w.alloc (.cells #[.int .i64 a, .int .i64 b] 23) = w0 at *
  have hs0 := HS0.out
  have hlt : z < w0.heap.size := by omega
  have hb1 := (HB0.out).alloc (Nat.le_of_lt hlt) (.cells #[.int .i64 a, .int .i64 b] 3)
  have hg1 := (heap_alloc_old' w0 (.cells #[.int .i64 a, .int .i64 b] 3) hlt).trans HG0.out
  have hs1 : w0.heap.size ≤ (w0.alloc (.cells #[.int .i64 a, .int .i64 b] 3)).heap.size := by simp
  have hT := times_any [a, b] w0.heap.size _ (new2 w0 a b 3) (by simp)
  rw [hs0] at hT
  refine hT.mono ?_
  rintro _ w1 ⟨rfl, hb2⟩
  have hg2 := (hb2.block z (Nat.lt_of_lt_of_le hlt hs1)).trans hg1
  obtain ⟨c0, c1⟩ := cell2 hg2
  have HB2 : Hid (Below z w w1) := hb1.trans (hb2.mono (Nat.le_trans (Nat.le_of_lt hlt) hs1))
  have hv : vld a b = ([a, b].all ok && decide (a ≤ b)) := by simp [vld]
  generalize [a, b].all ok = t at *
  have HV := Lib.hid hv
  clear hT hb1 hg1 hs1 hb2 hg2 hv HB0 HG0 HS0 hs0 hlt
  cases t
  · go_wp2
    go_ret
    exact ⟨by rw [HV.out, Bool.false_and]; rfl, HB2.out⟩
  · go_wp2
    go_ret
    exact ⟨by rw [HV.out, Bool.true_and]; rfl, HB2.out⟩

/-- A span's number. -/
def pt (a b : Int) : Value := if vld a b then cx a b else .complex .f64 0 0

theorem vld_bounds {a b : Int} (h : vld a b = true) : 0 ≤ a ∧ a ≤ b ∧ b ≤ 1099511627776 := by
  simp [vld, ok] at h
  omega

set_option maxHeartbeats 1000000 in
set_option maxRecDepth 100000 in
theorem Point_any (a b : Int) (w : World) :
    Calls Try.prog 9 #[sv a b] w fun e w' => e = .returned (pt a b) ∧ Below w.heap.size w w' := by
  have hV := Valid_any a b (w.alloc (.cells #[.int .i64 a, .int .i64 b] 23))
  unfold sv at hV ⊢
  have hb0 : Below w.heap.size w (w.alloc (.cells #[.int .i64 a, .int .i64 b] 23)) := (Below.refl _ _).alloc (Nat.le_refl _) _
  have hg0 := World.alloc_heap_new w (.cells #[.int .i64 a, .int .i64 b] 23)
  have hs0 : (w.alloc (.cells #[.int .i64 a, .int .i64 b] 23)).heap.size = w.heap.size + 1 := by simp
  obtain ⟨z, hz⟩ : ∃ z, z = w.heap.size := ⟨_, rfl⟩
  rw [← hz] at hb0 hg0 hs0 ⊢
  have HZ := Lib.hid hz
  have HV := Lib.hid hV
  have HB0 := Lib.hid hb0
  have HG0 := Lib.hid hg0
  have HS0 := Lib.hid hs0
  clear hb0 hg0 hs0 hz hV
  go_enter Try.func9, Try.ntmps9
  go_wp2_with fail
  rw [← HZ.out]
  refine HV.out.mono ?_
  rintro _ w1 ⟨rfl, hb1⟩
  have hg1 := (hb1.block z (by rw [HS0.out]; omega)).trans HG0.out
  obtain ⟨c0, c1⟩ := cell2 hg1
  have HB1 : Hid (Below z w w1) := HB0.out.trans (hb1.mono (by rw [HS0.out]; omega))
  clear hb1 hg1 HV HB0 HG0 HS0
  by_cases hv : vld a b = true
  · obtain ⟨h1, h2, h3⟩ := vld_bounds hv
    have HP := Lib.hid (pair_any a b w1 (by omega) (by omega))
    have HE : Hid (pt a b = cx a b) := by rw [Hid, pt, if_pos hv]
    rw [hv]
    clear hv h1 h2 h3
    go_wp2_with fail
    refine HP.out.mono ?_
    rintro _ _ ⟨rfl, rfl⟩
    go_wp2
    go_ret
    exact ⟨by rw [HE.out]; rfl, HB1.out⟩
  · have hv2 : vld a b = false := by simpa using hv
    have HE : Hid (pt a b = .complex .f64 0 0) := by rw [Hid, pt, if_neg hv]
    rw [hv2]
    clear hv hv2
    go_wp2
    go_ret
    exact ⟨by rw [HE.out]; rfl, HB1.out⟩
end Sp
end Go.Proofs.Ytddjbkadhihohaa
