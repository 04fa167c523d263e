import Derived.Test.YtmjpjbnaahdcmaaW4
namespace Go.Proofs.Ytmjpjbnaahdcmaa
open Go.RowKit
open Wr

theorem below_set4 {B g : Nat} {a w : World} {v0 v1 v2 v3 : Value} (h : Below B a w) (hg : B ≤ g) : Below B a ((((w.setCell ⟨g, 0, none⟩ v0).setCell ⟨g, 1, none⟩ v1).setCell ⟨g, 2, none⟩ v2).setCell ⟨g, 3, none⟩ v3) :=
  (((h.setCell (p := ⟨g, 0, none⟩) hg _).setCell (p := ⟨g, 1, none⟩) hg _).setCell (p := ⟨g, 2, none⟩) hg _).setCell (p := ⟨g, 3, none⟩) hg _

theorem heap_set4 {g k : Nat} {w : World} {v0 v1 v2 v3 : Value} (h : k ≠ g) : ((((w.setCell ⟨g, 0, none⟩ v0).setCell ⟨g, 1, none⟩ v1).setCell ⟨g, 2, none⟩ v2).setCell ⟨g, 3, none⟩ v3).heap[k]? = w.heap[k]? := by
  rw [Below.heap_setCell _ _ _ _ h, Below.heap_setCell _ _ _ _ h, Below.heap_setCell _ _ _ _ h, Below.heap_setCell _ _ _ _ h]

theorem size_set4 {g : Nat} {w : World} {v0 v1 v2 v3 : Value} : ((((w.setCell ⟨g, 0, none⟩ v0).setCell ⟨g, 1, none⟩ v1).setCell ⟨g, 2, none⟩ v2).setCell ⟨g, 3, none⟩ v3).heap.size = w.heap.size := by
  simp [World.setCell]

theorem rep_set4 {g : Nat} {w : World} {S S' : Nat → Prop} {x : It} {v v0 v1 v2 v3 : Value} (h : Rep w S x v) (hS : ∀ b, S b → b ≠ g ∧ S' b) : Rep ((((w.setCell ⟨g, 0, none⟩ v0).setCell ⟨g, 1, none⟩ v1).setCell ⟨g, 2, none⟩ v2).setCell ⟨g, 3, none⟩ v3) S' x v :=
  rep_keep (fun b hb => (hS b hb).2) (fun _ _ hb => World.cell?_of_block (heap_set4 (hS _ hb).1)) _ _ h

theorem rep_alloc {w : World} {S S' : Nat → Prop} {x : It} {v : Value} (h : Rep w S x v) (o : Obj) (hS : ∀ b, S b → b < w.heap.size ∧ S' b) : Rep (w.alloc o) S' x v :=
  rep_keep (fun b hb => (hS b hb).2) (fun b _ hb => World.cell?_of_block (Below.heap_alloc w o b (hS b hb).1)) _ _ h

set_option maxHeartbeats 1000000 in
set_option maxRecDepth 100000 in
theorem first_err (s : List UInt8) (w : World) (x : Int) (hs : s.length ≤ 65536) (hr : rd 33 s 0 = .error x) :
    Calls Try.prog 18 #[.string ⟨⟨s⟩⟩] w fun e w' => e = .returned (.tuple #[.agg #[.bool false, .int .i64 0, .string ⟨⟨[]⟩⟩, .slice none 0 0], .int .i64 0, .int .i64 x]) ∧ Below w.heap.size w w' := by
  have HR := Lib.hid hr
  clear hr
  go_enter Try.func18, Try.ntmps18
  go_wp2_with fail
  refine ((read_all 33).1 0 0 _ _ s _ x rfl rfl rfl hs (by omega) HR.out).mono ?_
  rintro _ w1 ⟨rfl, hb1⟩
  obtain ⟨hc, hf⟩ := bcell hb1
  go_wp2
  refine bodyPost_ret (v := .tuple #[.agg #[.bool false, .int .i64 0, .string ⟨⟨[]⟩⟩, .slice none 0 0], .int .i64 0, .int .i64 x]) (by simp [results, Try.results18, go_sem, hc]) rfl ⟨rfl, ?_⟩
  exact below_set4 (((Below.refl _ _).alloc (Nat.le_refl _) _).trans (hb1.mono (by simp))) (Nat.le_refl _)

set_option maxHeartbeats 1000000 in
set_option maxRecDepth 100000 in
theorem first_ok (s : List UInt8) (w : World) (x : It) (n : Nat) (hs : s.length ≤ 65536) (hr : rd 33 s 0 = .ok (x, n)) :
    Calls Try.prog 18 #[.string ⟨⟨s⟩⟩] w (ReadPost x n w) := by
  have HR := Lib.hid hr
  clear hr
  go_enter Try.func18, Try.ntmps18
  go_wp2_with fail
  refine ((read_all 33).2 0 0 _ _ s _ x n rfl rfl rfl hs (by omega) HR.out).mono ?_
  rintro _ w1 ⟨v0, v1, v2, v3, rfl, hrep, hb1⟩
  obtain ⟨xn, xt, xs0, xl⟩ := x
  obtain ⟨A', cap', hv, hrow⟩ := rep_mk.1 hrep
  injection hv with hv
  simp at hv
  obtain ⟨rfl, rfl, rfl, rfl⟩ := hv
  obtain ⟨hc, hf⟩ := bcell hb1
  go_wp2
  refine bodyPost_ret (v := .tuple #[.agg #[.bool xn, .int .i64 xt, .string ⟨⟨xs0⟩⟩, .slice A' xl.length cap'], .int .i64 n, .int .i64 0]) (by simp [results, Try.results18, go_sem, hc]) rfl ?_
  refine ⟨_, _, _, _, rfl, rep_set4 hrep ?_, below_set4 (((Below.refl _ _).alloc (Nat.le_refl _) _).trans (hb1.mono (by simp))) (Nat.le_refl _)⟩
  intro b hb
  have h1 := hb.1
  simp at h1
  exact ⟨by omega, by omega, by rw [size_set4]; exact hb.2⟩

/-- What Get answers. -/
def gt (s : List UInt8) : Except Int It :=
  match rd 33 s 0 with
  | .error e => .error e
  | .ok (x, n) => if n < s.length then .error 14 else .ok x

set_option maxHeartbeats 1000000 in
set_option maxRecDepth 100000 in
theorem get_err (s : List UInt8) (w : World) (x : Int) (hs : s.length ≤ 65536) (hr : gt s = .error x) :
    Calls Try.prog 17 #[.string ⟨⟨s⟩⟩] w fun e w' => e = .returned (.tuple #[.agg #[.bool false, .int .i64 0, .string ⟨⟨[]⟩⟩, .slice none 0 0], .int .i64 x]) ∧ Below w.heap.size w w' := by
  unfold gt at hr
  cases hrd : rd 33 s 0 with
  | error y =>
    rw [hrd] at hr
    injection hr with hr
    subst hr
    have hee := rd_err _ _ _ _ hrd
    have hne : (y != 0) = true := by simp; omega
    have HR := Lib.hid hrd
    clear hrd
    go_enter Try.func17, Try.ntmps17
    go_wp2_with fail
    refine (first_err s _ y hs HR.out).mono ?_
    rintro _ w1 ⟨rfl, hb1⟩
    obtain ⟨hc, hf⟩ := bcell hb1
    have hz : w.heap.size < w1.heap.size := by have := hb1.size; simp at this; omega
    go_wp2
    refine bodyPost_ret (v := .tuple #[.agg #[.bool false, .int .i64 0, .string ⟨⟨[]⟩⟩, .slice none 0 0], .int .i64 y]) (by simp [results, Try.results17, go_sem, hc, hz]) rfl ⟨rfl, ?_⟩
    exact ((below_set4 (((Below.refl _ _).alloc (Nat.le_refl _) _).trans (hb1.mono (by simp))) (Nat.le_refl _)).alloc (by rw [size_set4]; omega) _)
  | ok p =>
    obtain ⟨y, n⟩ := p
    rw [hrd] at hr
    simp only at hr
    split at hr
    · rename_i hlt
      injection hr with hr
      subst hr
      have hlt' : (n : Int) < (s.length : Int) := by omega
      have HR := Lib.hid hrd
      clear hrd hlt
      go_enter Try.func17, Try.ntmps17
      go_wp2_with fail
      refine (first_ok s _ y n hs HR.out).mono ?_
      rintro _ w1 ⟨v0, v1, v2, v3, rfl, hrep, hb1⟩
      obtain ⟨xn, xt, xs0, xl⟩ := y
      obtain ⟨A', cap', hv, hrow⟩ := rep_mk.1 hrep
      injection hv with hv
      simp at hv
      obtain ⟨rfl, rfl, rfl, rfl⟩ := hv
      obtain ⟨hc, hf⟩ := bcell hb1
      have hz : w.heap.size < w1.heap.size := by have := hb1.size; simp at this; omega
      go_wp2
      refine bodyPost_ret (v := .tuple #[.agg #[.bool false, .int .i64 0, .string ⟨⟨[]⟩⟩, .slice none 0 0], .int .i64 14]) (by simp [results, Try.results17, go_sem, hc, hz]) rfl ⟨rfl, ?_⟩
      exact ((below_set4 (((Below.refl _ _).alloc (Nat.le_refl _) _).trans (hb1.mono (by simp))) (Nat.le_refl _)).alloc (by rw [size_set4]; omega) _)
    · cases hr

/-- What Get leaves where it answers an item. -/
def GetPost (x : It) (w : World) (e : Ending) (w' : World) : Prop :=
  ∃ v0 v1 v2 v3, e = .returned (.tuple #[.agg #[v0, v1, v2, v3], .int .i64 0]) ∧ Rep w' (New w.heap.size w') x (.agg #[v0, v1, v2, v3]) ∧ Below w.heap.size w w'

set_option maxHeartbeats 1000000 in
set_option maxRecDepth 100000 in
theorem get_ok (s : List UInt8) (w : World) (x : It) (hs : s.length ≤ 65536) (hr : gt s = .ok x) :
    Calls Try.prog 17 #[.string ⟨⟨s⟩⟩] w (GetPost x w) := by
  unfold gt at hr
  cases hrd : rd 33 s 0 with
  | error y => rw [hrd] at hr; cases hr
  | ok p =>
    obtain ⟨y, n⟩ := p
    rw [hrd] at hr
    simp only at hr
    split at hr
    · cases hr
    · rename_i hge
      injection hr with hr
      subst hr
      have hge' : (s.length : Int) ≤ n := by omega
      have HR := Lib.hid hrd
      clear hrd hge
      go_enter Try.func17, Try.ntmps17
      go_wp2_with fail
      refine (first_ok s _ y n hs HR.out).mono ?_
      rintro _ w1 ⟨v0, v1, v2, v3, rfl, hrep, hb1⟩
      obtain ⟨xn, xt, xs0, xl⟩ := y
      obtain ⟨A', cap', hv, hrow⟩ := rep_mk.1 hrep
      injection hv with hv
      simp at hv
      obtain ⟨rfl, rfl, rfl, rfl⟩ := hv
      obtain ⟨hc, hf⟩ := bcell hb1
      have hz : w.heap.size < w1.heap.size := by have := hb1.size; simp at this; omega
      go_wp2
      refine bodyPost_ret (v := .tuple #[.agg #[.bool xn, .int .i64 xt, .string ⟨⟨xs0⟩⟩, .slice A' xl.length cap'], .int .i64 0]) (by simp [results, Try.results17, go_sem, hc, hz]) rfl ?_
      refine ⟨_, _, _, _, rfl, rep_alloc (S := New w.heap.size w1) (rep_set4 hrep ?_) _ ?_, ((below_set4 (((Below.refl _ _).alloc (Nat.le_refl _) _).trans (hb1.mono (by simp))) (Nat.le_refl _)).alloc (by rw [size_set4]; omega) _)⟩
      · intro b hb
        have h1 := hb.1
        simp at h1
        exact ⟨by omega, by omega, hb.2⟩
      · intro b hb
        exact ⟨by rw [size_set4]; exact hb.2, hb.1, by have := hb.2; simp only [World.size_alloc, size_set4]; omega⟩
end Go.Proofs.Ytmjpjbnaahdcmaa
