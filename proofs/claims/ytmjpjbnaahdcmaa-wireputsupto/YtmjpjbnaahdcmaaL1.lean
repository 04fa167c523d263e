import Derived.Test.YtmjpjbnaahdcmaaW11
namespace Go.Proofs.Ytmjpjbnaahdcmaa
open Go.RowKit
open Wr

/-- Get, whatever it answers. -/
theorem get_some (s : List UInt8) (w : World) (hs : s.length ≤ 65536) :
    Calls Try.prog 17 #[.string ⟨⟨s⟩⟩] w fun e w' => ∃ (n : Bool) (t : Int) (r : List UInt8) (A : Option Addr) (k c : Nat) (er : Int), e = .returned (.tuple #[.agg #[.bool n, .int .i64 t, .string ⟨⟨r⟩⟩, .slice A k c], .int .i64 er]) ∧ Below w.heap.size w w' := by
  cases h : gt s with
  | error x =>
    refine (get_err s w x hs h).mono ?_
    rintro e w' ⟨rfl, hb⟩
    exact ⟨false, 0, [], none, 0, 0, x, rfl, hb⟩
  | ok x =>
    refine (get_ok s w x hs h).mono ?_
    rintro e w' ⟨v0, v1, v2, v3, rfl, hrep, hb⟩
    obtain ⟨n, t, r, l⟩ := x
    obtain ⟨A, c, hv, _⟩ := rep_mk.1 hrep
    injection hv with hv
    simp at hv
    obtain ⟨rfl, rfl, rfl, rfl⟩ := hv
    exact ⟨n, t, r, A, l.length, c, 0, rfl, hb⟩

theorem gt_ok {s : List UInt8} {x : It} (h : gt s = .ok x) : wr x = s ∧ sz x 0 = some s.length := by
  unfold gt at h
  split at h
  · cases h
  · rename_i y n hr
    split at h
    · cases h
    · injection h with h
      subst h
      have hb := rd_bound hr
      obtain ⟨h1, h2⟩ := rd_back 33 0 s 0 y n rfl hr
      have hn : n = s.length := by omega
      subst hn
      rw [List.take_length] at h1
      exact ⟨h1, h2⟩

theorem gt_err {s : List UInt8} {x : Int} (h : gt s = .error x) : 1 ≤ x ∧ x ≤ 14 := by
  unfold gt at h
  split at h
  · rename_i y hr
    injection h with h
    have := rd_err _ _ _ _ hr
    omega
  · split at h
    · injection h with h; omega
    · cases h

mutual
theorem bk_le : ∀ x : It, bk x ≤ (wr x).length
  | .mk n t s l => by
    have := bks_le l
    rw [bk, wr_mk]
    simp
    omega
theorem bks_le : ∀ l : List It, bks l ≤ (wrs l).length
  | [] => by rw [bks]; omega
  | x :: r => by
    have := bk_le x
    have := bks_le r
    rw [bks, wrs_cons]
    simp
    omega
end

theorem cell4 {w : World} {g : Nat} {v0 v1 v2 v3 : Value} {t : TypeId} {fr : Nat × Nat} (h : w.heap[g]? = some (.cells #[v0, v1, v2, v3] t fr)) :
    w.cell? ⟨g, 0, none⟩ = some v0 ∧ w.cell? ⟨g, 1, none⟩ = some v1 ∧ w.cell? ⟨g, 2, none⟩ = some v2 ∧ w.cell? ⟨g, 3, none⟩ = some v3 :=
  ⟨by rw [cell_of_row _ _ _ _ _ _ h]; rfl, by rw [cell_of_row _ _ _ _ _ _ h]; rfl, by rw [cell_of_row _ _ _ _ _ _ h]; rfl, by rw [cell_of_row _ _ _ _ _ _ h]; rfl⟩

/-- The whole of a step's world: below B nothing has turned, and a value is still the item that it was. -/
theorem rep_below {w w' : World} {S : Nat → Prop} {x : It} {v : Value} (h : Rep w S x v) (hb : Below w.heap.size w w') (hS : ∀ b, S b → b < w.heap.size) : Rep w' S x v :=
  rep_keep (fun _ h => h) (fun c o hc => hb.cell (p := ⟨c, o, none⟩) (hS c hc)) _ _ h

set_option maxHeartbeats 2000000 in
set_option maxRecDepth 100000 in
theorem wireOne_walk (s t : List UInt8) (w : World) :
    Calls Try.prog 5 #[.string ⟨⟨s⟩⟩, .string ⟨⟨t⟩⟩] w fun e w' => e = .returned (.bool true) ∧ Below w.heap.size w w' := by
  by_cases h1 : s.length > 2000
  · have h1' : (2000 : Int) < (s.length : Int) := by omega
    clear h1
    go_enter Try.func5, Try.ntmps5
    go_wp2_with fail
    refine (works_any _).mono ?_
    rintro _ w1 ⟨rfl, hb1⟩
    go_wp2
    go_ret
    exact ⟨rfl, hb1⟩
  have h1' : (s.length : Int) ≤ 2000 := by omega
  by_cases h2 : t.length > 2000
  · have h2' : (2000 : Int) < (t.length : Int) := by omega
    clear h1 h2
    go_enter Try.func5, Try.ntmps5
    go_wp2_with fail
    refine (works_any _).mono ?_
    rintro _ w1 ⟨rfl, hb1⟩
    go_wp2
    go_ret
    exact ⟨rfl, hb1⟩
  have h2' : (t.length : Int) ≤ 2000 := by omega
  cases hs : gt s with
  | error x =>
    have hx := gt_err hs
    have hx0 : (x == 0) = false := by simp; omega
    have hx1 : (x != 0) = true := by simp; omega
    have HS := Lib.hid hs
    clear hs h1 h2
    go_enter Try.func5, Try.ntmps5
    go_wp2_with fail
    refine (works_any _).mono ?_
    rintro _ w1 ⟨rfl, hb1⟩
    go_wp2_with fail
    refine (get_err s _ x (by omega) HS.out).mono ?_
    rintro _ w2 ⟨rfl, hb2⟩
    go_wp2_with fail
    refine (get_some t _ (by omega)).mono ?_
    rintro _ w3 ⟨n, tg, r, A, k, c, er, rfl, hb3⟩
    go_wp2
    go_ret
    have hb12 := hb1.trans (hb2.mono hb1.size)
    have hb12a := hb12.alloc hb12.size (.cells #[.bool false, .int .i64 0, .string ⟨⟨[]⟩⟩, .slice none 0 0] 24)
    have hb13 := hb12a.trans (hb3.mono hb12a.size)
    exact ⟨rfl, hb13.alloc hb13.size _⟩
  | ok x =>
    obtain ⟨hwx, hzx⟩ := gt_ok hs
    have hbkx : bk x ≤ 2000 := by have := bk_le x; rw [hwx] at this; omega
    have HS := Lib.hid hs
    have HWX := Lib.hid hwx
    have HZX := Lib.hid hzx
    clear hs hwx hzx h1 h2
    have hcase : (∃ er, gt t = .error er) ∨ ∃ y, gt t = .ok y := by
      cases h : gt t with
      | error er => exact .inl ⟨er, rfl⟩
      | ok y => exact .inr ⟨y, rfl⟩
    rcases hcase with ⟨er, ht⟩ | ⟨y, ht⟩
    · have he := gt_err ht
      have he0 : (er == 0) = false := by simp; omega
      have he1 : (er != 0) = true := by simp; omega
      have HT := Lib.hid ht
      clear ht
      go_enter Try.func5, Try.ntmps5
      go_wp2_with fail
      refine (works_any _).mono ?_
      rintro _ w1 ⟨rfl, hb1⟩
      go_wp2_with fail
      refine (get_ok s _ x (by omega) HS.out).mono ?_
      rintro _ w2 ⟨v0, v1, v2, v3, rfl, hrx, hb2⟩
      obtain ⟨xn, xt, xs0, xl⟩ := x
      have hrx0 := hrx
      obtain ⟨A, ca, hv, _⟩ := rep_mk.1 hrx
      injection hv with hv
      simp at hv
      obtain ⟨rfl, rfl, rfl, rfl⟩ := hv
      obtain ⟨X, hX⟩ : ∃ X, X = Obj.cells #[.bool xn, .int .i64 xt, .string ⟨⟨xs0⟩⟩, .slice A xl.length ca] 24 := ⟨_, rfl⟩
      have HBX : Hid ((w2.alloc X).heap[w2.heap.size]? = some X) := heap_alloc_new w2 X
      have HRX2 : Hid (Rep (w2.alloc X) (New w1.heap.size w2) (.mk xn xt xs0 xl) (.agg #[.bool xn, .int .i64 xt, .string ⟨⟨xs0⟩⟩, .slice A xl.length ca])) := rep_alloc hrx0 _ (fun c hc => ⟨hc.2, hc⟩)
      have HB2 : Hid (Below w.heap.size w (w2.alloc X)) := (hb1.trans (hb2.mono hb1.size)).alloc (by have := hb1.size; have := hb2.size; omega) _
      have hws : w.heap.size ≤ w2.heap.size := by have := hb1.size; have := hb2.size; omega
      subst hX
      clear hrx hrx0 hb1 hb2
      go_wp2_with fail
      refine (get_err t _ er (by omega) HT.out).mono ?_
      rintro _ w3 ⟨rfl, hb3⟩
      have hs3 := hb3.size
      simp at hs3
      have HBX3 := Lib.hid ((hb3.block w2.heap.size (by simp)).trans HBX.out)
      have HRX3 := Lib.hid (rep_below HRX2.out hb3 (fun c hc => by have := hc.2; simp; omega))
      have HB3 := Lib.hid (HB2.out.trans (hb3.mono HB2.out.size))
      obtain ⟨q0, q1, q2, q3⟩ := cell4 HBX3.out
      have hlt3 : w2.heap.size < w3.heap.size := by omega
      obtain ⟨Z, hZ⟩ : ∃ Z, Z = Obj.cells #[.bool false, .int .i64 0, .string ⟨⟨[]⟩⟩, .slice none 0 0] 24 := ⟨_, rfl⟩
      have HBX4 : Hid ((w3.alloc Z).heap[w2.heap.size]? = _) := (Below.heap_alloc w3 Z _ hlt3).trans HBX3.out
      have HRX4 : Hid (Rep (w3.alloc Z) (New w1.heap.size w2) _ _) := rep_alloc HRX3.out Z (fun c hc => ⟨by have := hc.2; omega, hc⟩)
      have HB4 : Hid (Below w.heap.size w (w3.alloc Z)) := HB3.out.alloc (by omega) _
      have HS4 : Hid (∀ c, New w1.heap.size w2 c → c < (w3.alloc Z).heap.size) := fun c hc => by have := hc.2; simp; omega
      subst hZ
      clear hb3
      go_wp2_with fail
      refine (put_ok (.mk xn xt xs0 xl) _ _ _ s.length (by omega) HRX4.out HS4.out HZX.out).mono ?_
      rintro _ w5 ⟨rfl, hb5⟩
      rw [HWX.out]
      have HBX5 := Lib.hid ((hb5.block w2.heap.size (by simp; omega)).trans HBX4.out)
      have HRX5 := Lib.hid (rep_below HRX4.out hb5 HS4.out)
      have HB5 := Lib.hid (HB4.out.trans (hb5.mono HB4.out.size))
      have HS5 : Hid (∀ c, New w1.heap.size w2 c → c < w5.heap.size) := fun c hc => by have := HS4.out c hc; have := hb5.size; omega
      obtain ⟨q0, q1, q2, q3⟩ := cell4 HBX5.out
      clear hb5
      go_wp2_with fail
      refine (valid_any (.mk xn xt xs0 xl) _ _ _ (by omega) HRX5.out HS5.out).mono ?_
      rintro _ w6 ⟨rfl, hb6⟩
      rw [HZX.out]
      simp only [Option.isSome_some]
      have HB6 := Lib.hid (HB5.out.trans (hb6.mono HB5.out.size))
      clear hb6
      go_wp2
      go_ret
      exact ⟨rfl, HB6.out⟩
    · obtain ⟨hwy, hzy⟩ := gt_ok ht
      have hst : eqB x y = (s == t) := by
        by_cases h : s = t
        · have hxy : x = y := by
            have h1 := HS.out
            rw [h, ht] at h1
            injection h1 with h1
            exact h1.symm
          rw [eqB_true.2 hxy]
          simp [h]
        · rw [eqB_false.2 (fun e => h (by rw [← HWX.out, ← hwy, e]))]
          simp [h]
      have HST := Lib.hid hst
      have HT := Lib.hid ht
      clear ht hst hwy hzy
      go_enter Try.func5, Try.ntmps5
      go_wp2_with fail
      refine (works_any _).mono ?_
      rintro _ w1 ⟨rfl, hb1⟩
      go_wp2_with fail
      refine (get_ok s _ x (by omega) HS.out).mono ?_
      rintro _ w2 ⟨v0, v1, v2, v3, rfl, hrx, hb2⟩
      obtain ⟨xn, xt, xs0, xl⟩ := x
      have hrx0 := hrx
      obtain ⟨A, ca, hv, _⟩ := rep_mk.1 hrx
      injection hv with hv
      simp at hv
      obtain ⟨rfl, rfl, rfl, rfl⟩ := hv
      obtain ⟨X, hX⟩ : ∃ X, X = Obj.cells #[.bool xn, .int .i64 xt, .string ⟨⟨xs0⟩⟩, .slice A xl.length ca] 24 := ⟨_, rfl⟩
      have HBX : Hid ((w2.alloc X).heap[w2.heap.size]? = some X) := heap_alloc_new w2 X
      have HRX2 : Hid (Rep (w2.alloc X) (New w1.heap.size w2) (.mk xn xt xs0 xl) (.agg #[.bool xn, .int .i64 xt, .string ⟨⟨xs0⟩⟩, .slice A xl.length ca])) := rep_alloc hrx0 _ (fun c hc => ⟨hc.2, hc⟩)
      have HB2 : Hid (Below w.heap.size w (w2.alloc X)) := (hb1.trans (hb2.mono hb1.size)).alloc (by have := hb1.size; have := hb2.size; omega) _
      have hws : w.heap.size ≤ w2.heap.size := by have := hb1.size; have := hb2.size; omega
      subst hX
      clear hrx hrx0 hb1 hb2
      go_wp2_with fail
      refine (get_ok t _ y (by omega) HT.out).mono ?_
      rintro _ w3 ⟨u0, u1, u2, u3, rfl, hry, hb3⟩
      obtain ⟨yn, yt, ys0, yl⟩ := y
      have hry0 := hry
      obtain ⟨B, cb, hv, _⟩ := rep_mk.1 hry
      injection hv with hv
      simp at hv
      obtain ⟨rfl, rfl, rfl, rfl⟩ := hv
      have hs3 := hb3.size
      simp at hs3
      have HBX3 := Lib.hid ((hb3.block w2.heap.size (by simp)).trans HBX.out)
      have HRX3 := Lib.hid (rep_below HRX2.out hb3 (fun c hc => by have := hc.2; simp; omega))
      have HB3 := Lib.hid (HB2.out.trans (hb3.mono HB2.out.size))
      obtain ⟨q0, q1, q2, q3⟩ := cell4 HBX3.out
      have hlt3 : w2.heap.size < w3.heap.size := by omega
      obtain ⟨T, hT⟩ : ∃ T, T = New (w2.alloc (.cells #[.bool xn, .int .i64 xt, .string ⟨⟨xs0⟩⟩, .slice A xl.length ca] 24)).heap.size w3 := ⟨_, rfl⟩
      rw [← hT] at hry0
      have hT3 : ∀ c, T c → c < w3.heap.size := fun c hc => by rw [hT] at hc; exact hc.2
      obtain ⟨Z, hZ⟩ : ∃ Z, Z = Obj.cells #[.bool yn, .int .i64 yt, .string ⟨⟨ys0⟩⟩, .slice B yl.length cb] 24 := ⟨_, rfl⟩
      have HBX4 : Hid ((w3.alloc Z).heap[w2.heap.size]? = _) := (Below.heap_alloc w3 Z _ hlt3).trans HBX3.out
      have HBY4 : Hid ((w3.alloc Z).heap[w3.heap.size]? = some Z) := heap_alloc_new w3 Z
      have HRX4 : Hid (Rep (w3.alloc Z) (New w1.heap.size w2) _ _) := rep_alloc HRX3.out Z (fun c hc => ⟨by have := hc.2; omega, hc⟩)
      have HRY4 : Hid (Rep (w3.alloc Z) T _ _) := rep_alloc hry0 Z (fun c hc => ⟨hT3 c hc, hc⟩)
      have HB4 : Hid (Below w.heap.size w (w3.alloc Z)) := HB3.out.alloc (by omega) _
      have HS4 : Hid (∀ c, New w1.heap.size w2 c → c < (w3.alloc Z).heap.size) := fun c hc => by have := hc.2; simp; omega
      have HT4 : Hid (∀ c, T c → c < (w3.alloc Z).heap.size) := fun c hc => by have := hT3 c hc; simp; omega
      subst hZ
      clear hb3 hT hry hry0 hT3
      go_wp2_with fail
      refine (put_ok (.mk xn xt xs0 xl) _ _ _ s.length (by omega) HRX4.out HS4.out HZX.out).mono ?_
      rintro _ w5 ⟨rfl, hb5⟩
      rw [HWX.out]
      have hs5 := hb5.size
      simp at hs5
      have HBX5 := Lib.hid ((hb5.block w2.heap.size (by simp; omega)).trans HBX4.out)
      have HBY5 := Lib.hid ((hb5.block w3.heap.size (by simp)).trans HBY4.out)
      have HRX5 := Lib.hid (rep_below HRX4.out hb5 HS4.out)
      have HRY5 := Lib.hid (rep_below HRY4.out hb5 HT4.out)
      have HB5 := Lib.hid (HB4.out.trans (hb5.mono HB4.out.size))
      have HS5 : Hid (∀ c, New w1.heap.size w2 c → c < w5.heap.size) := fun c hc => by have := HS4.out c hc; have := hb5.size; omega
      have HT5 : Hid (∀ c, T c → c < w5.heap.size) := fun c hc => by have := HT4.out c hc; have := hb5.size; omega
      clear hb5 q0 q1 q2 q3
      obtain ⟨q0, q1, q2, q3⟩ := cell4 HBX5.out
      go_wp2_with fail
      refine (valid_any (.mk xn xt xs0 xl) _ _ _ (by omega) HRX5.out HS5.out).mono ?_
      rintro _ w6 ⟨rfl, hb6⟩
      rw [HZX.out]
      simp only [Option.isSome_some]
      have HB6 := Lib.hid (HB5.out.trans (hb6.mono HB5.out.size))
      have HBX6 := Lib.hid ((hb6.block w2.heap.size (by omega)).trans HBX5.out)
      have HBY6 := Lib.hid ((hb6.block w3.heap.size (by omega)).trans HBY5.out)
      have HRX6 := Lib.hid (rep_below HRX5.out hb6 HS5.out)
      have HRY6 := Lib.hid (rep_below HRY5.out hb6 HT5.out)
      have HS6 : Hid (∀ c, New w1.heap.size w2 c → c < w6.heap.size) := fun c hc => by have := HS5.out c hc; have := hb6.size; omega
      have HT6 : Hid (∀ c, T c → c < w6.heap.size) := fun c hc => by have := HT5.out c hc; have := hb6.size; omega
      clear hb6 q0 q1 q2 q3
      obtain ⟨q0, q1, q2, q3⟩ := cell4 HBX6.out
      obtain ⟨p0, p1, p2, p3⟩ := cell4 HBY6.out
      go_wp2_with fail
      refine (Same_any (.mk xn xt xs0 xl) (.mk yn yt ys0 yl) _ _ _ _ _ (by omega) HRX6.out HRY6.out HS6.out HT6.out).mono ?_
      rintro _ w7 ⟨rfl, hb7⟩
      rw [HST.out]
      have HB7 := Lib.hid (HB6.out.trans (hb7.mono HB6.out.size))
      clear hb7
      go_wp2
      go_ret
      exact ⟨rfl, HB7.out⟩
end Go.Proofs.Ytmjpjbnaahdcmaa
