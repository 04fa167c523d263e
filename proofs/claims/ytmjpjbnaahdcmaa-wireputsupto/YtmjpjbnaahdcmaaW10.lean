import Derived.Test.YtmjpjbnaahdcmaaW9
namespace Go.Proofs.Ytmjpjbnaahdcmaa
open Go.RowKit
open Wr

set_option maxHeartbeats 1000000 in
set_option maxRecDepth 100000 in
theorem equalFunc_len (n m : Nat) (f : Value) (A B : Option Addr) (ca cb : Nat) (w : World) (hlm : n ≠ m) :
    Calls Try.prog 29 #[.slice A n ca, .slice B m cb, f] w fun e w' => e = .returned (.bool false) ∧ Below w.heap.size w w' := by
  have h : ((n : Int) != (m : Int)) = true := by simp; omega
  have H := Lib.hid hlm
  clear hlm
  go_enter Try.func29, Try.ntmps29
  go_wp2
  go_ret
  exact ⟨rfl, Below.refl _ _⟩

theorem str_ne {s s' : List UInt8} (h : s ≠ s') : (!s == s') = true ∧ (s == s') = false := by simp [h]

set_option maxHeartbeats 2000000 in
set_option maxRecDepth 100000 in
theorem same_any : ∀ x, SameSaid x := It.ind (by
  intro n t s l ih y d di S T vx vy w hdi hd hrx hry hS hT
  obtain ⟨n', t', s', l'⟩ := y
  obtain ⟨A, ca, rfl, ha⟩ := rep_mk.1 hrx
  obtain ⟨B, cb, rfl, hb⟩ := rep_mk.1 hry
  rw [bk] at hd
  have hll := bks_len l
  have hdi1 : 0 ≤ di ∧ di ≤ 65536 := by omega
  obtain ⟨R, hR⟩ : ∃ R, R = eqB (.mk n t s l) (.mk n' t' s' l') := ⟨_, rfl⟩
  rw [← hR]
  have HR := Lib.hid hR
  have HD := Lib.hid hdi
  clear hR hdi hrx hry
  obtain ⟨X, hX⟩ : ∃ X, X = Obj.cells #[.bool n, .int .i64 t, .string ⟨⟨s⟩⟩, .slice A l.length ca] 24 := ⟨_, rfl⟩
  obtain ⟨Y, hY⟩ : ∃ Y, Y = Obj.cells #[.bool n', .int .i64 t', .string ⟨⟨s'⟩⟩, .slice B l'.length cb] 24 := ⟨_, rfl⟩
  have HBL : Hid (Below w.heap.size w ((w.alloc X).alloc Y)) := ((Below.refl _ _).alloc (Nat.le_refl _) _).alloc (by simp) _
  have HA : Hid (Row ((w.alloc X).alloc Y) S l A) := row_keep (fun _ h => h) (fun c o hc => HBL.out.cell (p := ⟨c, o, none⟩) (hS c hc)) ha
  have HB : Hid (Row ((w.alloc X).alloc Y) T l' B) := row_keep (fun _ h => h) (fun c o hc => HBL.out.cell (p := ⟨c, o, none⟩) (hT c hc)) hb
  have HSW : Hid (∀ c, S c → c < ((w.alloc X).alloc Y).heap.size) := fun c hc => by have := hS c hc; simp; omega
  have HTW : Hid (∀ c, T c → c < ((w.alloc X).alloc Y).heap.size) := fun c hc => by have := hT c hc; simp; omega
  have HIH := Lib.hid ih
  subst hX hY
  clear ih ha hb hS hT
  by_cases h1 : n = n'
  · subst h1
    have hn1 : (n != n) = false := by simp
    by_cases h2 : t = t'
    · subst h2
      by_cases h3 : s = s'
      · subst h3
        by_cases h4 : l.length = l'.length
        · have HF : Hid (R = @decide (l = l') (Classical.propDecidable _)) := by
            show _ = _
            rw [HR.out]
            by_cases h : l = l'
            · subst h
              rw [eqB_true.2 rfl]
              exact (@decide_eq_true _ (Classical.propDecidable _) rfl).symm
            · rw [eqB_false.2 (fun e => h (by injection e))]
              exact (@decide_eq_false _ (Classical.propDecidable _) h).symm
          have H4 := Lib.hid h4
          clear h4
          go_enter Try.func23, Try.ntmps23
          go_wp2_with fail
          refine (equalFunc_any l l' HIH.out (d + 1) _ S T A B _ _ _ (by have := HD.out; omega) (by omega) HA.out HB.out HSW.out HTW.out H4.out).mono ?_
          rintro _ w1 ⟨rfl, hb1⟩
          rw [← HF.out]
          go_wp2
          go_ret
          exact ⟨rfl, HBL.out.trans (hb1.mono (by simp; omega))⟩
        · have HF : Hid (R = false) := by
            show _ = _
            rw [HR.out]
            exact eqB_false.2 (fun e => h4 (by injection e with _ _ _ e; rw [e]))
          have H4 := Lib.hid h4
          clear h4
          go_enter Try.func23, Try.ntmps23
          go_wp2_with fail
          refine (equalFunc_len l.length l'.length _ A B _ _ _ H4.out).mono ?_
          rintro _ w1 ⟨rfl, hb1⟩
          go_wp2
          go_ret
          exact ⟨by rw [HF.out]; rfl, HBL.out.trans (hb1.mono (by simp; omega))⟩
      · have HF : Hid (R = false) := by
          show _ = _
          rw [HR.out]
          exact eqB_false.2 (fun e => h3 (by injection e))
        obtain ⟨hs3, hs4⟩ := str_ne h3
        have H3 := Lib.hid h3
        clear h3
        go_enter Try.func23, Try.ntmps23
        go_wp2
        go_ret
        exact ⟨by rw [HF.out]; rfl, HBL.out⟩
    · have HF : Hid (R = false) := by
        show _ = _
        rw [HR.out]
        exact eqB_false.2 (fun e => h2 (by injection e))
      have hs3 : (t != t') = true := by simp [h2]
      have H2 := Lib.hid h2
      clear h2
      go_enter Try.func23, Try.ntmps23
      go_wp2
      go_ret
      exact ⟨by rw [HF.out]; rfl, HBL.out⟩
  · have HF : Hid (R = false) := by
      show _ = _
      rw [HR.out]
      exact eqB_false.2 (fun e => h1 (by injection e))
    have hs3 : (n != n') = true := by simp [h1]
    have H1 := Lib.hid h1
    clear h1
    go_enter Try.func23, Try.ntmps23
    go_wp2
    go_ret
    exact ⟨by rw [HF.out]; rfl, HBL.out⟩)

set_option maxHeartbeats 1000000 in
set_option maxRecDepth 100000 in
theorem Same_any (x y : It) (S T : Nat → Prop) (vx vy : Value) (w : World) (hk : bk x ≤ 65536) (hrx : Rep w S x vx) (hry : Rep w T y vy) (hS : ∀ b, S b → b < w.heap.size) (hT : ∀ b, T b → b < w.heap.size) :
    Calls Try.prog 15 #[vx, vy] w fun e w' => e = .returned (.bool (eqB x y)) ∧ Below w.heap.size w w' := by
  obtain ⟨R, hR⟩ : ∃ R, R = eqB x y := ⟨_, rfl⟩
  rw [← hR]
  obtain ⟨n, t, s, l⟩ := x
  obtain ⟨n', t', s', l'⟩ := y
  have hrx0 := hrx
  have hry0 := hry
  obtain ⟨A, ca, rfl, ha⟩ := rep_mk.1 hrx
  obtain ⟨B, cb, rfl, hb⟩ := rep_mk.1 hry
  have HR := Lib.hid hR
  clear hR hrx hry ha hb
  obtain ⟨X, hX⟩ : ∃ X, X = Obj.cells #[.bool n, .int .i64 t, .string ⟨⟨s⟩⟩, .slice A l.length ca] 24 := ⟨_, rfl⟩
  obtain ⟨Y, hY⟩ : ∃ Y, Y = Obj.cells #[.bool n', .int .i64 t', .string ⟨⟨s'⟩⟩, .slice B l'.length cb] 24 := ⟨_, rfl⟩
  have HBL : Hid (Below w.heap.size w ((w.alloc X).alloc Y)) := ((Below.refl _ _).alloc (Nat.le_refl _) _).alloc (by simp) _
  have HA : Hid (Rep ((w.alloc X).alloc Y) S (.mk n t s l) (.agg #[.bool n, .int .i64 t, .string ⟨⟨s⟩⟩, .slice A l.length ca])) := rep_keep (fun _ h => h) (fun c o hc => HBL.out.cell (p := ⟨c, o, none⟩) (hS c hc)) _ _ hrx0
  have HB : Hid (Rep ((w.alloc X).alloc Y) T (.mk n' t' s' l') (.agg #[.bool n', .int .i64 t', .string ⟨⟨s'⟩⟩, .slice B l'.length cb])) := rep_keep (fun _ h => h) (fun c o hc => HBL.out.cell (p := ⟨c, o, none⟩) (hT c hc)) _ _ hry0
  have HSW : Hid (∀ c, S c → c < ((w.alloc X).alloc Y).heap.size) := fun c hc => by have := hS c hc; simp; omega
  have HTW : Hid (∀ c, T c → c < ((w.alloc X).alloc Y).heap.size) := fun c hc => by have := hT c hc; simp; omega
  subst hX hY
  clear hS hT hrx0 hry0
  go_enter Try.func15, Try.ntmps15
  go_wp2_with fail
  refine (same_any (.mk n t s l) (.mk n' t' s' l') 0 0 S T _ _ _ rfl (by omega) HA.out HB.out HSW.out HTW.out).mono ?_
  rintro _ w1 ⟨rfl, hb1⟩
  rw [← HR.out]
  go_wp2
  go_ret
  exact ⟨rfl, HBL.out.trans (hb1.mono (by simp; omega))⟩
end Go.Proofs.Ytmjpjbnaahdcmaa
