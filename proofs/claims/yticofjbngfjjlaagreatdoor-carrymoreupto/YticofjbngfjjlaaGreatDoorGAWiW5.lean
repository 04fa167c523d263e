import Derived.Test.YticofjbngfjjlaaGreatDoorGAWiW4
import Derived.Test.YticofjbngfjjlaaGreatDoorGATmQ
import Derived.Test.YticofjbngfjjlaaGreatDoorGAAePureC
import Derived.Test.YticofjbngfjjlaaGreatDoorGATmW8
namespace Go.Proofs.YticofjbngfjjlaaGreatDoor.Wi
open Go.RowKit
open Wr

theorem below_set4 {B g : Nat} {a w : World} {v0 v1 v2 v3 : Value} (h : Below B a w) (hg : B ≤ g) : Below B a ((((w.setCell ⟨g, 0, none⟩ v0).setCell ⟨g, 1, none⟩ v1).setCell ⟨g, 2, none⟩ v2).setCell ⟨g, 3, none⟩ v3) :=
  (((h.setCell (p := ⟨g, 0, none⟩) hg _).setCell (p := ⟨g, 1, none⟩) hg _).setCell (p := ⟨g, 2, none⟩) hg _).setCell (p := ⟨g, 3, none⟩) hg _

theorem heap_set4 {g k : Nat} {w : World} {v0 v1 v2 v3 : Value} (h : k ≠ g) : ((((w.setCell ⟨g, 0, none⟩ v0).setCell ⟨g, 1, none⟩ v1).setCell ⟨g, 2, none⟩ v2).setCell ⟨g, 3, none⟩ v3).heap[k]? = w.heap[k]? := by
  rw [Below.heap_setCell _ _ _ _ h, Below.heap_setCell _ _ _ _ h, Below.heap_setCell _ _ _ _ h, Below.heap_setCell _ _ _ _ h]

theorem size_set4 {g : Nat} {w : World} {v0 v1 v2 v3 : Value} : ((((w.setCell ⟨g, 0, none⟩ v0).setCell ⟨g, 1, none⟩ v1).setCell ⟨g, 2, none⟩ v2).setCell ⟨g, 3, none⟩ v3).heap.size = w.heap.size := by
  simp [World.setCell]

theorem rep_set4 {g : Nat} {w : World} {S S' : Nat → Prop} {x : It} {v v0 v1 v2 v3 : Value} (h : Rep w S x v) (hS : ∀ b, S b → b ≠ g ∧ S' b) : Rep ((((w.setCell ⟨g, 0, none⟩ v0).setCell ⟨g, 1, none⟩ v1).setCell ⟨g, 2, none⟩ v2).setCell ⟨g, 3, none⟩ v3) S' x v :=
  rep_keep (fun b hb => (hS b hb).2) (fun _ _ hb => World.cell?_of_block (heap_set4 (hS _ hb).1)) _ _ h

theorem rep_alloc {w : World} {S S' : Nat → Prop} {x : It} {v : Value} (h : Rep w S x v) (o : Obj) (hS : ∀ b, S b → b < w.heap.size ∧ S' b) : Rep (w.alloc o) S' x v :=
  rep_keep (fun b hb => (hS b hb).2) (fun b _ hb => World.cell?_of_block (Below.heap_alloc w o b (hS b hb).1)) _ _ h

set_option maxHeartbeats 1000000 in
set_option maxRecDepth 100000 in
theorem first_err (s : List UInt8) (w : World) (x : Int) (hs : s.length ≤ 65536) (hr : rd 33 s 0 = .error x) :
    Calls Tryz.prog 109 #[.string ⟨⟨s⟩⟩] w fun e w' => e = .returned (.tuple #[.agg #[.bool false, .int .i64 0, .string ⟨⟨[]⟩⟩, .slice none 0 0], .int .i64 0, .int .i64 x]) ∧ Below w.heap.size w w' := by
  have HR := Lib.hid hr
  clear hr
  go_enter Tryz.func109, Tryz.ntmps109
  go_wp2_with fail
  refine ((read_all 33).1 0 0 _ _ s _ x rfl rfl rfl hs (by omega) HR.out).mono ?_
  rintro _ w1 ⟨rfl, hb1⟩
  obtain ⟨hc, hf⟩ := bcell hb1
  go_wp2
  refine bodyPost_ret (v := .tuple #[.agg #[.bool false, .int .i64 0, .string ⟨⟨[]⟩⟩, .slice none 0 0], .int .i64 0, .int .i64 x]) (by simp [results, Tryz.results109, go_sem, hc]) rfl ⟨rfl, ?_⟩
  exact below_set4 (((Below.refl _ _).alloc (Nat.le_refl _) _).trans (hb1.mono (by simp))) (Nat.le_refl _)

set_option maxHeartbeats 1000000 in
set_option maxRecDepth 100000 in
theorem first_ok (s : List UInt8) (w : World) (x : It) (n : Nat) (hs : s.length ≤ 65536) (hr : rd 33 s 0 = .ok (x, n)) :
    Calls Tryz.prog 109 #[.string ⟨⟨s⟩⟩] w (ReadPost x n w) := by
  have HR := Lib.hid hr
  clear hr
  go_enter Tryz.func109, Tryz.ntmps109
  go_wp2_with fail
  refine ((read_all 33).2 0 0 _ _ s _ x n rfl rfl rfl hs (by omega) HR.out).mono ?_
  rintro _ w1 ⟨v0, v1, v2, v3, rfl, hrep, hb1⟩
  obtain ⟨xn, xt, xs0, xl⟩ := x
  obtain ⟨A', cap', hv, hrow⟩ := rep_mk.1 hrep
  injection hv with hv
  simp at hv
  obtain ⟨rfl, rfl, rfl, rfl⟩ := hv
  obtain ⟨hc, hf⟩ := bcell hb1
  go_wp2
  refine bodyPost_ret (v := .tuple #[.agg #[.bool xn, .int .i64 xt, .string ⟨⟨xs0⟩⟩, .slice A' xl.length cap'], .int .i64 n, .int .i64 0]) (by simp [results, Tryz.results109, go_sem, hc]) rfl ?_
  refine ⟨_, _, _, _, rfl, rep_set4 hrep ?_, below_set4 (((Below.refl _ _).alloc (Nat.le_refl _) _).trans (hb1.mono (by simp))) (Nat.le_refl _)⟩
  intro b hb
  have h1 := hb.1
  simp at h1
  exact ⟨by omega, by omega, by rw [size_set4]; exact hb.2⟩

/-- What Get answers. -/
def gt (s : List UInt8) : Except Int It :=
  match rd 33 s 0 with
  | .error e => .error e
  | .ok (x, n) => if n < s.length then .error 14 else .ok x

set_option maxHeartbeats 1000000 in
set_option maxRecDepth 100000 in
theorem get_err (s : List UInt8) (w : World) (x : Int) (hs : s.length ≤ 65536) (hr : gt s = .error x) :
    Calls Tryz.prog 73 #[.string ⟨⟨s⟩⟩] w fun e w' => e = .returned (.tuple #[.agg #[.bool false, .int .i64 0, .string ⟨⟨[]⟩⟩, .slice none 0 0], .int .i64 x]) ∧ Below w.heap.size w w' := by
  unfold gt at hr
  cases hrd : rd 33 s 0 with
  | error y =>
    rw [hrd] at hr
    injection hr with hr
    subst hr
    have hee := rd_err _ _ _ _ hrd
    have hne : (y != 0) = true := by simp; omega
    have HR := Lib.hid hrd
    clear hrd
    go_enter Tryz.func73, Tryz.ntmps73
    go_wp2_with fail
    refine (first_err s _ y hs HR.out).mono ?_
    rintro _ w1 ⟨rfl, hb1⟩
    obtain ⟨hc, hf⟩ := bcell hb1
    have hz : w.heap.size < w1.heap.size := by have := hb1.size; simp at this; omega
    go_wp2
    refine bodyPost_ret (v := .tuple #[.agg #[.bool false, .int .i64 0, .string ⟨⟨[]⟩⟩, .slice none 0 0], .int .i64 y]) (by simp [results, Tryz.results73, go_sem, hc, hz]) rfl ⟨rfl, ?_⟩
    exact ((below_set4 (((Below.refl _ _).alloc (Nat.le_refl _) _).trans (hb1.mono (by simp))) (Nat.le_refl _)).alloc (by rw [size_set4]; omega) _)
  | ok p =>
    obtain ⟨y, n⟩ := p
    rw [hrd] at hr
    simp only at hr
    split at hr
    · rename_i hlt
      injection hr with hr
      subst hr
      have hlt' : (n : Int) < (s.length : Int) := by omega
      have HR := Lib.hid hrd
      clear hrd hlt
      go_enter Tryz.func73, Tryz.ntmps73
      go_wp2_with fail
      refine (first_ok s _ y n hs HR.out).mono ?_
      rintro _ w1 ⟨v0, v1, v2, v3, rfl, hrep, hb1⟩
      obtain ⟨xn, xt, xs0, xl⟩ := y
      obtain ⟨A', cap', hv, hrow⟩ := rep_mk.1 hrep
      injection hv with hv
      simp at hv
      obtain ⟨rfl, rfl, rfl, rfl⟩ := hv
      obtain ⟨hc, hf⟩ := bcell hb1
      have hz : w.heap.size < w1.heap.size := by have := hb1.size; simp at this; omega
      go_wp2
      refine bodyPost_ret (v := .tuple #[.agg #[.bool false, .int .i64 0, .string ⟨⟨[]⟩⟩, .slice none 0 0], .int .i64 14]) (by simp [results, Tryz.results73, go_sem, hc, hz]) rfl ⟨rfl, ?_⟩
      exact ((below_set4 (((Below.refl _ _).alloc (Nat.le_refl _) _).trans (hb1.mono (by simp))) (Nat.le_refl _)).alloc (by rw [size_set4]; omega) _)
    · cases hr

/-- What Get leaves where it answers an item. -/
def GetPost (x : It) (w : World) (e : Ending) (w' : World) : Prop :=
  ∃ v0 v1 v2 v3, e = .returned (.tuple #[.agg #[v0, v1, v2, v3], .int .i64 0]) ∧ Rep w' (New w.heap.size w') x (.agg #[v0, v1, v2, v3]) ∧ Below w.heap.size w w'

set_option maxHeartbeats 1000000 in
set_option maxRecDepth 100000 in
theorem get_ok (s : List UInt8) (w : World) (x : It) (hs : s.length ≤ 65536) (hr : gt s = .ok x) :
    Calls Tryz.prog 73 #[.string ⟨⟨s⟩⟩] w (GetPost x w) := by
  unfold gt at hr
  cases hrd : rd 33 s 0 with
  | error y => rw [hrd] at hr; cases hr
  | ok p =>
    obtain ⟨y, n⟩ := p
    rw [hrd] at hr
    simp only at hr
    split at hr
    · cases hr
    · rename_i hge
      injection hr with hr
      subst hr
      have hge' : (s.length : Int) ≤ n := by omega
      have HR := Lib.hid hrd
      clear hrd hge
      go_enter Tryz.func73, Tryz.ntmps73
      go_wp2_with fail
      refine (first_ok s _ y n hs HR.out).mono ?_
      rintro _ w1 ⟨v0, v1, v2, v3, rfl, hrep, hb1⟩
      obtain ⟨xn, xt, xs0, xl⟩ := y
      obtain ⟨A', cap', hv, hrow⟩ := rep_mk.1 hrep
      injection hv with hv
      simp at hv
      obtain ⟨rfl, rfl, rfl, rfl⟩ := hv
      obtain ⟨hc, hf⟩ := bcell hb1
      have hz : w.heap.size < w1.heap.size := by have := hb1.size; simp at this; omega
      go_wp2
      refine bodyPost_ret (v := .tuple #[.agg #[.bool xn, .int .i64 xt, .string ⟨⟨xs0⟩⟩, .slice A' xl.length cap'], .int .i64 0]) (by simp [results, Tryz.results73, go_sem, hc, hz]) rfl ?_
      refine ⟨_, _, _, _, rfl, rep_alloc (S := New w.heap.size w1) (rep_set4 hrep ?_) _ ?_, ((below_set4 (((Below.refl _ _).alloc (Nat.le_refl _) _).trans (hb1.mono (by simp))) (Nat.le_refl _)).alloc (by rw [size_set4]; omega) _)⟩
      · intro b hb
        have h1 := hb.1
        simp at h1
        exact ⟨by omega, by omega, hb.2⟩
      · intro b hb
        exact ⟨by rw [size_set4]; exact hb.2, hb.1, by have := hb.2; simp only [World.size_alloc, size_set4]; omega⟩
end Go.Proofs.YticofjbngfjjlaaGreatDoor.Wi

/- Plain mathematics: what is written is read again, and what is read is written so. -/

namespace Go.Proofs.YticofjbngfjjlaaGreatDoor.Wi
namespace Wr

theorem ofNat_toNat (n : Nat) (h : n < 256) : (UInt8.ofNat n).toNat = n := by simp; omega
theorem dg_lt' {n : Nat} (h : n < 128) : dg n = 1 := by rw [dg, dif_pos h]
theorem dg_ge' {n : Nat} (h : ¬ n < 128) : dg n = dg (n / 128) + 1 := by rw [dg, dif_neg h]
theorem dg_pos (n : Nat) : 1 ≤ dg n := by rw [dg]; split <;> omega
theorem la_lt' {n : Nat} (h : n < 128) : la n = [UInt8.ofNat (n + 128)] := by rw [la, dif_pos h]
theorem la_ge' {n : Nat} (h : ¬ n < 128) : la n = la (n / 128) ++ [UInt8.ofNat (n % 128 + 128)] := by rw [la, dif_neg h]

theorem rl_cons {n k : Nat} {b : UInt8} {r : List UInt8} (h1 : n ≤ 512) (h2 : ¬ (k = 0 ∧ b.toNat = 128)) :
    rl n k (b :: r) = if b.toNat ≥ 128 then rl (n * 128 + b.toNat % 128) (k + 1) r else .ok (n * 128 + b.toNat % 128, k + 1) := by
  rw [rl, if_neg (by omega), if_neg h2]

theorem rl_la : ∀ (m : Nat) (rest : List UInt8), 1 ≤ m → m ≤ 65663 → rl 0 0 (la m ++ rest) = rl m (dg m) rest := by
  intro m
  induction m using Nat.strongRecOn with
  | ind m ih =>
    intro rest h1 h2
    by_cases h : m < 128
    · have hb := ofNat_toNat (m + 128) (by omega)
      rw [la_lt' h, dg_lt' h, List.singleton_append, rl_cons (by omega) (by omega), if_pos (by omega), hb]
      congr 1
      omega
    · have hb := ofNat_toNat (m % 128 + 128) (by omega)
      rw [la_ge' h, dg_ge' h, List.append_assoc, List.singleton_append, ih (m / 128) (by omega) _ (by omega) (by omega)]
      have := dg_pos (m / 128)
      rw [rl_cons (by omega) (by omega), if_pos (by omega), hb]
      congr 1
      omega

theorem rl_lb (n : Nat) (rest : List UInt8) (h : n ≤ 65536) : rl 0 0 (lb n ++ rest) = .ok (n, dg n) := by
  unfold lb
  have hb := ofNat_toNat (n % 128) (by omega)
  by_cases h1 : n < 128
  · rw [if_pos h1, List.nil_append, List.singleton_append, rl_cons (by omega) (by omega), if_neg (by omega), hb, dg_lt' h1]
    congr 2
    omega
  · rw [if_neg h1, List.append_assoc, List.singleton_append, rl_la _ _ (by omega) (by omega)]
    have := dg_pos (n / 128)
    rw [rl_cons (by omega) (by omega), if_neg (by omega), hb, dg_ge' h1]
    congr 2
    omega

theorem rl_la_short : ∀ (m j : Nat), 1 ≤ m → m ≤ 512 → j ≤ dg m → rl 0 0 ((la m).take j) = .error 10 := by
  intro m
  induction m using Nat.strongRecOn with
  | ind m ih =>
    intro j h1 h2 hj
    by_cases hf : j = dg m
    · have hl := la_len m
      rw [hf, ← hl, List.take_length]
      have := rl_la m [] h1 (by omega)
      rw [List.append_nil] at this
      rw [this, rl, if_neg (by omega)]
    · by_cases h : m < 128
      · rw [dg_lt' h] at hj hf
        have : j = 0 := by omega
        subst this
        simp [rl]
      · rw [la_ge' h]
        rw [dg_ge' h] at hj hf
        have hl := la_len (m / 128)
        rw [List.take_append_of_le_length (by omega)]
        exact ih (m / 128) (by omega) j (by omega) (by omega) (by omega)

theorem rl_lb_short (n j : Nat) (h : n ≤ 65536) (hj : j < dg n) : rl 0 0 ((lb n).take j) = .error 10 := by
  unfold lb
  by_cases h1 : n < 128
  · rw [dg_lt' h1] at hj
    have : j = 0 := by omega
    subst this
    simp [rl]
  · rw [if_neg h1]
    rw [dg_ge' h1] at hj
    have hl := la_len (n / 128)
    rw [List.take_append_of_le_length (by omega)]
    exact rl_la_short _ _ (by omega) (by omega) (by omega)

theorem ofNat_eq (b : UInt8) (n : Nat) (h : n = b.toNat) : UInt8.ofNat n = b := by
  subst h
  simp

theorem rl_inv : ∀ (s : List UInt8) (n k m j : Nat), 1 ≤ n → rl n k s = .ok (m, j) → 1 ≤ k → ∃ i, j = k + i ∧ 1 ≤ i ∧ i ≤ s.length ∧ la n ++ s.take i = lb m ∧ dg m = dg n + i
  | [], n, k, m, j, hn, h, hk => by
    rw [rl] at h
    split at h <;> cases h
  | b :: r, n, k, m, j, hn, h, hk => by
    have hb : b.toNat < 256 := UInt8.toNat_lt b
    by_cases h5 : n > 512
    · rw [rl, if_pos h5] at h; cases h
    rw [rl_cons (by omega) (by omega)] at h
    split at h
    · rename_i hge
      obtain ⟨i, hi1, hi2, hi3, hi4, hi5⟩ := rl_inv r _ _ _ _ (by omega) h (by omega)
      have hla : la (n * 128 + b.toNat % 128) = la n ++ [b] := by
        rw [la_ge' (by omega), show (n * 128 + b.toNat % 128) / 128 = n by omega]
        congr 2
        exact ofNat_eq _ _ (by omega)
      have hdg : dg (n * 128 + b.toNat % 128) = dg n + 1 := by
        rw [dg_ge' (by omega), show (n * 128 + b.toNat % 128) / 128 = n by omega]
      refine ⟨i + 1, by omega, by omega, by simp; omega, ?_, by omega⟩
      rw [← hi4, hla]
      simp
    · rename_i hlt
      injection h with h
      injection h with h1 h2
      refine ⟨1, by omega, by omega, by simp, ?_, ?_⟩
      · subst h1
        unfold lb
        rw [if_neg (by omega), show (n * 128 + b.toNat % 128) / 128 = n by omega]
        simp only [List.take_succ_cons, List.take_zero]
        congr 2
        exact (ofNat_eq _ _ (by omega)).symm
      · subst h1
        rw [dg_ge' (by omega), show (n * 128 + b.toNat % 128) / 128 = n by omega]

theorem rl_back {s : List UInt8} {m j : Nat} (h : rl 0 0 s = .ok (m, j)) : j ≤ s.length ∧ s.take j = lb m ∧ j = dg m := by
  cases s with
  | nil => rw [rl] at h; split at h <;> cases h
  | cons b r =>
    have hb : b.toNat < 256 := UInt8.toNat_lt b
    by_cases h0 : b.toNat = 128
    · rw [rl, if_neg (by omega), if_pos ⟨rfl, h0⟩] at h; cases h
    rw [rl_cons (by omega) (by omega)] at h
    split at h
    · rename_i hge
      obtain ⟨i, hi1, hi2, hi3, hi4, hi5⟩ := rl_inv r _ _ _ _ (by omega) h (by omega)
      have hla : la (0 * 128 + b.toNat % 128) = [b] := by
        rw [la_lt' (by omega)]
        congr 1
        exact ofNat_eq _ _ (by omega)
      have hdg : dg (0 * 128 + b.toNat % 128) = 1 := dg_lt' (by omega)
      refine ⟨by simp; omega, ?_, by omega⟩
      rw [← hi4, hla, hi1, Nat.add_comm, Nat.zero_add, List.take_succ_cons]
      rfl
    · rename_i hlt
      injection h with h
      injection h with h1 h2
      subst h1 h2
      refine ⟨by simp, ?_, ?_⟩
      · unfold lb
        rw [if_pos (by omega)]
        simp only [List.take_succ_cons, List.take_zero, List.nil_append, Nat.zero_add]
        congr 1
        exact (ofNat_eq _ _ (by omega)).symm
      · exact (dg_lt' (by omega)).symm

theorem tb_toNat (n : Bool) (t : Int) (h1 : 1 ≤ t) (h2 : t < 128) : ((tb n t).toNat : Int) = if n then t + 128 else t := by
  unfold tb
  cases n <;> simp <;> omega

theorem tb_of (b : UInt8) : tb (decide (b.toNat ≥ 128)) ((b.toNat % 128 : Nat) : Int) = b := by
  have hb : b.toNat < 256 := UInt8.toNat_lt b
  unfold tb
  apply ofNat_eq
  by_cases h : b.toNat ≥ 128
  · simp [h]; omega
  · simp [h]; omega

theorem rda_back {f d : Nat} (ih : ∀ s a x n, rd f s a = .ok (x, n) → wr x = s.take n ∧ sz x d = some n) :
    ∀ (g : Nat) (s : List UInt8) (a : Nat) (l : List It), rda (rd f) g s a = .ok l → wrs l = s ∧ ∀ acc, acc + s.length ≤ 65536 → szs l d acc = some (acc + s.length)
  | g, [], a, l, h => by
    rw [rda_nil] at h
    injection h with h
    subst h
    exact ⟨wrs_nil, fun acc _ => by rw [szs]; rfl⟩
  | 0, b :: s, a, l, h => by rw [rda] at h; cases h
  | g + 1, b :: s, a, l, h => by
    rw [rda] at h
    split at h
    · cases h
    · rename_i x n hx
      split at h
      · cases h
      · rename_i l' hl'
        injection h with h
        subst h
        obtain ⟨h1, h2⟩ := ih _ _ _ _ hx
        have hbd := rd_bound hx
        obtain ⟨h3, h4⟩ := rda_back ih g _ _ _ hl'
        refine ⟨by rw [wrs_cons, h1, h3, List.take_append_drop], fun acc hacc => ?_⟩
        have hld : ((b :: s).drop n).length + n = (b :: s).length := by rw [List.length_drop]; omega
        rw [szs, h2]
        simp only
        rw [if_neg (by omega), h4 (acc + n) (by omega)]
        congr 1
        omega

theorem rd_back : ∀ (f d : Nat) (s : List UInt8) (a : Nat) (x : It) (n : Nat), d + f = 33 → rd f s a = .ok (x, n) → wr x = s.take n ∧ sz x d = some n
  | 0, _, _, _, _, _, _, h => by rw [rd] at h; cases h
  | _ + 1, _, [], _, _, _, _, h => by rw [rd] at h; cases h
  | f + 1, d, b :: r, a, x, n, hd, h => by
    have hb : b.toNat < 256 := UInt8.toNat_lt b
    rw [rd] at h
    split at h
    · cases h
    rename_i h0
    split at h
    · cases h
    rename_i m k hr
    obtain ⟨hk1, hk2, hk3⟩ := rl_back hr
    have hbd := rl_bound _ _ _ _ _ hr
    split at h
    · cases h
    rename_i hlong
    split at h
    · cases h
    rename_i hshort
    have hml : ((r.drop k).take m).length = m := by simp; omega
    have htb := tb_of b
    split at h
    · rename_i hlt
      injection h with h
      injection h with h1 h2
      subst h1 h2
      have hdec : decide (b.toNat ≥ 128) = false := by simp; omega
      rw [hdec] at htb
      refine ⟨?_, ?_⟩
      · rw [wr_mk, wrs_nil, List.append_nil, hml, htb, ← hk2, Nat.add_assoc, Nat.add_comm 1, List.take_succ_cons, List.take_add]
      · rw [sz, if_neg (by omega)]
        simp only [if_true, List.length_nil, hml]
        rw [if_neg (by omega)]
        congr 1
        omega
    · rename_i hge
      split at h
      · cases h
      · rename_i l hl
        injection h with h
        injection h with h1 h2
        subst h1 h2
        obtain ⟨h3, h4⟩ := rda_back (d := d + 1) (fun s a x n hx => rd_back f (d + 1) s a x n (by omega) hx) _ _ _ _ hl
        have hdec : decide (b.toNat ≥ 128) = true := by simp; omega
        rw [hdec] at htb
        refine ⟨?_, ?_⟩
        · rw [wr_mk, h3, List.nil_append, hml, htb, ← hk2, Nat.add_assoc, Nat.add_comm 1, List.take_succ_cons, List.take_add]
        · rw [sz, if_neg (by omega)]
          have h5 := h4 0 (by omega)
          rw [hml, Nat.zero_add] at h5
          simp only [List.length_nil, if_true, h5]
          simp
          omega

theorem rda_wr {f d : Nat} : ∀ (l : List It) (g a acc b : Nat), (∀ x ∈ l, ∀ (m a : Nat) (rest : List UInt8), sz x d = some m → a + m ≤ 65536 → rd f (wr x ++ rest) a = .ok (x, m)) → szs l d acc = some b → (wrs l).length ≤ g → a + (wrs l).length ≤ 65536 → rda (rd f) g (wrs l) a = .ok l
  | [], g, a, acc, b, _, _, _, _ => by rw [wrs_nil, rda_nil]
  | x :: r, g, a, acc, b, hx, hs, hg, ha => by
    obtain ⟨m, hm, _, hr⟩ := szs_cons hs
    have hlen := sz_len x d m hm
    have hp := wr_pos x
    rw [wrs_cons] at hg ha ⊢
    simp only [List.length_append] at hg ha
    obtain ⟨g', rfl⟩ : ∃ g', g = g' + 1 := ⟨g - 1, by omega⟩
    have h1 := hx x (by simp) m a (wrs r) hm (by omega)
    have h2 := rda_wr r g' (a + m) _ b (fun y hy => hx y (by simp [hy])) hr (by omega) (by omega)
    have hd : (wr x ++ wrs r).drop m = wrs r := by rw [← hlen]; exact List.drop_left
    cases hw : wr x ++ wrs r with
    | nil =>
      have := congrArg List.length hw
      rw [List.length_append, List.length_nil] at this
      omega
    | cons c t =>
      rw [hw] at h1 hd
      rw [rda_ok h1, hd, h2]
      rfl

theorem rd_wr : ∀ (x : It) (f d m a : Nat) (rest : List UInt8), d + f = 33 → sz x d = some m → a + m ≤ 65536 → rd f (wr x ++ rest) a = .ok (x, m) := It.ind (by
  intro n t s l ih f d m a rest hd hz ha
  obtain ⟨hd32, ht1, ht2, hm, hc⟩ := sz_some hz
  have hlen := sz_len _ _ _ hz
  obtain ⟨f', rfl⟩ : ∃ f', f = f' + 1 := ⟨f - 1, by omega⟩
  rw [wr_mk] at hlen ⊢
  have htn := tb_toNat n t ht1 ht2
  generalize hbody : s ++ wrs l = body at *
  have hm2 : m = 1 + dg body.length + body.length := by
    rw [← hlen]; simp [lb_len]; omega
  rw [List.cons_append, List.append_assoc, rd, if_neg (by cases n <;> simp at htn <;> omega), rl_lb _ _ (by omega)]
  simp only
  have hdrop : (lb body.length ++ (body ++ rest)).drop (dg body.length) = body ++ rest := by rw [← lb_len]; exact List.drop_left
  rw [if_neg (by omega), if_neg (by simp [lb_len]), hdrop, List.take_left]
  rcases hc with ⟨rfl, rfl, _⟩ | ⟨rfl, rfl, b, hb, _⟩
  · rw [wrs_nil, List.append_nil] at hbody
    subst hbody
    simp at htn
    rw [if_pos (by omega), show ((tb false t).toNat % 128 : Nat) = t.toNat by omega, show ((t.toNat : Nat) : Int) = t by omega]
    congr 2
    omega
  · rw [List.nil_append] at hbody
    subst hbody
    simp at htn
    rw [if_neg (by omega), rda_wr l _ _ 0 b (fun y hy m a rest hz ha => ih y hy f' (d + 1) m a rest (by omega) hz ha) hb (Nat.le_refl _) (by omega)]
    simp only
    rw [show ((tb true t).toNat % 128 : Nat) = t.toNat by omega, show ((t.toNat : Nat) : Int) = t by omega]
    congr 2
    omega)

theorem rd_short (x : It) (f d m a cut : Nat) (hd : d + f = 33) (hz : sz x d = some m) (ha : a + m ≤ 65536) (hc : cut < m) : rd f ((wr x).take cut) a = .error 10 := by
  obtain ⟨n, t, s, l⟩ := x
  obtain ⟨hd32, ht1, ht2, hm, _⟩ := sz_some hz
  have hlen := sz_len _ _ _ hz
  obtain ⟨f', rfl⟩ : ∃ f', f = f' + 1 := ⟨f - 1, by omega⟩
  rw [wr_mk] at hlen ⊢
  have htn := tb_toNat n t ht1 ht2
  generalize hbody : s ++ wrs l = body at *
  have hm2 : m = 1 + dg body.length + body.length := by
    rw [← hlen]; simp [lb_len]; omega
  cases cut with
  | zero => rw [List.take_zero, rd]
  | succ c =>
    rw [List.take_succ_cons, rd, if_neg (by cases n <;> simp at htn <;> omega)]
    by_cases h1 : c < dg body.length
    · rw [List.take_append_of_le_length (by rw [lb_len]; omega), rl_lb_short _ _ (by omega) h1]
    · have ht : (lb body.length ++ body).take c = lb body.length ++ body.take (c - dg body.length) := by
        rw [List.take_append, lb_len, List.take_of_length_le (by rw [lb_len]; omega)]
      rw [ht, rl_lb _ _ (by omega)]
      simp only
      rw [if_neg (by omega), if_pos (by simp [lb_len]; omega)]

theorem wr_inj {x y : It} {d m k : Nat} (hd : d ≤ 33) (hx : sz x d = some m) (hy : sz y d = some k) (h : wr x = wr y) : x = y := by
  have h0 : m ≤ 65536 := by cases x; exact (sz_some hx).2.2.2.1
  have h0' : k ≤ 65536 := by cases y; exact (sz_some hy).2.2.2.1
  have h1 := rd_wr x (33 - d) d m 0 [] (by omega) hx (by omega)
  have h2 := rd_wr y (33 - d) d k 0 [] (by omega) hy (by omega)
  rw [h] at h1
  rw [h1] at h2
  injection h2 with h2
  injection h2
end Wr
end Go.Proofs.YticofjbngfjjlaaGreatDoor.Wi

/- Plain mathematics of unpacking: what term an item is, to one who has some keys. No program in here. (Laid with NS=1.) -/

namespace Go.Proofs.YticofjbngfjjlaaGreatDoor.Cy
open Go.RowKit
open Te.Tt
open Wi.Wr (It wr wrs)

/-- Bytes as a number. -/
def rv (s : List UInt8) : Nat := s.foldl (fun n b => (n * 256 + b.toNat) % 18446744073709551616) 0
def rn (s : List UInt8) : Int := wrap64 ((rv s : Nat) : Int)

/-- The first key whose bytes fit. -/
def fnd (c : List UInt8) (p : List UInt8 → Bool) (ks : List Tm) : Option Tm := ks.find? fun k => p (kb c k.s k.n)

def lst (R : It → Except Int Tm) : List It → Except Int (List Tm)
  | [] => .ok []
  | x :: r => match R x with
    | .error e => .error e
    | .ok t => match lst R r with
      | .error e => .error e
      | .ok l => .ok (t :: l)

def isLf (t : Int) : It → Bool
  | .mk nd tg _ _ => !nd && tg == t
def ist : It → List UInt8
  | .mk _ _ s _ => s
/-- A sum's use, and whether its items are those of a sum. -/
def smu : List It → Option Int
  | [x, _, z] => if isLf 2 x && isLf 7 z && decide ((ist x).length = 8) && decide (1 ≤ rn (ist x)) && decide (rn (ist x) ≤ 255) then some (rn (ist x)) else none
  | _ => none

/-- The term of an item, by what those in it are. -/
def uno (c : List UInt8) (ks : List Tm) (U : It → Except Int Tm) : It → Except Int Tm
  | .mk nd t s l =>
    if nd = true then
      if t = 4 then if 64 < l.length then .error 13 else
        match lst U l with
        | .error e => .error e
        | .ok r => .ok (.mk 3 [] 0 r)
      else if t = 6 then
        match smu l with
        | none => .error 13
        | some u => match U (snd l) with
          | .error e => .error e
          | .ok x => match fnd c (fun b => decide (Sl.chk b u (wr (snd l)) = ist (l.getD 2 (leaf 0 [])))) ks with
            | none => .error 62
            | some k => .ok (.mk 5 [] u [k, x])
      else .error 13
    else if t = 1 then if isName s = true then .ok (.mk 0 s 0 []) else .error 13
    else if t = 2 then if s.length = 8 then .ok (.mk 1 [] (rn s) []) else .error 13
    else if t = 3 then
      match fnd c (fun b => decide (b = s)) ks with
      | none => .error 21
      | some k => .ok k
    else if t = 5 then
      match s with
      | [] => .error 13
      | u :: r => if u.toNat < 1 then .error 13 else
        match fnd c (fun b => decide ((Sl.opn b (u.toNat : Nat) r).2 = 0)) ks with
        | none => .error 20
        | some k => match Wi.gt (Sl.opn (kb c k.s k.n) (u.toNat : Nat) r).1 with
          | .error e => .error e
          | .ok y => match U y with
            | .error e => .error e
            | .ok x => .ok (.mk 4 [] (u.toNat : Nat) [k, x])
    else .error 13
/-- The term of an item that stands in 17 - f others. -/
def un (c : List UInt8) (ks : List Tm) : Nat → It → Except Int Tm
  | 0 => fun _ => .error 12
  | f + 1 => uno c ks (un c ks f)
theorem un_zero (c : List UInt8) (ks : List Tm) (x : It) : un c ks 0 x = .error 12 := rfl
theorem un_succ (c : List UInt8) (ks : List Tm) (f : Nat) (x : It) : un c ks (f + 1) x = uno c ks (un c ks f) x := rfl
/-- The term that a text is. -/
def unt (c : List UInt8) (ks : List Tm) (f : Nat) (s : List UInt8) : Except Int Tm :=
  match Wi.gt s with
  | .error e => .error e
  | .ok y => un c ks f y

/-! ### How long -/
/-- Whatever is in an item is short. -/
def Sh9 (x : It) : Prop := ∃ e m, Wi.Wr.sz x e = some m ∧ m ≤ 9000
theorem sh9_get {s : List UInt8} {x : It} (hs : s.length ≤ 9000) (h : Wi.gt s = .ok x) : Sh9 x := by
  unfold Wi.gt at h
  cases hr : Wi.Wr.rd 33 s 0 with
  | error e => rw [hr] at h; cases h
  | ok p =>
    obtain ⟨y, n⟩ := p
    rw [hr] at h
    simp only at h
    split at h
    · cases h
    · injection h with h
      subst h
      have h1 := (Wi.Wr.rd_back 33 0 s 0 _ n rfl hr).2
      have h2 := (Wi.Wr.rd_bound hr).2.1
      exact ⟨0, n, h1, by omega⟩
theorem szs_le_of : ∀ (l : List It) (d a b : Nat), Wi.Wr.szs l d a = some b → ∀ y ∈ l, ∃ m, Wi.Wr.sz y d = some m ∧ a + m ≤ b
  | [], _, _, _, _, y, hy => by simp at hy
  | x :: r, d, a, b, h, y, hy => by
    obtain ⟨m, h1, _, h3⟩ := Wi.Wr.szs_cons h
    have hlen := Wi.Wr.szs_len _ _ _ _ h3
    rcases List.mem_cons.1 hy with rfl | hy
    · exact ⟨m, h1, by omega⟩
    · obtain ⟨m', h4, h5⟩ := szs_le_of r d (a + m) b h3 y hy
      exact ⟨m', h4, by omega⟩
theorem wrs_ge : ∀ l : List It, l.length ≤ (wrs l).length
  | [] => by simp
  | .mk n t s l :: r => by
    have := wrs_ge r
    rw [Wi.Wr.wrs_cons, Wi.Wr.wr_mk, List.length_append, List.length_cons, List.length_cons]
    omega
theorem sh9_own {nd : Bool} {t : Int} {s : List UInt8} {l : List It} (h : Sh9 (.mk nd t s l)) : s.length ≤ 9000 ∧ l.length ≤ 9000 ∧ (∀ y ∈ l, Sh9 y) ∧ (nd = false → l = []) := by
  obtain ⟨e, m, h, hm⟩ := h
  obtain ⟨_, _, _, _, ⟨rfl, rfl, h⟩ | ⟨rfl, rfl, b, hz, h⟩⟩ := Wi.Wr.sz_some h
  · exact ⟨by omega, by simp, fun y hy => by simp at hy, fun _ => rfl⟩
  · have h1 := Wi.Wr.szs_len _ _ _ _ hz
    have h2 := wrs_ge l
    refine ⟨by simp, by omega, fun y hy => ?_, fun h => by cases h⟩
    obtain ⟨m', h4, h5⟩ := szs_le_of l (e + 1) 0 b hz y hy
    exact ⟨e + 1, m', h4, by omega⟩
theorem opn_le (b : List UInt8) (n : Int) (s : List UInt8) : (Sl.opn b n s).1.length ≤ s.length := by
  unfold Sl.opn
  split
  · simp
  · split
    · refine Nat.le_trans (Sl.cip_le _ _ _ _) ?_
      rw [List.length_take, List.length_drop]; omega
    · simp
theorem fnd_mem {c : List UInt8} {p : List UInt8 → Bool} {ks : List Tm} {k : Tm} (h : fnd c p ks = some k) : k ∈ ks ∧ p (kb c k.s k.n) = true := ⟨List.mem_of_find?_eq_some h, by simpa using List.find?_some h⟩
end Go.Proofs.YticofjbngfjjlaaGreatDoor.Cy


namespace Go.Proofs.YticofjbngfjjlaaGreatDoor.Wi
open Go.RowKit
open Wr

mutual
/-- How many items and bytes. -/
def bk : It → Nat
  | .mk _ _ s l => 1 + s.length + bks l
def bks : List It → Nat
  | [] => 0
  | x :: r => bk x + bks r
end

theorem bks_mem : ∀ (l : List It) (x : It), x ∈ l → bk x ≤ bks l
  | y :: r, x, h => by
    rw [bks]
    rcases List.mem_cons.1 h with rfl | h
    · omega
    · have := bks_mem r x h; omega
theorem bk_pos (x : It) : 1 ≤ bk x := by cases x; rw [bk]; omega
theorem bks_len : ∀ (l : List It), l.length ≤ bks l
  | [] => by rw [bks]; simp
  | x :: r => by have := bks_len r; have := bk_pos x; rw [bks]; simp; omega

/-- What size answers. -/
def SzPost (r : Option Nat) (w : World) (e : Ending) (w' : World) : Prop :=
  match r with
  | none => e = .returned (.tuple #[.int .i64 0, .bool false]) ∧ Below w.heap.size w w'
  | some m => e = .returned (.tuple #[.int .i64 m, .bool true]) ∧ Below w.heap.size w w'

def SizeSaid (x : It) : Prop := ∀ (d : Nat) (di : Int) (S : Nat → Prop) (v : Value) (w : World), di = d → d ≤ 40 → bk x ≤ 2000000 → Rep w S x v → (∀ b, S b → b < w.heap.size) →
  Calls Tryz.prog 159 #[v, .int .i64 di] w (SzPost (sz x d) w)

set_option maxHeartbeats 1000000 in
set_option maxRecDepth 100000 in
theorem bodySize_loop (t : Int) (l : List It) (ih : ∀ y ∈ l, SizeSaid y) (d : Nat) (di : Int) (S : Nat → Prop) (A : Option Addr) (cap : Nat) (w : World) (hdi : di = d) (hd : d ≤ 39) (hk : bks l ≤ 2000000) (hrow : Row w S l A) (hS : ∀ b, S b → b < w.heap.size) :
    Calls Tryz.prog 187 #[.agg #[.bool true, .int .i64 t, .string ⟨⟨[]⟩⟩, .slice A l.length cap], .int .i64 di] w (SzPost (szs l (d + 1) 0) w) := by
  have hdi' : 0 ≤ di ∧ di ≤ 39 := by omega
  have HD := Lib.hid hdi
  have hll := bks_len l
  have HROW := Lib.hid hrow
  clear hdi hrow
  go_enter Tryz.func187, Tryz.ntmps187
  go_wp2
  go_loopw [6, 27] (fun nv iv wr => ∃ (i acc : Nat), nv = .int .i64 acc ∧ iv = .int .i64 i ∧ i ≤ l.length ∧ acc ≤ 65536 ∧ Hid (szs l (d + 1) 0 = szs (l.drop i) (d + 1) acc) ∧ Below w.heap.size w wr) (fun _ iv _ => l.length - (intOf iv).toNat)
  case atStart => exact ⟨0, 0, rfl, rfl, by omega, by omega, Lib.hid rfl, (Below.refl _ _).alloc (Nat.le_refl _) _⟩
  case round =>
    obtain ⟨i, acc, rfl, rfl, hi, hacc, HE, hb⟩ := hrel
    by_cases hlt : i < l.length
    · have hgi : l[i]? = some l[i] := List.getElem?_eq_getElem hlt
      rcases HROW.out with h | ⟨b, o, rfl, hSb, hreps⟩
      · rw [h] at hlt; simp at hlt
      obtain ⟨v0, v1, v2, v3, c0, c1, c2, c3, hrep⟩ := reps_at l b o i _ hreps hgi
      have hdrop : l.drop i = l[i] :: l.drop (i + 1) := List.drop_eq_getElem_cons hlt
      have hmem : l[i] ∈ l := List.getElem_mem hlt
      have hbk := bks_mem l _ hmem
      have hih := ih _ hmem
      generalize hxe : l[i] = x at *
      have HE2 := HE.out
      rw [hdrop, szs] at HE2
      have HEE := Lib.hid HE2
      have HIH := Lib.hid hih
      clear HE HE2 hdrop hgi hmem hxe hih
      have hrep0 := hrep
      obtain ⟨xn, xt, xs0, xl⟩ := x
      obtain ⟨A', cap', hv, hrow'⟩ := rep_mk.1 hrep
      injection hv with hv
      simp at hv
      obtain ⟨rfl, rfl, rfl, rfl⟩ := hv
      have hbS := hS b hSb
      have hq0 := (hb.cell (p := ⟨b, o + i * 4, none⟩) hbS).trans c0
      have hq1 := (hb.cell (p := ⟨b, o + i * 4 + 1, none⟩) hbS).trans c1
      have hq2 := (hb.cell (p := ⟨b, o + i * 4 + 2, none⟩) hbS).trans c2
      have hq3 := (hb.cell (p := ⟨b, o + i * 4 + 3, none⟩) hbS).trans c3
      clear c0 c1 c2 c3
      have hrepw : Rep (wr.alloc (.cells #[.bool xn, .int .i64 xt, .string ⟨⟨xs0⟩⟩, .slice A' xl.length cap'] 64)) S (.mk xn xt xs0 xl) (.agg #[.bool xn, .int .i64 xt, .string ⟨⟨xs0⟩⟩, .slice A' xl.length cap']) :=
        rep_alloc (S := S) (rep_keep (fun _ h => h) (fun c o hc => hb.cell (p := ⟨c, o, none⟩) (hS c hc)) _ _ hrep0) _ (fun c hc => ⟨by have := hS c hc; have := hb.size; omega, hc⟩)
      have hSw : ∀ c, S c → c < (wr.alloc (.cells #[.bool xn, .int .i64 xt, .string ⟨⟨xs0⟩⟩, .slice A' xl.length cap'] 64)).heap.size := fun c hc => by have := hS c hc; have := hb.size; simp; omega
      have HRW := Lib.hid hrepw
      have HSW := Lib.hid hSw
      have HSS := Lib.hid hS
      clear hrepw hSw hS hrep hrep0 hrow' hreps
      go_wp2_with fail
      refine (HIH.out (d + 1) _ S _ _ (by have := HD.out; omega) (by omega) (by omega) HRW.out HSW.out).mono ?_
      rintro e w1 hpost
      have hE := HEE.out
      cases hz : sz (.mk xn xt xs0 xl) (d + 1) with
      | none =>
        rw [hz] at hpost hE
        obtain ⟨rfl, hb1⟩ := hpost
        have HE := Lib.hid hE
        clear hE hz HEE
        go_wp2
        go_ret2
        rw [HE.out]
        exact ⟨rfl, (hb.alloc hb.size _).trans (hb1.mono (by have := hb.size; simp; omega))⟩
      | some m =>
        rw [hz] at hpost hE
        simp only at hE
        obtain ⟨rfl, hb1⟩ := hpost
        have hm : m ≤ 65536 := by
          have hh := hz
          rw [sz] at hh
          split at hh
          · cases hh
          split at hh
          · cases hh
          split at hh
          · cases hh
          · injection hh with hh; omega
        by_cases hgt : acc + m > 65536
        · rw [if_pos hgt] at hE
          have HE := Lib.hid hE
          have hgt' : (65536 : Int) < (acc : Int) + m := by omega
          clear hE hz HEE hgt
          go_wp2
          go_ret2
          rw [HE.out]
          exact ⟨rfl, (hb.alloc hb.size _).trans (hb1.mono (by have := hb.size; simp; omega))⟩
        · rw [if_neg hgt] at hE
          have HE := Lib.hid hE
          have hgt' : (acc : Int) + m ≤ 65536 := by omega
          clear hE hz HEE hgt
          go_wp2
          refine ⟨⟨i + 1, acc + m, by go_num, by go_num, by omega, by omega, HE, (hb.alloc hb.size _).trans (hb1.mono (by have := hb.size; simp; omega))⟩, ?_⟩
          simp [intOf]; omega
    · have hie : i = l.length := by omega
      have hE := HE.out
      rw [hie, List.drop_length, szs] at hE
      have HE2 := Lib.hid hE
      clear hE HE hie
      go_wp2
      go_ret2
      rw [HE2.out]
      exact ⟨rfl, hb⟩

/-- What bodySize answers. -/
def bz (n : Bool) (s : List UInt8) (l : List It) (d : Nat) : Nat × Bool :=
  if n = false then (s.length, decide (l.length = 0)) else if s.length = 0 then (match szs l (d + 1) 0 with | none => (0, false) | some b => (b, true)) else (0, false)

theorem szs_le : ∀ (l : List It) (d a b : Nat), a ≤ 65536 → szs l d a = some b → b ≤ 65536
  | [], d, a, b, ha, h => by rw [szs] at h; injection h with h; omega
  | x :: r, d, a, b, ha, h => by
    rw [szs] at h
    split at h
    · cases h
    split at h
    · cases h
    · exact szs_le r d _ b (by omega) h

theorem bz_le (n : Bool) (s : List UInt8) (l : List It) (d : Nat) (hs : s.length ≤ 2000000) : (bz n s l d).1 ≤ 2000000 := by
  unfold bz
  split
  · exact hs
  split
  · split
    · simp
    · rename_i h
      have := szs_le _ _ _ _ (by omega) h
      simp; omega
  · simp

set_option maxHeartbeats 1000000 in
set_option maxRecDepth 100000 in
theorem bodySize_any (n : Bool) (t : Int) (s : List UInt8) (l : List It) (ih : ∀ y ∈ l, SizeSaid y) (d : Nat) (di : Int) (S : Nat → Prop) (A : Option Addr) (cap : Nat) (w : World) (hdi : di = d) (hd : d ≤ 39) (hk : bks l ≤ 2000000) (hs : s.length ≤ 2000000) (hrow : Row w S l A) (hS : ∀ b, S b → b < w.heap.size) :
    Calls Tryz.prog 187 #[.agg #[.bool n, .int .i64 t, .string ⟨⟨s⟩⟩, .slice A l.length cap], .int .i64 di] w fun e w' => e = .returned (.tuple #[.int .i64 (bz n s l d).1, .bool (bz n s l d).2]) ∧ Below w.heap.size w w' := by
  cases n with
  | false =>
    have hz : bz false s l d = (s.length, decide (l.length = 0)) := by simp [bz]
    rw [hz]
    clear hz
    have hb : (((l.length : Nat) : Int) == 0) = decide (l.length = 0) := by
      rw [Bool.eq_iff_iff]; simp
    have HB := Lib.hid hb
    clear hb hrow hS ih
    go_enter Tryz.func187, Tryz.ntmps187
    go_wp2
    go_region
    go_wp2
    go_ret2
    exact ⟨by rw [← HB.out]; rfl, ((Below.refl _ _).alloc (Nat.le_refl _) _).drew⟩
  | true =>
    cases s with
    | nil =>
      have h := bodySize_loop t l ih d di S A cap w hdi hd hk hrow hS
      refine h.mono ?_
      intro e w' hp
      cases hz : szs l (d + 1) 0 with
      | none =>
        rw [hz] at hp
        have : bz true [] l d = (0, false) := by simp [bz, hz]
        rw [this]
        exact hp
      | some b =>
        rw [hz] at hp
        have : bz true [] l d = (b, true) := by simp [bz, hz]
        rw [this]
        exact hp
    | cons c r =>
      have hz : bz true (c :: r) l d = (0, false) := by simp [bz]
      rw [hz]
      clear hz hrow hS ih
      go_enter Tryz.func187, Tryz.ntmps187
      go_wp2
      go_ret2
      exact ⟨rfl, (Below.refl _ _).alloc (Nat.le_refl _) _⟩

theorem sz_bz (n : Bool) (t : Int) (s : List UInt8) (l : List It) (d : Nat) : sz (.mk n t s l) d = if d > 32 ∨ t < 1 ∨ t ≥ 128 then none else if (bz n s l d).2 = false ∨ (bz n s l d).1 + 1 + dg (bz n s l d).1 > 65536 then none else some ((bz n s l d).1 + 1 + dg (bz n s l d).1) := by
  rw [sz]
  split
  · rfl
  · unfold bz
    cases n with
    | false =>
      by_cases h : l.length = 0
      · simp [h]
      · simp [h]
    | true =>
      by_cases h : s.length = 0
      · cases hz : szs l (d + 1) 0 with
        | none => simp [h]
        | some b => simp [h]
      · simp [h]

set_option maxHeartbeats 1000000 in
set_option maxRecDepth 100000 in
theorem size_any : ∀ x, SizeSaid x := It.ind (by
  intro n t s l ih d di S v w hdi hd hk hrep hS
  obtain ⟨A, cap, rfl, hrow⟩ := rep_mk.1 hrep
  rw [bk] at hk
  rw [sz_bz]
  by_cases h1 : d > 32 ∨ t < 1 ∨ t ≥ 128
  · rw [if_pos h1]
    by_cases ha : d > 32
    · have ha' : 32 < di := by omega
      clear hrow hS hrep ih h1
      go_enter Tryz.func159, Tryz.ntmps159
      go_wp2
      go_ret2
      exact ⟨rfl, (Below.refl _ _).alloc (Nat.le_refl _) _⟩
    · have ha' : di ≤ 32 := by omega
      by_cases hb : t < 1
      · clear hrow hS hrep ih h1
        go_enter Tryz.func159, Tryz.ntmps159
        go_wp2
        go_ret2
        exact ⟨rfl, (Below.refl _ _).alloc (Nat.le_refl _) _⟩
      · have hb' : 1 ≤ t := by omega
        have hc' : 128 ≤ t := by omega
        clear hrow hS hrep ih h1
        go_enter Tryz.func159, Tryz.ntmps159
        go_wp2
        go_ret2
        exact ⟨rfl, (Below.refl _ _).alloc (Nat.le_refl _) _⟩
  · rw [if_neg h1]
    have h1' : 0 ≤ di ∧ di ≤ 32 ∧ 1 ≤ t ∧ t < 128 := by omega
    obtain ⟨h10, h11, h12, h13⟩ := h1'
    have hd32 : d ≤ 32 := by omega
    have HROW : Hid (Row (w.alloc (.cells #[.bool n, .int .i64 t, .string ⟨⟨s⟩⟩, .slice A l.length cap] 64)) S l A) :=
      row_keep (fun _ h => h) (fun c o hc => World.cell?_of_block (Below.heap_alloc _ _ _ (hS c hc))) hrow
    have HS : Hid (∀ b, S b → b < (w.alloc (.cells #[.bool n, .int .i64 t, .string ⟨⟨s⟩⟩, .slice A l.length cap] 64)).heap.size) := fun b hb => by have := hS b hb; simp; omega
    have HD := Lib.hid hdi
    have hbl := bz_le n s l d (by omega)
    have hdl := dg_le (bz n s l d).1
    clear hrow hS hrep h1 hdi
    generalize hbz : bz n s l d = r at *
    have HBZ := Lib.hid hbz
    clear hbz
    obtain ⟨m, ok⟩ := r
    simp only at hbl hdl ⊢
    obtain ⟨R, hR⟩ : ∃ R, R = (if ok = false ∨ m + 1 + dg m > 65536 then none else some (m + 1 + dg m)) := ⟨_, rfl⟩
    rw [← hR]
    have HR := Lib.hid hR
    clear hR
    have hih := Lib.hid ih
    clear ih
    go_enter Tryz.func159, Tryz.ntmps159
    go_wp2_with fail
    refine (bodySize_any n t s l hih.out d di S A cap _ HD.out (by omega) (by omega) (by omega) HROW.out HS.out).mono ?_
    rintro e w1 ⟨rfl, hb1⟩
    rw [HBZ.out]
    go_wp2_with fail
    refine (digits_any m _ (by omega)).mono ?_
    rintro e w2 ⟨rfl, rfl⟩
    generalize dg m = g at *
    have hbel : Below w.heap.size w w1 := ((Below.refl _ _).alloc (Nat.le_refl _) _).trans (hb1.mono (by simp))
    cases ok with
    | false =>
      have HR2 : Hid (R = none) := HR.out.trans (if_pos (Or.inl rfl))
      clear HR
      go_wp2
      go_ret2
      rw [HR2.out]
      exact ⟨rfl, hbel⟩
    | true =>
      by_cases hgt : m + 1 + g > 65536
      · have hgt' : (65536 : Int) < (m : Int) + (1 + g) := by omega
        have HG := Lib.hid hgt
        clear hgt
        go_wp2
        go_ret2
        rw [HR.out.trans (if_pos (Or.inr HG.out))]
        exact ⟨rfl, hbel⟩
      · have hgt' : (m : Int) + (1 + g) ≤ 65536 := by omega
        have HG := Lib.hid hgt
        clear hgt
        go_wp2
        go_ret2
        rw [HR.out.trans (if_neg (by have := HG.out; simp; omega))]
        exact ⟨by simp; omega, hbel⟩)

set_option maxHeartbeats 1000000 in
set_option maxRecDepth 100000 in
theorem valid_any (x : It) (S : Nat → Prop) (v : Value) (w : World) (hk : bk x ≤ 2000000) (hrep : Rep w S x v) (hS : ∀ b, S b → b < w.heap.size) :
    Calls Tryz.prog 132 #[v] w fun e w' => e = .returned (.bool (sz x 0).isSome) ∧ Below w.heap.size w w' := by
  obtain ⟨n, t, s, l⟩ := x
  have hrep0 := hrep
  obtain ⟨A, cap, rfl, hrow⟩ := rep_mk.1 hrep
  have HR : Hid (Rep (w.alloc (.cells #[.bool n, .int .i64 t, .string ⟨⟨s⟩⟩, .slice A l.length cap] 64)) S (.mk n t s l) (.agg #[.bool n, .int .i64 t, .string ⟨⟨s⟩⟩, .slice A l.length cap])) := rep_alloc hrep0 _ (fun c hc => ⟨hS c hc, hc⟩)
  have HS : Hid (∀ b, S b → b < (w.alloc (.cells #[.bool n, .int .i64 t, .string ⟨⟨s⟩⟩, .slice A l.length cap] 64)).heap.size) := fun b hb => by have := hS b hb; simp; omega
  clear hrep hrep0 hrow hS
  go_enter Tryz.func132, Tryz.ntmps132
  go_wp2_with fail
  refine (size_any (.mk n t s l) 0 0 S _ _ rfl (by omega) hk HR.out HS.out).mono ?_
  intro e w1 hp
  cases hz : sz (.mk n t s l) 0 with
  | none =>
    rw [hz] at hp
    obtain ⟨rfl, hb1⟩ := hp
    have HZ := Lib.hid hz
    clear hz
    go_wp2
    go_ret
    exact ⟨by rw [HZ.out]; rfl, ((Below.refl _ _).alloc (Nat.le_refl _) _).trans (hb1.mono (by simp))⟩
  | some m =>
    rw [hz] at hp
    obtain ⟨rfl, hb1⟩ := hp
    have HZ := Lib.hid hz
    clear hz
    go_wp2
    go_ret
    exact ⟨by rw [HZ.out]; rfl, ((Below.refl _ _).alloc (Nat.le_refl _) _).trans (hb1.mono (by simp))⟩
end Go.Proofs.YticofjbngfjjlaaGreatDoor.Wi

