/- relate; Allow, Acts, Rekey, Trust, Sense. (Laid with NS=1; written by wip/tools/gen/pow10.py.) -/
import Derived.Test.YtehmfkcihieecaaPoW9
namespace Go.Proofs.Ytehmfkcihieecaa.Po
open Go.RowKit Go.Sort
open Te Te.Tt
open Go (Lit DataW MemPlace keyOf maxLen)

theorem Stp.after {w w1 w' : World} {F : Nat → Prop} {g bm : Nat} {σ : Sto} {n : Nat} (hb : RowKit.Below w.heap.size w w1) (h : Stp w1 F g bm σ n w') : Stp w F g bm σ n w' := by
  obtain ⟨F', f', h1, h2, h3, h4⟩ := h
  exact ⟨F', f', h1, Turn.after hb h2, h3, fun i hi => (h4 i hi).imp (fun h => h) (fun h => Nat.le_trans hb.size h)⟩
set_option maxHeartbeats 2000000 in
set_option maxRecDepth 100000 in
theorem relate_any (V w : World) (F : Nat → Prop) (g bm : Nat) (f : Nm → Sl) (σ : Sto) (n : Nat) (h : SP w F g bm f σ n) (hV : RowKit.Below V.heap.size V w) (hFV : ∀ k, F k → k < V.heap.size) (a b : Nm) (ha : a.length ≤ maxLen) (hb : b.length ≤ maxLen)
    (fn : FuncId) (cb : Array Value) (ph : Pr → Pr × Int) (eg : ∀ args w, (callFunc fn args).run Try.prog w = .ok (.enter fn args) w) (hby : ByIs V F fn cb ph) (hph : ∀ p, Okp a p → Okp a (ph p).1) (hn : n < maxLen) :
    Calls Try.prog 29 #[.pointer (some ⟨g, 0, none⟩), .string ⟨⟨a⟩⟩, .string ⟨⟨b⟩⟩, .func (.func fn) #[] cb] w fun e w' => e = .returned (.int .i64 (rel σ a b ph).2) ∧ Stp w F g bm (rel σ a b ph).1 n w' := by
  have HH := Lib.hid (has_any w F g bm f σ n h b hb)
  cases hx : (σ b).isSome with
  | false =>
    have e1 : rel σ a b ph = (σ, 40) := by simp [rel, hx]
    rw [e1]
    rw [hx] at HH
    have HS : Hid (∀ w', RowKit.Below w.heap.size w w' → Stp w F g bm σ n w') := fun w' hb => h.still hb
    clear e1 h hby hph hV hFV hx
    go_enter Try.func29, Try.ntmps29
    go_wp2_with fail
    refine HH.out.mono ?_
    rintro _ w2 ⟨rfl, b2⟩
    have HP := Lib.hid (HS.out _ b2)
    clear b2 HH HS
    go_wp2
    go_ret
    exact ⟨rfl, HP.out⟩
  | true =>
    have e1 : rel σ a b ph = chg σ a ph := by simp [rel, hx]
    rw [e1]
    rw [hx] at HH
    have HC : Hid (∀ w', RowKit.Below w.heap.size w w' → Calls Try.prog 34 #[.pointer (some ⟨g, 0, none⟩), .string ⟨⟨a⟩⟩, .func (.func fn) #[] cb] w' fun e w'' => e = .returned (.int .i64 (chg σ a ph).2) ∧ Stp w F g bm (chg σ a ph).1 n w'') := fun w' hb' =>
      (change_any V w' F g bm f σ n (h.below hb') (hV.trans (hb'.mono hV.size)) hFV a ha fn cb ph eg hby hph hn).mono fun e w'' h => ⟨h.1, h.2.after hb'⟩
    clear e1 h hby hph hV hFV hx
    go_enter Try.func29, Try.ntmps29
    go_wp2_with fail
    refine HH.out.mono ?_
    rintro _ w2 ⟨rfl, b2⟩
    have HC2 := Lib.hid (HC.out _ b2)
    clear b2 HH HC
    go_wp2_with fail
    refine HC2.out.mono ?_
    rintro _ w3 ⟨rfl, hp⟩
    have HP := Lib.hid hp
    clear hp HC2
    go_wp2
    go_ret
    exact ⟨rfl, HP.out⟩

set_option maxHeartbeats 2000000 in
set_option maxRecDepth 100000 in
theorem Allow_any (w : World) (F : Nat → Prop) (g bm : Nat) (f : Nm → Sl) (σ : Sto) (n : Nat) (h : SP w F g bm f σ n) (a b : Nm) (on : Bool) (ha : a.length ≤ maxLen) (hb : b.length ≤ maxLen) (hn : n < maxLen) :
    Calls Try.prog 14 #[.pointer (some ⟨g, 0, none⟩), .string ⟨⟨a⟩⟩, .string ⟨⟨b⟩⟩, .bool on] w fun e w' => e = .returned (.int .i64 (rel σ a b (allF b on)).2) ∧ Stp w F g bm (rel σ a b (allF b on)).1 n w' := by
  obtain ⟨V, hV⟩ : ∃ V, V = (w.alloc (.cells #[.string ⟨⟨b⟩⟩] 9)).alloc (.cells #[.bool on] 4) := ⟨_, rfl⟩
  obtain ⟨z, hz⟩ : ∃ z, z = w.heap.size := ⟨_, rfl⟩
  have hbV : RowKit.Below w.heap.size w V := by rw [hV]; exact two_below _ _ _
  have hy : V.cell? ⟨z, 0, none⟩ = some (.string ⟨⟨b⟩⟩) := by rw [hV, hz, cell_of_row _ _ _ _ _ _ (two_old w (.cells #[.string ⟨⟨b⟩⟩] 9) (.cells #[.bool on] 4))]; rfl
  have hx : V.cell? ⟨z + 1, 0, none⟩ = some (.bool on) := by
    have h1 := heap_alloc_new (w.alloc (.cells #[.string ⟨⟨b⟩⟩] 9)) (.cells #[.bool on] 4)
    rw [show (w.alloc (.cells #[.string ⟨⟨b⟩⟩] 9)).heap.size = w.heap.size + 1 by simp] at h1
    rw [hV, hz, cell_of_row _ _ _ _ _ _ h1]; rfl
  have hs : V.heap.size = z + 1 + 1 := by rw [hV, hz]; simp
  have hd : V.cell? ⟨z, 0, none⟩ = some (.string ⟨⟨b⟩⟩) := hy
  have HC := Lib.hid (relate_any V V F g bm f σ n (h.below hbV) (RowKit.Below.refl _ _) (fun k hk => Nat.lt_of_lt_of_le (h.lt k hk) hbV.size) a b ha hb 30 #[.pointer (some ⟨z, 0, none⟩), .pointer (some ⟨z + 1, 0, none⟩)] (allF b on) (enters_of Try.func30 (by kernel_rfl) rfl)
    (allow1_by V F z (z + 1) b on hy (by omega) hx (by omega)) (fun p hp => allF_ok hp) hn)
  have HB := Lib.hid hbV
  have HV := Lib.hid hV
  have HZ := Lib.hid hz
  clear h hbV hV hz hy hx hs hd hn
  go_enter Try.func14, Try.ntmps14
  go_wp2_with fail
  rw [← HZ.out, ← HV.out]
  refine HC.out.mono ?_
  rintro _ w3 ⟨rfl, hp⟩
  have HP := Lib.hid (hp.after HB.out)
  clear hp HC
  go_wp2
  go_ret
  exact ⟨rfl, HP.out⟩

set_option maxHeartbeats 2000000 in
set_option maxRecDepth 100000 in
theorem Acts_any (w : World) (F : Nat → Prop) (g bm : Nat) (f : Nm → Sl) (σ : Sto) (n : Nat) (h : SP w F g bm f σ n) (a b : Nm) (on : Bool) (ha : a.length ≤ maxLen) (hb : b.length ≤ maxLen) (hn : n < maxLen) :
    Calls Try.prog 24 #[.pointer (some ⟨g, 0, none⟩), .string ⟨⟨a⟩⟩, .string ⟨⟨b⟩⟩, .bool on] w fun e w' => e = .returned (.int .i64 (rel σ a b (actF b on)).2) ∧ Stp w F g bm (rel σ a b (actF b on)).1 n w' := by
  obtain ⟨V, hV⟩ : ∃ V, V = (w.alloc (.cells #[.string ⟨⟨b⟩⟩] 9)).alloc (.cells #[.bool on] 4) := ⟨_, rfl⟩
  obtain ⟨z, hz⟩ : ∃ z, z = w.heap.size := ⟨_, rfl⟩
  have hbV : RowKit.Below w.heap.size w V := by rw [hV]; exact two_below _ _ _
  have hy : V.cell? ⟨z, 0, none⟩ = some (.string ⟨⟨b⟩⟩) := by rw [hV, hz, cell_of_row _ _ _ _ _ _ (two_old w (.cells #[.string ⟨⟨b⟩⟩] 9) (.cells #[.bool on] 4))]; rfl
  have hx : V.cell? ⟨z + 1, 0, none⟩ = some (.bool on) := by
    have h1 := heap_alloc_new (w.alloc (.cells #[.string ⟨⟨b⟩⟩] 9)) (.cells #[.bool on] 4)
    rw [show (w.alloc (.cells #[.string ⟨⟨b⟩⟩] 9)).heap.size = w.heap.size + 1 by simp] at h1
    rw [hV, hz, cell_of_row _ _ _ _ _ _ h1]; rfl
  have hs : V.heap.size = z + 1 + 1 := by rw [hV, hz]; simp
  have hd : V.cell? ⟨z, 0, none⟩ = some (.string ⟨⟨b⟩⟩) := hy
  have HC := Lib.hid (relate_any V V F g bm f σ n (h.below hbV) (RowKit.Below.refl _ _) (fun k hk => Nat.lt_of_lt_of_le (h.lt k hk) hbV.size) a b ha hb 43 #[.pointer (some ⟨z, 0, none⟩), .pointer (some ⟨z + 1, 0, none⟩)] (actF b on) (enters_of Try.func43 (by kernel_rfl) rfl)
    (acts1_by V F z (z + 1) b on hy (by omega) hx (by omega)) (fun p hp => actF_ok hp) hn)
  have HB := Lib.hid hbV
  have HV := Lib.hid hV
  have HZ := Lib.hid hz
  clear h hbV hV hz hy hx hs hd hn
  go_enter Try.func24, Try.ntmps24
  go_wp2_with fail
  rw [← HZ.out, ← HV.out]
  refine HC.out.mono ?_
  rintro _ w3 ⟨rfl, hp⟩
  have HP := Lib.hid (hp.after HB.out)
  clear hp HC
  go_wp2
  go_ret
  exact ⟨rfl, HP.out⟩

set_option maxHeartbeats 2000000 in
set_option maxRecDepth 100000 in
theorem Trust_any (w : World) (F : Nat → Prop) (g bm : Nat) (f : Nm → Sl) (σ : Sto) (n : Nat) (h : SP w F g bm f σ n) (a : Nm) (on : Bool) (ha : a.length ≤ maxLen) (hn : n < maxLen) :
    Calls Try.prog 19 #[.pointer (some ⟨g, 0, none⟩), .string ⟨⟨a⟩⟩, .bool on] w fun e w' => e = .returned (.int .i64 (chg σ a (truF on)).2) ∧ Stp w F g bm (chg σ a (truF on)).1 n w' := by
  obtain ⟨V, hV⟩ : ∃ V, V = w.alloc (.cells #[.bool on] 4) := ⟨_, rfl⟩
  obtain ⟨z, hz⟩ : ∃ z, z = w.heap.size := ⟨_, rfl⟩
  have hbV : RowKit.Below w.heap.size w V := by rw [hV]; exact (RowKit.Below.refl _ _).alloc (Nat.le_refl _) _
  have hy : V.cell? ⟨z, 0, none⟩ = some (.bool on) := by rw [hV, hz, cell_of_row _ _ _ _ _ _ (heap_alloc_new w (.cells #[.bool on] 4))]; rfl
  have hs : V.heap.size = z + 1 := by rw [hV, hz]; simp
  have HC := Lib.hid (change_any V V F g bm f σ n (h.below hbV) (RowKit.Below.refl _ _) (fun k hk => Nat.lt_of_lt_of_le (h.lt k hk) hbV.size) a ha 37 #[.pointer (some ⟨z, 0, none⟩)] (truF on) (enters_of Try.func37 (by kernel_rfl) rfl)
    (trust1_by V F z on hy (by omega)) (fun p hp => truF_ok hp) hn)
  have HB := Lib.hid hbV
  have HV := Lib.hid hV
  have HZ := Lib.hid hz
  clear h hbV hV hz hy hs hn
  go_enter Try.func19, Try.ntmps19
  go_wp2_with fail
  rw [← HZ.out, ← HV.out]
  refine HC.out.mono ?_
  rintro _ w3 ⟨rfl, hp⟩
  have HP := Lib.hid (hp.after HB.out)
  clear hp HC
  go_wp2
  go_ret
  exact ⟨rfl, HP.out⟩

set_option maxHeartbeats 2000000 in
set_option maxRecDepth 100000 in
theorem Sense_any (w : World) (F : Nat → Prop) (g bm : Nat) (f : Nm → Sl) (σ : Sto) (n : Nat) (h : SP w F g bm f σ n) (a : Nm) (on : Bool) (ha : a.length ≤ maxLen) (hn : n < maxLen) :
    Calls Try.prog 20 #[.pointer (some ⟨g, 0, none⟩), .string ⟨⟨a⟩⟩, .bool on] w fun e w' => e = .returned (.int .i64 (chg σ a (senF on)).2) ∧ Stp w F g bm (chg σ a (senF on)).1 n w' := by
  obtain ⟨V, hV⟩ : ∃ V, V = w.alloc (.cells #[.bool on] 4) := ⟨_, rfl⟩
  obtain ⟨z, hz⟩ : ∃ z, z = w.heap.size := ⟨_, rfl⟩
  have hbV : RowKit.Below w.heap.size w V := by rw [hV]; exact (RowKit.Below.refl _ _).alloc (Nat.le_refl _) _
  have hy : V.cell? ⟨z, 0, none⟩ = some (.bool on) := by rw [hV, hz, cell_of_row _ _ _ _ _ _ (heap_alloc_new w (.cells #[.bool on] 4))]; rfl
  have hs : V.heap.size = z + 1 := by rw [hV, hz]; simp
  have HC := Lib.hid (change_any V V F g bm f σ n (h.below hbV) (RowKit.Below.refl _ _) (fun k hk => Nat.lt_of_lt_of_le (h.lt k hk) hbV.size) a ha 38 #[.pointer (some ⟨z, 0, none⟩)] (senF on) (enters_of Try.func38 (by kernel_rfl) rfl)
    (sense1_by V F z on hy (by omega)) (fun p hp => senF_ok hp) hn)
  have HB := Lib.hid hbV
  have HV := Lib.hid hV
  have HZ := Lib.hid hz
  clear h hbV hV hz hy hs hn
  go_enter Try.func20, Try.ntmps20
  go_wp2_with fail
  rw [← HZ.out, ← HV.out]
  refine HC.out.mono ?_
  rintro _ w3 ⟨rfl, hp⟩
  have HP := Lib.hid (hp.after HB.out)
  clear hp HC
  go_wp2
  go_ret
  exact ⟨rfl, HP.out⟩

set_option maxHeartbeats 2000000 in
set_option maxRecDepth 100000 in
theorem Rekey_any (w : World) (F : Nat → Prop) (g bm : Nat) (f : Nm → Sl) (σ : Sto) (n : Nat) (h : SP w F g bm f σ n) (a : Nm) (ha : a.length ≤ maxLen) (hn : n < maxLen) :
    Calls Try.prog 17 #[.pointer (some ⟨g, 0, none⟩), .string ⟨⟨a⟩⟩] w fun e w' => e = .returned (.int .i64 (chg σ a rekF).2) ∧ Stp w F g bm (chg σ a rekF).1 n w' := by
  have HC := Lib.hid (change_any w w F g bm f σ n h (RowKit.Below.refl _ _) h.lt a ha 35 #[] rekF (enters_of Try.func35 (by kernel_rfl) rfl)
    (rekey1_by w F) (fun p hp => rekF_ok hp) hn)
  clear h hn
  go_enter Try.func17, Try.ntmps17
  go_wp2_with fail
  refine HC.out.mono ?_
  rintro _ w3 ⟨rfl, hp⟩
  have HP := Lib.hid hp
  clear hp HC
  go_wp2
  go_ret
  exact ⟨rfl, HP.out⟩
end Go.Proofs.Ytehmfkcihieecaa.Po
