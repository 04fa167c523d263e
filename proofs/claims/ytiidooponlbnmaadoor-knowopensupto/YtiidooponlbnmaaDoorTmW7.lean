/- Order, Same. -/
import Derived.Test.YtiidooponlbnmaaDoorTmW4
import Derived.Laws.Cover1
import Derived.StillTactics
import Derived.StillTailTactics
namespace Go.Proofs.YtiidooponlbnmaaDoor.Te
open Go.RowKit
open Tt

theorem cs_eq : ∀ s t : List UInt8, cs s t = if Op.bytesLess s t = true then -1 else if s = t then 0 else 1
  | [], [] => by simp [cs, Op.bytesLess]
  | [], _ :: _ => by simp [cs, Op.bytesLess]
  | _ :: _, [] => by simp [cs, Op.bytesLess]
  | x :: r, y :: q => by
    rw [cs, Op.bytesLess, cs_eq r q]
    by_cases h : x.toNat < y.toNat
    · have : x < y := h
      simp [h, this]
    · have hn : ¬ x < y := h
      by_cases he : x = y
      · subst he; simp
      · simp [h, hn, he]

set_option maxHeartbeats 400000 in
set_option maxRecDepth 100000 in
theorem isNaNs_any (s : List UInt8) (w : World) : Calls Tryd.prog 92 #[.string ⟨⟨s⟩⟩] w fun e w' => e = .returned (.bool false) ∧ w' = w := by
  go_enter Tryd.func92, Tryd.ntmps92
  go_wp2
  go_ret
  exact ⟨rfl, rfl⟩
set_option maxHeartbeats 400000 in
set_option maxRecDepth 100000 in
theorem cmps_any (s t : List UInt8) (w : World) : Calls Tryd.prog 86 #[.string ⟨⟨s⟩⟩, .string ⟨⟨t⟩⟩] w fun e w' => e = .returned (.int .i64 (cs s t)) ∧ w' = w := by
  have HN := Lib.hid isNaNs_any
  obtain ⟨R, hR⟩ : ∃ R, R = cs s t := ⟨_, rfl⟩
  rw [← hR]
  rw [cs_eq] at hR
  have HR := Lib.hid hR
  clear hR
  go_enter Tryd.func86, Tryd.ntmps86
  go_wp2_with fail
  refine (HN.out _ _).mono ?_
  rintro _ _ ⟨rfl, rfl⟩
  go_wp2_with fail
  refine (HN.out _ _).mono ?_
  rintro _ _ ⟨rfl, rfl⟩
  go_wp2
  all_goals
    go_ret
    refine ⟨?_, rfl⟩
    rw [HR.out]
    simp_all
    try omega

set_option maxHeartbeats 400000 in
set_option maxRecDepth 100000 in
theorem isNaNk_any (s : Int) (w : World) : Calls Tryd.prog 91 #[.int .i64 s] w fun e w' => e = .returned (.bool false) ∧ w' = w := by
  go_enter Tryd.func91, Tryd.ntmps91
  go_wp2
  go_ret
  exact ⟨rfl, rfl⟩
set_option maxHeartbeats 400000 in
set_option maxRecDepth 100000 in
theorem cmpk_any (s t : Int) (w : World) : Calls Tryd.prog 85 #[.int .i64 s, .int .i64 t] w fun e w' => e = .returned (.int .i64 (ci s t)) ∧ w' = w := by
  have HN := Lib.hid isNaNk_any
  obtain ⟨R, hR⟩ : ∃ R, R = ci s t := ⟨_, rfl⟩
  rw [← hR]
  rw [ci] at hR
  have HR := Lib.hid hR
  clear hR
  go_enter Tryd.func85, Tryd.ntmps85
  go_wp2_with fail
  refine (HN.out _ _).mono ?_
  rintro _ _ ⟨rfl, rfl⟩
  go_wp2_with fail
  refine (HN.out _ _).mono ?_
  rintro _ _ ⟨rfl, rfl⟩
  go_wp2
  all_goals
    go_ret
    refine ⟨?_, rfl⟩
    rw [HR.out]
    simp_all
    try omega

set_option maxHeartbeats 400000 in
set_option maxRecDepth 100000 in
theorem isNaNn_any (s : Int) (w : World) : Calls Tryd.prog 93 #[.int .i64 s] w fun e w' => e = .returned (.bool false) ∧ w' = w := by
  go_enter Tryd.func93, Tryd.ntmps93
  go_wp2
  go_ret
  exact ⟨rfl, rfl⟩
set_option maxHeartbeats 400000 in
set_option maxRecDepth 100000 in
theorem cmpn_any (s t : Int) (w : World) : Calls Tryd.prog 87 #[.int .i64 s, .int .i64 t] w fun e w' => e = .returned (.int .i64 (ci s t)) ∧ w' = w := by
  have HN := Lib.hid isNaNn_any
  obtain ⟨R, hR⟩ : ∃ R, R = ci s t := ⟨_, rfl⟩
  rw [← hR]
  rw [ci] at hR
  have HR := Lib.hid hR
  clear hR
  go_enter Tryd.func87, Tryd.ntmps87
  go_wp2_with fail
  refine (HN.out _ _).mono ?_
  rintro _ _ ⟨rfl, rfl⟩
  go_wp2_with fail
  refine (HN.out _ _).mono ?_
  rintro _ _ ⟨rfl, rfl⟩
  go_wp2
  all_goals
    go_ret
    refine ⟨?_, rfl⟩
    rw [HR.out]
    simp_all
    try omega

/-- The first that is not 0. -/
def orr : List Int → Int
  | [] => 0
  | x :: r => if x ≠ 0 then x else orr r
theorem orr_at : ∀ (l : List Int) (i : Nat) (h : i < l.length), (∀ x ∈ l.take i, x = 0) → l[i] ≠ 0 → orr l = l[i]
  | [], i, h, _, _ => by simp at h
  | x :: r, 0, _, _, h => by simp at h; simp [orr, h]
  | x :: r, i + 1, hi, h, hn => by
    have hx : x = 0 := h x (by simp)
    rw [orr, if_neg (by simpa using hx)]
    simp only [List.getElem_cons_succ] at hn ⊢
    exact orr_at r i (by simpa using hi) (fun y hy => h y (by simp [hy])) hn
theorem orr_none : ∀ (l : List Int), (∀ x ∈ l, x = 0) → orr l = 0
  | [], _ => rfl
  | x :: r, h => by rw [orr, if_neg (by simpa using h x (by simp))]; exact orr_none r (fun y hy => h y (by simp [hy]))

set_option maxHeartbeats 400000 in
set_option maxRecDepth 100000 in
theorem Or_any (l : List Int) (g ca : Nat) (w : World) (hl : l.length ≤ 1000) (hc : ∀ i (h : i < l.length), w.cell? ⟨g, i, none⟩ = some (.int .i64 l[i])) :
    Calls Tryd.prog 84 #[.slice (some ⟨g, 0, none⟩) l.length ca] w fun e w' => e = .returned (.int .i64 (orr l)) ∧ w' = w := by
  have HC := Lib.hid hc
  clear hc
  go_enter Tryd.func84, Tryd.ntmps84
  go_wp2
  go_loopw [8] (fun iv wr => ∃ i : Nat, i ≤ l.length ∧ iv = .int .i64 (i : Nat) ∧ Hid (∀ x ∈ l.take i, x = 0) ∧ wr = w) (fun iv _ => l.length - (intOf iv).toNat)
  case atStart => exact ⟨0, by omega, rfl, Lib.hid (by simp), rfl⟩
  case round =>
    obtain ⟨i, hi, rfl, HA, rfl⟩ := hrel
    by_cases hlt : i < l.length
    · have hil : (i : Int) < (l.length : Int) := by omega
      have hci := HC.out i hlt
      by_cases hx : l[i] = 0
      · have HT : Hid (∀ x ∈ l.take (i + 1), x = 0) := by
          rw [Hid, List.take_succ_eq_append_getElem hlt]
          intro x hx'
          rcases List.mem_append.1 hx' with h | h
          · exact HA.out x h
          · rw [List.mem_singleton.1 h]; exact hx
        rw [hx] at hci
        clear hx HA
        go_wp2
        go_roundw
        case rel => exact ⟨i + 1, by omega, by go_num, HT, trivial⟩
        case measure => simp [intOf]; omega
      · have HO := Lib.hid (orr_at l i hlt HA.out hx)
        generalize l[i] = y at *
        clear HA
        go_wp2
        go_ret
        exact ⟨by rw [HO.out]; rfl, rfl⟩
    · have hie : l.take i = l := List.take_of_length_le (by omega)
      have hA := HA.out
      rw [hie] at hA
      have HO := Lib.hid (orr_none l hA)
      clear hA HA hie
      go_wp2
      go_ret
      exact ⟨by rw [HO.out]; rfl, rfl⟩

theorem hd_orr (k k' : Int) (s s' : List UInt8) (n n' : Int) : orr [ci k k', cs s s', ci n n'] = hd k s n k' s' n' cs := by
  simp only [orr, hd]
  split
  · rfl
  · split
    · rfl
    · split
      · rfl
      · rename_i h; simp at h; exact h.symm

set_option maxHeartbeats 1000000 in
set_option maxRecDepth 100000 in
theorem heads_any (k k' : Int) (s s' : List UInt8) (n n' : Int) (A A' : Option Addr) (m ca m' ca' : Nat) (w : World) :
    Calls Tryd.prog 73 #[.agg #[.int .i64 k, .string ⟨⟨s⟩⟩, .int .i64 n, .slice A m ca], .agg #[.int .i64 k', .string ⟨⟨s'⟩⟩, .int .i64 n', .slice A' m' ca']] w fun e w' => e = .returned (.int .i64 (hd k s n k' s' n' cs)) ∧ Below w.heap.size w w' := by
  rw [← hd_orr]
  have hOr0 := fun g ca W => Or_any [ci k k', cs s s', ci n n'] g ca W
  obtain ⟨R, hR⟩ : ∃ R, R = orr [ci k k', cs s s', ci n n'] := ⟨_, rfl⟩
  rw [← hR]
  rw [← hR] at hOr0
  clear hR
  have H1 := Lib.hid (cmpk_any k k')
  have H2 := Lib.hid (cmps_any s s')
  have H3 := Lib.hid (cmpn_any n n')
  generalize ci k k' = r1 at *
  generalize cs s s' = r2 at *
  generalize ci n n' = r3 at *
  obtain ⟨z, hz⟩ : ∃ z, z = w.heap.size := ⟨_, rfl⟩
  obtain ⟨W2, hW2⟩ : ∃ W2, W2 = ((w.alloc (.cells #[.int .i64 k, .string ⟨⟨s⟩⟩, .int .i64 n, .slice A m ca] 33)).alloc (.cells #[.int .i64 k', .string ⟨⟨s'⟩⟩, .int .i64 n', .slice A' m' ca'] 33)) := ⟨_, rfl⟩
  have hB2 : Below z w W2.drew := by rw [hW2, hz]; exact (((Below.refl _ _).alloc (Nat.le_refl _) _).alloc (by simp) _).drew
  have hs2 : W2.drew.heap.size = z + 2 := by rw [hW2, hz]; simp [World.drew]
  have hg0 : W2.drew.heap[z]? = some (.cells #[.int .i64 k, .string ⟨⟨s⟩⟩, .int .i64 n, .slice A m ca] 33 (0, 0)) := by
    show W2.heap[z]? = _
    rw [hW2, hz, heap_alloc_old _ _ (by simp)]; exact heap_alloc_new w _
  have hg1 : W2.drew.heap[z + 1]? = some (.cells #[.int .i64 k', .string ⟨⟨s'⟩⟩, .int .i64 n', .slice A' m' ca'] 33 (0, 0)) := by
    show W2.heap[z + 1]? = _
    rw [hW2, hz]
    have := heap_alloc_new (w.alloc (.cells #[.int .i64 k, .string ⟨⟨s⟩⟩, .int .i64 n, .slice A m ca] 33)) (.cells #[.int .i64 k', .string ⟨⟨s'⟩⟩, .int .i64 n', .slice A' m' ca'] 33)
    rwa [World.size_alloc] at this
  obtain ⟨c0, c1, c2, c3⟩ := cell4 hg0
  obtain ⟨d0, d1, d2, d3⟩ := cell4 hg1
  have HOR0 := Lib.hid hOr0
  have HB2 := Lib.hid hB2
  have HS2 := Lib.hid hs2
  have HZ := Lib.hid hz
  have HW2 := Lib.hid hW2
  clear hz hW2 hB2 hs2 hg0 hg1 hOr0
  go_enter Tryd.func73, Tryd.ntmps73
  go_wp2_with fail
  rw [← HW2.out, ← HZ.out]
  refine wp_region_still_tail 15 (by kernel_rfl) (by kernel_rfl) ?_
  change wpStill _ _ (World.drew _) (fun a' => wpList _ _ _ _ a' (World.drew _)) _ _
  generalize W2.drew = W3 at *
  simp only [List.take_succ_cons, List.take_zero, List.drop_succ_cons, List.drop_zero]
  repeat (first | still_step | still_call (H1.out _) | still_call (H2.out _) | still_call (H3.out _))
  refine wpStill_nil ?_
  have hOr := HOR0.out (z + 2) 3 (W3.alloc (.cells #[.int .i64 r1, .int .i64 r2, .int .i64 r3] 3)) (by simp) (fun i h => by
    rw [← HS2.out, cell_of_row _ _ _ _ _ _ (heap_alloc_new W3 _)]
    match i, h with
    | 0, _ => rfl
    | 1, _ => rfl
    | 2, _ => rfl)
  have HOR := Lib.hid hOr
  have HB3 : Hid (Below w.heap.size w (W3.alloc (.cells #[.int .i64 r1, .int .i64 r2, .int .i64 r3] 3))) := by
    have := HS2.out
    rw [← HZ.out]; exact HB2.out.alloc (by omega) _
  clear hOr c0 c1 c2 c3 d0 d1 d2 d3 H1 H2 H3 HOR0
  go_wp2_with fail
  rw [HS2.out]
  refine HOR.out.mono ?_
  rintro _ _ ⟨rfl, rfl⟩
  go_wp2
  go_ret
  exact ⟨rfl, HB3.out⟩

theorem ords_drop : ∀ (i : Nat) (l l' : List Tm), i ≤ l.length → i ≤ l'.length → (∀ j (h : j < l.length) (h' : j < l'.length), j < i → ord l[j] l'[j] = 0) → ords l l' = ords (l.drop i) (l'.drop i)
  | 0, l, l', _, _, _ => by simp
  | i + 1, [], l', h, _, _ => by simp at h
  | i + 1, _ :: _, [], _, h, _ => by simp at h
  | i + 1, x :: r, y :: q, h, h', he => by
    have h0 := he 0 (by simp) (by simp) (by omega)
    simp only [List.getElem_cons_zero] at h0
    rw [ords, if_neg (by simpa using h0)]
    simp only [List.drop_succ_cons]
    exact ords_drop i r q (by simpa using h) (by simpa using h') (fun j hj hj' hi => by
      have := he (j + 1) (by simpa using hj) (by simpa using hj') (by omega)
      simpa using this)
theorem ords_more (l l' : List Tm) (i : Nat) (h : i < l.length) (h' : i = l'.length) : ords (l.drop i) (l'.drop i) = 1 := by
  rw [List.drop_of_length_le (l := l') (by omega), List.drop_eq_getElem_cons h, ords]
theorem ords_less (l l' : List Tm) (i : Nat) (h : i = l.length) (h' : i < l'.length) : ords (l.drop i) (l'.drop i) = -1 := by
  rw [List.drop_of_length_le (l := l) (by omega), List.drop_eq_getElem_cons h', ords]
theorem ords_both (l l' : List Tm) (i : Nat) (h : i = l.length) (h' : i = l'.length) : ords (l.drop i) (l'.drop i) = 0 := by
  rw [List.drop_of_length_le (l := l) (by omega), List.drop_of_length_le (l := l') (by omega), ords]
theorem ords_hit (l l' : List Tm) (i : Nat) (h : i < l.length) (h' : i < l'.length) (hn : ord l[i] l'[i] ≠ 0) : ords (l.drop i) (l'.drop i) = ord l[i] l'[i] := by
  rw [List.drop_eq_getElem_cons h, List.drop_eq_getElem_cons h', ords, if_pos hn]

def OrderSaid (x : Tm) : Prop := ∀ (y : Tm) (d : Nat) (di : Int) (S : Nat → Prop) (vx vy : Value) (w : World), di = d → d + sz x ≤ 262144 → Rep w S x vx → Rep w S y vy → (∀ b, S b → b < w.heap.size) →
  Calls Tryd.prog 57 #[.int .i64 di, vx, vy] w fun e w' => e = .returned (.int .i64 (ord x y)) ∧ Below w.heap.size w w'

set_option maxHeartbeats 2000000 in
set_option maxRecDepth 100000 in
theorem cmpf_any (l l' : List Tm) (ih : ∀ x ∈ l, OrderSaid x) (d : Nat) (di : Int) (S : Nat → Prop) (A A' : Option Addr) (ca ca' : Nat) (w : World) (hd : di = d) (hsz : d + szs l ≤ 262144) (hr : TRow w S l A) (hr' : TRow w S l' A') (hS : ∀ b, S b → b < w.heap.size) :
    Calls Tryd.prog 74 #[.slice A l.length ca, .slice A' l'.length ca', .func (.func 57) #[.int .i64 di] #[]] w fun e w' => e = .returned (.int .i64 (ords l l')) ∧ Below w.heap.size w w' := by
  have hll := szs_len l
  have HR := Lib.hid hr
  have HR' := Lib.hid hr'
  have HS := Lib.hid hS
  have HI := Lib.hid ih
  have HD := Lib.hid hd
  obtain ⟨R, hR⟩ : ∃ R, R = ords l l' := ⟨_, rfl⟩
  rw [← hR]
  have HRR := Lib.hid hR
  clear hr hr' hS ih hd hR
  obtain ⟨n, hn⟩ : ∃ n, n = l.length := ⟨_, rfl⟩
  obtain ⟨n', hn'⟩ : ∃ n', n' = l'.length := ⟨_, rfl⟩
  have HN := Lib.hid hn
  have HN' := Lib.hid hn'
  rw [← hn, ← hn']
  rw [← hn] at hll
  clear hn hn'
  go_enter Tryd.func74, Tryd.ntmps74
  go_wp2
  go_loopw [13] (fun iv wr => ∃ i : Nat, i ≤ n ∧ iv = .int .i64 (i : Nat) ∧ i ≤ n' ∧ Hid (∀ j (h : j < l.length) (h' : j < l'.length), j < i → ord l[j] l'[j] = 0) ∧ Hid (Below w.heap.size w wr)) (fun iv _ => n - (intOf iv).toNat)
  case atStart => exact ⟨0, by omega, rfl, by omega, Lib.hid (fun j _ _ h => absurd h (by omega)), Below.refl _ _⟩
  case round =>
    obtain ⟨i, hi, rfl, hi', HA, HB⟩ := hrel
    have hdr := ords_drop i l l' (by rw [← HN.out]; exact hi) (by rw [← HN'.out]; exact hi') HA.out
    by_cases hlt : i < n
    · have hlt1 : i < l.length := by rw [← HN.out]; exact hlt
      have hil : (i : Int) < (n : Int) := by omega
      obtain ⟨b, o, k, s, m, p, C, cb, rfl, hSb, hx, c0, c1, c2, c3, hrep⟩ := trow_get HR.out HB.out HS.out hlt1
      by_cases hlt' : i < n'
      · have hlt2 : i < l'.length := by rw [← HN'.out]; exact hlt'
        have hil' : ¬ (n' : Int) ≤ (i : Int) := by omega
        obtain ⟨b', o', k', s', m', p', C', cb', rfl, hSb', hx', e0, e1, e2, e3, hrep'⟩ := trow_get HR'.out (HB.out.alloc HB.out.size (.cells #[.int .i64 k, .string ⟨⟨s⟩⟩, .int .i64 m, .slice C p.length cb] 33)) HS.out hlt2
        obtain ⟨W2, hW2⟩ : ∃ W2, W2 = ((wr.alloc (.cells #[.int .i64 k, .string ⟨⟨s⟩⟩, .int .i64 m, .slice C p.length cb] 33)).alloc (.cells #[.int .i64 k', .string ⟨⟨s'⟩⟩, .int .i64 m', .slice C' p'.length cb'] 33)) := ⟨_, rfl⟩
        have hb3 : Below wr.heap.size (wr.alloc (.cells #[.int .i64 k, .string ⟨⟨s⟩⟩, .int .i64 m, .slice C p.length cb] 33)) W2 := by rw [hW2]; exact (Below.refl _ _).alloc (by simp) _
        have hb2 : Below wr.heap.size wr W2 := by rw [hW2]; exact ((Below.refl _ _).alloc (Nat.le_refl _) _).alloc (by simp) _
        have hbw : Below w.heap.size w W2 := HB.out.trans (hb2.mono HB.out.size)
        have hSw : ∀ b, S b → b < wr.heap.size := fun b hb => Nat.lt_of_lt_of_le (HS.out b hb) HB.out.size
        have hmem : l[i] ∈ l := List.getElem_mem hlt1
        have hszm := szs_mem l _ hmem
        have hO := HI.out _ hmem
        have hhit := ords_hit l l' i hlt1 hlt2
        have hnx : ord l[i] l'[i] = 0 → ∀ j (h : j < l.length) (h' : j < l'.length), j < i + 1 → ord l[j] l'[j] = 0 := by
          intro h0 j h1 h2 h3
          rcases Nat.lt_or_ge j i with h4 | h4
          · exact HA.out j h1 h2 h4
          · have : j = i := by omega
            subst this; exact h0
        rw [hx] at hO hszm hhit hnx
        rw [hx'] at hhit hnx
        have hcall := hO (.mk k' s' m' p') d di S _ _ W2 HD.out (by omega) (rep_below hrep hb2 hSw) (rep_at hrep' hb3 hSw) (fun b hb => Nat.lt_of_lt_of_le (hSw b hb) hb2.size)
        by_cases h0 : ord (.mk k s m p) (.mk k' s' m' p') = 0
        · have HNX := Lib.hid (hnx h0)
          rw [h0] at hcall
          have HCALL := Lib.hid hcall
          have HBW := Lib.hid hbw
          have HW2 := Lib.hid hW2
          clear hcall hnx hhit hO hszm hmem hrep hrep' hx hx' hb2 hb3 hbw hW2 hSw HA hdr h0
          go_wp2_with fail
          rw [← HW2.out]
          refine HCALL.out.mono ?_
          rintro _ w1 ⟨rfl, hb1⟩
          have HB1 : Hid (Below w.heap.size w w1) := HBW.out.trans (hb1.mono HBW.out.size)
          clear hb1 HCALL
          go_wp2
          go_roundw
          case rel => exact ⟨i + 1, by omega, by go_num, by omega, HNX, HB1⟩
          case measure => simp [intOf]; omega
        · have HH : Hid (R = _) := HRR.out.trans (hdr.trans (hhit h0))
          generalize ord (.mk k s m p) (.mk k' s' m' p') = r at hcall HH h0
          have HCALL := Lib.hid hcall
          have HBW := Lib.hid hbw
          have HW2 := Lib.hid hW2
          clear hcall hnx hhit hO hszm hmem hrep hrep' hx hx' hb2 hb3 hbw hW2 hSw HA hdr
          go_wp2_with fail
          rw [← HW2.out]
          refine HCALL.out.mono ?_
          rintro _ w1 ⟨rfl, hb1⟩
          have HB1 : Hid (Below w.heap.size w w1) := HBW.out.trans (hb1.mono HBW.out.size)
          clear hb1 HCALL
          go_wp2
          go_ret
          exact ⟨by rw [HH.out]; rfl, HB1.out⟩
      · have hil' : (n' : Int) ≤ (i : Int) := by omega
        have HH : Hid (R = 1) := HRR.out.trans (hdr.trans (ords_more l l' i hlt1 (by rw [← HN'.out]; omega)))
        have HB1 : Hid (Below w.heap.size w (wr.alloc (.cells #[.int .i64 k, .string ⟨⟨s⟩⟩, .int .i64 m, .slice C p.length cb] 33))) := HB.out.alloc HB.out.size _
        clear hx hrep hdr HA
        go_wp2
        go_ret
        exact ⟨by rw [HH.out]; rfl, HB1.out⟩
    · have hil : ¬ (i : Int) < (n : Int) := by omega
      by_cases hlt' : i < n'
      · have hnn : (n : Int) < (n' : Int) := by omega
        have HH : Hid (R = -1) := HRR.out.trans (hdr.trans (ords_less l l' i (by rw [← HN.out]; omega) (by rw [← HN'.out]; omega)))
        clear hdr HA
        go_wp2
        go_ret
        exact ⟨by rw [HH.out]; rfl, HB.out⟩
      · have hnn : ¬ (n : Int) < (n' : Int) := by omega
        have HH : Hid (R = 0) := HRR.out.trans (hdr.trans (ords_both l l' i (by rw [← HN.out]; omega) (by rw [← HN'.out]; omega)))
        clear hdr HA
        go_wp2
        go_ret
        exact ⟨by rw [HH.out]; rfl, HB.out⟩
end Go.Proofs.YtiidooponlbnmaaDoor.Te
