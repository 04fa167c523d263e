/- carry: the reader's node and term. (Laid with NS=1; written by wip/tools/gen/cyu14.py.) -/
import Derived.Test.YticofjbngfjjlaaGreatDoorGATmV3
namespace Go.Proofs.YticofjbngfjjlaaGreatDoor.Cy
open Go.RowKit
open Te Te.Tt
open Wi.Wr (It wr wrs)

theorem name_post (E : Rd) (s : List UInt8) (W : World) (h : E.lies W) : Calls Tryz.prog 111 #[.string ⟨⟨s⟩⟩] W (RPost E W (if isName s = true then .ok (.mk 0 s 0 []) else .error 13)) :=
  (readName_any s W).mono fun e w' ⟨he, hb⟩ => by
    refine ⟨?_, h.next hb, Oth.of hb⟩
    by_cases hn : isName s = true
    · rw [if_pos hn] at he ⊢
      exact ⟨_, _, _, _, he, rep_mk.2 ⟨none, 0, rfl, ⟨by omega, by omega⟩, .inl rfl⟩⟩
    · rw [if_neg hn] at he ⊢
      exact he
theorem rn_in (s : List UInt8) : InR (rn s) := by
  unfold rn wrap64 InR
  omega
theorem num_post (E : Rd) (s : List UInt8) (W : World) (h : E.lies W) : Calls Tryz.prog 112 #[.string ⟨⟨s⟩⟩] W (RPost E W (if s.length = 8 then .ok (.mk 1 [] (rn s) []) else .error 13)) :=
  (readNum_any s W).mono fun e w' ⟨he, hb⟩ => by
    refine ⟨?_, h.next hb, Oth.of hb⟩
    by_cases hn : s.length = 8
    · rw [if_pos hn] at he ⊢
      exact ⟨_, _, _, _, he, rep_mk.2 ⟨none, 0, rfl, rn_in s, .inl rfl⟩⟩
    · rw [if_neg hn] at he ⊢
      exact he

/-- What a key is read as. -/
def kyR (c : List UInt8) (ks : List Tm) (s : List UInt8) : Except Int Tm :=
  match fnd c (fun b => decide (b = s)) ks with
  | none => .error 21
  | some k => .ok k
theorem rkey_post (E : Rd) (ho : E.ok) (s : List UInt8) (V : World) (hV : E.lies V) : Calls Tryz.prog 113 #[.pointer (some ⟨E.R, 0, none⟩), .string ⟨⟨s⟩⟩] V (RPost E V (kyR E.c E.ks s)) := rkey_any E ho s V hV

/-- What a node is read as. -/
def ndR (c : List UInt8) (ks : List Tm) (U : It → Except Int Tm) (t : Int) (l : List It) : Except Int Tm := if t = 4 then lsR U l else if t = 6 then smR c ks U l else .error 13

set_option maxHeartbeats 4000000 in
set_option maxRecDepth 100000 in
theorem rnode_of (E : Rd) (ho : E.ok) (f : Nat) (d : Int) (hd0 : 0 ≤ d) (hd1 : d ≤ 16) (hd : d + 1 = 17 - (f : Nat)) (hT : TermSaid E f) (tg : Int) (s : List UInt8) (l : List It) (S : Nat → Prop) (v : Value) (V : World) (hsh : Sh9 (.mk true tg s l)) (hV : E.lies V)
    (hrep : Wi.Rep V S (.mk true tg s l) v) (hS : ∀ b, S b → b < V.heap.size ∧ b ≠ E.gb) :
    Calls Tryz.prog 110 #[.pointer (some ⟨E.R, 0, none⟩), v, .int .i64 d] V (RPost E V (ndR E.c E.ks (un E.c E.ks f) tg l)) := by
  obtain ⟨A, cap, rfl, hrow⟩ := Wi.rep_mk.1 hrep
  have HV := Lib.hid hV
  obtain ⟨W0, hW0⟩ : ∃ W0, W0 = (V.alloc (.cells #[.bool true, .int .i64 tg, .string ⟨⟨s⟩⟩, .slice A l.length cap] 64)).alloc (.cells #[.int .i64 0, .string ⟨#[]⟩, .int .i64 0, .slice none 0 0] 25) := ⟨_, rfl⟩
  have hb0 : Below V.heap.size V W0 := by rw [hW0]; exact ((Below.refl _ _).alloc (Nat.le_refl _) _).alloc (by simp) _
  have hg0 : W0.heap[V.heap.size]? = some (.cells #[.bool true, .int .i64 tg, .string ⟨⟨s⟩⟩, .slice A l.length cap] 64 (0, 0)) := by rw [hW0, heap_alloc_old _ _ (by simp)]; exact heap_alloc_new _ _
  have hg1 : W0.heap[V.heap.size + 1]? = some (.cells #[.int .i64 0, .string ⟨#[]⟩, .int .i64 0, .slice none 0 0] 25 (0, 0)) := by
    have h := heap_alloc_new (V.alloc (.cells #[.bool true, .int .i64 tg, .string ⟨⟨s⟩⟩, .slice A l.length cap] 64)) (.cells #[.int .i64 0, .string ⟨#[]⟩, .int .i64 0, .slice none 0 0] 25)
    rw [World.size_alloc] at h
    rw [hW0]; exact h
  have hs0 : W0.heap.size = V.heap.size + 2 := by rw [hW0]; simp
  have hl0 := hV.next hb0
  have hrow0 : Wi.Row W0 S l A := irow_keep hrow (fun b hb => hb0.block b (hS b hb).1)
  have hrep0 : Wi.Rep W0 S (.mk true tg s l) (.agg #[.bool true, .int .i64 tg, .string ⟨⟨s⟩⟩, .slice A l.length cap]) := Wi.rep_mk.2 ⟨A, cap, rfl, hrow0⟩
  have hS0 : ∀ b, S b → b < W0.heap.size ∧ b ≠ E.gb := fun b hb => ⟨by have := (hS b hb).1; omega, (hS b hb).2⟩
  obtain ⟨hsl, hll, hsy, -⟩ := sh9_own hsh
  obtain ⟨c0, c1, c2, c3⟩ := cell4 hg0
  rw [hW0] at c0 c1 c2 c3
  have HW0 := Lib.hid hW0
  have HB0 := Lib.hid hb0
  have HG1 := Lib.hid hg1
  have HS0 := Lib.hid hs0
  have HL0 := Lib.hid hl0
  by_cases h4 : tg = 4
  · subst h4
    have HUN : Hid (ndR E.c E.ks (un E.c E.ks f) 4 l = lsR (un E.c E.ks f) l) := by rw [Hid, ndR, if_pos rfl]
    have hcall := rlist_of E ho f d hd0 hd1 hd hT l A cap S W0 hll hsy hl0 hrow0 hS0
    clear hW0 hb0 hg0 hg1 hs0 hl0 hrow0 hrep0 hS0 hsl hll hsy hrow hT hsh hV hrep hS hd
    go_enter Tryz.func110, Tryz.ntmps110
    have HC := Lib.hid hcall
    clear hcall
    obtain ⟨r, hr⟩ : ∃ r, r = lsR (un E.c E.ks f) l := ⟨_, rfl⟩
    rw [← hr] at HC
    have HR0 : Hid (ndR E.c E.ks (un E.c E.ks f) 4 l = r) := by rw [hr]; exact HUN.out
    clear hr HUN
    go_wp2_with fail
    rw [← HW0.out]
    refine HC.out.mono ?_
    rintro e w1 ⟨hp, hl1, ho1⟩
    have hs0 := HS0.out
    have hgb := HV.out.blt
    have hlF := hl1
    have hgF := (ho1.block (V.heap.size + 1) (by omega) (by omega)).trans HG1.out
    have hoF := (Oth.of HB0.out).trans (ho1.mono (by omega))
    clear hl1 ho1 HC HG1 HB0 HL0
    cases r with
    | error x =>
      unfold zeroT at hp
      simp only at hp
      subst hp
      have HR := HR0
      obtain ⟨q1, q2, q3, q4, q5⟩ := fin4 (v0 := .int .i64 0) (v1 := .string ⟨#[]⟩) (v2 := .int .i64 0) (v3 := .slice none 0 0) ho HV.out hlF (Nat.le_add_right _ _) hgF hoF
      obtain ⟨y0, y1, y2, y3⟩ := cell4 hgF
      have f0 := fun j => frozen_of_row _ _ j _ _ hgF
      have Q1 := Lib.hid q1
      have Q2 := Lib.hid q2
      have Q3 := Lib.hid q3
      have Q4 := Lib.hid q4
      have Q5 := Lib.hid q5
      clear hlF hgF hoF q1 q2 q3 q4 q5 hgb hs0
      go_wp2
      obtain ⟨y0, y1, y2, y3⟩ := cell4 Q1.out
      refine bodyPost_ret (v := .tuple #[.agg #[.int .i64 0, .string ⟨#[]⟩, .int .i64 0, .slice none 0 0], .int .i64 x]) (by simp [results, Tryz.results110, go_sem, y0, y1, y2, y3]) rfl ?_
      unfold RPost
      rw [HR.out]
      exact ⟨rfl, Q2.out, Q3.out⟩
    | ok t =>
      obtain ⟨u0, u1, u2, u3, rfl, hrt⟩ := hp
      obtain ⟨tk, ts, tn, tl⟩ := t
      obtain ⟨TA, tc, hv, -, -⟩ := rep_mk.1 hrt
      injection hv with hv
      simp at hv
      obtain ⟨rfl, rfl, rfl, rfl⟩ := hv
      have HRT := Lib.hid hrt
      have HR := HR0
      clear hrt
      obtain ⟨q1, q2, q3, q4, q5⟩ := fin4 (v0 := .int .i64 tk) (v1 := .string ⟨⟨ts⟩⟩) (v2 := .int .i64 tn) (v3 := .slice TA tl.length tc) ho HV.out hlF (Nat.le_add_right _ _) hgF hoF
      obtain ⟨y0, y1, y2, y3⟩ := cell4 hgF
      have f0 := fun j => frozen_of_row _ _ j _ _ hgF
      have Q1 := Lib.hid q1
      have Q2 := Lib.hid q2
      have Q3 := Lib.hid q3
      have Q4 := Lib.hid q4
      have Q5 := Lib.hid q5
      clear hlF hgF hoF q1 q2 q3 q4 q5 hgb hs0
      go_wp2
      obtain ⟨y0, y1, y2, y3⟩ := cell4 Q1.out
      refine bodyPost_ret (v := .tuple #[.agg #[.int .i64 tk, .string ⟨⟨ts⟩⟩, .int .i64 tn, .slice TA tl.length tc], .int .i64 0]) (by simp [results, Tryz.results110, go_sem, y0, y1, y2, y3]) rfl ?_
      unfold RPost
      rw [HR.out]
      exact ⟨⟨_, _, _, _, rfl, rep_fin HRT.out Q4.out Q5.out (by have := HS0.out; omega) (by have := HS0.out; omega)⟩, Q2.out, Q3.out⟩
  · have e4 : (tg == 4) = false := by simpa using h4
    by_cases h6 : tg = 6
    · subst h6
      have HUN : Hid (ndR E.c E.ks (un E.c E.ks f) 6 l = smR E.c E.ks (un E.c E.ks f) l) := by rw [Hid, ndR, if_neg h4, if_pos rfl]
      have hcall := rsum_of E ho f d hd0 hd1 hd hT l A cap S W0 hll hsy hl0 hrow0 hS0
      clear hW0 hb0 hg0 hg1 hs0 hl0 hrow0 hrep0 hS0 hsl hll hsy hrow hT hsh hV hrep hS hd
      go_enter Tryz.func110, Tryz.ntmps110
      have HC := Lib.hid hcall
      clear hcall
      obtain ⟨r, hr⟩ : ∃ r, r = smR E.c E.ks (un E.c E.ks f) l := ⟨_, rfl⟩
      rw [← hr] at HC
      have HR0 : Hid (ndR E.c E.ks (un E.c E.ks f) 6 l = r) := by rw [hr]; exact HUN.out
      clear hr HUN
      go_wp2_with fail
      rw [← HW0.out]
      refine HC.out.mono ?_
      rintro e w1 ⟨hp, hl1, ho1⟩
      have hs0 := HS0.out
      have hgb := HV.out.blt
      have hlF := hl1
      have hgF := (ho1.block (V.heap.size + 1) (by omega) (by omega)).trans HG1.out
      have hoF := (Oth.of HB0.out).trans (ho1.mono (by omega))
      clear hl1 ho1 HC HG1 HB0 HL0
      cases r with
      | error x =>
        unfold zeroT at hp
        simp only at hp
        subst hp
        have HR := HR0
        obtain ⟨q1, q2, q3, q4, q5⟩ := fin4 (v0 := .int .i64 0) (v1 := .string ⟨#[]⟩) (v2 := .int .i64 0) (v3 := .slice none 0 0) ho HV.out hlF (Nat.le_add_right _ _) hgF hoF
        obtain ⟨y0, y1, y2, y3⟩ := cell4 hgF
        have f0 := fun j => frozen_of_row _ _ j _ _ hgF
        have Q1 := Lib.hid q1
        have Q2 := Lib.hid q2
        have Q3 := Lib.hid q3
        have Q4 := Lib.hid q4
        have Q5 := Lib.hid q5
        clear hlF hgF hoF q1 q2 q3 q4 q5 hgb hs0
        go_wp2
        obtain ⟨y0, y1, y2, y3⟩ := cell4 Q1.out
        refine bodyPost_ret (v := .tuple #[.agg #[.int .i64 0, .string ⟨#[]⟩, .int .i64 0, .slice none 0 0], .int .i64 x]) (by simp [results, Tryz.results110, go_sem, y0, y1, y2, y3]) rfl ?_
        unfold RPost
        rw [HR.out]
        exact ⟨rfl, Q2.out, Q3.out⟩
      | ok t =>
        obtain ⟨u0, u1, u2, u3, rfl, hrt⟩ := hp
        obtain ⟨tk, ts, tn, tl⟩ := t
        obtain ⟨TA, tc, hv, -, -⟩ := rep_mk.1 hrt
        injection hv with hv
        simp at hv
        obtain ⟨rfl, rfl, rfl, rfl⟩ := hv
        have HRT := Lib.hid hrt
        have HR := HR0
        clear hrt
        obtain ⟨q1, q2, q3, q4, q5⟩ := fin4 (v0 := .int .i64 tk) (v1 := .string ⟨⟨ts⟩⟩) (v2 := .int .i64 tn) (v3 := .slice TA tl.length tc) ho HV.out hlF (Nat.le_add_right _ _) hgF hoF
        obtain ⟨y0, y1, y2, y3⟩ := cell4 hgF
        have f0 := fun j => frozen_of_row _ _ j _ _ hgF
        have Q1 := Lib.hid q1
        have Q2 := Lib.hid q2
        have Q3 := Lib.hid q3
        have Q4 := Lib.hid q4
        have Q5 := Lib.hid q5
        clear hlF hgF hoF q1 q2 q3 q4 q5 hgb hs0
        go_wp2
        obtain ⟨y0, y1, y2, y3⟩ := cell4 Q1.out
        refine bodyPost_ret (v := .tuple #[.agg #[.int .i64 tk, .string ⟨⟨ts⟩⟩, .int .i64 tn, .slice TA tl.length tc], .int .i64 0]) (by simp [results, Tryz.results110, go_sem, y0, y1, y2, y3]) rfl ?_
        unfold RPost
        rw [HR.out]
        exact ⟨⟨_, _, _, _, rfl, rep_fin HRT.out Q4.out Q5.out (by have := HS0.out; omega) (by have := HS0.out; omega)⟩, Q2.out, Q3.out⟩
    · have e6 : (tg == 6) = false := by simpa using h6
      have HUN : Hid (ndR E.c E.ks (un E.c E.ks f) tg l = .error 13) := by rw [Hid, ndR, if_neg h4, if_neg h6]
      clear hW0 hb0 hg0 hg1 hs0 hl0 hrow0 hrep0 hS0 hsl hll hsy hrow hT hsh hV hrep hS hd h4 h6
      go_enter Tryz.func110, Tryz.ntmps110
      have HR : Hid (ndR E.c E.ks (un E.c E.ks f) tg l = .error 13) := HUN.out
      clear HUN
      go_wp2
      refine bodyPost_ret (v := .tuple #[.agg #[.int .i64 0, .string ⟨#[]⟩, .int .i64 0, .slice none 0 0], .int .i64 13]) (by simp [results, Tryz.results110, go_sem]) rfl ?_
      unfold RPost
      rw [HR.out]
      rw [← HW0.out]
      exact ⟨rfl, HL0.out, Oth.of HB0.out⟩

theorem slR_eq (c : List UInt8) (ks : List Tm) (f : Nat) (s : List UInt8) (l : List It) : uno c ks (un c ks f) (.mk false 5 s l) = slR c ks f s := by
  cases s with
  | nil => rfl
  | cons u r =>
    rw [uno.eq_def, slR]
    simp only [Bool.false_eq_true, if_false, show (5 : Int) ≠ 1 by decide, show (5 : Int) ≠ 2 by decide, show (5 : Int) ≠ 3 by decide, if_true]
    split
    · rfl
    · cases fnd c (fun b => decide ((Sl.opn b (u.toNat : Nat) r).2 = 0)) ks with
      | none => rfl
      | some k =>
        simp only [slF, unt]
        cases Wi.gt (Sl.opn (Cy.kb c k.s k.n) (u.toNat : Nat) r).1 with
        | error e => rfl
        | ok y => simp only [slT]; cases un c ks f y <;> rfl
theorem ndR_eq (c : List UInt8) (ks : List Tm) (f : Nat) (t : Int) (s : List UInt8) (l : List It) : uno c ks (un c ks f) (.mk true t s l) = ndR c ks (un c ks f) t l := by
  rw [uno.eq_def, ndR]
  simp only [if_true]
  by_cases h4 : t = 4
  · rw [if_pos h4, if_pos h4]; rfl
  · rw [if_neg h4, if_neg h4]
    by_cases h6 : t = 6
    · rw [if_pos h6, if_pos h6]
      unfold smR
      cases smu l with
      | none => rfl
      | some u =>
        simp only
        cases un c ks f (snd l) with
        | error e => rfl
        | ok x =>
          simp only [smX]
          cases fnd c (fun b => decide (Sl.chk b u (wr (snd l)) = ist (l.getD 2 (leaf 0 [])))) ks <;> rfl
    · rw [if_neg h6, if_neg h6]

set_option maxHeartbeats 8000000 in
set_option maxRecDepth 100000 in
theorem term_zero (E : Rd) : TermSaid E 0 := by
  intro x S v V hsh hV hrep hS
  obtain ⟨nd, tg, s, l⟩ := x
  obtain ⟨A, cap, rfl, hrow⟩ := Wi.rep_mk.1 hrep
  have HV := Lib.hid hV
  obtain ⟨W0, hW0⟩ : ∃ W0, W0 = (V.alloc (.cells #[.bool nd, .int .i64 tg, .string ⟨⟨s⟩⟩, .slice A l.length cap] 64)).alloc (.cells #[.int .i64 0, .string ⟨#[]⟩, .int .i64 0, .slice none 0 0] 25) := ⟨_, rfl⟩
  have hb0 : Below V.heap.size V W0 := by rw [hW0]; exact ((Below.refl _ _).alloc (Nat.le_refl _) _).alloc (by simp) _
  have hg0 : W0.heap[V.heap.size]? = some (.cells #[.bool nd, .int .i64 tg, .string ⟨⟨s⟩⟩, .slice A l.length cap] 64 (0, 0)) := by rw [hW0, heap_alloc_old _ _ (by simp)]; exact heap_alloc_new _ _
  have hg1 : W0.heap[V.heap.size + 1]? = some (.cells #[.int .i64 0, .string ⟨#[]⟩, .int .i64 0, .slice none 0 0] 25 (0, 0)) := by
    have h := heap_alloc_new (V.alloc (.cells #[.bool nd, .int .i64 tg, .string ⟨⟨s⟩⟩, .slice A l.length cap] 64)) (.cells #[.int .i64 0, .string ⟨#[]⟩, .int .i64 0, .slice none 0 0] 25)
    rw [World.size_alloc] at h
    rw [hW0]; exact h
  have hs0 : W0.heap.size = V.heap.size + 2 := by rw [hW0]; simp
  have hl0 := hV.next hb0
  have hrow0 : Wi.Row W0 S l A := irow_keep hrow (fun b hb => hb0.block b (hS b hb).1)
  have hrep0 : Wi.Rep W0 S (.mk nd tg s l) (.agg #[.bool nd, .int .i64 tg, .string ⟨⟨s⟩⟩, .slice A l.length cap]) := Wi.rep_mk.2 ⟨A, cap, rfl, hrow0⟩
  have hS0 : ∀ b, S b → b < W0.heap.size ∧ b ≠ E.gb := fun b hb => ⟨by have := (hS b hb).1; omega, (hS b hb).2⟩
  obtain ⟨hsl, hll, hsy, -⟩ := sh9_own hsh
  obtain ⟨c0, c1, c2, c3⟩ := cell4 hg0
  rw [hW0] at c0 c1 c2 c3
  have HW0 := Lib.hid hW0
  have HB0 := Lib.hid hb0
  have HG1 := Lib.hid hg1
  have HS0 := Lib.hid hs0
  have HL0 := Lib.hid hl0
  have HUN : Hid (un E.c E.ks 0 (.mk nd tg s l) = .error 12) := rfl
  clear hW0 hb0 hg0 hg1 hs0 hl0 hrow0 hrep0 hS0 hsl hll hsy hrow hsh hV hrep hS
  have e16 : (17 : Int) - ((0 : Nat) : Int) = 17 := rfl
  rw [e16]
  go_enter Tryz.func74, Tryz.ntmps74
  have HR : Hid (un E.c E.ks 0 (.mk nd tg s l) = .error 12) := HUN.out
  clear HUN
  go_wp2
  refine bodyPost_ret (v := .tuple #[.agg #[.int .i64 0, .string ⟨#[]⟩, .int .i64 0, .slice none 0 0], .int .i64 12]) (by simp [results, Tryz.results74, go_sem]) rfl ?_
  unfold RPost
  rw [HR.out]
  rw [← HW0.out]
  exact ⟨rfl, HL0.out, Oth.of HB0.out⟩

set_option maxHeartbeats 8000000 in
set_option maxRecDepth 100000 in
theorem term_succ (E : Rd) (ho : E.ok) (f : Nat) (hf : f ≤ 16) (hT : TermSaid E f) : TermSaid E (f + 1) := by
  intro x S v V hsh hV hrep hS
  obtain ⟨nd, tg, s, l⟩ := x
  obtain ⟨d, hd⟩ : ∃ d : Int, d = 17 - ((f + 1 : Nat) : Int) := ⟨_, rfl⟩
  rw [← hd]
  have hd0 : 0 ≤ d := by omega
  have hd1 : d ≤ 16 := by omega
  have hd2 : d + 1 = 17 - (f : Nat) := by omega
  have e16 : ¬ (16 : Int) < d := by omega
  clear hd
  obtain ⟨A, cap, rfl, hrow⟩ := Wi.rep_mk.1 hrep
  have HV := Lib.hid hV
  obtain ⟨W0, hW0⟩ : ∃ W0, W0 = (V.alloc (.cells #[.bool nd, .int .i64 tg, .string ⟨⟨s⟩⟩, .slice A l.length cap] 64)).alloc (.cells #[.int .i64 0, .string ⟨#[]⟩, .int .i64 0, .slice none 0 0] 25) := ⟨_, rfl⟩
  have hb0 : Below V.heap.size V W0 := by rw [hW0]; exact ((Below.refl _ _).alloc (Nat.le_refl _) _).alloc (by simp) _
  have hg0 : W0.heap[V.heap.size]? = some (.cells #[.bool nd, .int .i64 tg, .string ⟨⟨s⟩⟩, .slice A l.length cap] 64 (0, 0)) := by rw [hW0, heap_alloc_old _ _ (by simp)]; exact heap_alloc_new _ _
  have hg1 : W0.heap[V.heap.size + 1]? = some (.cells #[.int .i64 0, .string ⟨#[]⟩, .int .i64 0, .slice none 0 0] 25 (0, 0)) := by
    have h := heap_alloc_new (V.alloc (.cells #[.bool nd, .int .i64 tg, .string ⟨⟨s⟩⟩, .slice A l.length cap] 64)) (.cells #[.int .i64 0, .string ⟨#[]⟩, .int .i64 0, .slice none 0 0] 25)
    rw [World.size_alloc] at h
    rw [hW0]; exact h
  have hs0 : W0.heap.size = V.heap.size + 2 := by rw [hW0]; simp
  have hl0 := hV.next hb0
  have hrow0 : Wi.Row W0 S l A := irow_keep hrow (fun b hb => hb0.block b (hS b hb).1)
  have hrep0 : Wi.Rep W0 S (.mk nd tg s l) (.agg #[.bool nd, .int .i64 tg, .string ⟨⟨s⟩⟩, .slice A l.length cap]) := Wi.rep_mk.2 ⟨A, cap, rfl, hrow0⟩
  have hS0 : ∀ b, S b → b < W0.heap.size ∧ b ≠ E.gb := fun b hb => ⟨by have := (hS b hb).1; omega, (hS b hb).2⟩
  obtain ⟨hsl, hll, hsy, -⟩ := sh9_own hsh
  obtain ⟨c0, c1, c2, c3⟩ := cell4 hg0
  rw [hW0] at c0 c1 c2 c3
  have HW0 := Lib.hid hW0
  have HB0 := Lib.hid hb0
  have HG1 := Lib.hid hg1
  have HS0 := Lib.hid hs0
  have HL0 := Lib.hid hl0
  rw [un_succ]
  cases nd with
  | true =>
    have HUN : Hid (uno E.c E.ks (un E.c E.ks f) (.mk true tg s l) = ndR E.c E.ks (un E.c E.ks f) tg l) := by rw [Hid]; exact ndR_eq _ _ _ _ _ _
    have hcall := rnode_of E ho f d hd0 hd1 hd2 hT tg s l S _ W0 hsh hl0 hrep0 hS0
    clear hW0 hb0 hg0 hg1 hs0 hl0 hrow0 hrep0 hS0 hsl hll hsy hrow hT hsh hV hrep hS hd2 hf
    go_enter Tryz.func74, Tryz.ntmps74
    have HC := Lib.hid hcall
    clear hcall
    obtain ⟨r, hr⟩ : ∃ r, r = ndR E.c E.ks (un E.c E.ks f) tg l := ⟨_, rfl⟩
    rw [← hr] at HC
    have HR0 : Hid (uno E.c E.ks (un E.c E.ks f) (.mk true tg s l) = r) := by rw [hr]; exact HUN.out
    clear hr HUN
    go_wp2_with fail
    rw [← HW0.out]
    refine HC.out.mono ?_
    rintro e w1 ⟨hp, hl1, ho1⟩
    have hs0 := HS0.out
    have hgb := HV.out.blt
    have hlF := hl1
    have hgF := (ho1.block (V.heap.size + 1) (by omega) (by omega)).trans HG1.out
    have hoF := (Oth.of HB0.out).trans (ho1.mono (by omega))
    clear hl1 ho1 HC HG1 HB0 HL0
    cases r with
    | error x =>
      unfold zeroT at hp
      simp only at hp
      subst hp
      have HR := HR0
      obtain ⟨q1, q2, q3, q4, q5⟩ := fin4 (v0 := .int .i64 0) (v1 := .string ⟨#[]⟩) (v2 := .int .i64 0) (v3 := .slice none 0 0) ho HV.out hlF (Nat.le_add_right _ _) hgF hoF
      obtain ⟨y0, y1, y2, y3⟩ := cell4 hgF
      have f0 := fun j => frozen_of_row _ _ j _ _ hgF
      have Q1 := Lib.hid q1
      have Q2 := Lib.hid q2
      have Q3 := Lib.hid q3
      have Q4 := Lib.hid q4
      have Q5 := Lib.hid q5
      clear hlF hgF hoF q1 q2 q3 q4 q5 hgb hs0
      go_wp2
      obtain ⟨y0, y1, y2, y3⟩ := cell4 Q1.out
      refine bodyPost_ret (v := .tuple #[.agg #[.int .i64 0, .string ⟨#[]⟩, .int .i64 0, .slice none 0 0], .int .i64 x]) (by simp [results, Tryz.results74, go_sem, y0, y1, y2, y3]) rfl ?_
      unfold RPost
      rw [HR.out]
      exact ⟨rfl, Q2.out, Q3.out⟩
    | ok t =>
      obtain ⟨u0, u1, u2, u3, rfl, hrt⟩ := hp
      obtain ⟨tk, ts, tn, tl⟩ := t
      obtain ⟨TA, tc, hv, -, -⟩ := rep_mk.1 hrt
      injection hv with hv
      simp at hv
      obtain ⟨rfl, rfl, rfl, rfl⟩ := hv
      have HRT := Lib.hid hrt
      have HR := HR0
      clear hrt
      obtain ⟨q1, q2, q3, q4, q5⟩ := fin4 (v0 := .int .i64 tk) (v1 := .string ⟨⟨ts⟩⟩) (v2 := .int .i64 tn) (v3 := .slice TA tl.length tc) ho HV.out hlF (Nat.le_add_right _ _) hgF hoF
      obtain ⟨y0, y1, y2, y3⟩ := cell4 hgF
      have f0 := fun j => frozen_of_row _ _ j _ _ hgF
      have Q1 := Lib.hid q1
      have Q2 := Lib.hid q2
      have Q3 := Lib.hid q3
      have Q4 := Lib.hid q4
      have Q5 := Lib.hid q5
      clear hlF hgF hoF q1 q2 q3 q4 q5 hgb hs0
      go_wp2
      obtain ⟨y0, y1, y2, y3⟩ := cell4 Q1.out
      refine bodyPost_ret (v := .tuple #[.agg #[.int .i64 tk, .string ⟨⟨ts⟩⟩, .int .i64 tn, .slice TA tl.length tc], .int .i64 0]) (by simp [results, Tryz.results74, go_sem, y0, y1, y2, y3]) rfl ?_
      unfold RPost
      rw [HR.out]
      exact ⟨⟨_, _, _, _, rfl, rep_fin HRT.out Q4.out Q5.out (by have := HS0.out; omega) (by have := HS0.out; omega)⟩, Q2.out, Q3.out⟩
  | false =>
    by_cases t1 : tg = 1
    · subst t1
      have HUN : Hid (uno E.c E.ks (un E.c E.ks f) (.mk false 1 s l) = (if isName s = true then (.ok (.mk 0 s 0 []) : Except Int Tm) else .error 13)) := rfl
      have hcall := name_post E s W0 hl0
      clear hW0 hb0 hg0 hg1 hs0 hl0 hrow0 hrep0 hS0 hsl hll hsy hrow hT hsh hV hrep hS hd2 hf
      go_enter Tryz.func74, Tryz.ntmps74
      have HC := Lib.hid hcall
      clear hcall
      obtain ⟨r, hr⟩ : ∃ r, r = (if isName s = true then (.ok (.mk 0 s 0 []) : Except Int Tm) else .error 13) := ⟨_, rfl⟩
      rw [← hr] at HC
      have HR0 : Hid (uno E.c E.ks (un E.c E.ks f) (.mk false 1 s l) = r) := by rw [hr]; exact HUN.out
      clear hr HUN
      go_wp2_with fail
      rw [← HW0.out]
      refine HC.out.mono ?_
      rintro e w1 ⟨hp, hl1, ho1⟩
      have hs0 := HS0.out
      have hgb := HV.out.blt
      have hlF := hl1
      have hgF := (ho1.block (V.heap.size + 1) (by omega) (by omega)).trans HG1.out
      have hoF := (Oth.of HB0.out).trans (ho1.mono (by omega))
      clear hl1 ho1 HC HG1 HB0 HL0
      cases r with
      | error x =>
        unfold zeroT at hp
        simp only at hp
        subst hp
        have HR := HR0
        obtain ⟨q1, q2, q3, q4, q5⟩ := fin4 (v0 := .int .i64 0) (v1 := .string ⟨#[]⟩) (v2 := .int .i64 0) (v3 := .slice none 0 0) ho HV.out hlF (Nat.le_add_right _ _) hgF hoF
        obtain ⟨y0, y1, y2, y3⟩ := cell4 hgF
        have f0 := fun j => frozen_of_row _ _ j _ _ hgF
        have Q1 := Lib.hid q1
        have Q2 := Lib.hid q2
        have Q3 := Lib.hid q3
        have Q4 := Lib.hid q4
        have Q5 := Lib.hid q5
        clear hlF hgF hoF q1 q2 q3 q4 q5 hgb hs0
        go_wp2
        obtain ⟨y0, y1, y2, y3⟩ := cell4 Q1.out
        refine bodyPost_ret (v := .tuple #[.agg #[.int .i64 0, .string ⟨#[]⟩, .int .i64 0, .slice none 0 0], .int .i64 x]) (by simp [results, Tryz.results74, go_sem, y0, y1, y2, y3]) rfl ?_
        unfold RPost
        rw [HR.out]
        exact ⟨rfl, Q2.out, Q3.out⟩
      | ok t =>
        obtain ⟨u0, u1, u2, u3, rfl, hrt⟩ := hp
        obtain ⟨tk, ts, tn, tl⟩ := t
        obtain ⟨TA, tc, hv, -, -⟩ := rep_mk.1 hrt
        injection hv with hv
        simp at hv
        obtain ⟨rfl, rfl, rfl, rfl⟩ := hv
        have HRT := Lib.hid hrt
        have HR := HR0
        clear hrt
        obtain ⟨q1, q2, q3, q4, q5⟩ := fin4 (v0 := .int .i64 tk) (v1 := .string ⟨⟨ts⟩⟩) (v2 := .int .i64 tn) (v3 := .slice TA tl.length tc) ho HV.out hlF (Nat.le_add_right _ _) hgF hoF
        obtain ⟨y0, y1, y2, y3⟩ := cell4 hgF
        have f0 := fun j => frozen_of_row _ _ j _ _ hgF
        have Q1 := Lib.hid q1
        have Q2 := Lib.hid q2
        have Q3 := Lib.hid q3
        have Q4 := Lib.hid q4
        have Q5 := Lib.hid q5
        clear hlF hgF hoF q1 q2 q3 q4 q5 hgb hs0
        go_wp2
        obtain ⟨y0, y1, y2, y3⟩ := cell4 Q1.out
        refine bodyPost_ret (v := .tuple #[.agg #[.int .i64 tk, .string ⟨⟨ts⟩⟩, .int .i64 tn, .slice TA tl.length tc], .int .i64 0]) (by simp [results, Tryz.results74, go_sem, y0, y1, y2, y3]) rfl ?_
        unfold RPost
        rw [HR.out]
        exact ⟨⟨_, _, _, _, rfl, rep_fin HRT.out Q4.out Q5.out (by have := HS0.out; omega) (by have := HS0.out; omega)⟩, Q2.out, Q3.out⟩
    · have u1 : (tg == 1) = false := by simpa using t1
      by_cases t2 : tg = 2
      · subst t2
        have HUN : Hid (uno E.c E.ks (un E.c E.ks f) (.mk false 2 s l) = (if s.length = 8 then (.ok (.mk 1 [] (rn s) []) : Except Int Tm) else .error 13)) := rfl
        have hcall := num_post E s W0 hl0
        clear hW0 hb0 hg0 hg1 hs0 hl0 hrow0 hrep0 hS0 hsl hll hsy hrow hT hsh hV hrep hS hd2 hf
        go_enter Tryz.func74, Tryz.ntmps74
        have HC := Lib.hid hcall
        clear hcall
        obtain ⟨r, hr⟩ : ∃ r, r = (if s.length = 8 then (.ok (.mk 1 [] (rn s) []) : Except Int Tm) else .error 13) := ⟨_, rfl⟩
        rw [← hr] at HC
        have HR0 : Hid (uno E.c E.ks (un E.c E.ks f) (.mk false 2 s l) = r) := by rw [hr]; exact HUN.out
        clear hr HUN
        go_wp2_with fail
        rw [← HW0.out]
        refine HC.out.mono ?_
        rintro e w1 ⟨hp, hl1, ho1⟩
        have hs0 := HS0.out
        have hgb := HV.out.blt
        have hlF := hl1
        have hgF := (ho1.block (V.heap.size + 1) (by omega) (by omega)).trans HG1.out
        have hoF := (Oth.of HB0.out).trans (ho1.mono (by omega))
        clear hl1 ho1 HC HG1 HB0 HL0
        cases r with
        | error x =>
          unfold zeroT at hp
          simp only at hp
          subst hp
          have HR := HR0
          obtain ⟨q1, q2, q3, q4, q5⟩ := fin4 (v0 := .int .i64 0) (v1 := .string ⟨#[]⟩) (v2 := .int .i64 0) (v3 := .slice none 0 0) ho HV.out hlF (Nat.le_add_right _ _) hgF hoF
          obtain ⟨y0, y1, y2, y3⟩ := cell4 hgF
          have f0 := fun j => frozen_of_row _ _ j _ _ hgF
          have Q1 := Lib.hid q1
          have Q2 := Lib.hid q2
          have Q3 := Lib.hid q3
          have Q4 := Lib.hid q4
          have Q5 := Lib.hid q5
          clear hlF hgF hoF q1 q2 q3 q4 q5 hgb hs0
          go_wp2
          obtain ⟨y0, y1, y2, y3⟩ := cell4 Q1.out
          refine bodyPost_ret (v := .tuple #[.agg #[.int .i64 0, .string ⟨#[]⟩, .int .i64 0, .slice none 0 0], .int .i64 x]) (by simp [results, Tryz.results74, go_sem, y0, y1, y2, y3]) rfl ?_
          unfold RPost
          rw [HR.out]
          exact ⟨rfl, Q2.out, Q3.out⟩
        | ok t =>
          obtain ⟨u0, u1, u2, u3, rfl, hrt⟩ := hp
          obtain ⟨tk, ts, tn, tl⟩ := t
          obtain ⟨TA, tc, hv, -, -⟩ := rep_mk.1 hrt
          injection hv with hv
          simp at hv
          obtain ⟨rfl, rfl, rfl, rfl⟩ := hv
          have HRT := Lib.hid hrt
          have HR := HR0
          clear hrt
          obtain ⟨q1, q2, q3, q4, q5⟩ := fin4 (v0 := .int .i64 tk) (v1 := .string ⟨⟨ts⟩⟩) (v2 := .int .i64 tn) (v3 := .slice TA tl.length tc) ho HV.out hlF (Nat.le_add_right _ _) hgF hoF
          obtain ⟨y0, y1, y2, y3⟩ := cell4 hgF
          have f0 := fun j => frozen_of_row _ _ j _ _ hgF
          have Q1 := Lib.hid q1
          have Q2 := Lib.hid q2
          have Q3 := Lib.hid q3
          have Q4 := Lib.hid q4
          have Q5 := Lib.hid q5
          clear hlF hgF hoF q1 q2 q3 q4 q5 hgb hs0
          go_wp2
          obtain ⟨y0, y1, y2, y3⟩ := cell4 Q1.out
          refine bodyPost_ret (v := .tuple #[.agg #[.int .i64 tk, .string ⟨⟨ts⟩⟩, .int .i64 tn, .slice TA tl.length tc], .int .i64 0]) (by simp [results, Tryz.results74, go_sem, y0, y1, y2, y3]) rfl ?_
          unfold RPost
          rw [HR.out]
          exact ⟨⟨_, _, _, _, rfl, rep_fin HRT.out Q4.out Q5.out (by have := HS0.out; omega) (by have := HS0.out; omega)⟩, Q2.out, Q3.out⟩
      · have u2 : (tg == 2) = false := by simpa using t2
        by_cases t3 : tg = 3
        · subst t3
          have HUN : Hid (uno E.c E.ks (un E.c E.ks f) (.mk false 3 s l) = kyR E.c E.ks s) := by rw [Hid, kyR, uno.eq_def]; rfl
          have hcall := rkey_post E ho s W0 hl0
          clear hW0 hb0 hg0 hg1 hs0 hl0 hrow0 hrep0 hS0 hsl hll hsy hrow hT hsh hV hrep hS hd2 hf
          go_enter Tryz.func74, Tryz.ntmps74
          have HC := Lib.hid hcall
          clear hcall
          obtain ⟨r, hr⟩ : ∃ r, r = kyR E.c E.ks s := ⟨_, rfl⟩
          rw [← hr] at HC
          have HR0 : Hid (uno E.c E.ks (un E.c E.ks f) (.mk false 3 s l) = r) := by rw [hr]; exact HUN.out
          clear hr HUN
          go_wp2_with fail
          rw [← HW0.out]
          refine HC.out.mono ?_
          rintro e w1 ⟨hp, hl1, ho1⟩
          have hs0 := HS0.out
          have hgb := HV.out.blt
          have hlF := hl1
          have hgF := (ho1.block (V.heap.size + 1) (by omega) (by omega)).trans HG1.out
          have hoF := (Oth.of HB0.out).trans (ho1.mono (by omega))
          clear hl1 ho1 HC HG1 HB0 HL0
          cases r with
          | error x =>
            unfold zeroT at hp
            simp only at hp
            subst hp
            have HR := HR0
            obtain ⟨q1, q2, q3, q4, q5⟩ := fin4 (v0 := .int .i64 0) (v1 := .string ⟨#[]⟩) (v2 := .int .i64 0) (v3 := .slice none 0 0) ho HV.out hlF (Nat.le_add_right _ _) hgF hoF
            obtain ⟨y0, y1, y2, y3⟩ := cell4 hgF
            have f0 := fun j => frozen_of_row _ _ j _ _ hgF
            have Q1 := Lib.hid q1
            have Q2 := Lib.hid q2
            have Q3 := Lib.hid q3
            have Q4 := Lib.hid q4
            have Q5 := Lib.hid q5
            clear hlF hgF hoF q1 q2 q3 q4 q5 hgb hs0
            go_wp2
            obtain ⟨y0, y1, y2, y3⟩ := cell4 Q1.out
            refine bodyPost_ret (v := .tuple #[.agg #[.int .i64 0, .string ⟨#[]⟩, .int .i64 0, .slice none 0 0], .int .i64 x]) (by simp [results, Tryz.results74, go_sem, y0, y1, y2, y3]) rfl ?_
            unfold RPost
            rw [HR.out]
            exact ⟨rfl, Q2.out, Q3.out⟩
          | ok t =>
            obtain ⟨u0, u1, u2, u3, rfl, hrt⟩ := hp
            obtain ⟨tk, ts, tn, tl⟩ := t
            obtain ⟨TA, tc, hv, -, -⟩ := rep_mk.1 hrt
            injection hv with hv
            simp at hv
            obtain ⟨rfl, rfl, rfl, rfl⟩ := hv
            have HRT := Lib.hid hrt
            have HR := HR0
            clear hrt
            obtain ⟨q1, q2, q3, q4, q5⟩ := fin4 (v0 := .int .i64 tk) (v1 := .string ⟨⟨ts⟩⟩) (v2 := .int .i64 tn) (v3 := .slice TA tl.length tc) ho HV.out hlF (Nat.le_add_right _ _) hgF hoF
            obtain ⟨y0, y1, y2, y3⟩ := cell4 hgF
            have f0 := fun j => frozen_of_row _ _ j _ _ hgF
            have Q1 := Lib.hid q1
            have Q2 := Lib.hid q2
            have Q3 := Lib.hid q3
            have Q4 := Lib.hid q4
            have Q5 := Lib.hid q5
            clear hlF hgF hoF q1 q2 q3 q4 q5 hgb hs0
            go_wp2
            obtain ⟨y0, y1, y2, y3⟩ := cell4 Q1.out
            refine bodyPost_ret (v := .tuple #[.agg #[.int .i64 tk, .string ⟨⟨ts⟩⟩, .int .i64 tn, .slice TA tl.length tc], .int .i64 0]) (by simp [results, Tryz.results74, go_sem, y0, y1, y2, y3]) rfl ?_
            unfold RPost
            rw [HR.out]
            exact ⟨⟨_, _, _, _, rfl, rep_fin HRT.out Q4.out Q5.out (by have := HS0.out; omega) (by have := HS0.out; omega)⟩, Q2.out, Q3.out⟩
        · have u3 : (tg == 3) = false := by simpa using t3
          by_cases t5 : tg = 5
          · subst t5
            have HUN : Hid (uno E.c E.ks (un E.c E.ks f) (.mk false 5 s l) = slR E.c E.ks f s) := by rw [Hid]; exact slR_eq _ _ _ _ _
            have hcall := rseal_of E ho f d hd0 hd1 hd2 (text_of E ho f hT) s W0 hsl hl0
            clear hW0 hb0 hg0 hg1 hs0 hl0 hrow0 hrep0 hS0 hsl hll hsy hrow hT hsh hV hrep hS hd2 hf
            go_enter Tryz.func74, Tryz.ntmps74
            have HC := Lib.hid hcall
            clear hcall
            obtain ⟨r, hr⟩ : ∃ r, r = slR E.c E.ks f s := ⟨_, rfl⟩
            rw [← hr] at HC
            have HR0 : Hid (uno E.c E.ks (un E.c E.ks f) (.mk false 5 s l) = r) := by rw [hr]; exact HUN.out
            clear hr HUN
            go_wp2_with fail
            rw [← HW0.out]
            refine HC.out.mono ?_
            rintro e w1 ⟨hp, hl1, ho1⟩
            have hs0 := HS0.out
            have hgb := HV.out.blt
            have hlF := hl1
            have hgF := (ho1.block (V.heap.size + 1) (by omega) (by omega)).trans HG1.out
            have hoF := (Oth.of HB0.out).trans (ho1.mono (by omega))
            clear hl1 ho1 HC HG1 HB0 HL0
            cases r with
            | error x =>
              unfold zeroT at hp
              simp only at hp
              subst hp
              have HR := HR0
              obtain ⟨q1, q2, q3, q4, q5⟩ := fin4 (v0 := .int .i64 0) (v1 := .string ⟨#[]⟩) (v2 := .int .i64 0) (v3 := .slice none 0 0) ho HV.out hlF (Nat.le_add_right _ _) hgF hoF
              obtain ⟨y0, y1, y2, y3⟩ := cell4 hgF
              have f0 := fun j => frozen_of_row _ _ j _ _ hgF
              have Q1 := Lib.hid q1
              have Q2 := Lib.hid q2
              have Q3 := Lib.hid q3
              have Q4 := Lib.hid q4
              have Q5 := Lib.hid q5
              clear hlF hgF hoF q1 q2 q3 q4 q5 hgb hs0
              go_wp2
              obtain ⟨y0, y1, y2, y3⟩ := cell4 Q1.out
              refine bodyPost_ret (v := .tuple #[.agg #[.int .i64 0, .string ⟨#[]⟩, .int .i64 0, .slice none 0 0], .int .i64 x]) (by simp [results, Tryz.results74, go_sem, y0, y1, y2, y3]) rfl ?_
              unfold RPost
              rw [HR.out]
              exact ⟨rfl, Q2.out, Q3.out⟩
            | ok t =>
              obtain ⟨u0, u1, u2, u3, rfl, hrt⟩ := hp
              obtain ⟨tk, ts, tn, tl⟩ := t
              obtain ⟨TA, tc, hv, -, -⟩ := rep_mk.1 hrt
              injection hv with hv
              simp at hv
              obtain ⟨rfl, rfl, rfl, rfl⟩ := hv
              have HRT := Lib.hid hrt
              have HR := HR0
              clear hrt
              obtain ⟨q1, q2, q3, q4, q5⟩ := fin4 (v0 := .int .i64 tk) (v1 := .string ⟨⟨ts⟩⟩) (v2 := .int .i64 tn) (v3 := .slice TA tl.length tc) ho HV.out hlF (Nat.le_add_right _ _) hgF hoF
              obtain ⟨y0, y1, y2, y3⟩ := cell4 hgF
              have f0 := fun j => frozen_of_row _ _ j _ _ hgF
              have Q1 := Lib.hid q1
              have Q2 := Lib.hid q2
              have Q3 := Lib.hid q3
              have Q4 := Lib.hid q4
              have Q5 := Lib.hid q5
              clear hlF hgF hoF q1 q2 q3 q4 q5 hgb hs0
              go_wp2
              obtain ⟨y0, y1, y2, y3⟩ := cell4 Q1.out
              refine bodyPost_ret (v := .tuple #[.agg #[.int .i64 tk, .string ⟨⟨ts⟩⟩, .int .i64 tn, .slice TA tl.length tc], .int .i64 0]) (by simp [results, Tryz.results74, go_sem, y0, y1, y2, y3]) rfl ?_
              unfold RPost
              rw [HR.out]
              exact ⟨⟨_, _, _, _, rfl, rep_fin HRT.out Q4.out Q5.out (by have := HS0.out; omega) (by have := HS0.out; omega)⟩, Q2.out, Q3.out⟩
          · have u5 : (tg == 5) = false := by simpa using t5
            have HUN : Hid (uno E.c E.ks (un E.c E.ks f) (.mk false tg s l) = .error 13) := by
              rw [Hid, uno.eq_def]
              simp only [Bool.false_eq_true, if_false]
              rw [if_neg t1, if_neg t2, if_neg t3, if_neg t5]
            clear hW0 hb0 hg0 hg1 hs0 hl0 hrow0 hrep0 hS0 hsl hll hsy hrow hT hsh hV hrep hS hd2 hf t1 t2 t3 t5
            go_enter Tryz.func74, Tryz.ntmps74
            have HR : Hid (uno E.c E.ks (un E.c E.ks f) (.mk false tg s l) = .error 13) := HUN.out
            clear HUN
            go_wp2
            refine bodyPost_ret (v := .tuple #[.agg #[.int .i64 0, .string ⟨#[]⟩, .int .i64 0, .slice none 0 0], .int .i64 13]) (by simp [results, Tryz.results74, go_sem]) rfl ?_
            unfold RPost
            rw [HR.out]
            rw [← HW0.out]
            exact ⟨rfl, HL0.out, Oth.of HB0.out⟩

theorem term_said (E : Rd) (ho : E.ok) : ∀ f, f ≤ 17 → TermSaid E f
  | 0, _ => term_zero E
  | f + 1, h => term_succ E ho f (by omega) (term_said E ho f (by omega))
end Go.Proofs.YticofjbngfjjlaaGreatDoor.Cy

