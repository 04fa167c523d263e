/- Plain mathematics: more keys behind the others change nothing that is unpacked; one byte more behind is refused. (Laid with NS=1.) -/
import Derived.Test.YticofjbngfjjlaaGreatDoorGACyU16
import Derived.Test.YticofjbngfjjlaaGreatDoorGACtW3
import Derived.Test.YticofjbngfjjlaaGreatDoorGACyL0
import Derived.Test.YticofjbngfjjlaaGreatDoorGATmV3
import Derived.Deep.Upon
import Derived.Test.YticofjbngfjjlaaGreatDoorGACyU9
import Derived.Test.YticofjbngfjjlaaGreatDoorGACyTab
import Derived.Test.YticofjbngfjjlaaGreatDoorGATmQ
namespace Go.Proofs.YticofjbngfjjlaaGreatDoor.Cy
open Go.RowKit
open Te Te.Tt
open Wi.Wr (It wr wrs)

theorem fnd_more {c : List UInt8} {p : List UInt8 → Bool} {ks : List Tm} {k : Tm} (ms : List Tm) (h : fnd c p ks = some k) : fnd c p (ks ++ ms) = some k := by
  unfold fnd at h ⊢
  rw [List.find?_append, h]
  rfl
theorem lst_more {U U' : It → Except Int Tm} (hU : ∀ x t, U x = .ok t → U' x = .ok t) : ∀ (l : List It) (r : List Tm), lst U l = .ok r → lst U' l = .ok r
  | [], r, h => by rw [lst] at h ⊢; exact h
  | x :: q, r, h => by
    rw [lst] at h ⊢
    cases hx : U x with
    | error e => rw [hx] at h; cases h
    | ok t =>
      rw [hx] at h
      rw [hU x t hx]
      simp only at h ⊢
      cases hl : lst U q with
      | error e => rw [hl] at h; cases h
      | ok r' =>
        rw [hl] at h
        rw [lst_more hU q r' hl]
        exact h
theorem uno_more {U U' : It → Except Int Tm} (c : List UInt8) (ks ms : List Tm) (hU : ∀ x t, U x = .ok t → U' x = .ok t) (x : It) (t : Tm) (h : uno c ks U x = .ok t) : uno c (ks ++ ms) U' x = .ok t := by
  obtain ⟨nd, tg, s, l⟩ := x
  rw [uno.eq_def] at h ⊢
  simp only at h ⊢
  by_cases hnd : nd = true
  · rw [if_pos hnd] at h ⊢
    by_cases h4 : tg = 4
    · rw [if_pos h4] at h ⊢
      by_cases h64 : 64 < l.length
      · rw [if_pos h64] at h; cases h
      · rw [if_neg h64] at h ⊢
        cases hl : lst U l with
        | error e => rw [hl] at h; cases h
        | ok r => rw [hl] at h; rw [lst_more hU l r hl]; exact h
    · rw [if_neg h4] at h ⊢
      by_cases h6 : tg = 6
      · rw [if_pos h6] at h ⊢
        cases hs : smu l with
        | none => rw [hs] at h; cases h
        | some u =>
          rw [hs] at h
          simp only at h ⊢
          cases hx : U (snd l) with
          | error e => rw [hx] at h; cases h
          | ok y =>
            rw [hx] at h
            rw [hU _ y hx]
            simp only at h ⊢
            cases hf : fnd c (fun b => decide (Sl.chk b u (wr (snd l)) = ist (l.getD 2 (leaf 0 [])))) ks with
            | none => rw [hf] at h; cases h
            | some k => rw [hf] at h; rw [fnd_more ms hf]; exact h
      · rw [if_neg h6] at h; cases h
  · rw [if_neg hnd] at h ⊢
    by_cases h1 : tg = 1
    · rw [if_pos h1] at h ⊢; exact h
    · rw [if_neg h1] at h ⊢
      by_cases h2 : tg = 2
      · rw [if_pos h2] at h ⊢; exact h
      · rw [if_neg h2] at h ⊢
        by_cases h3 : tg = 3
        · rw [if_pos h3] at h ⊢
          cases hf : fnd c (fun b => decide (b = s)) ks with
          | none => rw [hf] at h; cases h
          | some k => rw [hf] at h; rw [fnd_more ms hf]; exact h
        · rw [if_neg h3] at h ⊢
          by_cases h5 : tg = 5
          · rw [if_pos h5] at h ⊢
            cases s with
            | nil => cases h
            | cons u r =>
              simp only at h ⊢
              by_cases hu : u.toNat < 1
              · rw [if_pos hu] at h; cases h
              · rw [if_neg hu] at h ⊢
                cases hf : fnd c (fun b => decide ((Sl.opn b (u.toNat : Nat) r).2 = 0)) ks with
                | none => rw [hf] at h; cases h
                | some k =>
                  rw [hf] at h
                  rw [fnd_more ms hf]
                  simp only at h ⊢
                  cases hg : Wi.gt (Sl.opn (kb c k.s k.n) (u.toNat : Nat) r).1 with
                  | error e => rw [hg] at h; cases h
                  | ok y =>
                    rw [hg] at h
                    simp only at h ⊢
                    cases hx : U y with
                    | error e => rw [hx] at h; cases h
                    | ok z => rw [hx] at h; rw [hU _ z hx]; exact h
          · rw [if_neg h5] at h; cases h
theorem un_more (c : List UInt8) (ks ms : List Tm) : ∀ (f : Nat) (x : It) (t : Tm), un c ks f x = .ok t → un c (ks ++ ms) f x = .ok t
  | 0, x, t, h => by rw [un_zero] at h; cases h
  | f + 1, x, t, h => by
    rw [un_succ] at h ⊢
    exact uno_more c ks ms (un_more c ks ms f) x t h
theorem upk_more (c : List UInt8) (ks ms : List Tm) (s : List UInt8) (t : Tm) (h : upk c ks s = .ok t) : upk c (ks ++ ms) s = .ok t := by
  rw [upk, unt] at h ⊢
  cases hg : Wi.gt s with
  | error e => rw [hg] at h; cases h
  | ok y =>
    rw [hg] at h
    have e : kfl (ks ++ ms) = kfl ks ++ kfl ms := by unfold kfl; rw [List.filter_append]
    rw [e]
    exact un_more c _ _ 17 y t h
theorem upk_rest (c : List UInt8) (ks : List Tm) (s : List UInt8) (z : UInt8) (t : Tm) (hs : s.length ≤ 9000) (h : upk c ks s = .ok t) : upk c ks (s ++ [z]) = .error 14 := by
  rw [upk, unt] at h ⊢
  cases hg : Wi.gt s with
  | error e => rw [hg] at h; cases h
  | ok y =>
    obtain ⟨h1, h2⟩ := Wi.gt_ok hg
    have h3 := Wi.Wr.rd_wr y 33 0 s.length 0 [z] rfl h2 (by omega)
    rw [h1] at h3
    have h4 : Wi.gt (s ++ [z]) = .error 14 := by
      unfold Wi.gt
      rw [h3]
      simp
    rw [h4]
theorem lst_err0 {U : It → Except Int Tm} (hU : ∀ x e, U x = .error e → e ≠ 0) : ∀ (l : List It) (e : Int), lst U l = .error e → e ≠ 0
  | [], e, h => by rw [lst] at h; cases h
  | x :: q, e, h => by
    rw [lst] at h
    cases hx : U x with
    | error e' => rw [hx] at h; injection h with h; subst h; exact hU x _ hx
    | ok t =>
      rw [hx] at h
      simp only at h
      cases hl : lst U q with
      | error e' => rw [hl] at h; injection h with h; subst h; exact lst_err0 hU q _ hl
      | ok r' => rw [hl] at h; cases h
theorem gt_err0 {s : List UInt8} {e : Int} (h : Wi.gt s = .error e) : e ≠ 0 := by have := Wi.gt_err h; omega
theorem uno_err {U : It → Except Int Tm} (c : List UInt8) (ks : List Tm) (hU : ∀ x e, U x = .error e → e ≠ 0) (x : It) (e : Int) (h : uno c ks U x = .error e) : e ≠ 0 := by
  obtain ⟨nd, tg, s, l⟩ := x
  rw [uno.eq_def] at h
  simp only at h
  repeat' split at h
  all_goals first
    | (injection h with h; subst h; decide)
    | (rename_i hh; injection h with h; subst h; first | exact lst_err0 hU _ _ hh | exact hU _ _ hh | exact gt_err0 hh)
    | cases h
theorem un_err0 (c : List UInt8) (ks : List Tm) : ∀ (f : Nat) (x : It) (e : Int), un c ks f x = .error e → e ≠ 0
  | 0, x, e, h => by rw [un_zero] at h; injection h with h; subst h; decide
  | f + 1, x, e, h => by
    rw [un_succ] at h
    exact uno_err c ks (un_err0 c ks f) x e h
theorem upk_err (c : List UInt8) (ks : List Tm) (s : List UInt8) (e : Int) (h : upk c ks s = .error e) : e ≠ 0 := by
  rw [upk, unt] at h
  cases hg : Wi.gt s with
  | error e' => rw [hg] at h; injection h with h; subst h; exact gt_err0 hg
  | ok y => rw [hg] at h; exact un_err0 c _ 17 y e h
end Go.Proofs.YticofjbngfjjlaaGreatDoor.Cy

/- The carry laws' few, with keys, walked. (Laid with NS=1.) -/

namespace Go.Proofs.YticofjbngfjjlaaGreatDoor.Cy
open Go.RowKit
open Te Te.Tt

/-- Is a key short? -/
def okk : Tm → Bool
  | .mk _ s _ l => decide (s.length ≤ 100) && decide (l.length ≤ 2)

set_option maxHeartbeats 4000000 in
set_option maxRecDepth 100000 in
theorem few_keys (x : Tm) (S : Nat → Prop) (v : Value) (ks : List Tm) (A : Option Addr) (cp : Nat) (w : World) (hsz : sz x ≤ 4000000) (hr : Rep w S x v) (hrow : TRow w S ks A) (hkl : ks.length ≤ 4000000) (hS : ∀ b, S b → b < w.heap.size) :
    Calls Tryz.prog 10 #[v, .slice A ks.length cp] w fun e w' => e = .returned (.bool (!decide (40 < sz x) && (decide (ks.length ≤ 6) && ks.all okk))) ∧ Below w.heap.size w w' := by
  obtain ⟨t, ht⟩ : ∃ t, t = decide (40 < sz x) := ⟨_, rfl⟩
  have hL := fun W => Large_any x 40 S v W hsz
  rw [← ht]
  obtain ⟨k, s, n, l⟩ := x
  obtain ⟨TA, ca, rfl, -, -⟩ := rep_mk.1 hr
  have hb0 : Below w.heap.size w (w.alloc (.cells #[.int .i64 k, .string ⟨⟨s⟩⟩, .int .i64 n, .slice TA l.length ca] 25)) := (Below.refl _ _).alloc (Nat.le_refl _) _
  have hL0 := hL _ (rep_below hr hb0 hS) (fun b hb => Nat.lt_of_lt_of_le (hS b hb) hb0.size)
  rw [← ht] at hL0
  have HL := Lib.hid hL0
  have HB0 := Lib.hid hb0
  have HROW := Lib.hid hrow
  have HSS := Lib.hid hS
  obtain ⟨R, hR⟩ : ∃ R, R = (decide (ks.length ≤ 6) && ks.all okk) := ⟨_, rfl⟩
  rw [← hR]
  have HRQ := Lib.hid hR
  obtain ⟨m, hm⟩ : ∃ m, m = ks.length := ⟨_, rfl⟩
  rw [← hm]
  have HM := Lib.hid hm
  rw [← hm] at hkl
  clear hL hb0 hL0 hr hS ht hsz hrow hR hm
  go_enter Tryz.func10, Tryz.ntmps10
  go_wp2_with fail
  refine HL.out.mono ?_
  rintro _ w1 ⟨rfl, b1⟩
  have HB1 := Lib.hid (HB0.out.trans (b1.mono HB0.out.size))
  clear b1 HL HB0
  cases t
  · by_cases h6 : (m : Int) > 6
    · have e1 : decide ((m : Int) > 6) = true := decide_eq_true h6
      have hRf : R = false := by
        rw [HRQ.out, ← HM.out, decide_eq_false (by omega)]; rfl
      subst hRf
      go_wp2
      go_ret
      exact ⟨rfl, HB1.out⟩
    · have e1 : decide ((m : Int) > 6) = false := decide_eq_false h6
      have e1' : ¬ (6 : Int) < (m : Int) := h6
      go_wp2
      go_loopw [6] (fun iv wq => ∃ i : Nat, i ≤ m ∧ iv = .int .i64 (i : Nat) ∧ Hid (Below w.heap.size w wq) ∧ Hid (∀ j (h : j < ks.length), j < i → okk ks[j] = true)) (fun iv _ => m - (intOf iv).toNat)
      case atStart => exact ⟨0, by omega, rfl, HB1, Lib.hid (fun j _ h => by omega)⟩
      case round =>
        obtain ⟨i, hi, rfl, HB, HOK⟩ := hrel
        have hm6 : m ≤ 6 := by omega
        by_cases hlt : i < m
        · have hltP : i < ks.length := by have := HM.out; omega
          have hil : (i : Int) < (m : Int) := by omega
          obtain ⟨b', ob', k', s', m', q', B', cb', hA, hSb, hx, d0, d1, d2, d3, hrep⟩ := trow_get HROW.out HB.out HSS.out hltP
          subst hA
          by_cases hs : ((s'.length : Nat) : Int) > 100
          · have e2 : decide (((s'.length : Nat) : Int) > 100) = true := decide_eq_true hs
            have hRf : R = false := by
              have h1 : ks.all okk = false := by
                rw [List.all_eq_false]
                exact ⟨ks[i], List.getElem_mem hltP, by rw [hx, okk, decide_eq_false (by omega)]; simp⟩
              rw [HRQ.out, h1, Bool.and_false]
            subst hRf
            clear hx hrep hSb
            go_wp2
            go_ret
            exact ⟨rfl, HB.out⟩
          · have e2 : decide (((s'.length : Nat) : Int) > 100) = false := decide_eq_false hs
            have e2' : ¬ (100 : Int) < ((s'.length : Nat) : Int) := hs
            by_cases hq : ((q'.length : Nat) : Int) > 2
            · have e3 : decide (((q'.length : Nat) : Int) > 2) = true := decide_eq_true hq
              have hRf : R = false := by
                have h1 : ks.all okk = false := by
                  rw [List.all_eq_false]
                  exact ⟨ks[i], List.getElem_mem hltP, by rw [hx, okk, decide_eq_false (show ¬ q'.length ≤ 2 by omega)]; simp⟩
                rw [HRQ.out, h1, Bool.and_false]
              subst hRf
              clear hx hrep hSb
              go_wp2
              go_ret
              exact ⟨rfl, HB.out⟩
            · have e3 : decide (((q'.length : Nat) : Int) > 2) = false := decide_eq_false hq
              have e3' : ¬ (2 : Int) < ((q'.length : Nat) : Int) := hq
              have HOK' : Hid (∀ j (h : j < ks.length), j < i + 1 → okk ks[j] = true) := fun j h hj => by
                by_cases hji : j = i
                · subst hji; rw [hx, okk, decide_eq_true (show s'.length ≤ 100 by omega), decide_eq_true (show q'.length ≤ 2 by omega)]; rfl
                · exact HOK.out j h (by omega)
              clear hx hrep hSb
              go_wp2
              go_roundw
              case rel => exact ⟨i + 1, by omega, by go_num, HB, HOK'⟩
              case measure => simp [intOf]; omega
        · have hil : ¬ (i : Int) < (m : Int) := by omega
          have hRt : R = true := by
            have h1 : ks.all okk = true := by
              rw [List.all_eq_true]
              intro y hy
              obtain ⟨j, hj, rfl⟩ := List.mem_iff_getElem.1 hy
              exact HOK.out j hj (by have := HM.out; omega)
            rw [HRQ.out, h1, ← HM.out, decide_eq_true hm6]; rfl
          subst hRt
          go_wp2
          go_ret
          exact ⟨rfl, HB.out⟩
  · go_wp2
    go_ret
    exact ⟨rfl, HB1.out⟩
end Go.Proofs.YticofjbngfjjlaaGreatDoor.Cy

/- A row of terms that an argument is, appended behind an own row. (Laid with NS=1.) -/

namespace Go.Proofs.YticofjbngfjjlaaGreatDoor.Cy
open Go.RowKit
open Te Te.Tt

theorem reps_els {W : World} {S : Nat → Prop} : ∀ (q : List Tm) (b o : Nat), Reps W S q b o → ∃ ys, Els W S q ys ∧ ∀ j u, ys[j]? = some u → W.cell? ((⟨b, o, none⟩ : Addr).add j) = some u
  | [], b, o, _ => ⟨[], by rw [Els], fun j u h => by simp at h⟩
  | x :: r, b, o, h => by
    rw [Reps] at h
    obtain ⟨⟨v0, v1, v2, v3, d0, d1, d2, d3, hr⟩, h2⟩ := h
    obtain ⟨ys, h3, h4⟩ := reps_els r b (o + 4) h2
    refine ⟨v0 :: v1 :: v2 :: v3 :: ys, by rw [Els]; exact ⟨hr, h3⟩, fun j u hu => ?_⟩
    match j, hu with
    | 0, hu => injection hu with hu; subst hu; exact d0
    | 1, hu => injection hu with hu; subst hu; exact d1
    | 2, hu => injection hu with hu; subst hu; exact d2
    | 3, hu => injection hu with hu; subst hu; exact d3
    | j + 4, hu =>
      have h5 := h4 j u (by simpa using hu)
      have e : ((⟨b, o + 4, none⟩ : Addr).add j) = ((⟨b, o, none⟩ : Addr).add (j + 4)) := by
        rw [Addr.add_lit, Addr.add_lit, show o + 4 + j = o + (j + 4) by omega]
      rw [e] at h5
      exact h5

theorem wpList_appTr (W : World) {ops : Array Oper} {rest : List Oper} {o : Oper} {a : Act} {Q : Exit → Act → World → Prop} (hgd : o.guard = none) (s x : Operand)
    (ho : o.op = .call { callee := .builtin .append, args := #[s, x], argTypes := #[23, 23] }) (base : Nat) (v : Value) (A : Option Addr) (cu : Nat) (l q : List Tm) (S : Nat → Prop) (hs : a.eval s = v) (hx : a.eval x = .slice A q.length cu)
    (hown : OwnT S W base v l) (hu : TRow W S q A) (hq : q ≠ []) (hS : ∀ b, S b → b < base) (hl : l.length + q.length ≤ 1000000) (hbase : base ≤ W.heap.size)
    (h : ∀ v' w', OwnT S w' base v' (l ++ q) → Below base W w' → wpList Tryz.prog ops Q rest (a.put o.dst v') w') :
    wpList Tryz.prog ops Q (o :: rest) a W := by
  obtain ⟨i, hi, he⟩ := Option.map_eq_some_iff.1 infoT
  simp only [Prod.mk.injEq] at he
  obtain ⟨hz, hsz, hb⟩ := he
  have hlt := hown.lt
  obtain ⟨xs, hrow, hels⟩ := hown
  rcases hu with hu | ⟨g, go, rfl, -, hreps⟩
  · exact absurd hu hq
  obtain ⟨ys, hels2, hcells⟩ := reps_els q g go hreps
  have hyl := els_len q ys hels2
  refine wpList_append_own_at W hgd s x 23 ho base 25 i _ 4 56 Tryz.underlying23 hi hz hsz hb rfl (by decide) v l.length xs hs hrow ⟨g, go, none⟩ q.length cu ys hx hyl hcells (els_one_cell q ys hels2) (by simp only [maxLen]; omega) (by omega) hbase fun v' w' h1 h2 _ _ => h v' w' ?_ ?_
  · refine ⟨_, by rw [List.length_append]; exact h1, ?_⟩
    have hblk : ∀ b, S b → w'.heap[b]? = W.heap[b]? := fun b hb' => h2.block b (by have := hS b hb'; omega) (fun e => by have := hlt b e.symm; have := hS b hb'; omega)
    exact els_keep (fun _ h => h) (fun b o hb' => World.cell?_of_block (a := ⟨b, o, none⟩) (hblk b hb')) _ _ (els_app l xs q ys hels hels2)
  · exact Below.grown (Below.refl _ _) h2 hbase (fun k hk => (hlt k hk).1)
theorem own_cap {S : Nat → Prop} {w : World} {base : Nat} {v : Value} {l : List Tm} (h : OwnT S w base v l) : ∃ A ca, v = .slice A l.length ca ∧ l.length ≤ ca := by
  obtain ⟨xs, ⟨_, h⟩, _⟩ := h
  rcases h with ⟨rfl, h0⟩ | ⟨g, cap, cur, rfl, _, _, h3, _⟩
  · exact ⟨none, 0, by rw [h0], by omega⟩
  · exact ⟨_, _, rfl, h3⟩
theorem wpList_appTe (W : World) {ops : Array Oper} {rest : List Oper} {o : Oper} {a : Act} {Q : Exit → Act → World → Prop} (hgd : o.guard = none) (s x : Operand)
    (ho : o.op = .call { callee := .builtin .append, args := #[s, x], argTypes := #[23, 23] }) (base : Nat) (v : Value) (A : Option Addr) (cu : Nat) (l q : List Tm) (S : Nat → Prop) (hs : a.eval s = v) (hx : a.eval x = .slice A q.length cu)
    (hown : OwnT S W base v l) (hu : TRow W S q A) (hS : ∀ b, S b → b < base) (hl : l.length + q.length ≤ 1000000) (hbase : base ≤ W.heap.size)
    (h : ∀ v' w', OwnT S w' base v' (l ++ q) → Below base W w' → wpList Tryz.prog ops Q rest (a.put o.dst v') w') :
    wpList Tryz.prog ops Q (o :: rest) a W := by
  by_cases hq : q = []
  · subst hq
    obtain ⟨i, hi, -⟩ := Option.map_eq_some_iff.1 infoT
    obtain ⟨B, cb, rfl, hle⟩ := own_cap hown
    have hsrc : Src Tryz.prog i.size 23 (.slice A 0 cu) 0 [] W := by
      cases A with
      | none => exact Src.ofNil W Tryz.underlying23 cu
      | some ad => exact Src.ofSlice W Tryz.underlying23 ad 0 cu [] (by simp) (fun j u hj => by simp at hj) (fun u hu => by simp at hu)
    have hr := run_append_nothing (P := Tryz.prog) W 23 23 o.type 25 i Tryz.underlying23 hi B l.length cb hle (.slice A 0 cu) hsrc
    have hh := h _ W (by rw [List.append_nil]; exact hown) (Below.refl _ _)
    refine wpList_plain hgd fun K hK => ?_
    unfold Oper.wp execOp
    simp only [ho, resolve, invoke, builtin, Sem.run_bind, Sem.run_pure, Result.andThen_ok, List.map_toArray, List.map_cons, List.map_nil, hs, hx, List.length_nil, hr]
    exact hK _ _ hh
  · exact wpList_appTr W hgd s x ho base v A cu l q S hs hx hown hu hq hS hl hbase h
end Go.Proofs.YticofjbngfjjlaaGreatDoor.Cy

/- Plain mathematics: a term that is unpacked has no more in it than there are bytes. (Laid with NS=1.) -/

namespace Go.Proofs.YticofjbngfjjlaaGreatDoor.Cy
open Go.RowKit
open Te Te.Tt
open Wi.Wr (It wr wrs)

theorem wr_ge (nd : Bool) (t : Int) (s : List UInt8) (l : List It) : 2 + s.length + (wrs l).length ≤ (wr (.mk nd t s l)).length := by
  rw [Wi.Wr.wr_mk, List.length_cons, List.length_append, List.length_append, Wi.Wr.lb_len]
  have := Wi.Wr.dg_pos (s.length + (wrs l).length)
  omega
theorem lst_sz {U : It → Except Int Tm} (hU : ∀ x t, U x = .ok t → sz t ≤ (wr x).length) : ∀ (l : List It) (r : List Tm), lst U l = .ok r → Te.Tt.szs r ≤ (wrs l).length
  | [], r, h => by
    rw [lst] at h
    injection h with h
    subst h
    simp [Te.Tt.szs]
  | x :: q, r, h => by
    rw [lst] at h
    cases hx : U x with
    | error e => rw [hx] at h; cases h
    | ok t =>
      rw [hx] at h
      simp only at h
      cases hl : lst U q with
      | error e => rw [hl] at h; cases h
      | ok r' =>
        rw [hl] at h
        injection h with h
        subst h
        have h1 := hU x t hx
        have h2 := lst_sz hU q r' hl
        rw [Te.Tt.szs, Wi.Wr.wrs_cons, List.length_append]
        omega
theorem uno_sz {U : It → Except Int Tm} (c : List UInt8) (ks : List Tm) (hk : ∀ k ∈ ks, sz k = 1) (hU : ∀ x t, U x = .ok t → sz t ≤ (wr x).length) (x : It) (t : Tm) (h : uno c ks U x = .ok t) : sz t ≤ (wr x).length := by
  obtain ⟨nd, tg, s, l⟩ := x
  have hw := wr_ge nd tg s l
  rw [uno.eq_def] at h
  simp only at h
  by_cases hnd : nd = true
  · rw [if_pos hnd] at h
    by_cases h4 : tg = 4
    · rw [if_pos h4] at h
      by_cases h64 : 64 < l.length
      · rw [if_pos h64] at h; cases h
      · rw [if_neg h64] at h
        cases hl : lst U l with
        | error e => rw [hl] at h; cases h
        | ok r =>
          rw [hl] at h
          injection h with h
          subst h
          have := lst_sz hU l r hl
          rw [sz]
          omega
    · rw [if_neg h4] at h
      by_cases h6 : tg = 6
      · rw [if_pos h6] at h
        cases hs : smu l with
        | none => rw [hs] at h; cases h
        | some u =>
          obtain ⟨a, b, d, rfl, -, -⟩ := smu_three hs
          rw [hs] at h
          simp only at h
          cases hx : U (snd [a, b, d]) with
          | error e => rw [hx] at h; cases h
          | ok y =>
            rw [hx] at h
            simp only at h
            cases hf : fnd c (fun e => decide (Sl.chk e u (wr (snd [a, b, d])) = ist ([a, b, d].getD 2 (leaf 0 [])))) ks with
            | none => rw [hf] at h; cases h
            | some k =>
              rw [hf] at h
              injection h with h
              subst h
              have h1 := hk k (fnd_mem hf).1
              have h2 : sz y ≤ (wr b).length := hU b y hx
              rw [Wi.Wr.wrs_cons, Wi.Wr.wrs_cons, List.length_append, List.length_append] at hw
              simp only [sz, Te.Tt.szs]
              omega
      · rw [if_neg h6] at h; cases h
  · rw [if_neg hnd] at h
    by_cases h1 : tg = 1
    · rw [if_pos h1] at h
      split at h
      · injection h with h; subst h; simp only [sz, Te.Tt.szs]; omega
      · cases h
    · rw [if_neg h1] at h
      by_cases h2 : tg = 2
      · rw [if_pos h2] at h
        split at h
        · injection h with h; subst h; simp only [sz, Te.Tt.szs]; omega
        · cases h
      · rw [if_neg h2] at h
        by_cases h3 : tg = 3
        · rw [if_pos h3] at h
          cases hf : fnd c (fun b => decide (b = s)) ks with
          | none => rw [hf] at h; cases h
          | some k =>
            rw [hf] at h
            injection h with h
            subst h
            have := hk k (fnd_mem hf).1
            omega
        · rw [if_neg h3] at h
          by_cases h5 : tg = 5
          · rw [if_pos h5] at h
            cases s with
            | nil => cases h
            | cons u r =>
              simp only at h
              by_cases hu : u.toNat < 1
              · rw [if_pos hu] at h; cases h
              · rw [if_neg hu] at h
                cases hf : fnd c (fun b => decide ((Sl.opn b (u.toNat : Nat) r).2 = 0)) ks with
                | none => rw [hf] at h; cases h
                | some k =>
                  rw [hf] at h
                  simp only at h
                  cases hg : Wi.gt (Sl.opn (kb c k.s k.n) (u.toNat : Nat) r).1 with
                  | error e => rw [hg] at h; cases h
                  | ok y =>
                    rw [hg] at h
                    simp only at h
                    cases hx : U y with
                    | error e => rw [hx] at h; cases h
                    | ok z =>
                      rw [hx] at h
                      injection h with h
                      subst h
                      have h6 := hk k (fnd_mem hf).1
                      have h7 := hU y z hx
                      rw [(Wi.gt_ok hg).1] at h7
                      have h8 := opn_le (kb c k.s k.n) (u.toNat : Nat) r
                      rw [List.length_cons] at hw
                      simp only [sz, Te.Tt.szs]
                      omega
          · rw [if_neg h5] at h; cases h
theorem un_sz (c : List UInt8) (ks : List Tm) (hk : ∀ k ∈ ks, sz k = 1) : ∀ (f : Nat) (x : It) (t : Tm), un c ks f x = .ok t → sz t ≤ (wr x).length
  | 0, x, t, h => by rw [un_zero] at h; cases h
  | f + 1, x, t, h => by
    rw [un_succ] at h
    exact uno_sz c ks hk (un_sz c ks hk f) x t h
theorem kfl_sz {ks : List Tm} {k : Tm} (h : k ∈ kfl ks) : sz k = 1 := by
  obtain ⟨a, s, n, q⟩ := k
  have h1 := (List.mem_filter.1 h).2
  simp only [Bool.and_eq_true, decide_eq_true_eq] at h1
  obtain ⟨h2, h3⟩ := h1
  obtain rfl : a = 2 := h2
  obtain rfl := vld_key h3
  simp only [sz, Te.Tt.szs]
theorem upk_sz (c : List UInt8) (ks : List Tm) (s : List UInt8) (t : Tm) (h : upk c ks s = .ok t) : sz t ≤ s.length := by
  rw [upk, unt] at h
  cases hg : Wi.gt s with
  | error e' => rw [hg] at h; cases h
  | ok y =>
    rw [hg] at h
    have h1 := un_sz c (kfl ks) (fun k hk => kfl_sz hk) 17 y t h
    rwa [(Wi.gt_ok hg).1] at h1
end Go.Proofs.YticofjbngfjjlaaGreatDoor.Cy

/- Arguments opened, their sizes by a sharper count: a term counts five. (Laid with NS=1; out of TmOpen by wip/tools/gen/cyopen.py.) -/

namespace Go.Proofs.YticofjbngfjjlaaGreatDoor.Cy
open Go.RowKit Go.ChangeShapes Go.WideShapes Go.Deep Go.Joins
open Te Te.Tt

set_option maxRecDepth 100000

mutual
def b5 : Tm → Nat
  | .mk _ s _ l => 5 + s.length + b5s l
def b5s : List Tm → Nat
  | [] => 0
  | x :: r => b5 x + b5s r
end
theorem b5_sz : ∀ x, 5 * sz x ≤ b5 x ∧ bk x ≤ b5 x := Tm.ind (by
  intro k s n l ih
  rw [sz, b5, bk]
  have : 5 * szs l ≤ b5s l ∧ bks l ≤ b5s l := by
    induction l with
    | nil => simp [szs, b5s, bks]
    | cons x r ihr =>
      have h1 := ih x (by simp)
      have h2 := ihr (fun y hy => ih y (by simp [hy]))
      rw [szs, b5s, bks]
      omega
  omega)
theorem b5s_mem : ∀ (l : List Tm) (x : Tm), x ∈ l → b5 x ≤ b5s l
  | y :: r, x, h => by
    rw [b5s]
    rcases List.mem_cons.1 h with rfl | h
    · omega
    · have := b5s_mem r x h; omega
theorem b5s_len : ∀ (l : List Tm), 5 * l.length ≤ b5s l
  | [] => by rw [b5s]; simp
  | x :: r => by
    have h1 := b5s_len r
    have h2 := (b5_sz x).1
    have h3 := sz_pos x
    rw [b5s, List.length_cons]
    omega
theorem b5s_bulk {H : Type} (f : Nat → Tm) (D : Nat → DataW H) : ∀ is : List Nat, (∀ i ∈ is, b5 (f i) ≤ Rows.uptoBulk (D i)) → b5s (is.map f) ≤ Rows.uptoBulkAll (is.map D)
  | [], _ => by simp [b5s]
  | i :: r, h => by
    have h1 := h i (by simp)
    have h2 := b5s_bulk f D r (fun j hj => h j (by simp [hj]))
    simp only [List.map_cons, b5s, Rows.uptoBulkAll]
    omega


section
variable {H : Type} {enc : TypeId × Value → H} {w : World} {base : Nat} {spare : Nat → Bool} {held : Bool}

/-- A slice of items that is read, given that each item in it is one. -/
theorem row_of_trod5 {N : Nat} (ih : ∀ (fuel : Nat) (cs : List Value) (x : DataW H × List MemPlace), Rows.uptoBulk x.1 < N → DataW.trod enc Tryz.prog w base spare held fuel 25 cs = some x →
      ∃ (it : Tm) (v0 v1 v2 v3 : Value), cs = [v0, v1, v2, v3] ∧ Rep w (fun b => b < w.heap.size) it (.agg #[v0, v1, v2, v3]) ∧ b5 it ≤ Rows.uptoBulk x.1)
    {fuel : Nat} {v : Value} {x : DataW H × List MemPlace} (hN : Rows.uptoBulk x.1 ≤ N) (h : DataW.trod enc Tryz.prog w base spare held fuel 23 [v] = some x) :
    ∃ (l : List Tm) (A : Option Addr) (cap : Nat), v = .slice A l.length cap ∧ TRow w (fun b => b < w.heap.size) l A ∧ b5s l + 1 ≤ Rows.uptoBulk x.1 := by
  rcases open_slice Tryz.underlying23 h with ⟨hcs, rfl⟩ | ⟨a, len, cap, m, n, D, Pl, hcs, hb, hl, hm, hmm, rfl, hi⟩
  · injection hcs with hcs
    exact ⟨[], none, 0, hcs, .inl rfl, by simp [b5s, Rows.uptoBulk]⟩
  · injection hcs with hcs
    have hlm : len ≤ m := by rw [hmm]; split <;> omega
    rw [cellsT] at hi
    have hbulk : ∀ i, i < len → Rows.uptoBulk (D i) < N := by
      intro i hil
      have h1 : Rows.uptoBulk (D i) ≤ Rows.uptoBulkAll ((List.range len).map D) := bulk_mem (List.mem_map.2 ⟨i, List.mem_range.2 hil, rfl⟩)
      simp only [Rows.uptoBulk] at hN
      omega
    have hall : ∀ i, i < len → ∃ it : Tm, (∃ v0 v1 v2 v3, w.cell? (a.add (i * 4 + 0)) = some v0 ∧ w.cell? (a.add (i * 4 + 1)) = some v1 ∧ w.cell? (a.add (i * 4 + 2)) = some v2 ∧ w.cell? (a.add (i * 4 + 3)) = some v3 ∧ Rep w (fun b => b < w.heap.size) it (.agg #[v0, v1, v2, v3])) ∧ b5 it ≤ Rows.uptoBulk (D i) := by
      intro i hil
      obtain ⟨cs', hc, ht⟩ := hi i (by omega)
      obtain ⟨it, v0, v1, v2, v3, rfl, hrep, hbk⟩ := ih n cs' (D i, Pl i) (hbulk i hil) ht
      obtain ⟨_, _, hat⟩ := World.cells?_some hc
      refine ⟨it, ⟨v0, v1, v2, v3, ?_, ?_, ?_, ?_, hrep⟩, hbk⟩
      · rw [← Go.Deep.add_add, hat 0 (by omega)]; rfl
      · rw [← Go.Deep.add_add, hat 1 (by omega)]; rfl
      · rw [← Go.Deep.add_add, hat 2 (by omega)]; rfl
      · rw [← Go.Deep.add_add, hat 3 (by omega)]; rfl
    obtain ⟨f, hf⟩ := choose_lt hall
    refine ⟨(List.range len).map f, some a, cap, by simpa using hcs, ?_, ?_⟩
    · rcases Nat.eq_zero_or_pos len with h0 | hpos
      · subst h0
        exact .inl rfl
      · obtain ⟨⟨v0, _, _, _, hc0, _⟩, _⟩ := hf 0 hpos
        obtain ⟨b, o, sp⟩ := a
        have hsp : sp = none := by
          have := World.cell?_spot hc0
          simpa [Addr.add] using this
        subst hsp
        have hblt : b < w.heap.size := by
          have := World.block_lt_of_cell? _ _ hc0
          simpa [Addr.add_lit] using this
        refine .inr ⟨b, o, rfl, hblt, reps_of _ _ fun i x hx => ?_⟩
        have hil : i < len := by
          have := (List.getElem?_eq_some_iff.1 hx).1
          simpa using this
        obtain ⟨⟨v0, v1, v2, v3, h0, h1, h2, h3, h4⟩, _⟩ := hf i hil
        have hxe : x = f i := by
          rw [List.getElem?_map, List.getElem?_range hil] at hx
          simpa using hx.symm
        subst hxe
        refine ⟨v0, v1, v2, v3, ?_, ?_, ?_, ?_, h4⟩
        · simpa [Addr.add_lit] using h0
        · simpa [Addr.add_lit, Nat.add_assoc] using h1
        · simpa [Addr.add_lit, Nat.add_assoc] using h2
        · simpa [Addr.add_lit, Nat.add_assoc] using h3
    · have := b5s_bulk f D (List.range len) (fun i hi => (hf i (List.mem_range.1 hi)).2)
      simp only [Rows.uptoBulk]
      omega

theorem term_of_trod5 : ∀ (N fuel : Nat) (cs : List Value) (x : DataW H × List MemPlace), Rows.uptoBulk x.1 < N → DataW.trod enc Tryz.prog w base spare held fuel 25 cs = some x →
    ∃ (it : Tm) (v0 v1 v2 v3 : Value), cs = [v0, v1, v2, v3] ∧ Rep w (fun b => b < w.heap.size) it (.agg #[v0, v1, v2, v3]) ∧ b5 it ≤ Rows.uptoBulk x.1
  | 0, _, _, _, h, _ => by omega
  | N + 1, fuel, cs, x, hN, h => by
    obtain ⟨y0, y1, y2, y3, n, rfl, hlen, h0, h1, h2, h3⟩ := trod_struct4 Tryz.underlying25 h
    rw [cellsT] at hlen
    match cs, hlen with
    | [c0, c1, c2, c3], _ =>
      simp only [cellsK, cellsI, cellsS, cellsL, List.drop_zero, List.take_succ_cons, List.take_zero, List.drop_succ_cons] at h0 h1 h2 h3
      obtain ⟨k, e0, rfl, _⟩ := DataW.trod_int Tryz.underlying22 h0
      obtain ⟨s, e1, rfl, _⟩ := DataW.trod_string Tryz.underlying9 h1
      obtain ⟨n, e2, rfl, hn⟩ := DataW.trod_int Tryz.underlying3 h2
      injection e0 with e0
      injection e1 with e1
      injection e2 with e2
      subst e0 e1 e2
      simp only [Rows.uptoBulk, Rows.uptoBulkAll] at hN
      obtain ⟨l, A, cap, rfl, hrow, hbk⟩ := row_of_trod5 (N := N) (fun fuel cs x hx ht => term_of_trod5 N fuel cs x hx ht) (by omega) h3
      obtain ⟨⟨s⟩⟩ := s
      have hin : InR n := by simpa [InR, Lit.wf, IntKind.min, IntKind.max, IntKind.signed, IntKind.bits] using hn
      refine ⟨.mk k s n l, _, _, _, _, rfl, rep_mk.2 ⟨A, cap, rfl, hin, hrow⟩, ?_⟩
      simp only [Rows.uptoBulk, Rows.uptoBulkAll, b5]
      omega
end

theorem term_arg5 {H : Type} {enc : TypeId × Value → H} {w : World} {base : Nat} {spare : Nat → Bool} {held : Bool} {r : Reach} {b0 : Nat} {v : Value} {d : DataW H} {p : List MemPlace}
    (hv : Value.okWide Tryz.prog w r b0 25 v) (h : DataW.Trod enc Tryz.prog w base spare held 25 v d p) :
    ∃ x : Tm, Rep w (Lo w) x v ∧ b5 x ≤ Rows.uptoBulk d := by
  obtain ⟨v0, v1, v2, v3, _, _, _, _, _, rfl, _, _, _⟩ := open_agg4 Tryz.underlying25 (by kernel_rfl) cellsT hv h
  obtain ⟨fuel, hf⟩ := h
  obtain ⟨it, u0, u1, u2, u3, hcs, hrep, hbk⟩ := term_of_trod5 _ fuel _ _ (Nat.lt_succ_self _) hf
  simp [Value.cells] at hcs
  obtain ⟨rfl, rfl, rfl, rfl⟩ := hcs
  exact ⟨it, hrep, hbk⟩

theorem row_arg5 {H : Type} {enc : TypeId × Value → H} {w : World} {base : Nat} {spare : Nat → Bool} {held : Bool} {r : Reach} {b0 : Nat} {v : Value} {d : DataW H} {p : List MemPlace}
    (hv : Value.okWide Tryz.prog w r b0 23 v) (h : DataW.Trod enc Tryz.prog w base spare held 23 v d p) :
    ∃ (l : List Tm) (A : Option Addr) (ca : Nat), v = .slice A l.length ca ∧ TRow w (Lo w) l A ∧ b5s l + 1 ≤ Rows.uptoBulk d := by
  obtain ⟨a0, len, cap, rfl⟩ := okWide_slice Tryz.underlying23 hv
  obtain ⟨fuel, hf⟩ := h
  exact row_of_trod5 (N := Rows.uptoBulk d) (fun fuel cs x hx ht => term_of_trod5 _ fuel cs x hx ht) (Nat.le_refl _) (by simpa [Value.cells] using hf)

end Go.Proofs.YticofjbngfjjlaaGreatDoor.Cy

/- The law CarryMore, walked. (Laid with NS=1.) -/

namespace Go.Proofs.YticofjbngfjjlaaGreatDoor.Cy
open Go.RowKit
open Te Te.Tt
open Wi.Wr (It wrs)

/-- What Unpack leaves, in one form for both outcomes. -/
theorem upost_rep {V w' : World} {r : Except Int Tm} {e : Ending} (hne : ∀ x, r = .error x → x ≠ 0) (h : UPost V r e w') : ∃ (k : Int) (s : List UInt8) (n : Int) (l : List Tm) (A : Option Addr) (ca : Nat) (x : Int), e = .returned (.tuple #[.agg #[.int .i64 k, .string ⟨⟨s⟩⟩, .int .i64 n, .slice A l.length ca], .int .i64 x]) ∧ Rep w' (Nw V.heap.size w') (.mk k s n l) (.agg #[.int .i64 k, .string ⟨⟨s⟩⟩, .int .i64 n, .slice A l.length ca]) ∧ Below V.heap.size V w' ∧ ((x = 0 ∧ r = .ok (.mk k s n l)) ∨ (x ≠ 0 ∧ r = .error x ∧ Tm.mk k s n l = .mk 0 [] 0 [])) := by
  obtain ⟨h, hb⟩ := h
  cases r with
  | error x =>
    simp only at h
    exact ⟨0, [], 0, [], none, 0, x, h, rep_mk.2 ⟨none, 0, rfl, ⟨by omega, by omega⟩, .inl rfl⟩, hb, .inr ⟨hne x rfl, rfl, rfl⟩⟩
  | ok t =>
    obtain ⟨v0, v1, v2, v3, he, hr⟩ := h
    obtain ⟨k, s, n, l⟩ := t
    obtain ⟨A, ca, hv, -, -⟩ := rep_mk.1 hr
    injection hv with hv
    simp at hv
    obtain ⟨rfl, rfl, rfl, rfl⟩ := hv
    exact ⟨k, s, n, l, A, ca, 0, he, hr, hb, .inl ⟨rfl, rfl⟩⟩

theorem app_z (s : List UInt8) : ((⟨⟨s⟩⟩ : ByteArray) ++ ⟨#[122]⟩) = ⟨⟨s ++ [122]⟩⟩ := by
  first | rfl | (ext1; simp)

set_option maxHeartbeats 8000000 in
set_option maxRecDepth 100000 in
theorem carryMore_walk (s c : List UInt8) (ks : List Tm) (A : Option Addr) (ca : Nat) (ms : List Tm) (B : Option Addr) (cb : Nat) (V : World) (hsl : s.length ≤ 1048576) (hcl : c.length ≤ 1048576) (hk : b5s ks ≤ 1048576) (hm : b5s ms ≤ 1048576) (hrk : TRow V (Lo V) ks A) (hrm : TRow V (Lo V) ms B) (HT : Tabs V) (htab : TabB V.heap.size V) :
    Calls Tryz.prog 7 #[.string ⟨⟨s⟩⟩, .string ⟨⟨c⟩⟩, .slice A ks.length ca, .slice B ms.length cb] V fun e w' => e = .returned (.bool true) ∧ Below V.heap.size V w' := by
  have HTT : Hid (∀ W, Below V.heap.size V W → Tabs W ∧ TabB W.heap.size W) := fun W h => ⟨Tabs.below HT h, htab.up h⟩
  have hl1 := b5s_len ks
  have hl2 := b5s_len ms
  have HRK : Hid (∀ W, Below V.heap.size V W → TRow W (Lo V) ks A) := fun W h => trow_at hrk h (fun _ h => h)
  have HRM : Hid (∀ W, Below V.heap.size V W → TRow W (Lo V) ms B) := fun W h => trow_at hrm h (fun _ h => h)
  have HZK : Hid (∀ k ∈ ks, sz k ≤ 262144) := fun k h => by have := b5s_mem ks k h; have := (b5_sz k).1; omega
  have HZM : Hid (∀ k ∈ ms, sz k ≤ 262144) := fun k h => by have := b5s_mem ms k h; have := (b5_sz k).1; omega
  have HFK : Hid (∀ W, Below V.heap.size V W → Calls Tryz.prog 10 #[.agg #[.int .i64 0, .string ⟨⟨[]⟩⟩, .int .i64 0, .slice none 0 0], .slice A ks.length ca] W fun e w' => e = .returned (.bool (decide (ks.length ≤ 6) && ks.all okk)) ∧ Below W.heap.size W w') := fun W h =>
    few_keys (.mk 0 [] 0 []) (Lo V) _ ks A ca W (by decide) (rep_mk.2 ⟨none, 0, rfl, ⟨by omega, by omega⟩, .inl rfl⟩) (HRK.out W h) (by omega) (fun b hb => Nat.lt_of_lt_of_le hb h.size)
  have HFM : Hid (∀ W, Below V.heap.size V W → Calls Tryz.prog 10 #[.agg #[.int .i64 0, .string ⟨⟨[]⟩⟩, .int .i64 0, .slice none 0 0], .slice B ms.length cb] W fun e w' => e = .returned (.bool (decide (ms.length ≤ 6) && ms.all okk)) ∧ Below W.heap.size W w') := fun W h =>
    few_keys (.mk 0 [] 0 []) (Lo V) _ ms B cb W (by decide) (rep_mk.2 ⟨none, 0, rfl, ⟨by omega, by omega⟩, .inl rfl⟩) (HRM.out W h) (by omega) (fun b hb => Nat.lt_of_lt_of_le hb h.size)
  obtain ⟨t1, ht1⟩ : ∃ t1, t1 = (decide (ks.length ≤ 6) && ks.all okk) := ⟨_, rfl⟩
  obtain ⟨t2, ht2⟩ : ∃ t2, t2 = (decide (ms.length ≤ 6) && ms.all okk) := ⟨_, rfl⟩
  rw [← ht1] at HFK
  rw [← ht2] at HFM
  have HT1 := Lib.hid ht1
  have HT2 := Lib.hid ht2
  have HWK := Lib.hid (worksC_any V HT htab)
  clear hl1 hl2 hrk hrm HT htab ht1 ht2 hk hm
  go_enter Tryz.func7, Tryz.ntmps7
  go_wp2_with fail
  refine HWK.out.mono ?_
  rintro _ w1 ⟨rfl, b1⟩
  have HB1 := Lib.hid b1
  clear b1 HWK
  go_wp2_with fail
  refine (HFK.out w1 HB1.out).mono ?_
  rintro _ w2 ⟨rfl, b2⟩
  have HB2 := Lib.hid (HB1.out.trans (b2.mono HB1.out.size))
  clear b2 HFK HB1
  go_wp2_with fail
  refine (HFM.out w2 HB2.out).mono ?_
  rintro _ w3 ⟨rfl, b3⟩
  have HB3 := Lib.hid (HB2.out.trans (b3.mono HB2.out.size))
  clear b3 HFM HB2
  cases t1
  case false =>
    go_wp2
    go_ret
    exact ⟨rfl, HB3.out⟩
  case true =>
  cases t2
  case false =>
    go_wp2
    go_ret
    exact ⟨rfl, HB3.out⟩
  case true =>
  by_cases ha : ((s.length : Nat) : Int) > 600
  · have e1 : decide (((s.length : Nat) : Int) > 600) = true := decide_eq_true ha
    go_wp2
    go_ret
    exact ⟨rfl, HB3.out⟩
  by_cases hb : ((c.length : Nat) : Int) > 100
  · have e1 : decide (((c.length : Nat) : Int) > 100) = true := decide_eq_true hb
    have e2 : decide (((s.length : Nat) : Int) > 600) = false := decide_eq_false ha
    have e2' : ¬ (600 : Int) < ((s.length : Nat) : Int) := ha
    go_wp2
    go_ret
    exact ⟨rfl, HB3.out⟩
  have e1 : decide (((s.length : Nat) : Int) > 600) = false := decide_eq_false ha
  have e1' : ¬ (600 : Int) < ((s.length : Nat) : Int) := ha
  have e2 : decide (((c.length : Nat) : Int) > 100) = false := decide_eq_false hb
  have e2' : ¬ (100 : Int) < ((c.length : Nat) : Int) := hb
  have HSL := Lib.hid (show s.length ≤ 600 by omega)
  have HCL := Lib.hid (show c.length ≤ 100 by omega)
  have HKL : Hid (ks.length ≤ 6) := by
    have h := HT1.out
    rw [eq_comm, Bool.and_eq_true, decide_eq_true_eq] at h
    exact h.1
  have HML : Hid (ms.length ≤ 6) := by
    have h := HT2.out
    rw [eq_comm, Bool.and_eq_true, decide_eq_true_eq] at h
    exact h.1
  clear ha hb hsl hcl HT1 HT2
  have HU1 := Lib.hid (Unpack_any s c ks A ca (Lo V) w3 (by have := HSL.out; omega) (by have := HCL.out; omega) (by have := HKL.out; omega) HZK.out (HTT.out _ HB3.out).1 (HTT.out _ HB3.out).2 (HRK.out _ HB3.out) (fun b hb => Nat.lt_of_lt_of_le hb HB3.out.size))
  go_wp2_with fail
  obtain ⟨R1, hR1⟩ : ∃ R, R = upk c ks s := ⟨_, rfl⟩
  rw [← hR1] at HU1
  have HR1 := Lib.hid hR1
  clear hR1
  refine HU1.out.mono ?_
  rintro e w4 hup
  obtain ⟨k1, s1, n1, l1, A1, ca1, x1, rfl, hr4, b4, hcase⟩ := upost_rep (fun x hx => upk_err c ks s x (HR1.out.symm.trans hx)) hup
  have HCASE := Lib.hid hcase
  have HB4 := Lib.hid (HB3.out.trans (b4.mono HB3.out.size))
  have hbw : Below w4.heap.size w4 (w4.alloc (.cells #[.int .i64 k1, .string ⟨⟨s1⟩⟩, .int .i64 n1, .slice A1 l1.length ca1] 25)) := (Below.refl _ _).alloc (Nat.le_refl _) _
  have hn5 := heap_alloc_new w4 (.cells #[.int .i64 k1, .string ⟨⟨s1⟩⟩, .int .i64 n1, .slice A1 l1.length ca1] 25)
  have hs5 : (w4.alloc (.cells #[.int .i64 k1, .string ⟨⟨s1⟩⟩, .int .i64 n1, .slice A1 l1.length ca1] 25)).heap.size = w4.heap.size + 1 := by simp
  have hv4 : Below V.heap.size V w4 := HB4.out
  have HB5 := Lib.hid (HB4.out.trans (hbw.mono HB4.out.size))
  have HR5 := Lib.hid (rep_keep (S' := fun b => b < w4.heap.size) (fun b hb => hb.2) (fun b o hb => hbw.cell (p := ⟨b, o, none⟩) hb.2) _ _ hr4)
  have HN5 := Lib.hid hn5
  have HS5 := Lib.hid hs5
  have HW5 := Lib.hid (show V.heap.size ≤ w4.heap.size from hv4.size)
  have HLO : Hid (∀ b, Lo V b → b < w4.heap.size + 1) := fun b hb => by have := HW5.out; exact Nat.lt_of_lt_of_le hb (by omega)
  have HLL : Hid (([] : List Tm).length + ks.length ≤ 1000000) := by have := HKL.out; rw [Hid, List.length_nil]; omega
  have HLM : Hid (([] ++ ks : List Tm).length + ms.length ≤ 1000000) := by have := HKL.out; have := HML.out; rw [Hid, List.nil_append]; omega
  clear HU1 HB3 HB4 e1 e2 e1' e2' hup hr4 b4 hcase hbw hn5 hs5 hv4
  go_wp2_with (first | (at_builtin; refine wpList_appTe (w4.alloc (.cells #[.int .i64 k1, .string ⟨⟨s1⟩⟩, .int .i64 n1, .slice A1 l1.length ca1] 25)) rfl (.tmp 52) (.tmp 53) rfl (w4.heap.size + 1) _ A ca [] ks (Lo V) rfl rfl (OwnT.nil _ _ _) (HRK.out _ HB5.out) HLO.out HLL.out (by rw [HS5.out]; exact Nat.le_refl _) ?_; intro v6 w6 ho6 hb6; have HO6 := Lib.hid ho6; have HB56 := Lib.hid hb6; have HB6 := Lib.hid (HB5.out.trans (hb6.mono (by have := HW5.out; omega))); clear ho6 hb6) | (at_builtin; refine wpList_appTe w6 rfl (.tmp 55) (.tmp 56) rfl (w4.heap.size + 1) v6 B cb ([] ++ ks) ms (Lo V) rfl rfl HO6.out (HRM.out _ HB6.out) HLO.out HLM.out (by have h1 := HB56.out.size; have h2 := HS5.out; omega) ?_; intro v7 w7 ho7 hb7; have HO7 := Lib.hid ho7; have HB67 := Lib.hid hb7; have HB7 := Lib.hid (HB6.out.trans (hb7.mono (by have := HW5.out; omega))); clear ho7 hb7))
  have HLT4 := Lib.hid (show w4.heap.size < w7.heap.size by have h1 := HB56.out.size; have h2 := HB67.out.size; have h3 := HS5.out; omega)
  have HN7 := Lib.hid ((HB67.out.block w4.heap.size (by omega)).trans ((HB56.out.block w4.heap.size (by omega)).trans HN5.out))
  have HR7 := Lib.hid (rep_keep (S' := fun b => b < w4.heap.size) (fun _ h => h) (fun b o hb => (HB67.out.cell (p := ⟨b, o, none⟩) (by show b < w4.heap.size + 1; omega)).trans (HB56.out.cell (p := ⟨b, o, none⟩) (by show b < w4.heap.size + 1; omega))) _ _ HR5.out)
  obtain ⟨A7, ca7, hv7⟩ := HO7.out.form
  subst hv7
  have hrow7 : TRow w7 (fun b => b < w7.heap.size) (ks ++ ms) A7 := HO7.out.row (fun b hb => by have h1 := HLO.out b hb; have h2 := HLT4.out; omega) (fun b hb => (HO7.out.lt b hb).2)
  have HU2 := Lib.hid (Unpack_any s c (ks ++ ms) A7 ca7 (fun b => b < w7.heap.size) w7 (by have := HSL.out; omega) (by have := HCL.out; omega) (by have := HKL.out; have := HML.out; rw [List.length_append]; omega) (fun k hk => by rcases List.mem_append.1 hk with hk | hk; exact HZK.out k hk; exact HZM.out k hk) (HTT.out _ HB7.out).1 (HTT.out _ HB7.out).2 hrow7 (fun _ h => h))
  clear hrow7 HO7 HO6 HB67 HB56 HN5 HR5 HS5 HB5 HB6 HLL HLM HLO HRM
  refine HU2.out.mono ?_
  rintro e w8 hup
  obtain ⟨k2, s2, n2, l2, A2, ca2, x2, rfl, hr8, b8, hcase2⟩ := upost_rep (fun x hx => upk_err c (ks ++ ms) s x hx) hup
  have HCASE2 := Lib.hid hcase2
  have HB8 := Lib.hid (HB7.out.trans (b8.mono HB7.out.size))
  have hbw : Below w8.heap.size w8 (w8.alloc (.cells #[.int .i64 k2, .string ⟨⟨s2⟩⟩, .int .i64 n2, .slice A2 l2.length ca2] 25)) := (Below.refl _ _).alloc (Nat.le_refl _) _
  have HN9 := Lib.hid (heap_alloc_new w8 (.cells #[.int .i64 k2, .string ⟨⟨s2⟩⟩, .int .i64 n2, .slice A2 l2.length ca2] 25))
  have HS9 := Lib.hid (show (w8.alloc (.cells #[.int .i64 k2, .string ⟨⟨s2⟩⟩, .int .i64 n2, .slice A2 l2.length ca2] 25)).heap.size = w8.heap.size + 1 by simp)
  have HL8 := Lib.hid (show w4.heap.size < w8.heap.size by have h1 := HLT4.out; have h2 := b8.size; omega)
  have HB9 := Lib.hid (HB8.out.trans (hbw.mono HB8.out.size))
  have HT9 := Lib.hid ((hbw.block w4.heap.size HL8.out).trans ((b8.block w4.heap.size HLT4.out).trans HN7.out))
  have HR9 := Lib.hid (rep_keep (S' := fun b => b < w8.heap.size) (fun b hb => by have := HL8.out; omega) (fun b o (hb : b < w4.heap.size) => (hbw.cell (p := ⟨b, o, none⟩) (by show b < w8.heap.size; have := HL8.out; omega)).trans (b8.cell (p := ⟨b, o, none⟩) (by show b < w7.heap.size; have := HLT4.out; omega))) _ _ HR7.out)
  have HX9 := Lib.hid (rep_keep (S' := fun b => b < w8.heap.size) (fun b hb => hb.2) (fun b o hb => hbw.cell (p := ⟨b, o, none⟩) hb.2) _ _ hr8)
  have HU3 := Lib.hid (Unpack_any (s ++ [122]) c ks A ca (Lo V) (w8.alloc (.cells #[.int .i64 k2, .string ⟨⟨s2⟩⟩, .int .i64 n2, .slice A2 l2.length ca2] 25)) (by have := HSL.out; rw [List.length_append]; simp; omega) (by have := HCL.out; omega) (by have := HKL.out; omega) HZK.out (HTT.out _ HB9.out).1 (HTT.out _ HB9.out).2 (HRK.out _ HB9.out) (fun b hb => Nat.lt_of_lt_of_le hb HB9.out.size))
  have hap := app_z s
  have hbd : s.length ≤ 600 := HSL.out
  have hbd1 : s.length + 1 ≤ 9223372036854775807 := by omega
  have hbd2 : ¬ 9223372036854775807 < s.length + 1 := by omega
  have hbd3 : s.length + 1 < 9223372036854775808 := by omega
  clear hup hr8 b8 hcase2 hbw HU2 HB7 HB8 HN7 HR7 HLT4 HTT HRK HZM
  go_wp2_with fail
  refine HU3.out.mono ?_
  rintro e w10 hup
  obtain ⟨k3, s3, n3, l3, A3, ca3, x3, rfl, -, b10, hcase3⟩ := upost_rep (fun x hx => upk_err c ks (s ++ [122]) x hx) hup
  have HB10 := Lib.hid (HB9.out.trans (b10.mono HB9.out.size))
  have hr10 := rep_keep (S' := fun b => b < w8.heap.size) (fun _ h => h) (fun b o (hb : b < w8.heap.size) => b10.cell (p := ⟨b, o, none⟩) (by show b < (w8.alloc (.cells #[.int .i64 k2, .string ⟨⟨s2⟩⟩, .int .i64 n2, .slice A2 l2.length ca2] 25)).heap.size; rw [HS9.out]; omega)) _ _ HR9.out
  have hx10 := rep_keep (S' := fun b => b < w8.heap.size) (fun _ h => h) (fun b o (hb : b < w8.heap.size) => b10.cell (p := ⟨b, o, none⟩) (by show b < (w8.alloc (.cells #[.int .i64 k2, .string ⟨⟨s2⟩⟩, .int .i64 n2, .slice A2 l2.length ca2] 25)).heap.size; rw [HS9.out]; omega)) _ _ HX9.out
  have hl10 : w8.heap.size < w10.heap.size := by have h1 := b10.size; have h2 := HS9.out; omega
  have hn10 := (b10.block w8.heap.size (by rw [HS9.out]; omega)).trans HN9.out
  have ht10 := (b10.block w4.heap.size (by have := HS9.out; have := HL8.out; omega)).trans HT9.out
  have hbz : Below w10.heap.size w10 (w10.alloc (.cells #[.int .i64 k3, .string ⟨⟨s3⟩⟩, .int .i64 n3, .slice A3 l3.length ca3] 25)) := (Below.refl _ _).alloc (Nat.le_refl _) _
  have hl410 : w4.heap.size < w10.heap.size := by have h1 := HL8.out; omega
  obtain ⟨c0, c1, c2, c3⟩ := cell4 ((hbz.block w4.heap.size hl410).trans ht10)
  obtain ⟨z0, z1, z2, z3⟩ := cell4 ((hbz.block w8.heap.size hl10).trans hn10)
  have HBZ := Lib.hid hbz
  have HLX := Lib.hid (Nat.lt_of_lt_of_le hl10 hbz.size)
  have HRX := Lib.hid (rep_keep (S' := fun b => b < w8.heap.size) (fun _ h => h) (fun b o (hb : b < w8.heap.size) => hbz.cell (p := ⟨b, o, none⟩) (Nat.lt_trans hb hl10)) _ _ hr10)
  have HXX := Lib.hid (rep_keep (S' := fun b => b < w8.heap.size) (fun _ h => h) (fun b o (hb : b < w8.heap.size) => hbz.cell (p := ⟨b, o, none⟩) (Nat.lt_trans hb hl10)) _ _ hx10)
  have HCASE3 := Lib.hid hcase3
  clear hup b10 hcase3 hr10 hx10 hl10 hn10 ht10 hbz hl410 HN9 HT9 HR9 HX9 HU3 HB9 HS9 HL8
  by_cases hx1 : x1 = 0
  · subst hx1
    have hR : upk c ks s = .ok (.mk k1 s1 n1 l1) := by
      rcases HCASE.out with ⟨_, h⟩ | ⟨h, _⟩
      · exact HR1.out.symm.trans h
      · exact absurd rfl h
    have hm := upk_more c ks ms s _ hR
    have hr := upk_rest c ks s 122 _ (by have := HSL.out; omega) hR
    have hsz : sz (.mk k1 s1 n1 l1) ≤ 262144 := by have := upk_sz c ks s _ hR; have := HSL.out; omega
    obtain ⟨rfl, h2⟩ : x2 = 0 ∧ Tm.mk k1 s1 n1 l1 = .mk k2 s2 n2 l2 := by
      rcases HCASE2.out with ⟨h1, h⟩ | ⟨_, h, _⟩
      · rw [hm] at h; injection h with h; exact ⟨h1, h⟩
      · rw [hm] at h; cases h
    injection h2 with e1 e2 e3 e4
    subst e1 e2 e3 e4
    obtain rfl : x3 = 14 := by
      rcases HCASE3.out with ⟨_, h⟩ | ⟨_, h, _⟩
      · rw [hr] at h; cases h
      · rw [hr] at h; injection h with h; exact h.symm
    have HSAME := Lib.hid (Same_any (.mk k1 s1 n1 l1) (.mk k1 s1 n1 l1) (fun b => b < w8.heap.size) _ _ (w10.alloc (.cells #[.int .i64 k3, .string ⟨⟨s3⟩⟩, .int .i64 n3, .slice A3 l3.length ca3] 25)) hsz HRX.out HXX.out (fun b hb => Nat.lt_trans hb HLX.out))
    rw [ord_refl] at HSAME
    clear hR hm hr hsz HCASE HCASE2 HCASE3 HR1 HRX HXX
    go_wp2_with fail
    refine HSAME.out.mono ?_
    rintro _ w11 ⟨rfl, b11⟩
    go_wp2
    go_ret
    exact ⟨rfl, (HB10.out.trans (HBZ.out.mono HB10.out.size)).trans (b11.mono (Nat.le_trans HB10.out.size HBZ.out.size))⟩
  · have h0 : Tm.mk k1 s1 n1 l1 = .mk 0 [] 0 [] := by
      rcases HCASE.out with ⟨h, _⟩ | ⟨_, _, h⟩
      · exact absurd h hx1
      · exact h
    injection h0 with e1 e2 e3 e4
    subst e1 e2 e3 e4
    have hz : Rep (w10.alloc (.cells #[.int .i64 k3, .string ⟨⟨s3⟩⟩, .int .i64 n3, .slice A3 l3.length ca3] 25)) (fun b => b < w8.heap.size) (.mk 0 [] 0 []) (.agg #[.int .i64 0, .string ⟨⟨[]⟩⟩, .int .i64 0, .slice none 0 0]) := rep_mk.2 ⟨none, 0, rfl, ⟨by omega, by omega⟩, .inl rfl⟩
    have HSAME := Lib.hid (Same_any (.mk 0 [] 0 []) (.mk 0 [] 0 []) (fun b => b < w8.heap.size) _ _ (w10.alloc (.cells #[.int .i64 k3, .string ⟨⟨s3⟩⟩, .int .i64 n3, .slice A3 l3.length ca3] 25)) (by decide) HRX.out hz (fun b hb => Nat.lt_trans hb HLX.out))
    rw [ord_refl] at HSAME
    clear HCASE HCASE2 HCASE3 HR1 HRX HXX hz
    go_wp2_with fail
    refine HSAME.out.mono ?_
    rintro _ w11 ⟨rfl, b11⟩
    go_wp2
    go_ret
    exact ⟨rfl, (HB10.out.trans (HBZ.out.mono HB10.out.size)).trans (b11.mono (Nat.le_trans HB10.out.size HBZ.out.size))⟩
end Go.Proofs.YticofjbngfjjlaaGreatDoor.Cy

