/- Stream. -/
import Derived.Test.YticofjbngfjjlaaGreatDoorGAShaW3
import Derived.Test.YticofjbngfjjlaaGreatDoorGACtW2
import Derived.Lib.AppendStr
import Derived.Laws.MakeOwn
import Derived.Sort.CutIn
import Derived.RangeFuncNested
import Derived.Test.YticofjbngfjjlaaGreatDoorGAAeW7
import Derived.StillTailTactics
import Derived.Test.YticofjbngfjjlaaGreatDoorGAAeW3
import Derived.Test.YticofjbngfjjlaaGreatDoorGAHmW3
import Derived.Test.YticofjbngfjjlaaGreatDoorGAWiW5
import Derived.Test.YticofjbngfjjlaaGreatDoorGAWiMemB
import Derived.Lib.QuietBelow
import Derived.Test.YticofjbngfjjlaaGreatDoorGATmW8
namespace Go.Proofs.YticofjbngfjjlaaGreatDoor
open Go.RowKit Go.Shelf
attribute [local go_sem] Oper.semAt_some

set_option maxRecDepth 100000 in
theorem Stream_no (k o : List UInt8) (n : Int) (w : World) (h : ¬ (k.length = 16 ∧ o.length = 12 ∧ 0 ≤ n ∧ n ≤ 1048576)) :
    Calls Tryz.prog 190 #[.string ⟨⟨k⟩⟩, .string ⟨⟨o⟩⟩, .int .i64 n] w fun e w' => e = .returned (.string ⟨⟨[]⟩⟩) ∧ w = w' := by
  by_cases hk : k.length = 16
  · obtain ⟨k1, k2, k3, k4⟩ := len_true hk
    simp only [Int.cast_ofNat_Int] at k1 k3
    by_cases ho : o.length = 12
    · obtain ⟨o1, o2, o3, o4⟩ := len_true ho
      simp only [Int.cast_ofNat_Int] at o1 o3
      by_cases hn : n < 0
      · clear h hk ho
        go_enter Tryz.func190, Tryz.ntmps190
        go_wp2
        go_ret
        exact ⟨rfl, rfl⟩
      · have hm : 1048576 < n := by
          rcases Int.lt_or_le 1048576 n with h1 | h1
          · exact h1
          · exact absurd ⟨hk, ho, by omega, h1⟩ h
        clear h hk ho
        go_enter Tryz.func190, Tryz.ntmps190
        go_wp2
        go_ret
        exact ⟨rfl, rfl⟩
    · obtain ⟨o1, o2, o3, o4⟩ := len_false ho
      simp only [Int.cast_ofNat_Int] at o1 o3
      clear h hk ho
      go_enter Tryz.func190, Tryz.ntmps190
      go_wp2
      go_ret
      exact ⟨rfl, rfl⟩
  · obtain ⟨k1, k2, k3, k4⟩ := len_false hk
    simp only [Int.cast_ofNat_Int] at k1 k3
    clear h hk
    go_enter Tryz.func190, Tryz.ntmps190
    go_wp2
    go_ret
    exact ⟨rfl, rfl⟩


/-- append(v, s...) of a text, inside a fence. -/
theorem wpListIn_appT {F : Fence} {n' : Nat} (w : World) {ops : Array Oper} {rest : List Oper} {oo : Oper} {a : Act} {Q : Exit → Act → World → Prop} (hgd : oo.guard = none) (sl x : Operand)
    (ho : oo.op = .call { callee := .builtin .append, args := #[sl, x], argTypes := #[31, 9] })
    (base : Nat) (v : Value) (L s : List UInt8) (hs : a.eval sl = v) (hown : OwnB w base v L) (hx : a.eval x = .string ⟨⟨s⟩⟩)
    (hl : L.length + s.length ≤ 100000000) (hbase : base ≤ w.heap.size)
    (h : ∀ v' w', OwnB w' base v' (L ++ s) → w.grownBy w' v.ownBlock → (v' = .slice none 0 0 ↔ v = .slice none 0 0 ∧ s = []) → wpListIn F n' Tryz.prog ops Q rest (a.put oo.dst v') w') : wpListIn F n' Tryz.prog ops Q (oo :: rest) a w := by
  obtain ⟨i, hi, he⟩ := Option.map_eq_some_iff.1 info5
  simp only [Prod.mk.injEq] at he
  obtain ⟨hz, hsz, hb⟩ := he
  refine wpListIn_plain hgd fun K hK => ?_
  obtain ⟨v', w', hr, h2, h3, h4⟩ := Lib.run_append_own_string (P := Tryz.prog) w base 31 9 oo.type 5 i Tryz.underlying31 Tryz.underlying9 hi hz hsz hb v L.length (bvals L) hown ⟨⟨s⟩⟩ (by simp only [maxLen]; show L.length + s.length ≤ _; omega) (by show L.length + s.length ≤ _; omega) hbase
  unfold Oper.wpIn
  refine ⟨?_, ?_⟩
  · simp [Oper.about, ho, resolve, Target.leads, Sem.run_pure]
  · rw [Oper.semAt_plain F _ _ (by rw [ho]; intro c hc'; cases hc')]
    simp [execOp, ho, resolve, invoke, builtin, hs, hx, hr, Result.andThen]
    refine hK _ _ (h v' w' ?_ h3 ?_)
    · have e : bvals (L ++ s) = bvals L ++ Lib.strCells ⟨⟨s⟩⟩ := by simp [bvals, Lib.strCells]
      rw [OwnB, e, List.length_append]
      exact h2
    · rw [h4]
      show (_ ∧ s.length = 0) ↔ _
      rw [List.length_eq_zero_iff]

/-- 'out = append(out, s...)': what the walk owes behind the append and the store. -/
theorem boxed_text {W w1 : World} {n₀ B : Nat} {t e : TypeId} {v v' : Value} {k m : Nat} {xs ys : List Value}
    (hv : Boxed W B t v) (hte : t ≠ e) (hrow : W.ownsRow n₀ e 1 v k xs) (hn₀ : n₀ ≤ W.heap.size) (hB : n₀ ≤ B)
    (hown' : w1.ownsRow n₀ e 1 v' m ys) (hgrow : W.grownBy w1 v.ownBlock) :
    Boxed w1 B t v ∧ Boxed (w1.setCell ⟨B, 0, none⟩ v') B t v' ∧ (w1.setCell ⟨B, 0, none⟩ v').ownsRow n₀ e 1 v' m ys ∧ KeepsOthers W (w1.setCell ⟨B, 0, none⟩ v') ∧ Below n₀ W (w1.setCell ⟨B, 0, none⟩ v') := by
  have hv1 : Boxed w1 B t v := hv.kept hgrow (hv.not_row hte hrow)
  refine ⟨hv1, hv1.set v', hown'.kept (grownBy_setCell' w1 B v') (.inr (hv1.not_row hte hown').symm), ?_, ?_⟩
  · refine (KeepsOthers.of_grownBy hgrow fun j o ej hj => ?_).trans (KeepsOthers.setCell _ _ _)
    rcases hrow.2 with ⟨rfl, _⟩ | ⟨g, cap, cur, rfl, _, hgb, _⟩
    · simp [Value.ownBlock] at ej
    · obtain rfl : g = j := by simpa [Value.ownBlock] using ej
      rw [hgb] at hj; cases hj; rfl
  · refine ((Below.refl n₀ W).grown hgrow hn₀ fun j ej => ?_).setCell (p := ⟨B, 0, none⟩) hB v'
    rcases hrow.2 with ⟨rfl, _⟩ | ⟨g, cap, cur, rfl, hb, _, _⟩
    · simp [Value.ownBlock] at ej
    · obtain rfl : g = j := by simpa [Value.ownBlock] using ej
      exact hb
/-- Another box behind both. -/
theorem boxed_aside {W w1 : World} {n₀ B B' : Nat} {t e : TypeId} {v v' u : Value} {k : Nat} {xs : List Value}
    (hu : Boxed W B' t u) (hte : t ≠ e) (hrow : W.ownsRow n₀ e 1 v k xs) (hgrow : W.grownBy w1 v.ownBlock) (hne : B' ≠ B) : Boxed (w1.setCell ⟨B, 0, none⟩ v') B' t u :=
  (hu.kept hgrow (hu.not_row hte hrow)).kept (grownBy_setCell' w1 B v') (by simpa using hne)

set_option maxRecDepth 100000 in
set_option maxHeartbeats 2000000 in
theorem Stream_yes (k o : List UInt8) (n : Nat) (w : World) (hk : k.length = 16) (ho : o.length = 12) (hn : n ≤ 1048576) :
    Calls Tryz.prog 190 #[.string ⟨⟨k⟩⟩, .string ⟨⟨o⟩⟩, .int .i64 (n : Nat)] w fun e w' => e = .returned (.string ⟨⟨Ct.str k o n⟩⟩) ∧ Below w.heap.size w w' := by
  obtain ⟨k1, k2, k3, k4⟩ := len_true hk
  obtain ⟨o1, o2, o3, o4⟩ := len_true ho
  simp only [Int.cast_ofNat_Int] at k1 k3 o1 o3
  have hn0 : ¬ (n : Int) < 0 := by omega
  have hn1 : ¬ (1048576 : Int) < (n : Int) := by omega
  obtain ⟨c, hc⟩ : ∃ c : Nat, c = (n + 15) / 16 := ⟨_, rfl⟩
  have hcl : c ≤ 65536 := by omega
  have e0 : Hid (((n : Int) + 16 - 1) / 16 = (c : Int)) := by rw [Hid]; omega
  obtain ⟨m, hm⟩ : ∃ m : Nat, m = c * 16 := ⟨_, rfl⟩
  have e2 : (c : Int) * 16 = (m : Int) := by omega
  have hmk := make_cap m (by omega) w
  have HC : Hid (c = (n + 15) / 16) := hc
  have HM : Hid (m = c * 16) := hm
  clear hc hm
  refine (callsIn_wide (n := 4)).1 ?_
  refine callsIn_of_wp_marks Tryz.func190 rfl trivial ?_ rfl
  simp only [Tryz.ntmps190, List.size_toArray, List.length_cons, List.length_nil, Nat.reduceAdd, Nat.reduceSub, Array.replicate_succ, Array.replicate_zero, List.push_toArray, List.append_toArray, List.nil_append, List.cons_append]
  gi_upto_region 4 with (fail)
  rw [e0.out]
  have hci : (c : Int) ≤ 65536 := by omega
  gi_wp2_with (refine ⟨trivial, ?_⟩; gi_at_call 203; refine (callsIn_wide.2 (blocks_any k o c _)).mono ?_; rintro _ _ ⟨rfl, rfl⟩)
  obtain ⟨z, hz⟩ : ∃ z, z = w.heap.size := ⟨_, rfl⟩
  rw [← hz]
  have bV : Boxed ((w.alloc (.cells (bcells (List.replicate m 0)) 5)).alloc (.cells #[.slice (some ⟨z, 0, none⟩) 0 m] 31)) (z + 1) 31 (.slice (some ⟨z, 0, none⟩) 0 m) := by
    have := Boxed.new (w.alloc (.cells (bcells (List.replicate m 0)) 5)) 31 (.slice (some ⟨z, 0, none⟩) 0 m)
    rwa [World.size_alloc, ← hz] at this
  have hrow0 : ((w.alloc (.cells (bcells (List.replicate m 0)) 5)).alloc (.cells #[.slice (some ⟨z, 0, none⟩) 0 m] 31)).ownsRow z 5 1 (.slice (some ⟨z, 0, none⟩) 0 m) 0 [] := by
    refine World.ownsRow.alloc ⟨rfl, .inr ⟨z, m, bcells (List.replicate m 0), rfl, Nat.le_refl _, ?_, Nat.zero_le _, ?_, ?_, rfl⟩⟩ _
    · rw [hz]; exact heap_alloc_new _ _
    · simp only [maxLen]; omega
    · simp [bcells]
  have hB0 : Below z w ((w.alloc (.cells (bcells (List.replicate m 0)) 5)).alloc (.cells #[.slice (some ⟨z, 0, none⟩) 0 m] 31)) := by
    rw [hz]
    exact ((Below.refl _ w).alloc (Nat.le_refl _) _).alloc (by simp) _
  have hsz : ((w.alloc (.cells (bcells (List.replicate m 0)) 5)).alloc (.cells #[.slice (some ⟨z, 0, none⟩) 0 m] 31)).heap.size = z + 2 := by simp [hz]
  generalize (w.alloc (.cells (bcells (List.replicate m 0)) 5)).alloc (.cells #[.slice (some ⟨z, 0, none⟩) 0 m] 31) = W1 at *
  have bK : Boxed ((((W1.alloc (.cells #[.string ⟨⟨k⟩⟩] 9)).alloc (.cells #[.string ⟨⟨o⟩⟩] 9)).alloc (.cells #[.int .i64 (c : Nat)] 3))) (z + 2) 9 (.string ⟨⟨k⟩⟩) := by
    have := Boxed.new W1 9 (.string ⟨⟨k⟩⟩)
    rw [hsz] at this
    exact (this.alloc _).alloc _
  have bO : Boxed ((((W1.alloc (.cells #[.string ⟨⟨k⟩⟩] 9)).alloc (.cells #[.string ⟨⟨o⟩⟩] 9)).alloc (.cells #[.int .i64 (c : Nat)] 3))) (z + 3) 9 (.string ⟨⟨o⟩⟩) := by
    have := Boxed.new (W1.alloc (.cells #[.string ⟨⟨k⟩⟩] 9)) 9 (.string ⟨⟨o⟩⟩)
    rw [World.size_alloc, hsz] at this
    exact this.alloc _
  have bC : Boxed ((((W1.alloc (.cells #[.string ⟨⟨k⟩⟩] 9)).alloc (.cells #[.string ⟨⟨o⟩⟩] 9)).alloc (.cells #[.int .i64 (c : Nat)] 3))) (z + 4) 3 (.int .i64 (c : Nat)) := by
    have := Boxed.new ((W1.alloc (.cells #[.string ⟨⟨k⟩⟩] 9)).alloc (.cells #[.string ⟨⟨o⟩⟩] 9)) 3 (.int .i64 (c : Nat))
    rw [World.size_alloc, World.size_alloc, hsz] at this
    exact this
  have bV2 := ((bV.alloc (.cells #[.string ⟨⟨k⟩⟩] 9)).alloc (.cells #[.string ⟨⟨o⟩⟩] 9)).alloc (.cells #[.int .i64 (c : Nat)] 3)
  have hrow2 := ((World.ownsRow.alloc hrow0 (.cells #[.string ⟨⟨k⟩⟩] 9)).alloc (.cells #[.string ⟨⟨o⟩⟩] 9)).alloc (.cells #[.int .i64 (c : Nat)] 3)
  have hB2 := ((hB0.alloc (by omega) (.cells #[.string ⟨⟨k⟩⟩] 9)).alloc (by simp; omega) (.cells #[.string ⟨⟨o⟩⟩] 9)).alloc (by simp; omega) (.cells #[.int .i64 (c : Nat)] 3)
  have hsz2 : (((W1.alloc (.cells #[.string ⟨⟨k⟩⟩] 9)).alloc (.cells #[.string ⟨⟨o⟩⟩] 9)).alloc (.cells #[.int .i64 (c : Nat)] 3)).heap.size = z + 5 := by simp [hsz]
  generalize ((W1.alloc (.cells #[.string ⟨⟨k⟩⟩] 9)).alloc (.cells #[.string ⟨⟨o⟩⟩] 9)).alloc (.cells #[.int .i64 (c : Nat)] 3) = W2 at *
  have HZ : Hid (z = w.heap.size) := hz
  have hzl : z ≤ w.heap.size := by omega
  clear hB0 hrow0 bV hmk hsz hz
  refine wpIn_rangeFunc_ownG rfl (by omega) (gf := 207) (lb := #[.pointer (some ⟨z + 4, 0, none⟩), .pointer (some ⟨z + 2, 0, none⟩), .pointer (some ⟨z + 3, 0, none⟩)]) rfl trivial (enters_of Tryz.func207 (by kernel_rfl) rfl)
    (blocks_stops 3 (by omega) (z + 4) (z + 2) (z + 3) c k o hk ho hcl W2 bC bK bO) Kept2.trans (Kept2.putObj (by omega) (by omega)) (Below.refl _ _) (fun _ => rfl)
    (fun pre W => (∃ v, Boxed W (z + 1) 31 v ∧ W.ownsRow z 5 1 v (flat pre).length (bvals (flat pre)) ∧ v ≠ .slice none 0 0) ∧ (Boxed W (z + 2) 9 (.string ⟨⟨k⟩⟩) ∧ Boxed W (z + 3) 9 (.string ⟨⟨o⟩⟩)) ∧ Below z w W)
    (fun _ _ _ => False)
    (OwnFrom.and (Own.from (holdsRow_own z (z + 1) 31 5 1 (fun pre => (flat pre).length) (fun pre => bvals (flat pre)) (fun _ v => v ≠ .slice none 0 0)) _) (OwnFrom.and (OwnFrom.and (Own.from (boxed_own (z + 2) 9 (fun _ => .string ⟨⟨k⟩⟩)) _) (Own.from (boxed_own (z + 3) 9 (fun _ => .string ⟨⟨o⟩⟩)) _)) (ownFrom_below (by omega) (by omega))))
    (fun _ _ _ _ _ hs _ _ => hs)
    ⟨⟨_, bV2, hrow2, by simp⟩, ⟨bK, bO⟩, hB2⟩
    (fun x => { tmps := #[.string ⟨⟨k⟩⟩, .string ⟨⟨o⟩⟩, .int .i64 (n : Nat), undef, undef, undef, .string ⟨#[]⟩, .int .i64 (c : Nat), .pointer (some ⟨z + 1, 0, none⟩), .string ⟨⟨x.1⟩⟩, .string ⟨⟨k⟩⟩, .int .i64 16, .bool false, .bool false, .string ⟨⟨o⟩⟩, .int .i64 12, .bool false, .bool false, .bool false, .int .i64 (n : Nat), .bool false, .bool false, .bool false, .int .i64 (n : Nat), .bool false, .bool false, .int .i64 (n : Nat), .int .i64 ((n : Int) + 16), .int .i64 ((n : Int) + 16 - 1), .int .i64 (c : Nat), .int .i64 (c : Nat), .int .i64 (m : Nat), .slice (some ⟨z, 0, none⟩) 0 m, .string ⟨⟨k⟩⟩, .string ⟨⟨o⟩⟩, .int .i64 (c : Nat), .func (.func 207) #[] #[.pointer (some ⟨z + 4, 0, none⟩), .pointer (some ⟨z + 2, 0, none⟩), .pointer (some ⟨z + 3, 0, none⟩)], .string ⟨⟨x.1⟩⟩, undef, undef, undef, undef, undef, undef, undef], defers := [] }) ?assign ?body ?done ?stop
  case assign =>
    intro l x W K hK
    gi_wp2
    exact hK
  case body =>
    rintro l pre x W ⟨⟨v, hv, hrow, hnil⟩, ⟨bK1, bO1⟩, hB⟩ hlt
    have hcv := hv.cell
    have hq : (flat pre ++ x.1).length = 16 * pre.length + 16 := by rw [List.length_append, flat_length, x.2]
    have hqs : (flat pre).length + x.1.length ≤ 100000000 := by rw [flat_length, x.2]; omega
    gi_wp2_with (gi_at_builtin; refine wpListIn_appT _ rfl _ _ rfl z v (flat pre) x.1 rfl hrow rfl hqs (by have := hB.size; omega) ?_; intro v' w1 hown' hgrow hnl; obtain ⟨g', cap', cur', hv', _⟩ := own_form hown' (fun h => hnil (hnl.1 h).1); rw [hq] at hv'; subst hv'; clear hnl; obtain ⟨hv1, hv2, hr2, hk2, hb2⟩ := boxed_text hv (by decide) hrow (by have := hB.size; omega) (by omega) hown' hgrow; have hc1 := hv1.cell; have hf1 := hv1.frozen)
    have bK2 := boxed_aside (v' := .slice (some ⟨g', 0, none⟩) (16 * pre.length + 16) cap') bK1 (by decide) hrow hgrow (show z + 2 ≠ z + 1 by omega)
    have bO2 := boxed_aside (v' := .slice (some ⟨g', 0, none⟩) (16 * pre.length + 16) cap') bO1 (by decide) hrow hgrow (show z + 3 ≠ z + 1 by omega)
    exact ⟨hk2.from _, ⟨bK2.trans bK1.symm, bO2.trans bO1.symm⟩, ⟨_, hv2, by rw [flat_snoc]; exact hr2, by simp⟩, ⟨bK2, bO2⟩, hB.trans hb2⟩
  case done =>
    rintro D ys W hD rfl ⟨⟨v, hv, hrow, hnil⟩, _, hB⟩ hK
    have hrow' : OwnB W z v (Ct.blks k o c) := by
      rw [flat_told] at hrow
      exact hrow
    obtain ⟨g, cap, cur, rfl, hg, h1, h2, hcs⟩ := own_form hrow' hnil
    have hbl := Ct.blks_length k o c
    have hcn := HC.out
    have hnc : n ≤ cap := by omega
    have hst := Ct.str_length k o n
    have hcv := conv_any W g cap (Ct.str k o n) 5 (0, 0) cur hg (fun j hj => by
      rw [hcs j (by omega), Ct.str, ← hcn]
      simp only [List.getD_eq_getElem?_getD, List.getElem?_take, if_pos (show j < n by omega)])
    rw [hst] at hcv
    have hcc := hv.cell
    have hnci : (n : Int) ≤ (cap : Int) := by omega
    have hcm : cap ≤ 9223372036854775807 := by simp only [maxLen] at h2; omega
    clear hcs hrow hrow' hnil h1 h2 hcn hbl
    obtain ⟨L, hL⟩ : ∃ L, L = Ct.str k o n := ⟨_, rfl⟩
    rw [← hL] at hcv
    have HL : Hid (L = Ct.str k o n) := hL
    clear hL hst
    gi_wp2
    refine ⟨by simp, .inl ⟨_, _, rfl, run_takeDeferred hK, ?_⟩⟩
    refine ⟨_, results_tmp rfl _ _ _, by rw [← HL.out]; rfl, ?_⟩
    rw [← HZ.out]
    exact hB.trans (belowK_b (w := w) hzl W D _ _ (by have := hB2.size; omega) hK rfl rfl)
  case stop =>
    rintro D c pre W _ _ h _
    exact h.elim

set_option maxRecDepth 100000 in
theorem Stream_any (k o : List UInt8) (n : Int) (w : World) :
    Calls Tryz.prog 190 #[.string ⟨⟨k⟩⟩, .string ⟨⟨o⟩⟩, .int .i64 n] w fun e w' => e = .returned (.string ⟨⟨Ct.strA k o n⟩⟩) ∧ Below w.heap.size w w' := by
  by_cases h : k.length = 16 ∧ o.length = 12 ∧ 0 ≤ n ∧ n ≤ 1048576
  · obtain ⟨m, rfl⟩ := Int.eq_ofNat_of_zero_le h.2.2.1
    rw [Ct.strA_yes h.1 h.2.1 (by omega)]
    exact Stream_yes k o m w h.1 h.2.1 (by omega)
  · rw [Ct.strA_no h]
    exact (Stream_no k o n w h).mono fun _ _ ⟨he, hw⟩ => ⟨he, hw ▸ Below.refl _ _⟩
end Go.Proofs.YticofjbngfjjlaaGreatDoor

/- AesKeys' walk. -/

namespace Go.Proofs.YticofjbngfjjlaaGreatDoor
open Go.RowKit

/-- A byte of the keys, by those ahead of it. -/
theorem ex_byte (key : List UInt8) (h : key.length = 16) (i : Nat) (h1 : 16 ≤ i) (h2 : i < 176) :
    (4 ≤ i % 16 → (Ae.ex key).getD i 0 = (Ae.ex key).getD (i - 16) 0 ^^^ (Ae.ex key).getD (i - 4) 0) ∧
    (i % 16 < 4 → i % 16 ≠ 0 → (Ae.ex key).getD i 0 = (Ae.ex key).getD (i - 16) 0 ^^^ Ae.sw ((Ae.ex key).getD (i - i % 16 - 4 + (i + 1) % 4) 0)) ∧
    (i % 16 = 0 → (Ae.ex key).getD i 0 = (Ae.ex key).getD (i - 16) 0 ^^^ (Ae.sw ((Ae.ex key).getD (i - i % 16 - 4 + (i + 1) % 4) 0) ^^^ Ae.twi ((i - 16) / 16) 1)) := by
  obtain ⟨n, hn⟩ : ∃ n, n = (i - 16) / 4 := ⟨_, rfl⟩
  obtain ⟨j, hj⟩ : ∃ j, j = i % 4 := ⟨_, rfl⟩
  have hi : i = 16 + 4 * n + j := by omega
  have hj4 : j < 4 := by omega
  have hr := ex_rec key h n j (by omega) hj4
  rw [← hi, show 4 * n + j = i - 16 by omega] at hr
  generalize Ae.ex key = E at *
  refine ⟨fun hq => ?_, fun hq h0 => ?_, fun hq => ?_⟩
  · rw [hr, Ae.lst_no _ n (by omega)]
    refine congrArg (E.getD (i - 16) 0 ^^^ ·) ?_
    match j, hj4, hi with
    | 0, _, hi => show E.getD (12 + 4 * n) 0 = _; rw [show i - 4 = 12 + 4 * n by omega]
    | 1, _, hi => show E.getD (13 + 4 * n) 0 = _; rw [show i - 4 = 13 + 4 * n by omega]
    | 2, _, hi => show E.getD (14 + 4 * n) 0 = _; rw [show i - 4 = 14 + 4 * n by omega]
    | 3, _, hi => show E.getD (15 + 4 * n) 0 = _; rw [show i - 4 = 15 + 4 * n by omega]
  · rw [hr, Ae.lst_yes _ n (by omega)]
    refine congrArg (E.getD (i - 16) 0 ^^^ ·) ?_
    match j, hj4, hi with
    | 0, _, hi => omega
    | 1, _, hi => show Ae.sw (E.getD (14 + 4 * n) 0) = _; rw [show i - i % 16 - 4 + (i + 1) % 4 = 14 + 4 * n by omega]
    | 2, _, hi => show Ae.sw (E.getD (15 + 4 * n) 0) = _; rw [show i - i % 16 - 4 + (i + 1) % 4 = 15 + 4 * n by omega]
    | 3, _, hi => show Ae.sw (E.getD (12 + 4 * n) 0) = _; rw [show i - i % 16 - 4 + (i + 1) % 4 = 12 + 4 * n by omega]
  · rw [hr, Ae.lst_yes _ n (by omega)]
    refine congrArg (E.getD (i - 16) 0 ^^^ ·) ?_
    obtain rfl : j = 0 := by omega
    show Ae.sw (E.getD (13 + 4 * n) 0) ^^^ Ae.twi (n / 4) 1 = _
    rw [show i - i % 16 - 4 + (i + 1) % 4 = 13 + 4 * n by omega, show (i - 16) / 16 = n / 4 by omega]

theorem belowQ {B : Nat} {a w : World} (h : Below B a w) (n : Nat) : Below B a (w.drewN n) := h.trans ⟨rfl, rfl, rfl, Nat.le_refl _, fun _ _ => rfl⟩

end Go.Proofs.YticofjbngfjjlaaGreatDoor

/- Cipher. -/

namespace Go.Proofs.YticofjbngfjjlaaGreatDoor
open Go.RowKit

theorem cipA_at (k o s : List UInt8) (j : Nat) (hs : j < s.length) (ht : j < (Ct.strA k o (s.length : Int)).length) : (Ct.cipA k o s).getD j 0 = s[j] ^^^ (Ct.strA k o (s.length : Int))[j] := by
  rw [Ct.cipA, Ct.xr_getD _ _ _ hs ht, getD_get _ _ hs, getD_get _ _ ht]

set_option maxRecDepth 100000 in
theorem Cipher_any (k o s : List UInt8) (w : World) :
    Calls Tryz.prog 162 #[.string ⟨⟨k⟩⟩, .string ⟨⟨o⟩⟩, .string ⟨⟨s⟩⟩] w fun e w' => e = .returned (.string ⟨⟨Ct.cipA k o s⟩⟩) ∧ Below w.heap.size w w' := by
  have HS := Lib.hid fun W => Stream_any k o (s.length : Int) W
  have HAT := Lib.hid (cipA_at k o s)
  have HL := Lib.hid (Ct.cipA_length k o s)
  have hle := Ct.strA_le k o (s.length : Int)
  have hts : (Ct.strA k o (s.length : Int)).length ≤ s.length := by
    rcases Ct.strA_len k o s.length with h | h
    · omega
    · rw [h]; exact Nat.zero_le _
  have HLE := Lib.hid hle
  have HTS := Lib.hid hts
  clear hle hts
  generalize Ct.strA k o (s.length : Int) = t at *
  generalize Ct.cipA k o s = L at *
  go_enter Tryz.func162, Tryz.ntmps162
  go_wp2_with fail
  refine (HS.out w).mono ?_
  rintro _ w1 ⟨rfl, hb1⟩
  have hmk := make_full t.length (by have := HLE.out; omega) w1
  have hs1 := hb1.size
  obtain ⟨gs, hgs⟩ : ∃ g, g = w1.heap.size := ⟨_, rfl⟩
  have hgw : w.heap.size ≤ gs := by omega
  have HST : Hid (Below w.heap.size w (w1.alloc (.cells (bcells (List.replicate t.length 0)) 5)) ∧ (w1.alloc (.cells (bcells (List.replicate t.length 0)) 5)).heap[gs]? = some (.cells (bcells (L.take 0 ++ List.replicate (t.length - 0) 0)) 5 (0, 0))) :=
    ⟨hb1.alloc hs1 _, by rw [hgs]; exact heap_alloc_new _ _⟩
  have HGS := Lib.hid hgs
  clear hgs hb1 hs1 HS
  go_wp2
  rw [← HGS.out]
  clear HGS hmk
  go_loopw [20] (fun i wr => ∃ p : Nat, p ≤ t.length ∧ i = .int .i64 (p : Nat) ∧ Hid (Below w.heap.size w wr ∧ wr.heap[gs]? = some (.cells (bcells (L.take p ++ List.replicate (t.length - p) 0)) 5 (0, 0)))) (fun i _ => t.length - (intOf i).toNat)
  case atStart => exact ⟨0, by omega, rfl, HST⟩
  case round =>
    obtain ⟨p, hp, rfl, HA⟩ := hrel
    clear HST
    by_cases hlt : p < t.length
    · have hps : p < s.length := by have := HTS.out; omega
      have g0 := byte_at s p hps
      have g1 := byte_at t p hlt
      obtain ⟨x, hx⟩ : ∃ x, s[p] = x := ⟨_, rfl⟩
      obtain ⟨y, hy⟩ : ∃ y, t[p] = y := ⟨_, rfl⟩
      rw [hx] at g0
      rw [hy] at g1
      obtain ⟨hbw, hrow⟩ := HA.out
      have hval : L.getD p 0 = x ^^^ y := by rw [HAT.out p hps hlt, hx, hy]
      have hcz : wr.drew.cell? ⟨gs, p, none⟩ = some (.int .u8 (0 : Nat)) := brow_cell (wr := wr) hrow HL.out hlt
      have hfz : wr.drew.frozen? ⟨gs, p, none⟩ = false := frozen_of_row wr _ p _ _ hrow
      have HN : Hid (Below w.heap.size w (wr.drew.setCell ⟨gs, p, none⟩ (.int .u8 ((x ^^^ y).toNat : Nat))) ∧ (wr.drew.setCell ⟨gs, p, none⟩ (.int .u8 ((x ^^^ y).toNat : Nat))).heap[gs]? = some (.cells (bcells (L.take (p + 1) ++ List.replicate (t.length - (p + 1)) 0)) 5 (0, 0))) := by
        refine ⟨hbw.drew.setCell hgw _, ?_⟩
        rw [← hval]
        exact brow_set (wr := wr.drew) hrow HL.out hlt
      have hv := xor_byte x y
      have z0 : (p : Int) < t.length := by omega
      have z1 : (p : Int) < s.length := by omega
      have z2 : (p : Int) < 1048576 := by have := HLE.out; omega
      clear hx hy hval hbw hrow HA
      go_wp2_with fail
      refine wp_region_still_tail 10 (by kernel_rfl) (by kernel_rfl) ?_
      change wpStill _ _ (World.drew _) (fun a' => wpList _ _ _ _ a' (World.drew _)) _ _
      generalize wr.drew = w9 at *
      simp only [List.take_succ_cons, List.take_zero, List.drop_succ_cons, List.drop_zero]
      repeat still_step
      refine wpStill_nil ?_
      go_wp2
      go_roundw
      case rel => exact ⟨p + 1, by omega, by go_num, HN⟩
      case measure => simp [intOf]; omega
    · obtain rfl : p = t.length := by omega
      obtain ⟨hbw, hrow⟩ := HA.out
      rw [List.take_of_length_le (by rw [HL.out]; omega), Nat.sub_self, List.replicate_zero, List.append_nil] at hrow
      have hcv := conv_any wr gs t.length L 5 (0, 0) _ hrow (fun j hj => bcells_at L j hj)
      rw [HL.out] at hcv
      clear hrow HA
      go_wp2
      go_ret
      exact ⟨rfl, hbw⟩
end Go.Proofs.YticofjbngfjjlaaGreatDoor

/- The program's seal at any arguments; works. -/

namespace Go.Proofs.YticofjbngfjjlaaGreatDoor
open Go.RowKit

theorem cipIs (b o x : List UInt8) (n : Int) (hb : b.length ≤ 10000) : CipIs b n o x (Sl.cip b n o x) :=
  ciphered_by b (Sl.ck b n) o x _ n (Lib.hid fun w h => dCipher_any b n w h hb) (Lib.hid fun w => Cipher_any (Sl.ck b n) o x w)
theorem smIs (b s : List UInt8) (n : Int) (hb : b.length ≤ 10000) (hs : s.length ≤ 10000) : SmIs b n s (Sl.mc b n s) :=
  sealSum_by b (Sl.sk b n) s _ n (Lib.hid fun w h => dSum_any b n w h hb) (Lib.hid (macIs (Sl.sk b n) s (by rw [Sl.sk_length]; decide) hs))
theorem chkIs (b x : List UInt8) (n : Int) (hb : b.length ≤ 10000) (hx : x.length ≤ 10000) : ChkIs b n x (Sl.chk b n x) :=
  slSum_by b _ x _ n (Lib.hid (keyIs b [99, 104, 101, 99, 107] n hb (by decide))) (Lib.hid (macIs _ x (by rw [De.key_length]; decide) hx))
theorem equIs (a c : List UInt8) (h : a.length = 32) : EquIs a c (decide (a = c)) := fun w => Equal_any a c w (by omega)
theorem slCheck_any (b x s : List UInt8) (n : Int) (w : World) (HT : Tabs w) (hb : b.length ≤ 10000) (hx : x.length ≤ 10000) :
    Calls Tryz.prog 174 #[.string ⟨⟨b⟩⟩, .int .i64 n, .string ⟨⟨x⟩⟩, .string ⟨⟨s⟩⟩] w fun e w' => e = .returned (.int .i64 (chkNo (Sl.chk b n x) s)) ∧ Below w.heap.size w w' :=
  slCheck_by b x _ s n w HT (Lib.hid (chkIs b x n hb hx)) (Lib.hid (equIs _ s (Sl.chk_length _ _ _)))
theorem sealIs (b o x : List UInt8) (n : Int) (hb : b.length ≤ 10000) (ho : o.length = 12) (hx : x.length ≤ 9000) : SealIs b n o x (Sl.sld b n o x) 0 := by
  have hc := Sl.cip_le b n o x
  exact slSeal_by b o x (Sl.cip b n o x) _ n ho (by omega) (by omega) (Nat.le_of_eq (Sl.mc_length _ _ _)) (Lib.hid (cipIs b o x n hb)) (Lib.hid (smIs b _ n hb (by rw [List.length_append]; omega)))
theorem openIs (b s : List UInt8) (n : Int) (hb : b.length ≤ 10000) (hs : s.length ≤ 9000) : OpenIs b n s (Sl.opn b n s).1 ((Sl.opn b n s).2 : Nat) := by
  by_cases h : s.length < 44
  · rw [Sl.opn, if_pos h]
    exact slOpen_no b s n 10 (by decide) (Lib.hid (wrong_short b s n h))
  · have h44 : 44 ≤ s.length := by omega
    have HS := smIs b (s.take (s.length - 32)) n hb (by rw [List.length_take]; omega)
    have HE := equIs (Sl.mc b n (s.take (s.length - 32))) (s.drop (s.length - 32)) (Sl.mc_length _ _ _)
    rw [Sl.opn, if_neg h]
    by_cases h2 : Sl.mc b n (s.take (s.length - 32)) = s.drop (s.length - 32)
    · rw [if_pos h2]
      rw [decide_eq_true h2] at HE
      exact slOpen_by b s _ n h44 (by omega) (Lib.hid (wrong_ok b s n h44 (by omega) (Lib.hid (holds_by b s _ n true h44 (by omega) (Lib.hid HS) (Lib.hid HE))))) (Lib.hid (cipIs b _ _ n hb))
    · rw [if_neg h2]
      rw [decide_eq_false h2] at HE
      exact slOpen_no b s n 20 (by decide) (Lib.hid (wrong_bad b s n h44 (by omega) (Lib.hid (holds_by b s _ n false h44 (by omega) (Lib.hid HS) (Lib.hid HE)))))
end Go.Proofs.YticofjbngfjjlaaGreatDoor


namespace Go.Proofs.YticofjbngfjjlaaGreatDoor.Wi
open Go.RowKit
open Wr

/-- Are two items the same? -/
noncomputable def eqB (x y : It) : Bool := @decide (x = y) (Classical.propDecidable _)
theorem eqB_true {x y : It} : eqB x y = true ↔ x = y := by
  unfold eqB
  exact @decide_eq_true_iff _ (Classical.propDecidable _)
theorem eqB_false {x y : It} : eqB x y = false ↔ x ≠ y := by
  unfold eqB
  exact @decide_eq_false_iff_not _ (Classical.propDecidable _)

end Go.Proofs.YticofjbngfjjlaaGreatDoor.Wi


namespace Go.Proofs.YticofjbngfjjlaaGreatDoor.Wi
open Go.RowKit
open Wr

theorem str_ne {s s' : List UInt8} (h : s ≠ s') : (!s == s') = true ∧ (s == s') = false := by simp [h]

end Go.Proofs.YticofjbngfjjlaaGreatDoor.Wi


namespace Go.Proofs.YticofjbngfjjlaaGreatDoor.Wi
open Go.RowKit
open Wr

/-- The document's example. -/
def exI : It := .mk false 1 [104, 105] []
def exN : It := .mk true 2 [] [exI]

theorem lb_small {n : Nat} (h : n < 128) : lb n = [UInt8.ofNat n] := by
  unfold lb
  rw [if_pos h, Nat.mod_eq_of_lt h]
  rfl
theorem wr_exI : wr exI = [1, 2, 104, 105] := by
  unfold exI
  rw [wr_mk, wrs_nil, lb_small (by decide)]
  rfl
theorem wr_exN : wr exN = [130, 4, 1, 2, 104, 105] := by
  unfold exN
  rw [wr_mk, wrs_cons, wrs_nil, wr_exI, lb_small (by decide)]
  rfl
theorem sz_exI : sz exI 1 = some 4 := by
  unfold exI
  rw [sz]
  simp [dg_lt' (show 2 < 128 by omega)]
theorem sz_exN : sz exN 0 = some 6 := by
  unfold exN
  rw [sz]
  simp [szs, sz_exI, dg_lt' (show 4 < 128 by omega)]
theorem sz_zero : sz (.mk false 0 [] []) 0 = none := by
  rw [sz, if_pos (by omega)]
theorem rd_exN (rest : List UInt8) : rd 33 ([130, 4, 1, 2, 104, 105] ++ rest) 0 = .ok (exN, 6) := by
  rw [← wr_exN]
  exact rd_wr exN 33 0 6 0 rest rfl sz_exN (by omega)
theorem gt_exN : gt [130, 4, 1, 2, 104, 105] = .ok exN := by
  unfold gt
  have := rd_exN []
  rw [List.append_nil] at this
  rw [this]
  rfl
theorem bk_exN : bk exN = 4 := by
  unfold exN exI
  simp [bk, bks]

theorem app_str (a b : List UInt8) : (ByteArray.mk ⟨a⟩) ++ (ByteArray.mk ⟨b⟩) = ⟨⟨a ++ b⟩⟩ := by
  apply ByteArray.ext
  rw [ByteArray.data_append]
  apply Array.ext'
  simp

/-- The example as a value. -/
theorem rep_exN (w W : World) (hW : W.heap[w.heap.size]? = some (.cells #[.bool false, .int .i64 1, .string ⟨#[104, 105]⟩, .slice none 0 0] 64 (0, 0))) :
    Rep W (fun b => b = w.heap.size) exN (.agg #[.bool true, .int .i64 2, .string ⟨#[]⟩, .slice (some ⟨w.heap.size, 0, none⟩) 1 1]) := by
  refine rep_mk.2 ⟨some ⟨w.heap.size, 0, none⟩, 1, rfl, .inr ⟨w.heap.size, 0, rfl, rfl, ?_⟩⟩
  rw [Reps]
  refine ⟨⟨.bool false, .int .i64 1, .string ⟨#[104, 105]⟩, .slice none 0 0, ?_, ?_, ?_, ?_, ?_⟩, by rw [Reps]; trivial⟩
  · rw [cell_of_row _ _ _ _ _ _ hW]; rfl
  · rw [cell_of_row _ _ _ _ _ _ hW]; rfl
  · rw [cell_of_row _ _ _ _ _ _ hW]; rfl
  · rw [cell_of_row _ _ _ _ _ _ hW]; rfl
  · exact rep_mk.2 ⟨none, 0, rfl, .inl rfl⟩

end Go.Proofs.YticofjbngfjjlaaGreatDoor.Wi


namespace Go.Proofs.YticofjbngfjjlaaGreatDoor.Wi
open Go.RowKit
open Wr

/-- Get, whatever it answers. -/
theorem get_some (s : List UInt8) (w : World) (hs : s.length ≤ 65536) :
    Calls Tryz.prog 73 #[.string ⟨⟨s⟩⟩] w fun e w' => ∃ (n : Bool) (t : Int) (r : List UInt8) (A : Option Addr) (k c : Nat) (er : Int), e = .returned (.tuple #[.agg #[.bool n, .int .i64 t, .string ⟨⟨r⟩⟩, .slice A k c], .int .i64 er]) ∧ Below w.heap.size w w' := by
  cases h : gt s with
  | error x =>
    refine (get_err s w x hs h).mono ?_
    rintro e w' ⟨rfl, hb⟩
    exact ⟨false, 0, [], none, 0, 0, x, rfl, hb⟩
  | ok x =>
    refine (get_ok s w x hs h).mono ?_
    rintro e w' ⟨v0, v1, v2, v3, rfl, hrep, hb⟩
    obtain ⟨n, t, r, l⟩ := x
    obtain ⟨A, c, hv, _⟩ := rep_mk.1 hrep
    injection hv with hv
    simp at hv
    obtain ⟨rfl, rfl, rfl, rfl⟩ := hv
    exact ⟨n, t, r, A, l.length, c, 0, rfl, hb⟩

theorem gt_ok {s : List UInt8} {x : It} (h : gt s = .ok x) : wr x = s ∧ sz x 0 = some s.length := by
  unfold gt at h
  split at h
  · cases h
  · rename_i y n hr
    split at h
    · cases h
    · injection h with h
      subst h
      have hb := rd_bound hr
      obtain ⟨h1, h2⟩ := rd_back 33 0 s 0 y n rfl hr
      have hn : n = s.length := by omega
      subst hn
      rw [List.take_length] at h1
      exact ⟨h1, h2⟩

theorem gt_err {s : List UInt8} {x : Int} (h : gt s = .error x) : 1 ≤ x ∧ x ≤ 14 := by
  unfold gt at h
  split at h
  · rename_i y hr
    injection h with h
    have := rd_err _ _ _ _ hr
    omega
  · split at h
    · injection h with h; omega
    · cases h

mutual
theorem bk_le : ∀ x : It, bk x ≤ (wr x).length
  | .mk n t s l => by
    have := bks_le l
    rw [bk, wr_mk]
    simp
    omega
theorem bks_le : ∀ l : List It, bks l ≤ (wrs l).length
  | [] => by rw [bks]; omega
  | x :: r => by
    have := bk_le x
    have := bks_le r
    rw [bks, wrs_cons]
    simp
    omega
end

theorem cell4 {w : World} {g : Nat} {v0 v1 v2 v3 : Value} {t : TypeId} {fr : Nat × Nat} (h : w.heap[g]? = some (.cells #[v0, v1, v2, v3] t fr)) :
    w.cell? ⟨g, 0, none⟩ = some v0 ∧ w.cell? ⟨g, 1, none⟩ = some v1 ∧ w.cell? ⟨g, 2, none⟩ = some v2 ∧ w.cell? ⟨g, 3, none⟩ = some v3 :=
  ⟨by rw [cell_of_row _ _ _ _ _ _ h]; rfl, by rw [cell_of_row _ _ _ _ _ _ h]; rfl, by rw [cell_of_row _ _ _ _ _ _ h]; rfl, by rw [cell_of_row _ _ _ _ _ _ h]; rfl⟩

/-- The whole of a step's world: below B nothing has turned, and a value is still the item that it was. -/
theorem rep_below {w w' : World} {S : Nat → Prop} {x : It} {v : Value} (h : Rep w S x v) (hb : Below w.heap.size w w') (hS : ∀ b, S b → b < w.heap.size) : Rep w' S x v :=
  rep_keep (fun _ h => h) (fun c o hc => hb.cell (p := ⟨c, o, none⟩) (hS c hc)) _ _ h

end Go.Proofs.YticofjbngfjjlaaGreatDoor.Wi

/- carry: packSeal. (Laid with NS=1.) -/

namespace Go.Proofs.YticofjbngfjjlaaGreatDoor.Cy
open Go.RowKit
open Te Te.Tt
open Wi.Wr (It wr wrs)

theorem vld_s {d : Nat} {k : Int} {s : List UInt8} {n : Int} {l : List Tm} (h : vld d (.mk k s n l) = true) : s.length ≤ 40 := by
  obtain ⟨hmis, -⟩ := vld_own h
  rcases mis_kinds hmis with ⟨rfl, h1, rfl, rfl⟩ | ⟨rfl, rfl, rfl⟩ | ⟨rfl, h1, rfl⟩ | ⟨rfl, rfl, rfl⟩ | ⟨rfl, rfl, y0, y1, rfl⟩ | ⟨rfl, rfl, y0, y1, rfl⟩
  · exact name_len h1
  · simp
  · exact mis_key hmis
  · simp
  · simp
  · simp

/-- What pack answers. -/
def PackPost (c : List UInt8) (x : Tm) (w : World) (e : Ending) (w' : World) : Prop :=
  ∃ (nd : Bool) (tg : Int) (sv : List UInt8) (A : Option Addr) (m ca : Nat), e = .returned (.tuple #[.agg #[.bool nd, .int .i64 tg, .string ⟨⟨sv⟩⟩, .slice A m ca, .string ⟨⟨wr (pk c x)⟩⟩], .int .i64 0]) ∧ Wi.Rep w' (Wi.New w.heap.size w') (pk c x) (.agg #[.bool nd, .int .i64 tg, .string ⟨⟨sv⟩⟩, .slice A m ca]) ∧ Below w.heap.size w w'
def PackSaid (c : List UInt8) (x : Tm) : Prop := ∀ (d : Nat) (S : Nat → Prop) (v : Value) (w : World), vld d x = true → sz x ≤ 100 → Tabs w → TabB w.heap.size w → Rep w S x v → (∀ b, S b → b < w.heap.size) →
  Calls Tryz.prog 31 #[v, .string ⟨⟨c⟩⟩] w (PackPost c x w)

/-- An item that a valid term is packed as can be written. -/
theorem pk_puts (c : List UInt8) (x : Tm) (d : Nat) (hv : vld d x = true) (hz : sz x ≤ 100) : ∃ m, Wi.Wr.sz (pk c x) 0 = some m ∧ m ≤ 4900 ∧ (wr (pk c x)).length = m ∧ Wi.bk (pk c x) ≤ 2000000 := by
  obtain ⟨m, hm, hm2⟩ := pk_sz c x d 0 hv (by rw [vld_dp] at hv; simp only [Bool.and_eq_true, decide_eq_true_eq] at hv; omega) (by omega)
  have h1 := Wi.Wr.sz_len _ _ _ hm
  have h2 := Wi.bk_le (pk c x)
  exact ⟨m, hm, by omega, h1, by omega⟩

set_option maxHeartbeats 1000000 in
set_option maxRecDepth 100000 in
theorem packSeal_any (c : List UInt8) (hc : c.length ≤ 10000) (n : Int) (y0 y1 : Tm) (ih : PackSaid c y1) (d : Nat) (S : Nat → Prop) (v : Value) (w : World) (hv : vld d (.mk 4 [] n [y0, y1]) = true) (hsz : sz (.mk 4 [] n [y0, y1]) ≤ 100) (HT : Tabs w) (htab : TabB w.heap.size w)
    (hr : Rep w S (.mk 4 [] n [y0, y1]) v) (hS : ∀ b, S b → b < w.heap.size) :
    Calls Tryz.prog 64 #[v, .string ⟨⟨c⟩⟩] w (PackPost c (.mk 4 [] n [y0, y1]) w) := by
  obtain ⟨A, ca, rfl, hn, hrow⟩ := rep_mk.1 hr
  obtain ⟨hmis, hall⟩ := vld_own hv
  have hn2 := mis_use (.inl rfl) hmis
  rcases hrow with h | ⟨b, o, rfl, hSb, hreps⟩
  · cases h
  obtain ⟨p0, p1, p2, p3, c0, c1, c2, c3, hr0⟩ := reps_at [y0, y1] b o 0 _ hreps rfl
  obtain ⟨q0, q1, q2, q3, c4, c5, c6, c7, hr1⟩ := reps_at [y0, y1] b o 1 _ hreps rfl
  obtain ⟨m1, -, hm1, hm2, -⟩ := pk_puts c y1 (d + 1) (hall y1 (by simp)) (by simp only [sz, szs] at hsz; have := sz_pos y0; omega)
  have hv0 := hall y0 (by simp)
  obtain ⟨O, hO⟩ : ∃ O, O = wr (pk c y1) := ⟨_, rfl⟩
  rw [← hO] at hm2
  obtain ⟨k0, s0, n0, l0⟩ := y0
  have hs0 := vld_s hv0
  obtain ⟨A0, ca0, he, -⟩ := rep_mk.1 hr0
  injection he with he
  simp at he
  obtain ⟨rfl, rfl, rfl, rfl⟩ := he
  simp only [Nat.zero_mul, Nat.one_mul, Nat.add_zero] at c0 c1 c2 c3 c4 c5 c6 c7
  have hbS := hS b hSb
  have hb2 : Below w.heap.size w ((w.alloc (.cells #[.int .i64 4, .string ⟨⟨[]⟩⟩, .int .i64 n, .slice (some ⟨b, o, none⟩) 2 ca] 25)).alloc (.cells #[.bool false, .int .i64 0, .string ⟨⟨[]⟩⟩, .slice none 0 0, .string ⟨⟨[]⟩⟩] 66)) := ((Below.refl _ _).alloc (Nat.le_refl _) _).alloc (by simp) _
  have hs2 : sz y1 ≤ 99 := by simp only [sz, szs] at hsz; omega
  have HIH : Hid (∀ W, Tabs W → TabB W.heap.size W → Rep W S y1 (.agg #[q0, q1, q2, q3]) → (∀ b, S b → b < W.heap.size) → Calls Tryz.prog 31 #[.agg #[q0, q1, q2, q3], .string ⟨⟨c⟩⟩] W fun e w' => ∃ (nd : Bool) (tg : Int) (sv : List UInt8) (A : Option Addr) (m ca : Nat), e = .returned (.tuple #[.agg #[.bool nd, .int .i64 tg, .string ⟨⟨sv⟩⟩, .slice A m ca, .string ⟨⟨O⟩⟩], .int .i64 0]) ∧ Below W.heap.size W w') := fun W h1 h2 h3 h4 => (ih (d + 1) S (.agg #[q0, q1, q2, q3]) W (hall y1 (by simp)) (by omega) h1 h2 h3 h4).mono fun _ _ ⟨nd, tg, sv, A, m, ca, he, _, hb⟩ => ⟨nd, tg, sv, A, m, ca, by rw [he, hO], hb⟩
  have HV : Hid (vld d (.mk 4 [] n [.mk k0 s0 n0 l0, y1]) = true ∧ sz (.mk 4 [] n [.mk k0 s0 n0 l0, y1]) ≤ 100) := ⟨hv, hsz⟩
  obtain ⟨X, hX⟩ : ∃ X, X = (Tm.mk 4 [] n [.mk k0 s0 n0 l0, y1]) := ⟨_, rfl⟩
  have hpk : pk c X = leaf 5 (UInt8.ofNat n.toNat :: Sl.sld (kb c s0 n0) n (nonce c (text X)) O) := by rw [hX, hO, pk]; rfl
  have htx : (text X).length ≤ 9000 := by
    have := txt_sz w S X d _ (by rw [hX]; exact hv) (by rw [hX]; exact hr)
    rw [hX] at this ⊢
    omega
  have hsX : sz X ≤ 262144 := by rw [hX]; omega
  have hrX : Rep w S X (.agg #[.int .i64 4, .string ⟨⟨[]⟩⟩, .int .i64 n, .slice (some ⟨b, o, none⟩) 2 ca]) := by rw [hX]; exact hr
  have HPK := Lib.hid hpk
  obtain ⟨pm, hpm, hpm2, hpm3, hpm4⟩ := pk_puts c X d (by rw [hX]; exact hv) (by rw [hX]; exact hsz)
  rw [← hX]
  have HPW := Lib.hid hO
  clear hpk hX ih hall hmis hreps hv hsz hr hO HPW
  go_enter Tryz.func64, Tryz.ntmps64
  go_wp2_with fail
  refine (HIH.out _ ?_ ?_ ?_ ?_).mono ?_
  · exact Tabs.below HT hb2
  · exact htab.up hb2
  · exact rep_below hr1 hb2 hS
  · exact fun b hb => Nat.lt_of_lt_of_le (hS b hb) hb2.size
  rintro _ w1 ⟨nd, tg, sv, A1, m3, ca1, rfl, b1⟩
  obtain ⟨hc1, hf1⟩ := Wi.bcell b1
  have b2 : Below w.heap.size w w1 := hb2.trans (b1.mono hb2.size)
  have hw1 : w.heap.size + 2 ≤ w1.heap.size := by have := b1.size; simp at this; omega
  go_wp2_with fail
  generalize hW : w1.alloc _ = W at *
  have b3 : Below w.heap.size w W := by rw [← hW]; exact b2.alloc (by omega) _
  have h4 : Below w1.heap.size w1 W := by rw [← hW]; exact (Below.refl _ _).alloc (Nat.le_refl _) _
  have g4 : W.cell? ⟨w1.heap.size, 4, none⟩ = some (.string ⟨⟨O⟩⟩) := by
    rw [← hW, cell_of_row _ _ _ _ _ _ (heap_alloc_new _ _)]; rfl
  have gB : W.heap[w.heap.size]? = some (.cells #[.int .i64 4, .string ⟨⟨[]⟩⟩, .int .i64 n, .slice (some ⟨b, o, none⟩) 2 ca] 25 (0, 0)) := by
    rw [h4.block _ (by omega), b1.block _ (by simp; omega)]
    exact heap_alloc2_old _ _ _
  have gC : W.heap[w.heap.size + 1]? = some (.cells #[.bool false, .int .i64 0, .string ⟨⟨[]⟩⟩, .slice none 0 0, .string ⟨⟨[]⟩⟩] 66 (0, 0)) := by
    rw [h4.block _ (by omega), b1.block _ (by simp)]
    exact heap_alloc2_new _ _ _
  clear hW b1 h4 hc1 hf1 hb2
  have j0 := cell_regrown ((b3.cell (p := ⟨b, o, none⟩) hbS).trans c0)
  have j1 := cell_regrown ((b3.cell (p := ⟨b, o + 1, none⟩) hbS).trans c1)
  have j2 := cell_regrown ((b3.cell (p := ⟨b, o + 2, none⟩) hbS).trans c2)
  have j3 := cell_regrown ((b3.cell (p := ⟨b, o + 3, none⟩) hbS).trans c3)
  have j4 := cell_regrown g4
  have j5 := cell_regrown (show W.cell? ⟨w.heap.size, 0, none⟩ = some (.int .i64 4) by rw [cell_of_row _ _ _ _ _ _ gB]; rfl)
  have j6 := cell_regrown (show W.cell? ⟨w.heap.size, 1, none⟩ = some (.string ⟨⟨[]⟩⟩) by rw [cell_of_row _ _ _ _ _ _ gB]; rfl)
  have j7 := cell_regrown (show W.cell? ⟨w.heap.size, 2, none⟩ = some (.int .i64 n) by rw [cell_of_row _ _ _ _ _ _ gB]; rfl)
  have j8 := cell_regrown (show W.cell? ⟨w.heap.size, 3, none⟩ = some (.slice (some ⟨b, o, none⟩) 2 ca) by rw [cell_of_row _ _ _ _ _ _ gB]; rfl)
  have HTW := Tabs.below HT b3
  have kB : ∀ d os, Calls Tryz.prog 14 #[.agg #[.int .i64 k0, .string ⟨⟨s0⟩⟩, .int .i64 n0, .slice A0 l0.length ca0], .string ⟨⟨c⟩⟩] (Go.Sort.grow (redrawn W d) os) fun e w'' => e = .returned (.string ⟨⟨kb c s0 n0⟩⟩) ∧ ∃ p : Regrown, w'' = Go.Sort.grow (redrawn W p.d) p.os := fun d os => Calls.regrown_of (Bytes_any k0 s0 n0 A0 l0.length ca0 c _ (Tabs.below HTW (below_regrown W d os)) (by omega) hc)
  have kN : ∀ d os, Calls Tryz.prog 102 #[.agg #[.int .i64 4, .string ⟨⟨[]⟩⟩, .int .i64 n, .slice (some ⟨b, o, none⟩) 2 ca], .string ⟨⟨c⟩⟩] (Go.Sort.grow (redrawn W d) os) fun e w'' => e = .returned (.string ⟨⟨nonce c (text X)⟩⟩) ∧ ∃ p : Regrown, w'' = Go.Sort.grow (redrawn W p.d) p.os := fun d os => by
    have hbb : Below w.heap.size w (Go.Sort.grow (redrawn W d) os) := b3.trans ((below_regrown W d os).mono b3.size)
    exact Calls.regrown_of (nonce_any X S _ c _ (Tabs.below HTW (below_regrown W d os)) (htab.up hbb) hsX (rep_below hrX hbb hS) (fun b hb => Nat.lt_of_lt_of_le (hS b hb) hbb.size) htx hc)
  have hkl := kb_length c s0 n0
  have hnl := nonce_length c (text X)
  generalize kb c s0 n0 = K at *
  generalize nonce c (text X) = NC at *
  have kS : ∀ d os, Calls Tryz.prog 101 #[.string ⟨⟨K⟩⟩, .int .i64 n, .string ⟨⟨NC⟩⟩, .string ⟨⟨O⟩⟩] (Go.Sort.grow (redrawn W d) os) fun e w'' => e = .returned (.tuple #[.string ⟨⟨Sl.sld K n NC O⟩⟩, .int .i64 0]) ∧ ∃ p : Regrown, w'' = Go.Sort.grow (redrawn W p.d) p.os := fun d os => Calls.regrown_of (sealIs K NC O n (by omega) hnl (by omega) _ (Tabs.below HTW (below_regrown W d os)))
  clear HIH
  refine wp_region_quiet_below (by kernel_rfl) (by kernel_rfl) ?_
  repeat (quiet_step (first | with_reducible exact kB _ _ | with_reducible exact kN _ _ | with_reducible exact kS _ _))
  refine wpQuiet_nil ?_
  intro _ hw'
  obtain ⟨⟨dq, osq⟩, hw''⟩ := hw'
  subst hw''
  have b4 : Below w.heap.size w (Go.Sort.grow (redrawn W dq) osq) := b3.trans ((below_regrown W dq osq).mono b3.size)
  have hWs : w.heap.size + 2 ≤ W.heap.size := by
    have := (Array.getElem?_eq_some_iff.1 gC).1
    omega
  have gB2 := ((below_regrown W dq osq).block w.heap.size (by omega)).trans gB
  have gC2 := ((below_regrown W dq osq).block (w.heap.size + 1) (by omega)).trans gC
  have hW2s := (below_regrown W dq osq).size
  clear j0 j1 j2 j3 j4 j5 j6 j7 j8 kB kN kS gB gC HTW g4 b3
  generalize Go.Sort.grow (redrawn W dq) osq = W2 at *
  clear dq osq
  have hz2 : w.heap.size + 2 ≤ W2.heap.size := by omega
  have i2 : W2.cell? ⟨w.heap.size, 2, none⟩ = some (.int .i64 n) := by rw [cell_of_row _ _ _ _ _ _ gB2]; rfl
  have hu8 : IntKind.u8.wrap n = ((UInt8.ofNat n.toNat).toNat : Nat) := by
    rw [← u8_of, Int.toNat_of_nonneg (by omega)]
  generalize UInt8.ofNat n.toNat = q at *
  generalize Sl.sld K n NC O = SL at *
  have hcv := conv_one W2 q
  have hsl : ¬ 9223372036854775807 < 1 + SL.length := by
    rw [HPK.out, leaf, Wi.Wr.wr_mk] at hpm3
    simp at hpm3
    omega
  have hap : ByteArray.mk ⟨[q]⟩ ++ ByteArray.mk ⟨SL⟩ = ⟨⟨q :: SL⟩⟩ := str_app [q] SL
  obtain ⟨P, hP⟩ : ∃ P, P = wr (pk c X) := ⟨_, rfl⟩
  have HWR : Hid (∀ V, Calls Tryz.prog 60 #[.agg #[.bool false, .int .i64 5, .string ⟨⟨q :: SL⟩⟩, .slice none 0 0]] V fun e w' => e = .returned (.tuple #[.agg #[.bool false, .int .i64 5, .string ⟨⟨q :: SL⟩⟩, .slice none 0 0, .string ⟨⟨P⟩⟩], .int .i64 0]) ∧ Below V.heap.size V w') := fun V => by
    have := write_ok (pk c X) (fun _ => False) (.bool false) (.int .i64 5) (.string ⟨⟨q :: SL⟩⟩) (.slice none 0 0) V pm hpm4 (by rw [HPK.out, leaf]; exact Wi.rep_mk.2 ⟨none, 0, rfl, .inl rfl⟩) (fun _ h => h.elim) hpm
    rw [← hP] at this
    exact this
  have HR : Hid (∀ e w', (e = .returned (.tuple #[.agg #[.bool false, .int .i64 5, .string ⟨⟨q :: SL⟩⟩, .slice none 0 0, .string ⟨⟨P⟩⟩], .int .i64 0]) ∧ Below w.heap.size w w') → PackPost c X w e w') := fun e w' ⟨he, hb⟩ => ⟨false, 5, q :: SL, none, 0, 0, by rw [he, hP], by rw [HPK.out, leaf]; exact Wi.rep_mk.2 ⟨none, 0, rfl, .inl rfl⟩, hb⟩
  have HP := Lib.hid hP
  have G0 : ∀ j, W2.frozen? ⟨w.heap.size + 1, j, none⟩ = false := fun j => frozen_of_row _ _ _ _ _ gC2
  have G1 : ∀ j, W2.cell? ⟨w.heap.size + 1, j, none⟩ = (#[.bool false, .int .i64 0, .string ⟨⟨[]⟩⟩, .slice none 0 0, .string ⟨⟨[]⟩⟩] : Array Value)[j]? := fun j => cell_of_row _ _ _ _ _ _ gC2
  clear hP hpm hpm2 hpm3 hpm4 HPK
  go_wp2_with fail
  refine (leaf_any 5 (q :: SL) _).mono ?_
  rintro _ w3 ⟨rfl, b5⟩
  have B5 : Below W2.heap.size W2 w3 := by
    refine Below.trans ?_ (b5.mono ?_)
    · exact (Below.refl _ _).alloc (Nat.le_refl _) _
    · simp
  clear b5 hcv hap
  go_wp2_with fail
  refine (HWR.out _).mono ?_
  rintro _ w4 ⟨rfl, b6⟩
  have B6 : Below W2.heap.size W2 w4 := B5.trans (b6.mono B5.size)
  have e0 := (B6.cell (p := ⟨w.heap.size + 1, 0, none⟩) (by show w.heap.size + 1 < _; omega)).trans (G1 0)
  have e1 := (B6.cell (p := ⟨w.heap.size + 1, 1, none⟩) (by show w.heap.size + 1 < _; omega)).trans (G1 1)
  have e2 := (B6.cell (p := ⟨w.heap.size + 1, 2, none⟩) (by show w.heap.size + 1 < _; omega)).trans (G1 2)
  have e3 := (B6.cell (p := ⟨w.heap.size + 1, 3, none⟩) (by show w.heap.size + 1 < _; omega)).trans (G1 3)
  have e4 := (B6.cell (p := ⟨w.heap.size + 1, 4, none⟩) (by show w.heap.size + 1 < _; omega)).trans (G1 4)
  have f0 := fun j => (B6.frozen (p := ⟨w.heap.size + 1, j, none⟩) (by show w.heap.size + 1 < _; omega)).trans (G0 j)
  simp at e0 e1 e2 e3 e4
  clear b6 B5 HWR
  go_wp2
  refine bodyPost_ret (v := .tuple #[.agg #[.bool false, .int .i64 5, .string ⟨⟨q :: SL⟩⟩, .slice none 0 0, .string ⟨⟨P⟩⟩], .int .i64 0]) (by simp [results, Tryz.results64, go_sem, e0, e1, e2, e3, e4]) rfl ?_
  refine HR.out _ _ ⟨rfl, ?_⟩
  have B7 : Below w.heap.size w w4 := b4.trans (B6.mono b4.size)
  have hg : w.heap.size ≤ w.heap.size + 1 := Nat.le_succ _
  exact ((((B7.setCell (p := ⟨_, 0, none⟩) hg _).setCell (p := ⟨_, 1, none⟩) hg _).setCell (p := ⟨_, 2, none⟩) hg _).setCell (p := ⟨_, 3, none⟩) hg _).setCell (p := ⟨_, 4, none⟩) hg _
end Go.Proofs.YticofjbngfjjlaaGreatDoor.Cy

