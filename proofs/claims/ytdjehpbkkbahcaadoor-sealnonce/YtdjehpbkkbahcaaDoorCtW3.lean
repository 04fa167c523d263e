/- Stream. -/
import Derived.Test.YtdjehpbkkbahcaaDoorMkB
import Derived.Test.YtdjehpbkkbahcaaDoorCtW2
import Derived.Lib.AppendStr
import Derived.Laws.MakeOwn
import Derived.Sort.CutIn
import Derived.RangeFuncNested
namespace Go.Proofs.YtdjehpbkkbahcaaDoor
open Go.RowKit Go.Shelf
attribute [local go_sem] Oper.semAt_some

set_option maxRecDepth 100000 in
theorem Stream_no (k o : List UInt8) (n : Int) (w : World) (h : ¬ (k.length = 16 ∧ o.length = 12 ∧ 0 ≤ n ∧ n ≤ 1048576)) :
    Calls Tryd.prog 57 #[.string ⟨⟨k⟩⟩, .string ⟨⟨o⟩⟩, .int .i64 n] w fun e w' => e = .returned (.string ⟨⟨[]⟩⟩) ∧ w = w' := by
  by_cases hk : k.length = 16
  · obtain ⟨k1, k2, k3, k4⟩ := len_true hk
    simp only [Int.cast_ofNat_Int] at k1 k3
    by_cases ho : o.length = 12
    · obtain ⟨o1, o2, o3, o4⟩ := len_true ho
      simp only [Int.cast_ofNat_Int] at o1 o3
      by_cases hn : n < 0
      · clear h hk ho
        go_enter Tryd.func57, Tryd.ntmps57
        go_wp2
        go_ret
        exact ⟨rfl, rfl⟩
      · have hm : 1048576 < n := by
          rcases Int.lt_or_le 1048576 n with h1 | h1
          · exact h1
          · exact absurd ⟨hk, ho, by omega, h1⟩ h
        clear h hk ho
        go_enter Tryd.func57, Tryd.ntmps57
        go_wp2
        go_ret
        exact ⟨rfl, rfl⟩
    · obtain ⟨o1, o2, o3, o4⟩ := len_false ho
      simp only [Int.cast_ofNat_Int] at o1 o3
      clear h hk ho
      go_enter Tryd.func57, Tryd.ntmps57
      go_wp2
      go_ret
      exact ⟨rfl, rfl⟩
  · obtain ⟨k1, k2, k3, k4⟩ := len_false hk
    simp only [Int.cast_ofNat_Int] at k1 k3
    clear h hk
    go_enter Tryd.func57, Tryd.ntmps57
    go_wp2
    go_ret
    exact ⟨rfl, rfl⟩


/-- append(v, s...) of a text, inside a fence. -/
theorem wpListIn_appT {F : Fence} {n' : Nat} (w : World) {ops : Array Oper} {rest : List Oper} {oo : Oper} {a : Act} {Q : Exit → Act → World → Prop} (hgd : oo.guard = none) (sl x : Operand)
    (ho : oo.op = .call { callee := .builtin .append, args := #[sl, x], argTypes := #[26, 9] })
    (base : Nat) (v : Value) (L s : List UInt8) (hs : a.eval sl = v) (hown : OwnB w base v L) (hx : a.eval x = .string ⟨⟨s⟩⟩)
    (hl : L.length + s.length ≤ 100000000) (hbase : base ≤ w.heap.size)
    (h : ∀ v' w', OwnB w' base v' (L ++ s) → w.grownBy w' v.ownBlock → (v' = .slice none 0 0 ↔ v = .slice none 0 0 ∧ s = []) → wpListIn F n' Tryd.prog ops Q rest (a.put oo.dst v') w') : wpListIn F n' Tryd.prog ops Q (oo :: rest) a w := by
  obtain ⟨i, hi, he⟩ := Option.map_eq_some_iff.1 info5
  simp only [Prod.mk.injEq] at he
  obtain ⟨hz, hsz, hb⟩ := he
  refine wpListIn_plain hgd fun K hK => ?_
  obtain ⟨v', w', hr, h2, h3, h4⟩ := Lib.run_append_own_string (P := Tryd.prog) w base 26 9 oo.type 5 i Tryd.underlying26 Tryd.underlying9 hi hz hsz hb v L.length (bvals L) hown ⟨⟨s⟩⟩ (by simp only [maxLen]; show L.length + s.length ≤ _; omega) (by show L.length + s.length ≤ _; omega) hbase
  unfold Oper.wpIn
  refine ⟨?_, ?_⟩
  · simp [Oper.about, ho, resolve, Target.leads, Sem.run_pure]
  · rw [Oper.semAt_plain F _ _ (by rw [ho]; intro c hc'; cases hc')]
    simp [execOp, ho, resolve, invoke, builtin, hs, hx, hr, Result.andThen]
    refine hK _ _ (h v' w' ?_ h3 ?_)
    · have e : bvals (L ++ s) = bvals L ++ Lib.strCells ⟨⟨s⟩⟩ := by simp [bvals, Lib.strCells]
      rw [OwnB, e, List.length_append]
      exact h2
    · rw [h4]
      show (_ ∧ s.length = 0) ↔ _
      rw [List.length_eq_zero_iff]

/-- 'out = append(out, s...)': what the walk owes behind the append and the store. -/
theorem boxed_text {W w1 : World} {n₀ B : Nat} {t e : TypeId} {v v' : Value} {k m : Nat} {xs ys : List Value}
    (hv : Boxed W B t v) (hte : t ≠ e) (hrow : W.ownsRow n₀ e 1 v k xs) (hn₀ : n₀ ≤ W.heap.size) (hB : n₀ ≤ B)
    (hown' : w1.ownsRow n₀ e 1 v' m ys) (hgrow : W.grownBy w1 v.ownBlock) :
    Boxed w1 B t v ∧ Boxed (w1.setCell ⟨B, 0, none⟩ v') B t v' ∧ (w1.setCell ⟨B, 0, none⟩ v').ownsRow n₀ e 1 v' m ys ∧ KeepsOthers W (w1.setCell ⟨B, 0, none⟩ v') ∧ Below n₀ W (w1.setCell ⟨B, 0, none⟩ v') := by
  have hv1 : Boxed w1 B t v := hv.kept hgrow (hv.not_row hte hrow)
  refine ⟨hv1, hv1.set v', hown'.kept (grownBy_setCell' w1 B v') (.inr (hv1.not_row hte hown').symm), ?_, ?_⟩
  · refine (KeepsOthers.of_grownBy hgrow fun j o ej hj => ?_).trans (KeepsOthers.setCell _ _ _)
    rcases hrow.2 with ⟨rfl, _⟩ | ⟨g, cap, cur, rfl, _, hgb, _⟩
    · simp [Value.ownBlock] at ej
    · obtain rfl : g = j := by simpa [Value.ownBlock] using ej
      rw [hgb] at hj; cases hj; rfl
  · refine ((Below.refl n₀ W).grown hgrow hn₀ fun j ej => ?_).setCell (p := ⟨B, 0, none⟩) hB v'
    rcases hrow.2 with ⟨rfl, _⟩ | ⟨g, cap, cur, rfl, hb, _, _⟩
    · simp [Value.ownBlock] at ej
    · obtain rfl : g = j := by simpa [Value.ownBlock] using ej
      exact hb
/-- Another box behind both. -/
theorem boxed_aside {W w1 : World} {n₀ B B' : Nat} {t e : TypeId} {v v' u : Value} {k : Nat} {xs : List Value}
    (hu : Boxed W B' t u) (hte : t ≠ e) (hrow : W.ownsRow n₀ e 1 v k xs) (hgrow : W.grownBy w1 v.ownBlock) (hne : B' ≠ B) : Boxed (w1.setCell ⟨B, 0, none⟩ v') B' t u :=
  (hu.kept hgrow (hu.not_row hte hrow)).kept (grownBy_setCell' w1 B v') (by simpa using hne)

set_option maxRecDepth 100000 in
set_option maxHeartbeats 2000000 in
theorem Stream_yes (k o : List UInt8) (n : Nat) (w : World) (hk : k.length = 16) (ho : o.length = 12) (hn : n ≤ 1048576) :
    Calls Tryd.prog 57 #[.string ⟨⟨k⟩⟩, .string ⟨⟨o⟩⟩, .int .i64 (n : Nat)] w fun e w' => e = .returned (.string ⟨⟨Ct.str k o n⟩⟩) ∧ Below w.heap.size w w' := by
  obtain ⟨k1, k2, k3, k4⟩ := len_true hk
  obtain ⟨o1, o2, o3, o4⟩ := len_true ho
  simp only [Int.cast_ofNat_Int] at k1 k3 o1 o3
  have hn0 : ¬ (n : Int) < 0 := by omega
  have hn1 : ¬ (1048576 : Int) < (n : Int) := by omega
  obtain ⟨c, hc⟩ : ∃ c : Nat, c = (n + 15) / 16 := ⟨_, rfl⟩
  have hcl : c ≤ 65536 := by omega
  have e0 : Hid (((n : Int) + 16 - 1) / 16 = (c : Int)) := by rw [Hid]; omega
  obtain ⟨m, hm⟩ : ∃ m : Nat, m = c * 16 := ⟨_, rfl⟩
  have e2 : (c : Int) * 16 = (m : Int) := by omega
  have hmk := make_cap m (by omega) w
  have HC : Hid (c = (n + 15) / 16) := hc
  have HM : Hid (m = c * 16) := hm
  clear hc hm
  refine (callsIn_wide (n := 4)).1 ?_
  refine callsIn_of_wp_marks Tryd.func57 rfl trivial ?_ rfl
  simp only [Tryd.ntmps57, List.size_toArray, List.length_cons, List.length_nil, Nat.reduceAdd, Nat.reduceSub, Array.replicate_succ, Array.replicate_zero, List.push_toArray, List.append_toArray, List.nil_append, List.cons_append]
  gi_upto_region 4 with (fail)
  rw [e0.out]
  have hci : (c : Int) ≤ 65536 := by omega
  gi_wp2_with (refine ⟨trivial, ?_⟩; gi_at_call 65; refine (callsIn_wide.2 (blocks_any k o c _)).mono ?_; rintro _ _ ⟨rfl, rfl⟩)
  obtain ⟨z, hz⟩ : ∃ z, z = w.heap.size := ⟨_, rfl⟩
  rw [← hz]
  have bV : Boxed ((w.alloc (.cells (bcells (List.replicate m 0)) 5)).alloc (.cells #[.slice (some ⟨z, 0, none⟩) 0 m] 26)) (z + 1) 26 (.slice (some ⟨z, 0, none⟩) 0 m) := by
    have := Boxed.new (w.alloc (.cells (bcells (List.replicate m 0)) 5)) 26 (.slice (some ⟨z, 0, none⟩) 0 m)
    rwa [World.size_alloc, ← hz] at this
  have hrow0 : ((w.alloc (.cells (bcells (List.replicate m 0)) 5)).alloc (.cells #[.slice (some ⟨z, 0, none⟩) 0 m] 26)).ownsRow z 5 1 (.slice (some ⟨z, 0, none⟩) 0 m) 0 [] := by
    refine World.ownsRow.alloc ⟨rfl, .inr ⟨z, m, bcells (List.replicate m 0), rfl, Nat.le_refl _, ?_, Nat.zero_le _, ?_, ?_, rfl⟩⟩ _
    · rw [hz]; exact heap_alloc_new _ _
    · simp only [maxLen]; omega
    · simp [bcells]
  have hB0 : Below z w ((w.alloc (.cells (bcells (List.replicate m 0)) 5)).alloc (.cells #[.slice (some ⟨z, 0, none⟩) 0 m] 26)) := by
    rw [hz]
    exact ((Below.refl _ w).alloc (Nat.le_refl _) _).alloc (by simp) _
  have hsz : ((w.alloc (.cells (bcells (List.replicate m 0)) 5)).alloc (.cells #[.slice (some ⟨z, 0, none⟩) 0 m] 26)).heap.size = z + 2 := by simp [hz]
  generalize (w.alloc (.cells (bcells (List.replicate m 0)) 5)).alloc (.cells #[.slice (some ⟨z, 0, none⟩) 0 m] 26) = W1 at *
  have bK : Boxed ((((W1.alloc (.cells #[.string ⟨⟨k⟩⟩] 9)).alloc (.cells #[.string ⟨⟨o⟩⟩] 9)).alloc (.cells #[.int .i64 (c : Nat)] 3))) (z + 2) 9 (.string ⟨⟨k⟩⟩) := by
    have := Boxed.new W1 9 (.string ⟨⟨k⟩⟩)
    rw [hsz] at this
    exact (this.alloc _).alloc _
  have bO : Boxed ((((W1.alloc (.cells #[.string ⟨⟨k⟩⟩] 9)).alloc (.cells #[.string ⟨⟨o⟩⟩] 9)).alloc (.cells #[.int .i64 (c : Nat)] 3))) (z + 3) 9 (.string ⟨⟨o⟩⟩) := by
    have := Boxed.new (W1.alloc (.cells #[.string ⟨⟨k⟩⟩] 9)) 9 (.string ⟨⟨o⟩⟩)
    rw [World.size_alloc, hsz] at this
    exact this.alloc _
  have bC : Boxed ((((W1.alloc (.cells #[.string ⟨⟨k⟩⟩] 9)).alloc (.cells #[.string ⟨⟨o⟩⟩] 9)).alloc (.cells #[.int .i64 (c : Nat)] 3))) (z + 4) 3 (.int .i64 (c : Nat)) := by
    have := Boxed.new ((W1.alloc (.cells #[.string ⟨⟨k⟩⟩] 9)).alloc (.cells #[.string ⟨⟨o⟩⟩] 9)) 3 (.int .i64 (c : Nat))
    rw [World.size_alloc, World.size_alloc, hsz] at this
    exact this
  have bV2 := ((bV.alloc (.cells #[.string ⟨⟨k⟩⟩] 9)).alloc (.cells #[.string ⟨⟨o⟩⟩] 9)).alloc (.cells #[.int .i64 (c : Nat)] 3)
  have hrow2 := ((World.ownsRow.alloc hrow0 (.cells #[.string ⟨⟨k⟩⟩] 9)).alloc (.cells #[.string ⟨⟨o⟩⟩] 9)).alloc (.cells #[.int .i64 (c : Nat)] 3)
  have hB2 := ((hB0.alloc (by omega) (.cells #[.string ⟨⟨k⟩⟩] 9)).alloc (by simp; omega) (.cells #[.string ⟨⟨o⟩⟩] 9)).alloc (by simp; omega) (.cells #[.int .i64 (c : Nat)] 3)
  have hsz2 : (((W1.alloc (.cells #[.string ⟨⟨k⟩⟩] 9)).alloc (.cells #[.string ⟨⟨o⟩⟩] 9)).alloc (.cells #[.int .i64 (c : Nat)] 3)).heap.size = z + 5 := by simp [hsz]
  generalize ((W1.alloc (.cells #[.string ⟨⟨k⟩⟩] 9)).alloc (.cells #[.string ⟨⟨o⟩⟩] 9)).alloc (.cells #[.int .i64 (c : Nat)] 3) = W2 at *
  have HZ : Hid (z = w.heap.size) := hz
  have hzl : z ≤ w.heap.size := by omega
  clear hB0 hrow0 bV hmk hsz hz
  refine wpIn_rangeFunc_ownG rfl (by omega) (gf := 74) (lb := #[.pointer (some ⟨z + 4, 0, none⟩), .pointer (some ⟨z + 2, 0, none⟩), .pointer (some ⟨z + 3, 0, none⟩)]) rfl trivial (enters_of Tryd.func74 (by kernel_rfl) rfl)
    (blocks_stops 3 (by omega) (z + 4) (z + 2) (z + 3) c k o hk ho hcl W2 bC bK bO) Kept2.trans (Kept2.putObj (by omega) (by omega)) (Below.refl _ _) (fun _ => rfl)
    (fun pre W => (∃ v, Boxed W (z + 1) 26 v ∧ W.ownsRow z 5 1 v (flat pre).length (bvals (flat pre)) ∧ v ≠ .slice none 0 0) ∧ (Boxed W (z + 2) 9 (.string ⟨⟨k⟩⟩) ∧ Boxed W (z + 3) 9 (.string ⟨⟨o⟩⟩)) ∧ Below z w W)
    (fun _ _ _ => False)
    (OwnFrom.and (Own.from (holdsRow_own z (z + 1) 26 5 1 (fun pre => (flat pre).length) (fun pre => bvals (flat pre)) (fun _ v => v ≠ .slice none 0 0)) _) (OwnFrom.and (OwnFrom.and (Own.from (boxed_own (z + 2) 9 (fun _ => .string ⟨⟨k⟩⟩)) _) (Own.from (boxed_own (z + 3) 9 (fun _ => .string ⟨⟨o⟩⟩)) _)) (ownFrom_below (by omega) (by omega))))
    (fun _ _ _ _ _ hs _ _ => hs)
    ⟨⟨_, bV2, hrow2, by simp⟩, ⟨bK, bO⟩, hB2⟩
    (fun x => { tmps := #[.string ⟨⟨k⟩⟩, .string ⟨⟨o⟩⟩, .int .i64 (n : Nat), undef, undef, undef, .string ⟨#[]⟩, .int .i64 (c : Nat), .pointer (some ⟨z + 1, 0, none⟩), .string ⟨⟨x.1⟩⟩, .string ⟨⟨k⟩⟩, .int .i64 16, .bool false, .bool false, .string ⟨⟨o⟩⟩, .int .i64 12, .bool false, .bool false, .bool false, .int .i64 (n : Nat), .bool false, .bool false, .bool false, .int .i64 (n : Nat), .bool false, .bool false, .int .i64 (n : Nat), .int .i64 ((n : Int) + 16), .int .i64 ((n : Int) + 16 - 1), .int .i64 (c : Nat), .int .i64 (c : Nat), .int .i64 (m : Nat), .slice (some ⟨z, 0, none⟩) 0 m, .string ⟨⟨k⟩⟩, .string ⟨⟨o⟩⟩, .int .i64 (c : Nat), .func (.func 74) #[] #[.pointer (some ⟨z + 4, 0, none⟩), .pointer (some ⟨z + 2, 0, none⟩), .pointer (some ⟨z + 3, 0, none⟩)], .string ⟨⟨x.1⟩⟩, undef, undef, undef, undef, undef, undef, undef], defers := [] }) ?assign ?body ?done ?stop
  case assign =>
    intro l x W K hK
    gi_wp2
    exact hK
  case body =>
    rintro l pre x W ⟨⟨v, hv, hrow, hnil⟩, ⟨bK1, bO1⟩, hB⟩ hlt
    have hcv := hv.cell
    have hq : (flat pre ++ x.1).length = 16 * pre.length + 16 := by rw [List.length_append, flat_length, x.2]
    have hqs : (flat pre).length + x.1.length ≤ 100000000 := by rw [flat_length, x.2]; omega
    gi_wp2_with (gi_at_builtin; refine wpListIn_appT _ rfl _ _ rfl z v (flat pre) x.1 rfl hrow rfl hqs (by have := hB.size; omega) ?_; intro v' w1 hown' hgrow hnl; obtain ⟨g', cap', cur', hv', _⟩ := own_form hown' (fun h => hnil (hnl.1 h).1); rw [hq] at hv'; subst hv'; clear hnl; obtain ⟨hv1, hv2, hr2, hk2, hb2⟩ := boxed_text hv (by decide) hrow (by have := hB.size; omega) (by omega) hown' hgrow; have hc1 := hv1.cell; have hf1 := hv1.frozen)
    have bK2 := boxed_aside (v' := .slice (some ⟨g', 0, none⟩) (16 * pre.length + 16) cap') bK1 (by decide) hrow hgrow (show z + 2 ≠ z + 1 by omega)
    have bO2 := boxed_aside (v' := .slice (some ⟨g', 0, none⟩) (16 * pre.length + 16) cap') bO1 (by decide) hrow hgrow (show z + 3 ≠ z + 1 by omega)
    exact ⟨hk2.from _, ⟨bK2.trans bK1.symm, bO2.trans bO1.symm⟩, ⟨_, hv2, by rw [flat_snoc]; exact hr2, by simp⟩, ⟨bK2, bO2⟩, hB.trans hb2⟩
  case done =>
    rintro D ys W hD rfl ⟨⟨v, hv, hrow, hnil⟩, _, hB⟩ hK
    have hrow' : OwnB W z v (Ct.blks k o c) := by
      rw [flat_told] at hrow
      exact hrow
    obtain ⟨g, cap, cur, rfl, hg, h1, h2, hcs⟩ := own_form hrow' hnil
    have hbl := Ct.blks_length k o c
    have hcn := HC.out
    have hnc : n ≤ cap := by omega
    have hst := Ct.str_length k o n
    have hcv := conv_any W g cap (Ct.str k o n) 5 (0, 0) cur hg (fun j hj => by
      rw [hcs j (by omega), Ct.str, ← hcn]
      simp only [List.getD_eq_getElem?_getD, List.getElem?_take, if_pos (show j < n by omega)])
    rw [hst] at hcv
    have hcc := hv.cell
    have hnci : (n : Int) ≤ (cap : Int) := by omega
    have hcm : cap ≤ 9223372036854775807 := by simp only [maxLen] at h2; omega
    clear hcs hrow hrow' hnil h1 h2 hcn hbl
    obtain ⟨L, hL⟩ : ∃ L, L = Ct.str k o n := ⟨_, rfl⟩
    rw [← hL] at hcv
    have HL : Hid (L = Ct.str k o n) := hL
    clear hL hst
    gi_wp2
    refine ⟨by simp, .inl ⟨_, _, rfl, run_takeDeferred hK, ?_⟩⟩
    refine ⟨_, results_tmp rfl _ _ _, by rw [← HL.out]; rfl, ?_⟩
    rw [← HZ.out]
    exact hB.trans (belowK_b (w := w) hzl W D _ _ (by have := hB2.size; omega) hK rfl rfl)
  case stop =>
    rintro D c pre W _ _ h _
    exact h.elim

set_option maxRecDepth 100000 in
theorem Stream_any (k o : List UInt8) (n : Int) (w : World) :
    Calls Tryd.prog 57 #[.string ⟨⟨k⟩⟩, .string ⟨⟨o⟩⟩, .int .i64 n] w fun e w' => e = .returned (.string ⟨⟨Ct.strA k o n⟩⟩) ∧ Below w.heap.size w w' := by
  by_cases h : k.length = 16 ∧ o.length = 12 ∧ 0 ≤ n ∧ n ≤ 1048576
  · obtain ⟨m, rfl⟩ := Int.eq_ofNat_of_zero_le h.2.2.1
    rw [Ct.strA_yes h.1 h.2.1 (by omega)]
    exact Stream_yes k o m w h.1 h.2.1 (by omega)
  · rw [Ct.strA_no h]
    exact (Stream_no k o n w h).mono fun _ _ ⟨he, hw⟩ => ⟨he, hw ▸ Below.refl _ _⟩
end Go.Proofs.YtdjehpbkkbahcaaDoor
