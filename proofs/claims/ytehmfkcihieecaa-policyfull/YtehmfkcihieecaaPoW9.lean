/- change. (Laid with NS=1; written by wip/tools/gen/pow9.py.) -/
import Derived.Test.YtehmfkcihieecaaPoW8
import Derived.Test.YtehmfkcihieecaaTmInv
namespace Go.Proofs.Ytehmfkcihieecaa.Po
open Go.RowKit Go.Sort
open Te Te.Tt
open Go (Lit DataW MemPlace keyOf maxLen)

section
variable {P : Program} {ops : Array Oper} {o : Oper} {a : Act} {Q : Exit → Act → World → Prop} {K : Act → World → Prop} {E : Prop}
theorem op_update_run (w : World) (hg : o.guard = none) (m x v : Operand) (t : TypeId) (ho : o.op = Op.mapUpdate t m x v) (vm vx vv : Value) (hm : a.eval m = vm) (hx : a.eval x = vx) (hv : a.eval v = vv) {w' : World}
    (hr : (Instr.mapUpdate t vm vx vv).run P w = .ok () w') (h : K (a.put o.dst undef) w') : if Region.wanted o (yielded ops a.tmps) = true then o.wp P a w K Q else E := by
  have hw : Region.wanted o (yielded ops a.tmps) = true := by simp [Region.wanted, hg]
  rw [if_pos hw]
  unfold Oper.wp
  simp [execOp, ho, hm, hx, hv, hr, Result.andThen]
  exact h
end
set_option maxHeartbeats 4000000 in
set_option maxRecDepth 100000 in
theorem change_any (V w : World) (F : Nat → Prop) (g bm : Nat) (f : Nm → Sl) (σ : Sto) (n : Nat) (h : SP w F g bm f σ n) (hV : Below V.heap.size V w) (hFV : ∀ k, F k → k < V.heap.size) (a : Nm) (ha : a.length ≤ maxLen)
    (fn : FuncId) (cb : Array Value) (ph : Pr → Pr × Int) (eg : ∀ args w, (callFunc fn args).run Try.prog w = .ok (.enter fn args) w) (hby : ByIs V F fn cb ph) (hph : ∀ p, Okp a p → Okp a (ph p).1) (hn : n < maxLen) :
    Calls Try.prog 34 #[.pointer (some ⟨g, 0, none⟩), .string ⟨⟨a⟩⟩, .func (.func fn) #[] cb] w fun e w' => e = .returned (.int .i64 (chg σ a ph).2) ∧ Stp w F g bm (chg σ a ph).1 n w' := by
  have HF := Lib.hid (find_any w F g bm f σ n h a ha)
  cases hx : σ a with
  | none =>
    have e1 : chg σ a ph = (σ, 40) := by simp [chg, hx]
    rw [e1]
    rw [hx] at HF
    obtain ⟨A, ka, C, kc, G, kg, hs⟩ := (h.own a).forms
    rw [hs] at HF
    have HS : Hid (∀ w', Below w.heap.size w w' → Stp w F g bm σ n w') := fun w' hb => h.still hb
    clear e1 hs h hby hph hV hFV hx
    generalize gt σ a = p at *
    obtain ⟨nm, ver, tr, se, al, ac, gr, li⟩ := p
    simp only [pval, errW, Option.isSome_none] at *
    generalize al.length = la at *
    generalize ac.length = lc at *
    generalize gr.length = lg at *
    go_enter Try.func34, Try.ntmps34
    go_wp2_with fail
    refine HF.out.mono ?_
    rintro _ w2 ⟨rfl, b2⟩
    have HB2 := Lib.hid b2
    clear b2 HF
    go_wp2
    go_ret
    exact ⟨rfl, HS.out _ (HB2.out.alloc HB2.out.size _)⟩
  | some p =>
    have hok := h.ok a p hx
    rw [hx, gt_some hx] at HF
    have hown := h.own a
    rw [gt_some hx] at hown
    obtain ⟨A, ka, C, kc, G, kg, hs⟩ := hown.forms
    have hok2 : Okp p.nm p := by rw [hok.nm]; exact hok
    have HBY : Hid (∀ W z s, RowKit.Below V.heap.size V W → V.heap.size ≤ z → W.heap[z]? = some (.cells #[.string ⟨⟨p.nm⟩⟩, .int .i64 p.ver, .bool p.tr, .bool p.se, s.a, s.c, s.g, .int .i64 p.li] 32 (0, 0)) → POwn W p s → (∀ k, Bl s k → F k) → Calls Try.prog fn (#[.pointer (some ⟨z, 0, none⟩)] ++ cb) W (ByPost W z s (ph p))) := fun W z s h1 h2 h3 h4 h5 => hby W z p s h1 h2 h3 h4 h5 hFV hok2
    have hch : chg σ a ph = if (ph p).2 = 0 then (up σ a (ph p).1, 0) else (σ, (ph p).2) := by unfold chg; rw [hx]
    rw [hch]
    have hph' := hph p hok
    generalize ph p = r at *
    have HSP := Lib.hid h
    have HX := Lib.hid hx
    have HOWN := Lib.hid hown
    have HSL := Lib.hid hs
    have HPH := Lib.hid hph'
    have HV := Lib.hid hV
    have HKY := Lib.hid (hkey a ha)
    rw [hs] at HF
    clear h hx hown hs hby hph hph' hV hFV hok hok2 hch ha
    obtain ⟨nm, ver, tr, se, al, ac, gr, li⟩ := p
    obtain ⟨q, er⟩ := r
    simp only [pval, errW, Option.isSome_some] at *
    by_cases h0 : er = 0
    case neg =>
      rw [if_neg h0]
      go_enter Try.func34, Try.ntmps34
      go_wp2_with fail
      refine HF.out.mono ?_
      rintro _ w2 ⟨rfl, b2⟩
      have HB2 := Lib.hid b2
      clear b2 HF
      go_wp2_with fail
      obtain ⟨W3, hW3⟩ : ∃ W3, W3 = w2.alloc (.cells #[.string ⟨⟨nm⟩⟩, .int .i64 ver, .bool tr, .bool se, .slice A al.length ka, .slice C ac.length kc, .slice G gr.length kg, .int .i64 li] 32) := ⟨_, rfl⟩
      obtain ⟨z, hz⟩ : ∃ z, z = w2.heap.size := ⟨_, rfl⟩
      have hb3 : RowKit.Below w.heap.size w W3 := by rw [hW3]; exact HB2.out.alloc HB2.out.size _
      have hg3 : W3.heap[z]? = some (.cells #[.string ⟨⟨nm⟩⟩, .int .i64 ver, .bool tr, .bool se, .slice A al.length ka, .slice C ac.length kc, .slice G gr.length kg, .int .i64 li] 32 (0, 0)) := by rw [hW3, hz]; exact heap_alloc_new _ _
      have hzw : w.heap.size ≤ z := by rw [hz]; exact HB2.out.size
      have ho3 := HOWN.out.below hb3
      rw [HSL.out] at ho3
      have hsf : ∀ k, Bl ⟨.slice A al.length ka, .slice C ac.length kc, .slice G gr.length kg⟩ k → F k := fun k hk => (HSP.out.fF a k (by rw [HSL.out]; exact hk)).1
      have hcall := HBY.out W3 z ⟨.slice A al.length ka, .slice C ac.length kc, .slice G gr.length kg⟩ (HV.out.trans (hb3.mono HV.out.size)) (Nat.le_trans HV.out.size hzw) hg3 ho3 hsf
      have HCALL := Lib.hid hcall
      have HB3 := Lib.hid hb3
      have HZW := Lib.hid hzw
      rw [← hz, ← hW3]
      clear hcall hb3 hg3 hzw ho3 hsf hW3 hz HB2 HBY
      refine HCALL.out.mono ?_
      rintro _ w4 ⟨rfl, s', hz4, ho4, ht4, hb4, her⟩
      obtain ⟨A', a', C', c', G', g', rfl⟩ := ho4.forms
      simp only at *
      clear HCALL
      have hbl : RowKit.Below w.heap.size w w4 := ⟨ht4.os.trans HB3.out.os, ht4.tape.trans HB3.out.tape, ht4.output.trans HB3.out.output, Nat.le_trans HB3.out.size ht4.size, fun k hk => (her h0 k (Nat.lt_of_lt_of_le hk HB3.out.size) (by have := HZW.out; omega)).trans (HB3.out.block k hk)⟩
      have HP := Lib.hid (HSP.out.still hbl)
      have hne : (er == 0) = false := by simpa using h0
      clear hbl her hb4 ht4 ho4 hz4 HPH HB3 HZW HSL HSP HOWN HX HV
      go_wp2
      go_ret
      exact ⟨rfl, HP.out⟩
    case pos =>
      subst h0
      rw [if_pos rfl]
      go_enter Try.func34, Try.ntmps34
      go_wp2_with fail
      refine HF.out.mono ?_
      rintro _ w2 ⟨rfl, b2⟩
      have HB2 := Lib.hid b2
      clear b2 HF
      go_wp2_with fail
      obtain ⟨W3, hW3⟩ : ∃ W3, W3 = w2.alloc (.cells #[.string ⟨⟨nm⟩⟩, .int .i64 ver, .bool tr, .bool se, .slice A al.length ka, .slice C ac.length kc, .slice G gr.length kg, .int .i64 li] 32) := ⟨_, rfl⟩
      obtain ⟨z, hz⟩ : ∃ z, z = w2.heap.size := ⟨_, rfl⟩
      have hb3 : RowKit.Below w.heap.size w W3 := by rw [hW3]; exact HB2.out.alloc HB2.out.size _
      have hg3 : W3.heap[z]? = some (.cells #[.string ⟨⟨nm⟩⟩, .int .i64 ver, .bool tr, .bool se, .slice A al.length ka, .slice C ac.length kc, .slice G gr.length kg, .int .i64 li] 32 (0, 0)) := by rw [hW3, hz]; exact heap_alloc_new _ _
      have hzw : w.heap.size ≤ z := by rw [hz]; exact HB2.out.size
      have ho3 := HOWN.out.below hb3
      rw [HSL.out] at ho3
      have hsf : ∀ k, Bl ⟨.slice A al.length ka, .slice C ac.length kc, .slice G gr.length kg⟩ k → F k := fun k hk => (HSP.out.fF a k (by rw [HSL.out]; exact hk)).1
      have hcall := HBY.out W3 z ⟨.slice A al.length ka, .slice C ac.length kc, .slice G gr.length kg⟩ (HV.out.trans (hb3.mono HV.out.size)) (Nat.le_trans HV.out.size hzw) hg3 ho3 hsf
      have HCALL := Lib.hid hcall
      have HB3 := Lib.hid hb3
      have HZW := Lib.hid hzw
      rw [← hz, ← hW3]
      clear hcall hb3 hg3 hzw ho3 hsf hW3 hz HB2 HBY
      refine HCALL.out.mono ?_
      rintro _ w4 ⟨rfl, s', hz4, ho4, ht4, hb4, her⟩
      obtain ⟨A', a', C', c', G', g', rfl⟩ := ho4.forms
      simp only at *
      clear HCALL
      obtain ⟨D, hown, hD2, hD3, hD4⟩ := HSP.out.mp
      have ht5 : Turn (fun k => Bl (f a) k ∨ ¬ F k) w w4 := by
        refine ⟨ht4.os.trans HB3.out.os, ht4.tape.trans HB3.out.tape, ht4.output.trans HB3.out.output, Nat.le_trans HB3.out.size ht4.size, fun k hk hn => ?_⟩
        refine (ht4.block k (Nat.lt_of_lt_of_le hk HB3.out.size) (fun e => ?_)).trans (HB3.out.block k hk)
        rcases e with e | e
        · have := HZW.out; omega
        · exact hn (.inl (by rw [HSL.out]; exact e))
      have hbm4 : w4.heap[bm]? = w.heap[bm]? := ht5.block bm (HSP.out.lt bm HSP.out.gF.2) (fun e => e.elim (fun e => (HSP.out.fF a bm e).2.2 rfl) (fun e => e HSP.out.gF.2))
      have hg4 : w4.heap[g]? = w.heap[g]? := ht5.block g (HSP.out.lt g HSP.out.gF.1) (fun e => e.elim (fun e => (HSP.out.fF a g e).2.1 rfl) (fun e => e HSP.out.gF.1))
      have hown4 := own_keep hown hbm4
      have hc4 : w4.cell? ⟨g, 0, none⟩ = some (.map (some bm)) := (World.cell?_of_block (a := ⟨g, 0, none⟩) hg4).trans HSP.out.cell
      have HST : Hid (∀ d w', (Go.redrawn w4 d).mapTurned w' bm → w'.ownsMap Try.prog 9 tok bm (n + 1) (D.put (.string a) (.held (.agg #[.string ⟨⟨q.nm⟩⟩, .int .i64 q.ver, .bool q.tr, .bool q.se, .slice A' q.al.length a', .slice C' q.ac.length c', .slice G' q.gr.length g', .int .i64 q.li]))) → Stp w F g bm (up σ a q) n w') := fun d w' hm ho => by
        have hT5 : Turn (fun k => Bl (f a) k ∨ ¬ F k) w (Go.redrawn w4 d) := ⟨ht5.os, ht5.tape, ht5.output, ht5.size, ht5.block⟩
        have hlt : ∀ k, F k → k < (Go.redrawn w4 d).heap.size := fun k hk => Nat.lt_of_lt_of_le (HSP.out.lt k hk) ht5.size
        refine ⟨_, _, HSP.out.set hD2 hD3 hD4 (hown.tidy law) hT5 (ho4.keep (w' := Go.redrawn w4 d) (fun _ _ => rfl)) (fun k hk => ?_) ho hm (by rw [HX.out]; rfl) HPH.out, ?_, fun k hk => .inl hk, fun k hk => hk.imp (fun h => h) (fun h => h.1)⟩
        · rcases hb4 k hk with e | e
          · exact .inl (by rw [HSL.out]; exact e)
          · exact .inr (Nat.le_trans HB3.out.size e)
        · refine ⟨hm.grown.os.trans hT5.os, hm.grown.tape.trans hT5.tape, hm.grown.output.trans hT5.output, Nat.le_trans hT5.size hm.grown.size, fun k hk hn => ?_⟩
          refine (turned_block hm (Nat.lt_of_lt_of_le hk hT5.size) (fun e => hn (by rw [e]; exact HSP.out.gF.2))).trans ?_
          refine (ht4.block k (Nat.lt_of_lt_of_le hk HB3.out.size) (fun e => ?_)).trans (HB3.out.block k hk)
          rcases e with e | e
          · have := HZW.out; omega
          · exact hn (HSP.out.fF a k (by rw [HSL.out]; exact e)).1
      have HOWN4 := Lib.hid hown4
      have HC4 := Lib.hid hc4
      have HZ4 := Lib.hid hz4
      have HN : Hid (n < maxLen) := hn
      clear her hb4 ht4 ht5 ho4 hz4 hown hown4 hc4 hg4 hbm4 hD2 hD3 hD4 HPH HB3 HZW HSL HSP HOWN HX HV hn
      go_wp2_with fail
      refine wp_region_inv (by kernel_rfl) (fun L act W => ∃ t22 t23 t24 t25 t26 t27, act = { tmps := #[.pointer (some ⟨g, 0, none⟩), .string ⟨⟨a⟩⟩, .func (.func fn) #[] cb, undef, undef, undef, .int .i64 0, .pointer (some ⟨z, 0, none⟩), .int .i64 0, .tuple #[.agg #[.string ⟨⟨nm⟩⟩, .int .i64 ver, .bool tr, .bool se, .slice A al.length ka, .slice C ac.length kc, .slice G gr.length kg, .int .i64 li], .int .i64 0], .pointer (some ⟨g, 0, none⟩), .string ⟨⟨a⟩⟩, .tuple #[.agg #[.string ⟨⟨nm⟩⟩, .int .i64 ver, .bool tr, .bool se, .slice A al.length ka, .slice C ac.length kc, .slice G gr.length kg, .int .i64 li], .int .i64 0], .agg #[.string ⟨⟨nm⟩⟩, .int .i64 ver, .bool tr, .bool se, .slice A al.length ka, .slice C ac.length kc, .slice G gr.length kg, .int .i64 li], .int .i64 0, .int .i64 0, .bool false, undef, .func (.func fn) #[] cb, .int .i64 0, .int .i64 0, .bool true, t22, t23, t24, t25, t26, t27, undef], defers := [] } ∧ (L 0 = true → (.pointer (some ⟨g, 0, none⟩) : Value) = t22) ∧ (L 1 = true → (.pointer (some ⟨g, 0, none⟩) : Value) = t23) ∧ (L 2 = true → (.pointer (some ⟨g, 0, none⟩) : Value) = t24) ∧ (L 3 = true → (.map (some bm) : Value) = t25) ∧ (L 4 = true → (.string ⟨⟨a⟩⟩ : Value) = t26) ∧ (L 5 = true → (.agg #[.string ⟨⟨q.nm⟩⟩, .int .i64 q.ver, .bool q.tr, .bool q.se, .slice A' q.al.length a', .slice C' q.ac.length c', .slice G' q.gr.length g', .int .i64 q.li] : Value) = t27) ∧ (L 6 = false → ∃ d, W = Go.redrawn w4 d) ∧ (L 6 = true → Stp w F g bm (up σ a q) n W) ∧ (L 6 = true → L 3 = true ∧ L 5 = true)) (by kernel_rfl) ?_ ?_ ?_
      · exact ⟨_, _, _, _, _, _, rfl, nofun, nofun, nofun, nofun, nofun, nofun, fun _ => ⟨_, rfl⟩, nofun, nofun⟩
      · rintro L _ W i oo ⟨t22, t23, t24, t25, t26, t27, rfl, f0, f1, f2, f3, f4, f5, qw, qp, r6⟩ ho hL hd
        rcases i with _ | _ | _ | _ | _ | _ | _ | i
        · obtain rfl := Option.some.inj ho
          refine wpOp_step rfl fun K hK => ?_
          have F0X := Lib.hid f0
          have F1X := Lib.hid f1
          have F2X := Lib.hid f2
          have F3X := Lib.hid f3
          have F4X := Lib.hid f4
          have F5X := Lib.hid f5
          have QWX := Lib.hid qw
          have QPX := Lib.hid qp
          have R6X := Lib.hid r6
          clear f0 f1 f2 f3 f4 f5 qw qp r6 hd ho hL
          go_simp
          refine hK _ _ ?_
          exact ⟨_, _, _, _, _, _, rfl, fun _ => rfl, F1X.out, F2X.out, F3X.out, F4X.out, F5X.out, QWX.out, QPX.out, R6X.out⟩
        · obtain rfl := Option.some.inj ho
          have l0 := hd ⟨0, .data⟩ (by simp) rfl
          obtain rfl := f0 l0
          refine wpOp_step rfl fun K hK => ?_
          have F0X := Lib.hid f0
          have F1X := Lib.hid f1
          have F2X := Lib.hid f2
          have F3X := Lib.hid f3
          have F4X := Lib.hid f4
          have F5X := Lib.hid f5
          have QWX := Lib.hid qw
          have QPX := Lib.hid qp
          have R6X := Lib.hid r6
          clear f0 f1 f2 f3 f4 f5 qw qp r6 hd ho hL l0
          go_simp
          refine hK _ _ ?_
          exact ⟨_, _, _, _, _, _, rfl, F0X.out, fun _ => rfl, F2X.out, F3X.out, F4X.out, F5X.out, QWX.out, QPX.out, R6X.out⟩
        · obtain rfl := Option.some.inj ho
          have l1 := hd ⟨1, .data⟩ (by simp) rfl
          obtain rfl := f1 l1
          refine wpOp_step rfl fun K hK => ?_
          have F0X := Lib.hid f0
          have F1X := Lib.hid f1
          have F2X := Lib.hid f2
          have F3X := Lib.hid f3
          have F4X := Lib.hid f4
          have F5X := Lib.hid f5
          have QWX := Lib.hid qw
          have QPX := Lib.hid qp
          have R6X := Lib.hid r6
          clear f0 f1 f2 f3 f4 f5 qw qp r6 hd ho hL l1
          go_simp
          refine hK _ _ ?_
          exact ⟨_, _, _, _, _, _, rfl, F0X.out, F1X.out, fun _ => rfl, F3X.out, F4X.out, F5X.out, QWX.out, QPX.out, R6X.out⟩
        · obtain rfl := Option.some.inj ho
          have l2 := hd ⟨2, .data⟩ (by simp) rfl
          obtain rfl := f2 l2
          have n6 : L 6 = false := by cases hq : L 6 with | false => rfl | true => (have := r6 hq; simp [hL] at this)
          obtain ⟨dd, rfl⟩ := qw n6
          have e0 : (Go.redrawn w4 dd).cell? ⟨g, 0, none⟩ = some (.map (some bm)) := HC4.out
          refine wpOp_step rfl fun K hK => ?_
          have F0X := Lib.hid f0
          have F1X := Lib.hid f1
          have F2X := Lib.hid f2
          have F3X := Lib.hid f3
          have F4X := Lib.hid f4
          have F5X := Lib.hid f5
          have QWX := Lib.hid qw
          have QPX := Lib.hid qp
          have R6X := Lib.hid r6
          clear f0 f1 f2 f3 f4 f5 qw qp r6 hd ho hL l2
          go_simp
          refine hK _ _ ?_
          exact ⟨_, _, _, _, _, _, rfl, F0X.out, F1X.out, F2X.out, fun _ => rfl, F4X.out, F5X.out, QWX.out, QPX.out, fun h => ⟨rfl, (R6X.out h).2⟩⟩
        · obtain rfl := Option.some.inj ho
          refine wpOp_step rfl fun K hK => ?_
          have F0X := Lib.hid f0
          have F1X := Lib.hid f1
          have F2X := Lib.hid f2
          have F3X := Lib.hid f3
          have F4X := Lib.hid f4
          have F5X := Lib.hid f5
          have QWX := Lib.hid qw
          have QPX := Lib.hid qp
          have R6X := Lib.hid r6
          clear f0 f1 f2 f3 f4 f5 qw qp r6 hd ho hL
          go_simp
          refine hK _ _ ?_
          exact ⟨_, _, _, _, _, _, rfl, F0X.out, F1X.out, F2X.out, F3X.out, fun _ => rfl, F5X.out, QWX.out, QPX.out, R6X.out⟩
        · obtain rfl := Option.some.inj ho
          have n6 : L 6 = false := by cases hq : L 6 with | false => rfl | true => (have := r6 hq; simp [hL] at this)
          obtain ⟨dd, rfl⟩ := qw n6
          have e8 : (Go.redrawn w4 dd).heap[z]? = some (.cells #[.string ⟨⟨q.nm⟩⟩, .int .i64 q.ver, .bool q.tr, .bool q.se, .slice A' q.al.length a', .slice C' q.ac.length c', .slice G' q.gr.length g', .int .i64 q.li] 32 (0, 0)) := HZ4.out
          obtain ⟨e0, e1, e2, e3, e4, e5, e6, e7⟩ := cell8 e8
          clear e8
          refine wpOp_step rfl fun K hK => ?_
          have F0X := Lib.hid f0
          have F1X := Lib.hid f1
          have F2X := Lib.hid f2
          have F3X := Lib.hid f3
          have F4X := Lib.hid f4
          have F5X := Lib.hid f5
          have QWX := Lib.hid qw
          have QPX := Lib.hid qp
          have R6X := Lib.hid r6
          clear f0 f1 f2 f3 f4 f5 qw qp r6 hd ho hL
          go_simp
          refine hK _ _ ?_
          exact ⟨_, _, _, _, _, _, rfl, F0X.out, F1X.out, F2X.out, F3X.out, F4X.out, fun _ => rfl, QWX.out, QPX.out, fun h => ⟨(R6X.out h).1, rfl⟩⟩
        · obtain rfl := Option.some.inj ho
          have l3 := hd ⟨3, .data⟩ (by simp) rfl
          have l4 := hd ⟨4, .data⟩ (by simp) rfl
          have l5 := hd ⟨5, .data⟩ (by simp) rfl
          obtain rfl := f3 l3
          obtain rfl := f4 l4
          obtain rfl := f5 l5
          have L35 := Lib.hid (And.intro l3 l5)
          obtain ⟨dd, rfl⟩ := qw hL
          have ho4 : (Go.redrawn w4 dd).ownsMap Try.prog 9 tok bm n D := own_keep HOWN4.out rfl
          obtain ⟨w5, hrun, ho5, ht5⟩ := ho4.store law Try.underlying59 HN.out HKY.out (tok_mk (.agg #[.string ⟨⟨q.nm⟩⟩, .int .i64 q.ver, .bool q.tr, .bool q.se, .slice A' q.al.length a', .slice C' q.ac.length c', .slice G' q.gr.length g', .int .i64 q.li]))
          have HP := Lib.hid (HST.out dd w5 ht5 ho5)
          clear ho5 ht5 ho4
          refine wpOp_step rfl fun K hK => ?_
          refine op_update_run _ rfl (.tmp 25) (.tmp 26) (.tmp 27) 59 rfl _ _ _ rfl rfl rfl hrun ?_
          have F0X := Lib.hid f0
          have F1X := Lib.hid f1
          have F2X := Lib.hid f2
          have F3X := Lib.hid f3
          have F4X := Lib.hid f4
          have F5X := Lib.hid f5
          have QWX := Lib.hid qw
          have QPX := Lib.hid qp
          have R6X := Lib.hid r6
          clear f0 f1 f2 f3 f4 f5 qw qp r6 hd ho hL l3 l4 l5
          refine hK _ _ ?_
          exact ⟨_, _, _, _, _, _, rfl, F0X.out, F1X.out, F2X.out, F3X.out, F4X.out, F5X.out, nofun, fun _ => HP.out, fun _ => L35.out⟩
        · simp at ho
      · rintro L _ W ⟨t22, t23, t24, t25, t26, t27, rfl, f0, f1, f2, f3, f4, f5, qw, qp, r6⟩ hall
        obtain rfl := f0 (hall 0 (by decide))
        obtain rfl := f1 (hall 1 (by decide))
        obtain rfl := f2 (hall 2 (by decide))
        obtain rfl := f3 (hall 3 (by decide))
        obtain rfl := f4 (hall 4 (by decide))
        obtain rfl := f5 (hall 5 (by decide))
        have HP := Lib.hid (qp (hall 6 (by decide)))
        clear qw qp r6 hall
        go_wp2
        go_ret
        exact ⟨rfl, HP.out⟩
end Go.Proofs.Ytehmfkcihieecaa.Po
