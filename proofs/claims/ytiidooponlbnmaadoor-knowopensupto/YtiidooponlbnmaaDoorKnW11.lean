/- Keys, where one is known alone. (Laid with NS=1.) -/
import Derived.Test.YtiidooponlbnmaaDoorKnW10
import Derived.Maps.RangeWalk
namespace Go.Proofs.YtiidooponlbnmaaDoor.Kn
open Go.RowKit
open Te Te.Tt
open Go (Lit DataW MemPlace keyOf maxLen)

theorem keyOf_str {key : Value} {kl : Lit} (h : keyOf Tryd.prog 9 key = some kl) : ∃ s : ByteArray, key = .string s := by
  cases key <;> simp [keyOf, Tryd.underlying9, mapKey] at h
  exact ⟨_, rfl⟩

theorem nodup_le : ∀ (l m : List Tm), l.Nodup → (∀ x ∈ l, x ∈ m) → l.length ≤ m.length
  | [], m, _, _ => by simp
  | a :: r, m, h, hs => by
    obtain ⟨h1, h2⟩ := List.nodup_cons.1 h
    have ha := hs a (by simp)
    have h3 := nodup_le r (m.erase a) h2 (fun x hx => (List.mem_erase_of_ne (fun e => h1 (by rw [← e]; exact hx))).2 (hs x (by simp [hx])))
    rw [List.length_erase_of_mem ha] at h3
    have := List.length_pos_of_mem ha
    rw [List.length_cons]
    omega
/-- What a round of collecting keys finds. -/
def InKeys (w : World) (bk r : Nat) (T : Nat → Prop) (kn : List Tm) (D : DataW Value) (v : Value) (W : World) : Prop :=
  ∃ left cnt l, W.ranges Tryd.prog 9 tok bk r kn.length D left cnt ∧ OwnC T W 0 v l ∧ (∀ i, v.ownBlock = some i → w.heap.size ≤ i ∧ i ≠ r) ∧ l.Nodup ∧ (∀ x, x ∈ l ↔ x ∈ kn ∧ x.k = 2 ∧ left (.string (mk x)) = false) ∧ (∀ kl, left kl = true → Maps.has D kl = true) ∧ Below w.heap.size w W ∧ r < W.heap.size

set_option maxHeartbeats 4000000 in
set_option maxRecDepth 100000 in
theorem Keys1_any (w : World) (F : Nat → Prop) (g bk bw : Nat) (T : Nat → Prop) (f : Tm → Value) (s : St) (h : SR w F g bk bw T f s) (hok : ∀ x ∈ s.kn, vld 0 x = true) (hkn : s.kn.length ≤ 900000) (k0 : Tm) (hk0 : ∀ x, x ∈ s.kn ∧ x.k = 2 ↔ x = k0) :
    Calls Tryd.prog 18 #[.pointer (some ⟨g, 0, none⟩)] w fun e w' => ∃ A ca, e = .returned (.slice A 1 ca) ∧ Below w.heap.size w w' := by
  obtain ⟨c0, c1⟩ := cellG h.st
  obtain ⟨D, hown, h2, h3, h4⟩ := h.km
  have HTL : Hid (∀ i, T i → i < w.heap.size) := fun i hi => h.lt i (h.tF i hi).1
  have HO := Lib.hid hown
  have HBK : Hid (bk < w.heap.size) := h.lt bk h.gF.2.1
  have HD := Lib.hid h2
  have H4 := Lib.hid h4
  have HK0 := Lib.hid hk0
  have HOK := Lib.hid hok
  have HKN := Lib.hid hkn
  obtain ⟨r, hr⟩ : ∃ r, r = w.heap.size := ⟨_, rfl⟩
  have HR := Lib.hid hr
  clear h h2 h3 h4 hown hk0 hok hkn hr
  go_enter Tryd.func18, Tryd.ntmps18
  go_wp2_with (first | (at_range; refine wpList_range_own _ rfl (.tmp 9) 52 rfl 9 33 law Tryd.underlying52 tok bk s.kn.length D rfl HO.out ?_; intro w0 hrg0 hg0 hs0; rw [← HR.out] at hrg0 ⊢))
  go_frame
  have hw0 : Below w.heap.size w w0 := ⟨hg0.os, hg0.tape, hg0.output, hg0.size, fun k hk => hg0.block k hk (by simp)⟩
  have HI0 : Hid (InKeys w bk r T s.kn D (.slice none 0 0) w0) := ⟨_, _, [], hrg0, OwnC.nil _ _ _, fun i hi => by simp [Value.ownBlock] at hi, List.nodup_nil, fun x => by
    simp only [List.not_mem_nil, false_iff]
    rintro ⟨h1, -, h2⟩
    rw [HD.out x (HOK.out x h1), decide_eq_false_iff_not] at h2
    exact h2 h1, fun _ h => h, hw0, by have := HR.out; omega⟩
  clear hrg0 hg0 hs0 hw0 c0 c1
  go_loopw [3] (fun v wr => Hid (InKeys w bk r T s.kn D v wr)) (fun _ wr => wr.rangeLeft bk r)
  case atStart => exact HI0
  case round =>
    obtain ⟨left, cnt, l, hrg, ho, hob, hnd, hml, hlh, hbel, hrl⟩ := hrel.out
    have HRG := Lib.hid hrg
    have HOW := Lib.hid ho
    have HOB := Lib.hid hob
    have HND := Lib.hid hnd
    have HML := Lib.hid hml
    have HLH := Lib.hid hlh
    have HB := Lib.hid hbel
    have HRL := Lib.hid hrl
    obtain ⟨A0, a0, rfl⟩ := ho.form
    clear hrg ho hob hnd hml hlh hbel hrl hrel HI0
    go_wp2_with (at_next; refine wpList_next_ranges _ rfl (.tmp 10) rfl 9 law tok (fun x : ByteArray => .string x) (fun v : Value => v) (fun key kl h => keyOf_str h) (fun v y _ => ⟨v, rfl⟩) bk r s.kn.length D left cnt rfl HRG.out ?_ ?_)
    · intro hc0 hl0
      have hmem : ∀ x, x ∈ l ↔ x = k0 := fun x => by rw [HML.out x, ← HK0.out x]; simp [hl0]
      have hl1 : l = [k0] := by
        have h1 := HND.out
        match l, hmem, h1 with
        | [], hm, _ => have := (hm k0).2 rfl; cases this
        | [a], hm, _ => rw [(hm a).1 (by simp)]
        | a :: b :: q, hm, h1 =>
          have e1 := (hm a).1 (by simp)
          have e2 := (hm b).1 (by simp)
          rw [e1, e2] at h1
          simp at h1
      obtain ⟨A1, a1, hv1, hle⟩ := own_cap HOW.out
      subst hl1
      obtain ⟨gw, v0, v1, v2, v3, rfl, -, -, -, -, -⟩ := own_get HOW.out (i := 0) (x := k0) rfl
      have HS := Lib.hid fun W => sort_one ⟨gw, 0, none⟩ a0 (.func (.func 43) #[] #[]) W
      clear hc0 hl0 hmem hv1 hle HRG HML HND HLH HOW HOB
      go_wp2_with fail
      refine (HS.out _).mono ?_
      rintro _ w5 ⟨rfl, hb5⟩
      have HB5 := Lib.hid (HB.out.trans (hb5.mono HB.out.size))
      clear hb5 HS
      go_wp2
      go_ret
      exact ⟨_, _, rfl, HB5.out⟩
    · intro xs c kl y ys w1 cnt1 hkey hlk hR hat hrg1 hlt hgr hsz hen
      obtain ⟨x, hxk, vx, hkl, hvx, hrx⟩ := H4.out kl (HLH.out kl hlk)
      have hcv : c = vx := by
        have h1 := hat (.held c)
        rw [hvx] at h1
        unfold tok at hR
        injection hR with hR
        injection hR with hR _
        rw [← hR] at h1
        injection h1 with h1
        exact h1.symm
      subst hcv
      subst hkl
      have hvx0 := HOK.out x hxk
      obtain ⟨k, t, n, q⟩ := x
      obtain ⟨A, ca, rfl, -, -⟩ := repc_mk.1 hrx
      have hbel1 : Below w.heap.size w w1 := HB.out.trans ⟨hgr.os, hgr.tape, hgr.output, hgr.size, fun i hi => hgr.block i (Nat.lt_of_lt_of_le hi HB.out.size) (fun e => by injection e with e; have := HR.out; omega)⟩
      have hrx1 : RepC w1 T (.mk k t n q) (.agg #[.int .i64 k, .string ⟨⟨t⟩⟩, .int .i64 n, .slice A q.length ca]) := repc_keep (fun _ h => h) (fun c o hc => hbel1.cell (p := ⟨c, o, none⟩) (HTL.out c hc)) _ _ hrx
      have ho1 : OwnC T w1 0 (.slice A0 l.length a0) l := HOW.out.keep (fun i hi => hgr.block i (HOW.out.lt i hi).2 (fun e => (HOB.out i hi).2 (by injection e))) (fun _ h => h) (fun i hi => hgr.block i (Nat.lt_of_lt_of_le (HTL.out i hi) HB.out.size) (fun e => by injection e with e; have := HTL.out i hi; have := HR.out; omega))
      have hrl1 : r < w1.heap.size := by rw [hsz]; exact HRL.out
      have hlf : left (.string (mk (.mk k t n q))) = true := hlk
      have hle1 := hrg1.left_eq
      have hle0 := HRG.out.left_eq
      have HML2 : Hid (∀ x, x.k = 2 → x ∈ s.kn → x ≠ .mk k t n q → (left (.string (mk x)) && !(Lit.string (mk x)).sameKey (.string (mk (.mk k t n q)))) = left (.string (mk x))) := fun x _ hx hne => by
        rw [Maps.sameKey_ne (lit_ne fun e => hne (mk_inj (HOK.out x hx) hvx0 e))]
        simp
      have HSELF : Hid ((Lit.string (mk (.mk k t n q))).sameKey (.string (mk (.mk k t n q))) = true) := WideAt.sameKey_self (isKey _)
      have HXK := Lib.hid hxk
      have HRG1 := Lib.hid hrg1
      have HB1 := Lib.hid hbel1
      have HO1 := Lib.hid ho1
      have HR1 := Lib.hid hrx1
      have HLF := Lib.hid hlf
      have HRL1 := Lib.hid hrl1
      have HLT := Lib.hid hlt
      have HLE := Lib.hid (And.intro hle1 hle0)
      have HSZ := Lib.hid hsz
      clear hkey hlk hR hat hrg1 hlt hgr hsz hxk hvx hrx hvx0 hbel1 hrx1 ho1 hrl1 hlf hle1 hle0
      by_cases hk : k = 2
      · subst hk
        have hb2 : Below w1.heap.size w1 ((w1.alloc (.cells #[.int .i64 2, .string ⟨⟨t⟩⟩, .int .i64 n, .slice A q.length ca] 33)).alloc (.cells #[.int .i64 2, .string ⟨⟨t⟩⟩, .int .i64 n, .slice A q.length ca] 33)) := ((Below.refl _ _).alloc (Nat.le_refl _) _).alloc (by simp) _
        have hT1 : ∀ i, T i → i < w1.heap.size := fun i hi => Nat.lt_of_lt_of_le (HTL.out i hi) HB1.out.size
        have hq : QRow ((w1.alloc (.cells #[.int .i64 2, .string ⟨⟨t⟩⟩, .int .i64 n, .slice A q.length ca] 33)).alloc (.cells #[.int .i64 2, .string ⟨⟨t⟩⟩, .int .i64 n, .slice A q.length ca] 33)) T [.mk 2 t n q] (some ⟨(w1.alloc (.cells #[.int .i64 2, .string ⟨⟨t⟩⟩, .int .i64 n, .slice A q.length ca] 33)).heap.size, 0, none⟩) := QRow.new (repc_alloc HR1.out _ (fun i hi => ⟨hT1 i hi, hi⟩)) (fun i hi => by have := hT1 i hi; simp; omega) _
        have ho2 := HO1.out.below hb2 hT1
        obtain ⟨v', w2, hrun, ho3, hG⟩ := run_appQ ((w1.alloc (.cells #[.int .i64 2, .string ⟨⟨t⟩⟩, .int .i64 n, .slice A q.length ca] 33)).alloc (.cells #[.int .i64 2, .string ⟨⟨t⟩⟩, .int .i64 n, .slice A q.length ca] 33)) 0 (.slice A0 l.length a0) l [.mk 2 t n q] (some ⟨(w1.alloc (.cells #[.int .i64 2, .string ⟨⟨t⟩⟩, .int .i64 n, .slice A q.length ca] 33)).heap.size, 0, none⟩) 1 T ho2 hq (fun i hi => ⟨Nat.lt_of_lt_of_le (hT1 i hi) hb2.size, fun e => by have := (HOB.out i e).1; have := HTL.out i hi; omega⟩) (by
          have h1 : l.length ≤ s.kn.length := by
            exact nodup_le l s.kn HND.out fun x hx => ((HML.out x).1 hx).1
          have := HKN.out
          simp
          omega) (Nat.zero_le _)
        have hs1 : (w1.alloc (.cells #[.int .i64 2, .string ⟨⟨t⟩⟩, .int .i64 n, .slice A q.length ca] 33)).heap.size = w1.heap.size + 1 := by simp
        rw [hs1] at hrun
        have hI : InKeys w bk r T s.kn D v' w2 := by
          have hbw := HB1.out.trans (hb2.mono HB1.out.size)
          have hrb : some r ≠ (Value.slice A0 l.length a0).ownBlock := fun e => (HOB.out r e.symm).2 rfl
          have hbb : some bk ≠ (Value.slice A0 l.length a0).ownBlock := fun e => by have := (HOB.out bk e.symm).1; have := HBK.out; omega
          refine ⟨_, _, l ++ [.mk 2 t n q], ((HRG1.out.alloc _).alloc _).kept hG.grown hbb hrb, ho3, fun i hi => ?_, ?_, fun x => ?_, fun kl hkl => ?_, hbw.trans ⟨hG.grown.os, hG.grown.tape, hG.grown.output, hG.grown.size, fun i hi => hG.grown.block i (Nat.lt_of_lt_of_le hi hbw.size) (fun e => by have := (HOB.out i e.symm).1; omega)⟩, Nat.lt_of_lt_of_le HRL1.out (Nat.le_trans hb2.size hG.grown.size)⟩
          · rcases hG.lies with e | e
            · exact HOB.out i (e.symm.trans hi)
            · have h1 := e i hi
              have h2 := hbw.size
              have h3 := HRL1.out
              have h4 := hb2.size
              exact ⟨by omega, by omega⟩
          · rw [List.nodup_append]
            refine ⟨HND.out, by simp, fun a ha b hb => ?_⟩
            rw [List.mem_singleton.1 hb]
            intro e
            subst e
            have := ((HML.out _).1 ha).2.2
            rw [HLF.out] at this
            cases this
          · rw [List.mem_append, List.mem_singleton, HML.out x]
            by_cases e : x = .mk 2 t n q
            · subst e
              simp only [or_true, true_iff]
              exact ⟨HXK.out, rfl, by rw [HSELF.out]; simp⟩
            · constructor
              · rintro (⟨h1, h2, h3⟩ | h1)
                · exact ⟨h1, h2, by rw [HML2.out x h2 h1 e]; exact h3⟩
                · exact absurd h1 e
              · rintro ⟨h1, h2, h3⟩
                rw [HML2.out x h2 h1 e] at h3
                exact .inl ⟨h1, h2, h3⟩
          · rw [Bool.and_eq_true] at hkl
            exact HLH.out kl hkl.1
        have hms : w2.rangeLeft bk r < wr.rangeLeft bk r := by
          have hrb : some r ≠ (Value.slice A0 l.length a0).ownBlock := fun e => (HOB.out r e.symm).2 rfl
          have hbb : some bk ≠ (Value.slice A0 l.length a0).ownBlock := fun e => by have := (HOB.out bk e.symm).1; have := HBK.out; omega
          rw [(((HRG1.out.alloc _).alloc _).kept hG.grown hbb hrb).left_eq, HLE.out.2]
          exact HLT.out
        have HI := Lib.hid hI
        have HMS := Lib.hid hms
        have HRUN := Lib.hid hrun
        clear hb2 hT1 hq ho2 ho3 hG hs1 hrun hI hms
        go_wp2_with (at_builtin; refine wpList_append_run _ rfl (.tmp 18) (.tmp 20) 22 22 rfl _ _ rfl rfl HRUN.out ?_)
        go_roundw
        case rel => exact HI
        case measure => exact HMS.out
      · have hI : InKeys w bk r T s.kn D (.slice A0 l.length a0) (w1.alloc (.cells #[.int .i64 k, .string ⟨⟨t⟩⟩, .int .i64 n, .slice A q.length ca] 33)) := by
          have hb2 : Below w1.heap.size w1 (w1.alloc (.cells #[.int .i64 k, .string ⟨⟨t⟩⟩, .int .i64 n, .slice A q.length ca] 33)) := (Below.refl _ _).alloc (Nat.le_refl _) _
          refine ⟨_, _, l, HRG1.out.alloc _, HO1.out.below hb2 (fun i hi => Nat.lt_of_lt_of_le (HTL.out i hi) HB1.out.size), HOB.out, HND.out, fun x => ?_, fun kl hkl => ?_, HB1.out.trans (hb2.mono HB1.out.size), Nat.lt_of_lt_of_le HRL1.out hb2.size⟩
          · rw [HML.out x]
            by_cases e : x.k = 2
            · by_cases h1 : x ∈ s.kn
              · rw [HML2.out x e h1 (fun e2 => hk (by rw [e2] at e; exact e))]
              · simp [h1]
            · simp [e]
          · rw [Bool.and_eq_true] at hkl
            exact HLH.out kl hkl.1
        have hms : (w1.alloc (.cells #[.int .i64 k, .string ⟨⟨t⟩⟩, .int .i64 n, .slice A q.length ca] 33)).rangeLeft bk r < wr.rangeLeft bk r := by
          rw [(HRG1.out.alloc _).left_eq, HLE.out.2]
          exact HLT.out
        have HI := Lib.hid hI
        have HMS := Lib.hid hms
        clear hI hms
        go_wp2
        go_roundw
        case rel => exact HI
        case measure => exact HMS.out
end Go.Proofs.YtiidooponlbnmaaDoor.Kn
