/- carry: first, with each of its closures. (Laid with NS=1; written by wip/tools/gen/cyu2.py.) -/
import Derived.Test.YticofjbngfjjlaaGreatDoorGACyU1
namespace Go.Proofs.YticofjbngfjjlaaGreatDoor.Cy
open Go.RowKit
open Te Te.Tt
open Wi.Wr (It wr wrs)

/-- Nothing below n has changed but blocks g and h. -/
structure Ot2 (n g h : Nat) (w w' : World) : Prop where
  size : w.heap.size ≤ w'.heap.size
  block : ∀ k, k < n → k ≠ g → k ≠ h → w'.heap[k]? = w.heap[k]?
theorem Ot2.refl (n g h : Nat) (w : World) : Ot2 n g h w w := ⟨Nat.le_refl _, fun _ _ _ _ => rfl⟩
theorem Ot2.trans {n g h : Nat} {a b c : World} (x : Ot2 n g h a b) (y : Ot2 n g h b c) : Ot2 n g h a c :=
  ⟨Nat.le_trans x.size y.size, fun k hk h1 h2 => (y.block k hk h1 h2).trans (x.block k hk h1 h2)⟩
theorem Ot2.of1 {n g h : Nat} {a b : World} (x : Oth n g a b) : Ot2 n g h a b := ⟨x.size, fun k hk h1 _ => x.block k hk h1⟩
theorem Ot2.of2 {n g h : Nat} {a b : World} (x : Oth n h a b) : Ot2 n g h a b := ⟨x.size, fun k hk _ h2 => x.block k hk h2⟩
theorem Ot2.mono {m n g h : Nat} {a b : World} (x : Ot2 n g h a b) (hm : m ≤ n) : Ot2 m g h a b := ⟨x.size, fun k hk => x.block k (by omega)⟩

theorem Rd.lies.keep4 {E : Rd} {W W' : World} {n : Nat} (h : E.lies W) (ho : E.ok) (hb : Below n W W') (hG : E.gb < n) (hR : E.R < n) (hK : E.gk < n) : E.lies W' := h.oth ho hb hR hG hK
/-- A key, as first answers it. -/
def keyV (k : Tm) (KB : Option Addr) (kcb : Nat) : Value := .agg #[.int .i64 2, .string ⟨⟨k.s⟩⟩, .int .i64 k.n, .slice KB 0 kcb]
def zeroT : Array Value := #[.int .i64 0, .string ⟨⟨[]⟩⟩, .int .i64 0, .slice none 0 0]
/-- What first leaves. -/
def FirstPost (E : Rd) (fits : List UInt8 → Bool) (J : World → Prop) (Q : List UInt8 → World → Prop) (bb : Nat) (V : World) (e : Ending) (w' : World) : Prop :=
  (match fnd E.c fits E.ks with
  | none => e = .returned (.tuple #[.agg zeroT, .bool false])
  | some k => (∃ KB kcb, e = .returned (.tuple #[keyV k KB kcb, .bool true])) ∧ InR k.n ∧ Q (Cy.kb E.c k.s k.n) w') ∧ E.lies w' ∧ J w' ∧ Ot2 V.heap.size E.gb bb V w'
theorem fnd_skip {c : List UInt8} {p : List UInt8 → Bool} {ks : List Tm} {i : Nat} {k : Tm} (hk : ks[i]? = some k) (ha : (ks.take i).all (fun k => !p (Cy.kb c k.s k.n)) = true) (hp : p (Cy.kb c k.s k.n) = true) : fnd c p ks = some k := by
  have hil := (List.getElem?_eq_some_iff.1 hk).1
  have hke := (List.getElem?_eq_some_iff.1 hk).2
  unfold fnd
  rw [← List.take_append_drop i ks, List.find?_append]
  have h1 : (ks.take i).find? (fun k => p (Cy.kb c k.s k.n)) = none := by
    rw [List.find?_eq_none]
    intro x hx
    have := List.all_eq_true.1 ha x hx
    simpa using this
  rw [h1, Option.none_or, List.drop_eq_getElem_cons hil, hke]
  simp [hp]
theorem fnd_none {c : List UInt8} {p : List UInt8 → Bool} {ks : List Tm} (ha : ks.all (fun k => !p (Cy.kb c k.s k.n)) = true) : fnd c p ks = none := by
  unfold fnd
  rw [List.find?_eq_none]
  intro x hx
  have := List.all_eq_true.1 ha x hx
  simpa using this
theorem set4_self' {W : World} {g : Nat} {v0 v1 v2 v3 a0 a1 a2 a3 : Value} {T : TypeId} (h : W.heap[g]? = some (.cells #[a0, a1, a2, a3] T (0, 0))) : ((((W.setCell ⟨g, 0, none⟩ v0).setCell ⟨g, 1, none⟩ v1).setCell ⟨g, 2, none⟩ v2).setCell ⟨g, 3, none⟩ v3).heap[g]? = some (.cells #[v0, v1, v2, v3] T (0, 0)) := by
  rw [heap_setCell_same _ _ _ _ _ _ (heap_setCell_same _ _ _ _ _ _ (heap_setCell_same _ _ _ _ _ _ (heap_setCell_same _ _ _ _ _ _ h)))]
  rfl
theorem set4_below {B g : Nat} {w W : World} {v0 v1 v2 v3 : Value} (h : Below B w W) (hg : B ≤ g) : Below B w ((((W.setCell ⟨g, 0, none⟩ v0).setCell ⟨g, 1, none⟩ v1).setCell ⟨g, 2, none⟩ v2).setCell ⟨g, 3, none⟩ v3) :=
  (((h.setCell (p := ⟨_, 0, none⟩) hg _).setCell (p := ⟨_, 1, none⟩) hg _).setCell (p := ⟨_, 2, none⟩) hg _).setCell (p := ⟨_, 3, none⟩) hg _
theorem set4_size {W : World} {g : Nat} {v0 v1 v2 v3 : Value} : ((((W.setCell ⟨g, 0, none⟩ v0).setCell ⟨g, 1, none⟩ v1).setCell ⟨g, 2, none⟩ v2).setCell ⟨g, 3, none⟩ v3).heap.size = W.heap.size := by simp

set_option maxHeartbeats 4000000 in
set_option maxRecDepth 100000 in
theorem first_key (E : Rd) (ho : E.ok) (fits : List UInt8 → Bool) (J : World → Prop) (Q : List UInt8 → World → Prop) (bb : Nat) (p0 : Value) (V : World) (hV : E.lies V) (hJV : J V)
    (hJ : ∀ W W', J W → Oth V.heap.size E.gb W W' → J W') (hQ : ∀ b W W', Q b W → Oth V.heap.size E.gb W W' → Q b W') (hbb : bb < V.heap.size)
    (hC : ∀ b W, b.length = 32 → E.lies W → J W → Calls Tryz.prog 144 #[.string ⟨⟨b⟩⟩, p0] W fun e w' => e = .returned (.bool (fits b)) ∧ E.lies w' ∧ J w' ∧ (fits b = true → Q b w') ∧ Oth W.heap.size bb W w') :
    Calls Tryz.prog 143 #[.pointer (some ⟨E.R, 0, none⟩), .func (.func 144) #[] #[p0]] V (FirstPost E fits J Q bb V) := by
  have hn := ho.kl
  have hb0 : Below V.heap.size V (V.alloc (.cells zeroT 25)) := (Below.refl _ _).alloc (Nat.le_refl _) _
  have hg0 := heap_alloc_new V (.cells zeroT 25)
  have hV0 := hV.next hb0
  have hJ0 := hJ _ _ hJV (Oth.of hb0)
  have hO0 : Ot2 V.heap.size E.gb bb V (V.alloc (.cells zeroT 25)) := Ot2.of1 (Oth.of hb0)
  obtain ⟨r0, r1, r2⟩ := cell3 hV0.cells
  unfold zeroT at *
  have HV0 := Lib.hid hV0
  have HJ0 := Lib.hid hJ0
  have HO0 := Lib.hid hO0
  have HG0 := Lib.hid hg0
  have HJ := Lib.hid hJ
  have HQ := Lib.hid hQ
  have HC := Lib.hid hC
  have HBB := Lib.hid hbb
  have HGL := Lib.hid hV.blt
  have HZR := Lib.hid hV.rlt
  have HZK := Lib.hid hV.gk
  obtain ⟨z, hz⟩ : ∃ z, z = V.heap.size := ⟨_, rfl⟩
  have HZ := Lib.hid hz
  clear hb0 hg0 hV0 hJ0 hO0 hJ hQ hC hV hJV hbb
  rw [← hz] at HO0 HG0 HJ HQ HBB HGL HZR HZK
  clear hz
  go_enter Tryz.func143, Tryz.ntmps143
  go_wp2
  rw [← HZ.out]
  go_loopw [13] (fun iv wr => ∃ i : Nat, i ≤ E.ks.length ∧ iv = .int .i64 (i : Nat) ∧ Hid (E.lies wr) ∧ Hid (J wr) ∧ Hid (Ot2 z E.gb bb V wr) ∧ Hid (wr.heap[z]? = some (.cells #[.int .i64 0, .string ⟨⟨[]⟩⟩, .int .i64 0, .slice none 0 0] 25 (0, 0))) ∧ Hid ((E.ks.take i).all (fun k => !fits (Cy.kb E.c k.s k.n)) = true)) (fun iv _ => E.ks.length - (intOf iv).toNat)
  case atStart => exact ⟨0, by omega, rfl, HV0, HJ0, HO0, HG0, Lib.hid (by simp)⟩
  case round =>
    obtain ⟨i, hi, rfl, HE, HJW, HO, HG, HA⟩ := hrel
    clear HV0 HJ0 HO0 HG0
    by_cases hlt : i < E.ks.length
    · have hil : (i : Int) < (E.ks.length : Int) := by omega
      obtain ⟨bb', bo, kk, ks, km, kq, KB, kcb, hK, hSb, hx, d0, d1, d2, d3, hrep⟩ := trow_get HE.out.keys (Below.refl wr.heap.size wr) (fun b hb => by subst hb; exact HE.out.gk) hlt
      have hki : E.ks[i]? = some E.ks[i] := List.getElem?_eq_getElem hlt
      obtain ⟨s, n, hkf, hsl⟩ := key_form ho hki
      rw [hkf] at hki hx
      injection hx with e1 e2 e3 e4
      subst e1 e2 e3 e4
      obtain ⟨A', c', hv', hin, -⟩ := rep_mk.1 hrep
      simp only [List.length_nil] at d3
      have HKI := Lib.hid hki
      have HIN := Lib.hid hin
      have hta := List.take_succ_eq_append_getElem hlt
      rw [hkf] at hta
      have HTA := Lib.hid hta
      have hzw : z < wr.heap.size := (Array.getElem?_eq_some_iff.1 HG.out).1
      have hbw : Below wr.heap.size wr (wr.alloc (.cells #[.int .i64 2, .string ⟨⟨s⟩⟩, .int .i64 n, .slice KB 0 kcb] 25)) := (Below.refl _ _).alloc (Nat.le_refl _) _
      have hbg := heap_alloc_new wr (.cells #[.int .i64 2, .string ⟨⟨s⟩⟩, .int .i64 n, .slice KB 0 kcb] 25)
      have hbs : (wr.alloc (.cells #[.int .i64 2, .string ⟨⟨s⟩⟩, .int .i64 n, .slice KB 0 kcb] 25)).heap.size = wr.heap.size + 1 := by simp
      have HE1 := Lib.hid (HE.out.next hbw)
      have HJ1 := Lib.hid (HJ.out _ _ HJW.out (Oth.of (hbw.mono (Nat.le_of_lt hzw))))
      have HO1 := Lib.hid (HO.out.trans (Ot2.of1 (Oth.of (hbw.mono (Nat.le_of_lt hzw)))))
      have HG1 := Lib.hid ((hbw.block z hzw).trans HG.out)
      have HBG := Lib.hid hbg
      have HBS := Lib.hid hbs
      have HZW := Lib.hid hzw
      obtain ⟨rr0, rr1, rr2⟩ := cell3 HE.out.cells
      rw [hK] at rr1
      have HK := Lib.hid hK
      have HKF := Lib.hid hkf
      clear hbw hbg hbs hzw HE HJW HO HG hrep hv' hin hta hki hsl hkf r0 r1 r2 hSb
      go_wp2_with fail
      clear hK
      generalize wr.alloc (.cells #[.int .i64 2, .string ⟨⟨s⟩⟩, .int .i64 n, .slice KB 0 kcb] 25) = W1 at *
      refine (base_any E ho i _ HKI.out W1 HE1.out).mono ?_
      rintro _ w2 ⟨rfl, he2, ho2⟩
      have hbs := HBS.out
      have hzw := HZW.out
      have HJ2 := Lib.hid (HJ.out _ _ HJ1.out (ho2.mono (by omega)))
      have HO2 := Lib.hid (HO1.out.trans (Ot2.of1 (ho2.mono (by omega))))
      have HG2 := Lib.hid ((ho2.block z (by omega) (by have := HGL.out; omega)).trans HG1.out)
      have HBG2 := Lib.hid ((ho2.block wr.heap.size (by omega) (by have := HGL.out; omega)).trans HBG.out)
      have HE2 := Lib.hid he2
      clear he2 ho2 HJ1 HO1 HG1 HBG HE1 HBS hbs hzw d0 d1 d2 d3 rr0 rr1 rr2
      simp only [Tm.s, Tm.n]
      go_wp2_with fail
      refine (HC.out _ w2 (kb_length _ _ _) HE2.out HJ2.out).mono ?_
      rintro _ w3 ⟨rfl, he3, hj3, hq3, ho3⟩
      have hz2 : z < w2.heap.size := (Array.getElem?_eq_some_iff.1 HG2.out).1
      have hy2 : wr.heap.size < w2.heap.size := (Array.getElem?_eq_some_iff.1 HBG2.out).1
      have hzw := HZW.out
      have HO3 := Lib.hid (HO2.out.trans (Ot2.of2 (ho3.mono (Nat.le_of_lt hz2))))
      have hg3 := (ho3.block z (by omega) (by have := HBB.out; omega)).trans HG2.out
      have hbg3 := (ho3.block wr.heap.size (by omega) (by have := HBB.out; omega)).trans HBG2.out
      have HE3 := Lib.hid he3
      have HJ3 := Lib.hid hj3
      have HG3 := Lib.hid hg3
      by_cases hf : fits (Cy.kb E.c s n) = true
      · have hQ3 := hq3 hf
        have HF := Lib.hid (fnd_skip HKI.out HA.out (by simpa [Tm.s, Tm.n] using hf))
        have hres := set4_self' (v0 := .int .i64 2) (v1 := .string ⟨⟨s⟩⟩) (v2 := .int .i64 n) (v3 := .slice KB 0 kcb) hg3
        have hbel : Below z w3 ((((w3.setCell ⟨z, 0, none⟩ (.int .i64 2)).setCell ⟨z, 1, none⟩ (.string ⟨⟨s⟩⟩)).setCell ⟨z, 2, none⟩ (.int .i64 n)).setCell ⟨z, 3, none⟩ (.slice KB 0 kcb)) := set4_below (Below.refl _ _) (Nat.le_refl _)
        have HRES := Lib.hid hres
        have HLIE := Lib.hid (HE3.out.keep4 ho (hbel) HGL.out (HZR.out) (HZK.out))
        have HQ3 := Lib.hid (HQ.out _ _ _ hQ3 (Oth.of hbel))
        have HJ4 := Lib.hid (HJ.out _ _ HJ3.out (Oth.of hbel))
        have HO4 := Lib.hid (HO3.out.trans (Ot2.of1 (Oth.of hbel)))
        obtain ⟨x0, x1, x2, x3⟩ := cell4 hbg3
        obtain ⟨y0, y1, y2, y3⟩ := cell4 hg3
        have f0 := fun j => frozen_of_row _ _ j _ _ hg3
        rw [hf]
        clear hf hq3 hQ3 ho3 he3 hj3 hg3 hbg3 hres hbel HE2 HE3 HJ2 HJ3 HO2 HO3 HG2 HG3 HBG2 hz2 hy2 hzw HA HTA
        go_wp2
        obtain ⟨y0, y1, y2, y3⟩ := cell4 HRES.out
        refine bodyPost_ret (v := .tuple #[.agg #[.int .i64 2, .string ⟨⟨s⟩⟩, .int .i64 n, .slice KB 0 kcb], .bool true]) (by simp [results, Tryz.results143, go_sem, y0, y1, y2, y3]) rfl ?_
        unfold FirstPost
        rw [HF.out]
        exact ⟨⟨⟨KB, kcb, rfl⟩, HIN.out, HQ3.out⟩, HLIE.out, HJ4.out, by rw [← HZ.out]; exact HO4.out⟩
      · have hf' : fits (Cy.kb E.c s n) = false := by simpa using hf
        have HT : Hid ((E.ks.take (i + 1)).all (fun k => !fits (Cy.kb E.c k.s k.n)) = true) := by
          rw [Hid, HTA.out, List.all_append, HA.out]; simp [Tm.s, Tm.n, hf']
        rw [hf']
        clear hf hf' hq3 ho3 he3 hj3 hg3 hbg3 HE2 HJ2 HO2 HG2 HBG2 hz2 hy2 hzw HA HTA
        go_wp2
        go_roundw
        case rel => exact ⟨i + 1, by omega, by go_num, HE3, HJ3, HO3, HG3, HT⟩
        case measure => simp [intOf]; omega
    · have hie : E.ks.take i = E.ks := List.take_of_length_le (by omega)
      have hA := HA.out
      rw [hie] at hA
      have hfn := fnd_none hA
      have HF := Lib.hid hfn
      obtain ⟨d0, d1, d2, d3⟩ := cell4 HG.out
      have f0 := fun j => frozen_of_row _ _ j _ _ HG.out
      have hres := set4_self' (v0 := .int .i64 0) (v1 := .string ⟨⟨[]⟩⟩) (v2 := .int .i64 0) (v3 := .slice none 0 0) HG.out
      have hbel : Below z wr ((((wr.setCell ⟨z, 0, none⟩ (.int .i64 0)).setCell ⟨z, 1, none⟩ (.string ⟨⟨[]⟩⟩)).setCell ⟨z, 2, none⟩ (.int .i64 0)).setCell ⟨z, 3, none⟩ (.slice none 0 0)) := set4_below (Below.refl _ _) (Nat.le_refl _)
      have HRES := Lib.hid hres
      have HLIE := Lib.hid (HE.out.keep4 ho (hbel) HGL.out (HZR.out) (HZK.out))
      have HJ4 := Lib.hid (HJ.out _ _ HJW.out (Oth.of hbel))
      have HO4 := Lib.hid (HO.out.trans (Ot2.of1 (Oth.of hbel)))
      clear hA HA hie hfn hres hbel HE HJW HO HG r0 r1 r2
      go_wp2
      obtain ⟨y0, y1, y2, y3⟩ := cell4 HRES.out
      refine bodyPost_ret (v := .tuple #[.agg #[.int .i64 0, .string ⟨⟨[]⟩⟩, .int .i64 0, .slice none 0 0], .bool false]) (by simp [results, Tryz.results143, go_sem, y0, y1, y2, y3]) rfl ?_
      unfold FirstPost
      rw [HF.out]
      exact ⟨rfl, HLIE.out, HJ4.out, by rw [← HZ.out]; exact HO4.out⟩
end Go.Proofs.YticofjbngfjjlaaGreatDoor.Cy

/- carry: first, with the closure of sum. (Laid with NS=1; written by wip/tools/gen/cyu2.py.) -/

namespace Go.Proofs.YticofjbngfjjlaaGreatDoor.Cy
open Go.RowKit
open Te Te.Tt
open Wi.Wr (It wr wrs)

set_option maxHeartbeats 4000000 in
set_option maxRecDepth 100000 in
theorem first_sum (E : Rd) (ho : E.ok) (fits : List UInt8 → Bool) (J : World → Prop) (Q : List UInt8 → World → Prop) (bb : Nat) (p0 p1 p2 : Value) (V : World) (hV : E.lies V) (hJV : J V)
    (hJ : ∀ W W', J W → Oth V.heap.size E.gb W W' → J W') (hQ : ∀ b W W', Q b W → Oth V.heap.size E.gb W W' → Q b W') (hbb : bb < V.heap.size)
    (hC : ∀ b W, b.length = 32 → E.lies W → J W → Calls Tryz.prog 173 #[.string ⟨⟨b⟩⟩, p0, p1, p2] W fun e w' => e = .returned (.bool (fits b)) ∧ E.lies w' ∧ J w' ∧ (fits b = true → Q b w') ∧ Oth W.heap.size bb W w') :
    Calls Tryz.prog 143 #[.pointer (some ⟨E.R, 0, none⟩), .func (.func 173) #[] #[p0, p1, p2]] V (FirstPost E fits J Q bb V) := by
  have hn := ho.kl
  have hb0 : Below V.heap.size V (V.alloc (.cells zeroT 25)) := (Below.refl _ _).alloc (Nat.le_refl _) _
  have hg0 := heap_alloc_new V (.cells zeroT 25)
  have hV0 := hV.next hb0
  have hJ0 := hJ _ _ hJV (Oth.of hb0)
  have hO0 : Ot2 V.heap.size E.gb bb V (V.alloc (.cells zeroT 25)) := Ot2.of1 (Oth.of hb0)
  obtain ⟨r0, r1, r2⟩ := cell3 hV0.cells
  unfold zeroT at *
  have HV0 := Lib.hid hV0
  have HJ0 := Lib.hid hJ0
  have HO0 := Lib.hid hO0
  have HG0 := Lib.hid hg0
  have HJ := Lib.hid hJ
  have HQ := Lib.hid hQ
  have HC := Lib.hid hC
  have HBB := Lib.hid hbb
  have HGL := Lib.hid hV.blt
  have HZR := Lib.hid hV.rlt
  have HZK := Lib.hid hV.gk
  obtain ⟨z, hz⟩ : ∃ z, z = V.heap.size := ⟨_, rfl⟩
  have HZ := Lib.hid hz
  clear hb0 hg0 hV0 hJ0 hO0 hJ hQ hC hV hJV hbb
  rw [← hz] at HO0 HG0 HJ HQ HBB HGL HZR HZK
  clear hz
  go_enter Tryz.func143, Tryz.ntmps143
  go_wp2
  rw [← HZ.out]
  go_loopw [13] (fun iv wr => ∃ i : Nat, i ≤ E.ks.length ∧ iv = .int .i64 (i : Nat) ∧ Hid (E.lies wr) ∧ Hid (J wr) ∧ Hid (Ot2 z E.gb bb V wr) ∧ Hid (wr.heap[z]? = some (.cells #[.int .i64 0, .string ⟨⟨[]⟩⟩, .int .i64 0, .slice none 0 0] 25 (0, 0))) ∧ Hid ((E.ks.take i).all (fun k => !fits (Cy.kb E.c k.s k.n)) = true)) (fun iv _ => E.ks.length - (intOf iv).toNat)
  case atStart => exact ⟨0, by omega, rfl, HV0, HJ0, HO0, HG0, Lib.hid (by simp)⟩
  case round =>
    obtain ⟨i, hi, rfl, HE, HJW, HO, HG, HA⟩ := hrel
    clear HV0 HJ0 HO0 HG0
    by_cases hlt : i < E.ks.length
    · have hil : (i : Int) < (E.ks.length : Int) := by omega
      obtain ⟨bb', bo, kk, ks, km, kq, KB, kcb, hK, hSb, hx, d0, d1, d2, d3, hrep⟩ := trow_get HE.out.keys (Below.refl wr.heap.size wr) (fun b hb => by subst hb; exact HE.out.gk) hlt
      have hki : E.ks[i]? = some E.ks[i] := List.getElem?_eq_getElem hlt
      obtain ⟨s, n, hkf, hsl⟩ := key_form ho hki
      rw [hkf] at hki hx
      injection hx with e1 e2 e3 e4
      subst e1 e2 e3 e4
      obtain ⟨A', c', hv', hin, -⟩ := rep_mk.1 hrep
      simp only [List.length_nil] at d3
      have HKI := Lib.hid hki
      have HIN := Lib.hid hin
      have hta := List.take_succ_eq_append_getElem hlt
      rw [hkf] at hta
      have HTA := Lib.hid hta
      have hzw : z < wr.heap.size := (Array.getElem?_eq_some_iff.1 HG.out).1
      have hbw : Below wr.heap.size wr (wr.alloc (.cells #[.int .i64 2, .string ⟨⟨s⟩⟩, .int .i64 n, .slice KB 0 kcb] 25)) := (Below.refl _ _).alloc (Nat.le_refl _) _
      have hbg := heap_alloc_new wr (.cells #[.int .i64 2, .string ⟨⟨s⟩⟩, .int .i64 n, .slice KB 0 kcb] 25)
      have hbs : (wr.alloc (.cells #[.int .i64 2, .string ⟨⟨s⟩⟩, .int .i64 n, .slice KB 0 kcb] 25)).heap.size = wr.heap.size + 1 := by simp
      have HE1 := Lib.hid (HE.out.next hbw)
      have HJ1 := Lib.hid (HJ.out _ _ HJW.out (Oth.of (hbw.mono (Nat.le_of_lt hzw))))
      have HO1 := Lib.hid (HO.out.trans (Ot2.of1 (Oth.of (hbw.mono (Nat.le_of_lt hzw)))))
      have HG1 := Lib.hid ((hbw.block z hzw).trans HG.out)
      have HBG := Lib.hid hbg
      have HBS := Lib.hid hbs
      have HZW := Lib.hid hzw
      obtain ⟨rr0, rr1, rr2⟩ := cell3 HE.out.cells
      rw [hK] at rr1
      have HK := Lib.hid hK
      have HKF := Lib.hid hkf
      clear hbw hbg hbs hzw HE HJW HO HG hrep hv' hin hta hki hsl hkf r0 r1 r2 hSb
      go_wp2_with fail
      clear hK
      generalize wr.alloc (.cells #[.int .i64 2, .string ⟨⟨s⟩⟩, .int .i64 n, .slice KB 0 kcb] 25) = W1 at *
      refine (base_any E ho i _ HKI.out W1 HE1.out).mono ?_
      rintro _ w2 ⟨rfl, he2, ho2⟩
      have hbs := HBS.out
      have hzw := HZW.out
      have HJ2 := Lib.hid (HJ.out _ _ HJ1.out (ho2.mono (by omega)))
      have HO2 := Lib.hid (HO1.out.trans (Ot2.of1 (ho2.mono (by omega))))
      have HG2 := Lib.hid ((ho2.block z (by omega) (by have := HGL.out; omega)).trans HG1.out)
      have HBG2 := Lib.hid ((ho2.block wr.heap.size (by omega) (by have := HGL.out; omega)).trans HBG.out)
      have HE2 := Lib.hid he2
      clear he2 ho2 HJ1 HO1 HG1 HBG HE1 HBS hbs hzw d0 d1 d2 d3 rr0 rr1 rr2
      simp only [Tm.s, Tm.n]
      go_wp2_with fail
      refine (HC.out _ w2 (kb_length _ _ _) HE2.out HJ2.out).mono ?_
      rintro _ w3 ⟨rfl, he3, hj3, hq3, ho3⟩
      have hz2 : z < w2.heap.size := (Array.getElem?_eq_some_iff.1 HG2.out).1
      have hy2 : wr.heap.size < w2.heap.size := (Array.getElem?_eq_some_iff.1 HBG2.out).1
      have hzw := HZW.out
      have HO3 := Lib.hid (HO2.out.trans (Ot2.of2 (ho3.mono (Nat.le_of_lt hz2))))
      have hg3 := (ho3.block z (by omega) (by have := HBB.out; omega)).trans HG2.out
      have hbg3 := (ho3.block wr.heap.size (by omega) (by have := HBB.out; omega)).trans HBG2.out
      have HE3 := Lib.hid he3
      have HJ3 := Lib.hid hj3
      have HG3 := Lib.hid hg3
      by_cases hf : fits (Cy.kb E.c s n) = true
      · have hQ3 := hq3 hf
        have HF := Lib.hid (fnd_skip HKI.out HA.out (by simpa [Tm.s, Tm.n] using hf))
        have hres := set4_self' (v0 := .int .i64 2) (v1 := .string ⟨⟨s⟩⟩) (v2 := .int .i64 n) (v3 := .slice KB 0 kcb) hg3
        have hbel : Below z w3 ((((w3.setCell ⟨z, 0, none⟩ (.int .i64 2)).setCell ⟨z, 1, none⟩ (.string ⟨⟨s⟩⟩)).setCell ⟨z, 2, none⟩ (.int .i64 n)).setCell ⟨z, 3, none⟩ (.slice KB 0 kcb)) := set4_below (Below.refl _ _) (Nat.le_refl _)
        have HRES := Lib.hid hres
        have HLIE := Lib.hid (HE3.out.keep4 ho (hbel) HGL.out (HZR.out) (HZK.out))
        have HQ3 := Lib.hid (HQ.out _ _ _ hQ3 (Oth.of hbel))
        have HJ4 := Lib.hid (HJ.out _ _ HJ3.out (Oth.of hbel))
        have HO4 := Lib.hid (HO3.out.trans (Ot2.of1 (Oth.of hbel)))
        obtain ⟨x0, x1, x2, x3⟩ := cell4 hbg3
        obtain ⟨y0, y1, y2, y3⟩ := cell4 hg3
        have f0 := fun j => frozen_of_row _ _ j _ _ hg3
        rw [hf]
        clear hf hq3 hQ3 ho3 he3 hj3 hg3 hbg3 hres hbel HE2 HE3 HJ2 HJ3 HO2 HO3 HG2 HG3 HBG2 hz2 hy2 hzw HA HTA
        go_wp2
        obtain ⟨y0, y1, y2, y3⟩ := cell4 HRES.out
        refine bodyPost_ret (v := .tuple #[.agg #[.int .i64 2, .string ⟨⟨s⟩⟩, .int .i64 n, .slice KB 0 kcb], .bool true]) (by simp [results, Tryz.results143, go_sem, y0, y1, y2, y3]) rfl ?_
        unfold FirstPost
        rw [HF.out]
        exact ⟨⟨⟨KB, kcb, rfl⟩, HIN.out, HQ3.out⟩, HLIE.out, HJ4.out, by rw [← HZ.out]; exact HO4.out⟩
      · have hf' : fits (Cy.kb E.c s n) = false := by simpa using hf
        have HT : Hid ((E.ks.take (i + 1)).all (fun k => !fits (Cy.kb E.c k.s k.n)) = true) := by
          rw [Hid, HTA.out, List.all_append, HA.out]; simp [Tm.s, Tm.n, hf']
        rw [hf']
        clear hf hf' hq3 ho3 he3 hj3 hg3 hbg3 HE2 HJ2 HO2 HG2 HBG2 hz2 hy2 hzw HA HTA
        go_wp2
        go_roundw
        case rel => exact ⟨i + 1, by omega, by go_num, HE3, HJ3, HO3, HG3, HT⟩
        case measure => simp [intOf]; omega
    · have hie : E.ks.take i = E.ks := List.take_of_length_le (by omega)
      have hA := HA.out
      rw [hie] at hA
      have hfn := fnd_none hA
      have HF := Lib.hid hfn
      obtain ⟨d0, d1, d2, d3⟩ := cell4 HG.out
      have f0 := fun j => frozen_of_row _ _ j _ _ HG.out
      have hres := set4_self' (v0 := .int .i64 0) (v1 := .string ⟨⟨[]⟩⟩) (v2 := .int .i64 0) (v3 := .slice none 0 0) HG.out
      have hbel : Below z wr ((((wr.setCell ⟨z, 0, none⟩ (.int .i64 0)).setCell ⟨z, 1, none⟩ (.string ⟨⟨[]⟩⟩)).setCell ⟨z, 2, none⟩ (.int .i64 0)).setCell ⟨z, 3, none⟩ (.slice none 0 0)) := set4_below (Below.refl _ _) (Nat.le_refl _)
      have HRES := Lib.hid hres
      have HLIE := Lib.hid (HE.out.keep4 ho (hbel) HGL.out (HZR.out) (HZK.out))
      have HJ4 := Lib.hid (HJ.out _ _ HJW.out (Oth.of hbel))
      have HO4 := Lib.hid (HO.out.trans (Ot2.of1 (Oth.of hbel)))
      clear hA HA hie hfn hres hbel HE HJW HO HG r0 r1 r2
      go_wp2
      obtain ⟨y0, y1, y2, y3⟩ := cell4 HRES.out
      refine bodyPost_ret (v := .tuple #[.agg #[.int .i64 0, .string ⟨⟨[]⟩⟩, .int .i64 0, .slice none 0 0], .bool false]) (by simp [results, Tryz.results143, go_sem, y0, y1, y2, y3]) rfl ?_
      unfold FirstPost
      rw [HF.out]
      exact ⟨rfl, HLIE.out, HJ4.out, by rw [← HZ.out]; exact HO4.out⟩
end Go.Proofs.YticofjbngfjjlaaGreatDoor.Cy

/- carry: first, with the closure of seal. (Laid with NS=1; written by wip/tools/gen/cyu2.py.) -/

namespace Go.Proofs.YticofjbngfjjlaaGreatDoor.Cy
open Go.RowKit
open Te Te.Tt
open Wi.Wr (It wr wrs)

set_option maxHeartbeats 4000000 in
set_option maxRecDepth 100000 in
theorem first_seal (E : Rd) (ho : E.ok) (fits : List UInt8 → Bool) (J : World → Prop) (Q : List UInt8 → World → Prop) (bb : Nat) (p0 p1 p2 : Value) (V : World) (hV : E.lies V) (hJV : J V)
    (hJ : ∀ W W', J W → Oth V.heap.size E.gb W W' → J W') (hQ : ∀ b W W', Q b W → Oth V.heap.size E.gb W W' → Q b W') (hbb : bb < V.heap.size)
    (hC : ∀ b W, b.length = 32 → E.lies W → J W → Calls Tryz.prog 146 #[.string ⟨⟨b⟩⟩, p0, p1, p2] W fun e w' => e = .returned (.bool (fits b)) ∧ E.lies w' ∧ J w' ∧ (fits b = true → Q b w') ∧ Oth W.heap.size bb W w') :
    Calls Tryz.prog 143 #[.pointer (some ⟨E.R, 0, none⟩), .func (.func 146) #[] #[p0, p1, p2]] V (FirstPost E fits J Q bb V) := by
  have hn := ho.kl
  have hb0 : Below V.heap.size V (V.alloc (.cells zeroT 25)) := (Below.refl _ _).alloc (Nat.le_refl _) _
  have hg0 := heap_alloc_new V (.cells zeroT 25)
  have hV0 := hV.next hb0
  have hJ0 := hJ _ _ hJV (Oth.of hb0)
  have hO0 : Ot2 V.heap.size E.gb bb V (V.alloc (.cells zeroT 25)) := Ot2.of1 (Oth.of hb0)
  obtain ⟨r0, r1, r2⟩ := cell3 hV0.cells
  unfold zeroT at *
  have HV0 := Lib.hid hV0
  have HJ0 := Lib.hid hJ0
  have HO0 := Lib.hid hO0
  have HG0 := Lib.hid hg0
  have HJ := Lib.hid hJ
  have HQ := Lib.hid hQ
  have HC := Lib.hid hC
  have HBB := Lib.hid hbb
  have HGL := Lib.hid hV.blt
  have HZR := Lib.hid hV.rlt
  have HZK := Lib.hid hV.gk
  obtain ⟨z, hz⟩ : ∃ z, z = V.heap.size := ⟨_, rfl⟩
  have HZ := Lib.hid hz
  clear hb0 hg0 hV0 hJ0 hO0 hJ hQ hC hV hJV hbb
  rw [← hz] at HO0 HG0 HJ HQ HBB HGL HZR HZK
  clear hz
  go_enter Tryz.func143, Tryz.ntmps143
  go_wp2
  rw [← HZ.out]
  go_loopw [13] (fun iv wr => ∃ i : Nat, i ≤ E.ks.length ∧ iv = .int .i64 (i : Nat) ∧ Hid (E.lies wr) ∧ Hid (J wr) ∧ Hid (Ot2 z E.gb bb V wr) ∧ Hid (wr.heap[z]? = some (.cells #[.int .i64 0, .string ⟨⟨[]⟩⟩, .int .i64 0, .slice none 0 0] 25 (0, 0))) ∧ Hid ((E.ks.take i).all (fun k => !fits (Cy.kb E.c k.s k.n)) = true)) (fun iv _ => E.ks.length - (intOf iv).toNat)
  case atStart => exact ⟨0, by omega, rfl, HV0, HJ0, HO0, HG0, Lib.hid (by simp)⟩
  case round =>
    obtain ⟨i, hi, rfl, HE, HJW, HO, HG, HA⟩ := hrel
    clear HV0 HJ0 HO0 HG0
    by_cases hlt : i < E.ks.length
    · have hil : (i : Int) < (E.ks.length : Int) := by omega
      obtain ⟨bb', bo, kk, ks, km, kq, KB, kcb, hK, hSb, hx, d0, d1, d2, d3, hrep⟩ := trow_get HE.out.keys (Below.refl wr.heap.size wr) (fun b hb => by subst hb; exact HE.out.gk) hlt
      have hki : E.ks[i]? = some E.ks[i] := List.getElem?_eq_getElem hlt
      obtain ⟨s, n, hkf, hsl⟩ := key_form ho hki
      rw [hkf] at hki hx
      injection hx with e1 e2 e3 e4
      subst e1 e2 e3 e4
      obtain ⟨A', c', hv', hin, -⟩ := rep_mk.1 hrep
      simp only [List.length_nil] at d3
      have HKI := Lib.hid hki
      have HIN := Lib.hid hin
      have hta := List.take_succ_eq_append_getElem hlt
      rw [hkf] at hta
      have HTA := Lib.hid hta
      have hzw : z < wr.heap.size := (Array.getElem?_eq_some_iff.1 HG.out).1
      have hbw : Below wr.heap.size wr (wr.alloc (.cells #[.int .i64 2, .string ⟨⟨s⟩⟩, .int .i64 n, .slice KB 0 kcb] 25)) := (Below.refl _ _).alloc (Nat.le_refl _) _
      have hbg := heap_alloc_new wr (.cells #[.int .i64 2, .string ⟨⟨s⟩⟩, .int .i64 n, .slice KB 0 kcb] 25)
      have hbs : (wr.alloc (.cells #[.int .i64 2, .string ⟨⟨s⟩⟩, .int .i64 n, .slice KB 0 kcb] 25)).heap.size = wr.heap.size + 1 := by simp
      have HE1 := Lib.hid (HE.out.next hbw)
      have HJ1 := Lib.hid (HJ.out _ _ HJW.out (Oth.of (hbw.mono (Nat.le_of_lt hzw))))
      have HO1 := Lib.hid (HO.out.trans (Ot2.of1 (Oth.of (hbw.mono (Nat.le_of_lt hzw)))))
      have HG1 := Lib.hid ((hbw.block z hzw).trans HG.out)
      have HBG := Lib.hid hbg
      have HBS := Lib.hid hbs
      have HZW := Lib.hid hzw
      obtain ⟨rr0, rr1, rr2⟩ := cell3 HE.out.cells
      rw [hK] at rr1
      have HK := Lib.hid hK
      have HKF := Lib.hid hkf
      clear hbw hbg hbs hzw HE HJW HO HG hrep hv' hin hta hki hsl hkf r0 r1 r2 hSb
      go_wp2_with fail
      clear hK
      generalize wr.alloc (.cells #[.int .i64 2, .string ⟨⟨s⟩⟩, .int .i64 n, .slice KB 0 kcb] 25) = W1 at *
      refine (base_any E ho i _ HKI.out W1 HE1.out).mono ?_
      rintro _ w2 ⟨rfl, he2, ho2⟩
      have hbs := HBS.out
      have hzw := HZW.out
      have HJ2 := Lib.hid (HJ.out _ _ HJ1.out (ho2.mono (by omega)))
      have HO2 := Lib.hid (HO1.out.trans (Ot2.of1 (ho2.mono (by omega))))
      have HG2 := Lib.hid ((ho2.block z (by omega) (by have := HGL.out; omega)).trans HG1.out)
      have HBG2 := Lib.hid ((ho2.block wr.heap.size (by omega) (by have := HGL.out; omega)).trans HBG.out)
      have HE2 := Lib.hid he2
      clear he2 ho2 HJ1 HO1 HG1 HBG HE1 HBS hbs hzw d0 d1 d2 d3 rr0 rr1 rr2
      simp only [Tm.s, Tm.n]
      go_wp2_with fail
      refine (HC.out _ w2 (kb_length _ _ _) HE2.out HJ2.out).mono ?_
      rintro _ w3 ⟨rfl, he3, hj3, hq3, ho3⟩
      have hz2 : z < w2.heap.size := (Array.getElem?_eq_some_iff.1 HG2.out).1
      have hy2 : wr.heap.size < w2.heap.size := (Array.getElem?_eq_some_iff.1 HBG2.out).1
      have hzw := HZW.out
      have HO3 := Lib.hid (HO2.out.trans (Ot2.of2 (ho3.mono (Nat.le_of_lt hz2))))
      have hg3 := (ho3.block z (by omega) (by have := HBB.out; omega)).trans HG2.out
      have hbg3 := (ho3.block wr.heap.size (by omega) (by have := HBB.out; omega)).trans HBG2.out
      have HE3 := Lib.hid he3
      have HJ3 := Lib.hid hj3
      have HG3 := Lib.hid hg3
      by_cases hf : fits (Cy.kb E.c s n) = true
      · have hQ3 := hq3 hf
        have HF := Lib.hid (fnd_skip HKI.out HA.out (by simpa [Tm.s, Tm.n] using hf))
        have hres := set4_self' (v0 := .int .i64 2) (v1 := .string ⟨⟨s⟩⟩) (v2 := .int .i64 n) (v3 := .slice KB 0 kcb) hg3
        have hbel : Below z w3 ((((w3.setCell ⟨z, 0, none⟩ (.int .i64 2)).setCell ⟨z, 1, none⟩ (.string ⟨⟨s⟩⟩)).setCell ⟨z, 2, none⟩ (.int .i64 n)).setCell ⟨z, 3, none⟩ (.slice KB 0 kcb)) := set4_below (Below.refl _ _) (Nat.le_refl _)
        have HRES := Lib.hid hres
        have HLIE := Lib.hid (HE3.out.keep4 ho (hbel) HGL.out (HZR.out) (HZK.out))
        have HQ3 := Lib.hid (HQ.out _ _ _ hQ3 (Oth.of hbel))
        have HJ4 := Lib.hid (HJ.out _ _ HJ3.out (Oth.of hbel))
        have HO4 := Lib.hid (HO3.out.trans (Ot2.of1 (Oth.of hbel)))
        obtain ⟨x0, x1, x2, x3⟩ := cell4 hbg3
        obtain ⟨y0, y1, y2, y3⟩ := cell4 hg3
        have f0 := fun j => frozen_of_row _ _ j _ _ hg3
        rw [hf]
        clear hf hq3 hQ3 ho3 he3 hj3 hg3 hbg3 hres hbel HE2 HE3 HJ2 HJ3 HO2 HO3 HG2 HG3 HBG2 hz2 hy2 hzw HA HTA
        go_wp2
        obtain ⟨y0, y1, y2, y3⟩ := cell4 HRES.out
        refine bodyPost_ret (v := .tuple #[.agg #[.int .i64 2, .string ⟨⟨s⟩⟩, .int .i64 n, .slice KB 0 kcb], .bool true]) (by simp [results, Tryz.results143, go_sem, y0, y1, y2, y3]) rfl ?_
        unfold FirstPost
        rw [HF.out]
        exact ⟨⟨⟨KB, kcb, rfl⟩, HIN.out, HQ3.out⟩, HLIE.out, HJ4.out, by rw [← HZ.out]; exact HO4.out⟩
      · have hf' : fits (Cy.kb E.c s n) = false := by simpa using hf
        have HT : Hid ((E.ks.take (i + 1)).all (fun k => !fits (Cy.kb E.c k.s k.n)) = true) := by
          rw [Hid, HTA.out, List.all_append, HA.out]; simp [Tm.s, Tm.n, hf']
        rw [hf']
        clear hf hf' hq3 ho3 he3 hj3 hg3 hbg3 HE2 HJ2 HO2 HG2 HBG2 hz2 hy2 hzw HA HTA
        go_wp2
        go_roundw
        case rel => exact ⟨i + 1, by omega, by go_num, HE3, HJ3, HO3, HG3, HT⟩
        case measure => simp [intOf]; omega
    · have hie : E.ks.take i = E.ks := List.take_of_length_le (by omega)
      have hA := HA.out
      rw [hie] at hA
      have hfn := fnd_none hA
      have HF := Lib.hid hfn
      obtain ⟨d0, d1, d2, d3⟩ := cell4 HG.out
      have f0 := fun j => frozen_of_row _ _ j _ _ HG.out
      have hres := set4_self' (v0 := .int .i64 0) (v1 := .string ⟨⟨[]⟩⟩) (v2 := .int .i64 0) (v3 := .slice none 0 0) HG.out
      have hbel : Below z wr ((((wr.setCell ⟨z, 0, none⟩ (.int .i64 0)).setCell ⟨z, 1, none⟩ (.string ⟨⟨[]⟩⟩)).setCell ⟨z, 2, none⟩ (.int .i64 0)).setCell ⟨z, 3, none⟩ (.slice none 0 0)) := set4_below (Below.refl _ _) (Nat.le_refl _)
      have HRES := Lib.hid hres
      have HLIE := Lib.hid (HE.out.keep4 ho (hbel) HGL.out (HZR.out) (HZK.out))
      have HJ4 := Lib.hid (HJ.out _ _ HJW.out (Oth.of hbel))
      have HO4 := Lib.hid (HO.out.trans (Ot2.of1 (Oth.of hbel)))
      clear hA HA hie hfn hres hbel HE HJW HO HG r0 r1 r2
      go_wp2
      obtain ⟨y0, y1, y2, y3⟩ := cell4 HRES.out
      refine bodyPost_ret (v := .tuple #[.agg #[.int .i64 0, .string ⟨⟨[]⟩⟩, .int .i64 0, .slice none 0 0], .bool false]) (by simp [results, Tryz.results143, go_sem, y0, y1, y2, y3]) rfl ?_
      unfold FirstPost
      rw [HF.out]
      exact ⟨rfl, HLIE.out, HJ4.out, by rw [← HZ.out]; exact HO4.out⟩
end Go.Proofs.YticofjbngfjjlaaGreatDoor.Cy

