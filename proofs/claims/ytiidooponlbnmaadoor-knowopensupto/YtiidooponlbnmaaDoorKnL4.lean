/- The law KnowOpens, walked. (Laid with NS=1; written by gen/knl4.py.) -/
import Derived.Test.YtiidooponlbnmaaDoorKnSe
import Derived.Test.YtiidooponlbnmaaDoorKnL1
import Derived.Test.YtiidooponlbnmaaDoorCyOpen
namespace Go.Proofs.YtiidooponlbnmaaDoor.Kn
open Go.RowKit Go.Sort
open Te Te.Tt
open Go (Lit DataW MemPlace keyOf maxLen)

/-- Of a seal alone, nothing but it is known. -/
theorem cl_seal {a b : Tm} {n : Int} {H : Tm → Prop} (h : ∀ x, H x → x = Tm.mk 4 [] n [a, b]) {x : Tm} (ha : a.k = 2) (hx : Cl H x) : x = Tm.mk 4 [] n [a, b] := by
  induction hx with
  | heard hx => exact h _ hx
  | list _ _ ih => injection ih with h1; omega
  | sum _ ih => injection ih with h1; omega
  | sld _ _ ih ih2 =>
    rename_i s m c d _ _
    injection ih with h1 h2 h3 h4
    injection h4 with h5 h6
    rw [h5] at ih2
    rw [ih2] at ha
    exact absurd ha (by show ¬ (4 : Int) = 2; omega)
theorem ne_part {a b : Tm} {n : Int} : b ≠ Tm.mk 4 [] n [a, b] := fun e => by
  have h := congrArg sz e
  simp only [sz, Te.Tt.szs] at h
  omega
theorem shk_cl {a : Tm} {H : Tm → Prop} (h : ∀ x, H x → shw a a x = false) {x : Tm} (hx : Cl H x) : shw a a x = false := by
  induction hx with
  | heard hx => exact h _ hx
  | list _ hy ih => exact shw_list ih hy
  | sum _ ih => exact shw_two (.inr rfl) ih (fun ht => by have := ht.1; omega)
  | sld _ _ ih ih2 => exact shw_two (.inl rfl) ih fun ht => ht.2.2.2 rfl
/-- A key that is known of a list of a sum and a number stands in the body. -/
theorem key_shows {a b : Tm} {n : Int} {H : Tm → Prop} (ha : a.k = 2) (h : ∀ x, H x → x = Tm.mk 3 [] 0 [Tm.mk 5 [] n [a, b], Tm.mk 1 [] 7 []]) (hc : Cl H a) : shw a a b = true := by
  cases hs : shw a a b with
  | true => rfl
  | false =>
    have hk : ∀ x, H x → shw a a x = false := fun x hx => by
      rw [h x hx]
      have n3 : Tm.mk 3 [] 0 [Tm.mk 5 [] n [a, b], Tm.mk 1 [] 7 []] ≠ a := fun e => by rw [← e] at ha; exact absurd ha (by show ¬ (3 : Int) = 2; omega)
      have n5 : Tm.mk 5 [] n [a, b] ≠ a := fun e => by rw [← e] at ha; exact absurd ha (by show ¬ (5 : Int) = 2; omega)
      have n1 : Tm.mk 1 [] 7 [] ≠ a := fun e => by rw [← e] at ha; exact absurd ha (by show ¬ (1 : Int) = 2; omega)
      rw [shw_no n3 (fun ht => by have := ht.1; omega), if_neg (fun hs => by rcases hs with h | h <;> omega)]
      simp only [shws]
      rw [shw_no n5 (fun ht => by have := ht.1; omega), if_pos (show skp 5 from .inr rfl), shw_no n1 (fun ht => by have := ht.1; omega), if_neg (fun hs => by rcases hs with h | h <;> omega)]
      simp [shws, hs]
    have := shk_cl hk hc
    rw [shw_self] at this
    exact Bool.noConfusion this

theorem Sole.knows {V W : World} {g b c : Nat} {H : Tm → Prop} {P : Nat} (h : Sole V g b c H P W) (htab : TabB W.heap.size W) (x : Tm) (S : Nat → Prop) (v : Value) (hr : Rep W S x v) (hS : ∀ b, S b → b < W.heap.size) (hsz : sz x ≤ 262144) (r : Bool) (hq : r = true ↔ (vld 0 x = true ∧ Cl H x)) :
    Calls Tryd.prog 16 #[.pointer (some ⟨g, 0, none⟩), v] W fun e w' => e = .returned (.bool r) ∧ Below W.heap.size W w' := by
  obtain ⟨F, T, f, s, hs, hk⟩ := h.known
  have hc := Knows_any W F g b c T f s hs htab x S v hr hS hsz
  have e : (vld 0 x && decide (x ∈ s.kn)) = r := by
    rw [Bool.eq_iff_iff, hq]
    simp [hk]
  rw [e] at hc
  exact hc
theorem Two.one {V W : World} {g1 b1 c1 g2 b2 c2 : Nat} {H1 H2 : Tm → Prop} {P1 P2 : Nat} (h : Two V g1 b1 c1 g2 b2 c2 H1 H2 P1 P2 W) : Sole V g1 b1 c1 H1 P1 W := by
  obtain ⟨F1, F2, h1, h2, h3, h4⟩ := h
  exact ⟨F1, h1, h4⟩

set_option maxHeartbeats 16000000 in
set_option maxRecDepth 100000 in
theorem knowOpens_walk (x : Tm) (v : Value) (y : Tm) (u : Value) (f : Bool) (n : Int) (U : World) (h3 : sz x ≤ 262000) (h2 : sz y ≤ 1048576) (hrx : Rep U (Lo U) x v) (hry : Rep U (Lo U) y u) (htab : TabB U.heap.size U) :
    Calls Tryd.prog 7 #[v, u, .bool f, .int .i64 n] U fun e w' => e = .returned (.bool true) ∧ Below U.heap.size U w' := by
  obtain ⟨ak, at', an, al⟩ := x
  obtain ⟨gk, gt, gn, gl⟩ := y
  have hrx0 := hrx
  have hry0 := hry
  obtain ⟨SA, sc, rfl, -, -⟩ := rep_mk.1 hrx
  obtain ⟨GA, gc, rfl, -, -⟩ := rep_mk.1 hry
  obtain ⟨V, hV⟩ : ∃ V, V = (U.alloc (.cells #[.int .i64 ak, .string ⟨⟨at'⟩⟩, .int .i64 an, .slice SA al.length sc] 33)).alloc (.cells #[.int .i64 gk, .string ⟨⟨gt⟩⟩, .int .i64 gn, .slice GA gl.length gc] 33) := ⟨_, rfl⟩
  obtain ⟨z, hz⟩ : ∃ z, z = U.heap.size := ⟨_, rfl⟩
  have hb0 : Below U.heap.size U V := by rw [hV]; exact ((Below.refl _ _).alloc (Nat.le_refl _) _).alloc (by simp) _
  have hg0 : V.heap[z]? = some (.cells #[.int .i64 ak, .string ⟨⟨at'⟩⟩, .int .i64 an, .slice SA al.length sc] 33 (0, 0)) := by rw [hV, Below.heap_alloc _ _ _ (by simp; omega), hz]; exact heap_alloc_new U _
  have hg1 : V.heap[z + 1]? = some (.cells #[.int .i64 gk, .string ⟨⟨gt⟩⟩, .int .i64 gn, .slice GA gl.length gc] 33 (0, 0)) := by
    have e := heap_alloc_new (U.alloc (.cells #[.int .i64 ak, .string ⟨⟨at'⟩⟩, .int .i64 an, .slice SA al.length sc] 33)) (.cells #[.int .i64 gk, .string ⟨⟨gt⟩⟩, .int .i64 gn, .slice GA gl.length gc] 33)
    have es : (U.alloc (.cells #[.int .i64 ak, .string ⟨⟨at'⟩⟩, .int .i64 an, .slice SA al.length sc] 33)).heap.size = z + 1 := by rw [hz]; simp
    rw [es] at e
    rw [hV]; exact e
  have hrx' := rep_below hrx0 hb0 (fun _ h => h)
  have hry' := rep_below hry0 hb0 (fun _ h => h)
  have hlo : ∀ i, Lo U i → i < V.heap.size := fun i hi => Nat.lt_of_lt_of_le hi hb0.size
  have HOX : Hid (∀ W, Below V.heap.size V W → Calls Tryd.prog 22 #[.agg #[.int .i64 gk, .string ⟨⟨gt⟩⟩, .int .i64 gn, .slice GA gl.length gc], .int .i64 120] W fun e w' => e = .returned (.bool (decide (120 < sz (Tm.mk gk gt gn gl)))) ∧ Below W.heap.size W w') := fun W hW =>
    Large_any (Tm.mk gk gt gn gl) 120 (Lo U) _ W (by omega) (rep_below hry' hW hlo) (fun i hi => Nat.lt_of_lt_of_le (hlo i hi) hW.size)
  have HVX : Hid (∀ W, Below V.heap.size V W → Calls Tryd.prog 23 #[.agg #[.int .i64 ak, .string ⟨⟨at'⟩⟩, .int .i64 an, .slice SA al.length sc]] W fun e w' => e = .returned (.bool (vld 0 (Tm.mk ak at' an al))) ∧ Below W.heap.size W w') := fun W hW =>
    Valid_any (Tm.mk ak at' an al) (Lo U) _ W (by omega) (rep_below hrx' hW hlo) (fun i hi => Nat.lt_of_lt_of_le (hlo i hi) hW.size)
  obtain ⟨o1, ho1⟩ : ∃ o1, o1 = decide (120 < sz (Tm.mk gk gt gn gl)) := ⟨_, rfl⟩
  obtain ⟨o2, ho2⟩ : ∃ o2, o2 = vld 0 (Tm.mk ak at' an al) := ⟨_, rfl⟩
  rw [← ho1] at HOX
  rw [← ho2] at HVX
  have HO1 := Lib.hid ho1
  have HO2 := Lib.hid ho2
  have HRX := Lib.hid hrx'
  have HRY := Lib.hid hry'
  have HLO := Lib.hid hlo
  have hT := TabB.up htab hb0
  have HT := Lib.hid hT
  have HB0 := Lib.hid hb0
  have HVV := Lib.hid hV
  have HZZ := Lib.hid hz
  have HSX := Lib.hid h3
  have HC0 : Hid (∀ W, Below V.heap.size V W → W.cell? ⟨z, 0, none⟩ = some (.int .i64 ak) ∧ W.cell? ⟨z, 1, none⟩ = some (.string ⟨⟨at'⟩⟩) ∧ W.cell? ⟨z, 2, none⟩ = some (.int .i64 an) ∧ W.cell? ⟨z, 3, none⟩ = some (.slice SA al.length sc)) := fun W hW => cell4 ((hW.block z (Array.getElem?_eq_some_iff.1 hg0).1).trans hg0)
  have HC1 : Hid (∀ W, Below V.heap.size V W → W.cell? ⟨z + 1, 0, none⟩ = some (.int .i64 gk) ∧ W.cell? ⟨z + 1, 1, none⟩ = some (.string ⟨⟨gt⟩⟩) ∧ W.cell? ⟨z + 1, 2, none⟩ = some (.int .i64 gn) ∧ W.cell? ⟨z + 1, 3, none⟩ = some (.slice GA gl.length gc)) := fun W hW => cell4 ((hW.block (z + 1) (Array.getElem?_eq_some_iff.1 hg1).1).trans hg1)
  have HWK := Lib.hid (worksK_any V hT)
  clear h2 h3 hrx hry hrx0 hry0 hrx' hry' hlo htab hT ho1 ho2 hb0 hg0 hg1 hV hz
  go_enter Tryd.func7, Tryd.ntmps7
  go_wp2_with fail
  rw [← HVV.out, ← HZZ.out]
  refine HWK.out.mono ?_
  rintro _ w1 ⟨rfl, b1⟩
  have HB1 := Lib.hid b1
  clear b1 HWK
  obtain ⟨y0, y1, y2, y3⟩ := HC1.out w1 HB1.out
  go_wp2_with fail
  refine (HOX.out w1 HB1.out).mono ?_
  rintro _ w2 ⟨rfl, b2⟩
  have HB2 := Lib.hid (HB1.out.trans (b2.mono HB1.out.size))
  clear b2 HOX HB1 y0 y1 y2 y3
  obtain ⟨z0, z1, z2, z3⟩ := HC0.out w2 HB2.out
  cases o1
  case true =>
    go_wp2
    go_ret
    exact ⟨rfl, HB0.out.trans (HB2.out.mono HB0.out.size)⟩
  case false =>
  have HSY : Hid (sz (Tm.mk gk gt gn gl) ≤ 120) := by have := HO1.out; rw [eq_comm, decide_eq_false_iff_not] at this; rw [Hid]; omega
  clear HO1
  by_cases hak : ak = 2
  case neg =>
    have e1 : (ak == 2) = false := by simpa using hak
    go_wp2
    go_ret
    exact ⟨rfl, HB0.out.trans (HB2.out.mono HB0.out.size)⟩
  case pos =>
  subst hak
  go_wp2_with fail
  refine (HVX.out w2 HB2.out).mono ?_
  rintro _ w3 ⟨rfl, b3⟩
  have HB3 := Lib.hid (HB2.out.trans (b3.mono HB2.out.size))
  clear b3 HVX HB2 z0 z1 z2 z3
  cases o2
  case false =>
    go_wp2
    go_ret
    exact ⟨rfl, HB0.out.trans (HB3.out.mono HB0.out.size)⟩
  case true =>
  by_cases hn1 : n < 1
  case pos =>
    go_wp2
    go_ret
    exact ⟨rfl, HB0.out.trans (HB3.out.mono HB0.out.size)⟩
  case neg =>
  by_cases hn2 : 255 < n
  case pos =>
    go_wp2
    go_ret
    exact ⟨rfl, HB0.out.trans (HB3.out.mono HB0.out.size)⟩
  case neg =>
  have hIn : InR n := ⟨by omega, by omega⟩
  have HIN := Lib.hid hIn
  have hlo3 : ∀ i, Lo U i → i < w3.heap.size := fun i hi => Nat.lt_of_lt_of_le (HLO.out i hi) HB3.out.size
  have HLO3 := Lib.hid hlo3
  have HSE := Lib.hid (Seal_any (Tm.mk 2 at' an al) (Tm.mk gk gt gn gl) _ _ n (Lo U) w3 (rep_below HRX.out HB3.out HLO.out) (rep_below HRY.out HB3.out HLO.out) hlo3)
  obtain ⟨z0, z1, z2, z3⟩ := HC0.out w3 HB3.out
  obtain ⟨y0, y1, y2, y3⟩ := HC1.out w3 HB3.out
  clear hlo3 hIn
  go_wp2_with fail
  refine HSE.out.mono ?_
  rintro _ w4 ⟨u', rfl, b4, hnr⟩
  have hnr2 := hnr
  obtain ⟨gg, xs, rfl, hx1, hx2, hx3⟩ := hnr2
  have hrp := hnr.rep (fun i hi => Nat.lt_of_lt_of_le (HLO3.out i hi) b4.size) 4 [] n HIN.out
  have HRP := Lib.hid hrp
  have HB4 := Lib.hid (HB3.out.trans (b4.mono HB3.out.size))
  obtain ⟨w5, hw5⟩ : ∃ w5, w5 = w4.alloc (.cells #[.int .i64 4, .string ⟨#[]⟩, .int .i64 n, .slice (some ⟨gg, 0, none⟩) 2 2] 33) := ⟨_, rfl⟩
  obtain ⟨q, hq⟩ : ∃ q, q = w4.heap.size := ⟨_, rfl⟩
  have hg5 : w5.heap[q]? = some (.cells #[.int .i64 4, .string ⟨#[]⟩, .int .i64 n, .slice (some ⟨gg, 0, none⟩) 2 2] 33 (0, 0)) := by rw [hw5, hq]; exact heap_alloc_new w4 _
  have hb45 : Below w4.heap.size w4 w5 := by rw [hw5]; exact (Below.refl _ _).alloc (Nat.le_refl _) _
  have hb5 : Below V.heap.size V w5 := HB4.out.trans (hb45.mono HB4.out.size)
  have hrp5 := HRP.out.lo hb45
  have hup : ∀ W, Below w5.heap.size w5 W → Below V.heap.size V W := fun W h => hb5.trans (h.mono hb5.size)
  have KC0 : Hid (∀ W, Below w5.heap.size w5 W → W.cell? ⟨z, 0, none⟩ = some (.int .i64 2) ∧ W.cell? ⟨z, 1, none⟩ = some (.string ⟨⟨at'⟩⟩) ∧ W.cell? ⟨z, 2, none⟩ = some (.int .i64 an) ∧ W.cell? ⟨z, 3, none⟩ = some (.slice SA al.length sc)) := fun W hW => HC0.out W (hup W hW)
  have KC1 : Hid (∀ W, Below w5.heap.size w5 W → W.cell? ⟨z + 1, 0, none⟩ = some (.int .i64 gk) ∧ W.cell? ⟨z + 1, 1, none⟩ = some (.string ⟨⟨gt⟩⟩) ∧ W.cell? ⟨z + 1, 2, none⟩ = some (.int .i64 gn) ∧ W.cell? ⟨z + 1, 3, none⟩ = some (.slice GA gl.length gc)) := fun W hW => HC1.out W (hup W hW)
  have KCS : Hid (∀ W, Below w5.heap.size w5 W → W.cell? ⟨q, 0, none⟩ = some (.int .i64 4) ∧ W.cell? ⟨q, 1, none⟩ = some (.string ⟨#[]⟩) ∧ W.cell? ⟨q, 2, none⟩ = some (.int .i64 n) ∧ W.cell? ⟨q, 3, none⟩ = some (.slice (some ⟨gg, 0, none⟩) 2 2)) := fun W hW => cell4 ((hW.block q (Array.getElem?_eq_some_iff.1 hg5).1).trans hg5)
  have KRX : Hid (∀ W, Below w5.heap.size w5 W → Rep W (Lo U) (Tm.mk 2 at' an al) (.agg #[.int .i64 2, .string ⟨⟨at'⟩⟩, .int .i64 an, .slice SA al.length sc])) := fun W h => rep_below HRX.out (hup W h) HLO.out
  have KRY : Hid (∀ W, Below w5.heap.size w5 W → Rep W (Lo U) (Tm.mk gk gt gn gl) (.agg #[.int .i64 gk, .string ⟨⟨gt⟩⟩, .int .i64 gn, .slice GA gl.length gc])) := fun W h => rep_below HRY.out (hup W h) HLO.out
  have KRS : Hid (∀ W, Below w5.heap.size w5 W → Rep W (Lo w5) (Tm.mk 4 [] n [(Tm.mk 2 at' an al), (Tm.mk gk gt gn gl)]) (.agg #[.int .i64 4, .string ⟨#[]⟩, .int .i64 n, .slice (some ⟨gg, 0, none⟩) 2 2])) := fun W h => rep_below hrp5 h (fun _ h => h)
  have KT : Hid (TabB w5.heap.size w5) := HT.out.up hb5
  have KLO : Hid (∀ W, Below w5.heap.size w5 W → ∀ i, Lo U i → i < W.heap.size) := fun W h i hi => Nat.lt_of_lt_of_le (HLO.out i hi) (hup W h).size
  have KB : Hid (∀ W, Below w5.heap.size w5 W → Below U.heap.size U W) := fun W h => HB0.out.trans ((hup W h).mono HB0.out.size)
  have HK1 : Hid (sz (Tm.mk 2 at' an al) = 1) := by
    have hv := (vld_own HO2.out.symm).1
    rcases mis_kinds hv with h | h | h | h | h | h
    · exact absurd h.1 (by omega)
    · exact absurd h.1 (by omega)
    · have hl : al = [] := by simp_all
      rw [hl]; rfl
    · exact absurd h.1 (by omega)
    · exact absurd h.1 (by omega)
    · exact absurd h.1 (by omega)
  have HZS : Hid (sz (Tm.mk 4 [] n [(Tm.mk 2 at' an al), (Tm.mk gk gt gn gl)]) ≤ 122) := by rw [Hid]; have h1 := HK1.out; have h2 := HSY.out; simp only [sz, Te.Tt.szs] at h1 h2 ⊢; omega
  have HZL : Hid (sz (Tm.mk 3 [] 0 [Tm.mk 5 [] n [(Tm.mk 2 at' an al), (Tm.mk gk gt gn gl)], Tm.mk 1 [] 7 []]) ≤ 124) := by rw [Hid]; have h1 := HK1.out; have h2 := HSY.out; simp only [sz, Te.Tt.szs] at h1 h2 ⊢; omega
  have HW5 := Lib.hid hw5
  have HQQ := Lib.hid hq
  clear b4 hnr hx1 hx2 hx3 hrp HSE HLO3 HB3 z0 z1 z2 z3 y0 y1 y2 y3 hw5 hq hg5 hb45 hb5 hrp5 hup HRP HB4 HC0 HC1 HRX HRY HB0 HLO HT
  go_wp2_with fail
  rw [← HW5.out, ← HQQ.out]
  refine (New_any w5).mono ?_
  rintro _ w6 ⟨g1, d1, e1, rfl, hs6, b6⟩
  have HS6 : Hid (Sole w5 g1 d1 e1 (fun _ => False) 0 w6) := ⟨_, ⟨_, _, _, hs6, Inv.start, fun i hi => hi.1, by decide⟩, b6⟩
  have HB6 := Lib.hid b6
  clear hs6 b6 HW5 HQQ
  obtain ⟨o5, ho5⟩ : ∃ o5, o5 = vld 0 (Tm.mk 4 [] n [(Tm.mk 2 at' an al), (Tm.mk gk gt gn gl)]) := ⟨_, rfl⟩
  have hvs := Valid_any (Tm.mk 4 [] n [(Tm.mk 2 at' an al), (Tm.mk gk gt gn gl)]) (Lo w5) _ w6 (by have := HZS.out; omega) (KRS.out w6 HB6.out) (fun i hi => Nat.lt_of_lt_of_le hi HB6.out.size)
  rw [← ho5] at hvs
  have HVS := Lib.hid hvs
  have HO5 := Lib.hid ho5
  obtain ⟨q0, q1, q2, q3⟩ := KCS.out w6 HB6.out
  clear hvs ho5
  go_wp2_with fail
  refine HVS.out.mono ?_
  rintro _ w7 ⟨rfl, b7⟩
  have HB7 := Lib.hid (HB6.out.trans (b7.mono HB6.out.size))
  have HS7 := Lib.hid (HS6.out.below b7)
  clear b7 HS6 HB6 HVS q0 q1 q2 q3
  cases o5
  case false =>
    go_wp2
    go_ret
    exact ⟨rfl, KB.out _ HB7.out⟩
  case true =>
  have HVB : Hid (vld 0 (Tm.mk gk gt gn gl) = true) := vld_sub0 HO5.out.symm (by simp)
  cases f
  case true =>
    have hL1 := HS7.out.learn KT.out (Tm.mk 2 at' an al) (Lo U) _ (KRX.out w7 HS7.out.bel) (KLO.out w7 HS7.out.bel) 1 (by have := HK1.out; omega) (by omega)
    have HL1 := Lib.hid hL1
    obtain ⟨z0, z1, z2, z3⟩ := KC0.out w7 HS7.out.bel
    clear hL1
    go_wp2_with fail
    refine HL1.out.mono ?_
    rintro _ w8 ⟨rfl, ht⟩
    have HS8 := Lib.hid ht
    clear ht HL1 z0 z1 z2 z3
    have hL1 := HS8.out.learn KT.out (Tm.mk 4 [] n [(Tm.mk 2 at' an al), (Tm.mk gk gt gn gl)]) (Lo w5) _ (KRS.out w8 HS8.out.bel) (fun i hi => Nat.lt_of_lt_of_le hi HS8.out.bel.size) 300 (by have := HZS.out; omega) (by omega)
    have HL1 := Lib.hid hL1
    obtain ⟨q0, q1, q2, q3⟩ := KCS.out w8 HS8.out.bel
    clear hL1
    go_wp2_with fail
    refine HL1.out.mono ?_
    rintro _ w9 ⟨rfl, ht⟩
    have HS9 := Lib.hid ht
    clear ht HL1 q0 q1 q2 q3
    have hK := HS9.out.knows (KT.out.up HS9.out.bel) (Tm.mk gk gt gn gl) (Lo U) _ (KRY.out w9 HS9.out.bel) (KLO.out w9 HS9.out.bel) (by have := HSY.out; omega) true ⟨fun _ => ⟨HVB.out, (Cl.heard (.inr ⟨rfl, HO5.out.symm⟩)).sld (.heard (.inl (.inr ⟨rfl, HO2.out.symm⟩)))⟩, fun _ => rfl⟩
    have HK := Lib.hid hK
    obtain ⟨y0, y1, y2, y3⟩ := KC1.out w9 HS9.out.bel
    clear hK
    go_wp2_with fail
    refine HK.out.mono ?_
    rintro _ wA ⟨rfl, hb⟩
    have SA1 := Lib.hid (HS9.out.below hb)
    clear hb HK y0 y1 y2 y3
    obtain ⟨Hs, hHs⟩ : ∃ Hs : Tm → Prop, Hs = fun y => ((False ∨ (y = (Tm.mk 2 at' an al) ∧ vld 0 (Tm.mk 2 at' an al) = true)) ∨ (y = (Tm.mk 4 [] n [(Tm.mk 2 at' an al), (Tm.mk gk gt gn gl)]) ∧ vld 0 (Tm.mk 4 [] n [(Tm.mk 2 at' an al), (Tm.mk gk gt gn gl)]) = true)) := ⟨_, rfl⟩
    have HCK : Hid (Cl Hs (Tm.mk 2 at' an al)) := by rw [hHs]; exact .heard (.inl (.inr ⟨rfl, HO2.out.symm⟩))
    have HCS : Hid (Cl Hs (Tm.mk 4 [] n [(Tm.mk 2 at' an al), (Tm.mk gk gt gn gl)])) := by rw [hHs]; exact .heard (.inr ⟨rfl, HO5.out.symm⟩)
    have HCB : Hid (Cl Hs (Tm.mk gk gt gn gl)) := HCS.out.sld HCK.out
    rw [← hHs] at SA1
    clear hHs
    have hb5A := SA1.out.bel
    have HBA := Lib.hid hb5A
    clear hb5A
    go_wp2_with fail
    refine (New_any wA).mono ?_
    rintro _ wB ⟨g2, d2, e2, rfl, hsB, bB⟩
    have HTB : Hid (Two w5 g1 d1 e1 g2 d2 e2 Hs (fun _ => False) 300 0 wB) := by
      obtain ⟨F1, h1, h4⟩ := SA1.out
      exact ⟨F1, _, h1.below bB, ⟨_, _, _, hsB, Inv.start, fun i hi => Nat.le_trans h4.size hi.1, by decide⟩, fun i hi h => by have := h1.lt i hi; have := h.1; omega, h4.trans (bB.mono h4.size)⟩
    clear hsB bB SA1
    obtain ⟨o6, ho6⟩ : ∃ o6, o6 = vld 0 (Tm.mk 3 [] 0 [Tm.mk 5 [] n [(Tm.mk 2 at' an al), (Tm.mk gk gt gn gl)], Tm.mk 1 [] 7 []]) := ⟨_, rfl⟩
    have HO6 := Lib.hid ho6
    clear ho6
    have I7 : InR 7 := ⟨by omega, by omega⟩
    have I0 : InR 0 := ⟨by omega, by omega⟩
    have hbT := HTB.out.bel
    have HSU := Lib.hid (Sum_any (Tm.mk 2 at' an al) (Tm.mk gk gt gn gl) _ _ n (Lo U) wB (KRX.out wB hbT) (KRY.out wB hbT) (KLO.out wB hbT))
    have HLT := Lib.hid (KLO.out wB hbT)
    obtain ⟨z0, z1, z2, z3⟩ := KC0.out wB hbT
    obtain ⟨y0, y1, y2, y3⟩ := KC1.out wB hbT
    clear hbT
    go_wp2_with fail
    refine HSU.out.mono ?_
    rintro _ wC1 ⟨u2, rfl, bC, hnr⟩
    have hrC := hnr.rep (fun i hi => Nat.lt_of_lt_of_le (HLT.out i hi) bC.size) 5 [] n HIN.out
    obtain ⟨g5, xs, rfl, -, -, -⟩ := hnr
    have HRC := Lib.hid hrC
    have HTC := Lib.hid (HTB.out.below bC)
    clear bC hrC HSU HLT z0 z1 z2 z3 y0 y1 y2 y3
    go_wp2_with fail
    refine (Num_any 7 wC1).mono ?_
    rintro _ wD1 ⟨rfl, bD⟩
    have HRD := Lib.hid (HRC.out.lo bD)
    have HTD := Lib.hid (HTC.out.below bD)
    clear bD HRC HTC
    obtain ⟨wG1, hwG⟩ : ∃ W, W = wD1.alloc (.cells #[.int .i64 5, .string ⟨#[]⟩, .int .i64 n, .slice (some ⟨g5, 0, none⟩) 2 2, .int .i64 1, .string ⟨#[]⟩, .int .i64 7, .slice none 0 0] 33) := ⟨_, rfl⟩
    obtain ⟨r1, hr⟩ : ∃ r, r = wD1.heap.size := ⟨_, rfl⟩
    have hbG : Below wD1.heap.size wD1 wG1 := by rw [hwG]; exact (Below.refl _ _).alloc (Nat.le_refl _) _
    have HLI : Hid (Calls Tryd.prog 28 #[.slice (some ⟨r1, 0, none⟩) 2 2] wG1 fun e w' => ∃ u, e = .returned (.agg #[.int .i64 3, .string ⟨#[]⟩, .int .i64 0, u]) ∧ Below wG1.heap.size wG1 w' ∧ NewRow (Lo wD1) wG1.heap.size w' [(Tm.mk 5 [] n [(Tm.mk 2 at' an al), (Tm.mk gk gt gn gl)]), (Tm.mk 1 [] 7 [])] u) := by
      rw [hwG, hr]
      exact List_any [(Tm.mk 5 [] n [(Tm.mk 2 at' an al), (Tm.mk gk gt gn gl)]), (Tm.mk 1 [] 7 [])] (some ⟨wD1.heap.size, 0, none⟩) 2 (Lo wD1) _ (by simp) (lrow_two HRD.out (rep_flat wD1 (Lo wD1) 1 [] 7 I7) (fun _ h => h) _) (fun i hi => Nat.lt_of_lt_of_le hi ((Below.refl _ _).alloc (Nat.le_refl _) _).size)
    have HTG := Lib.hid (HTD.out.below hbG)
    have HWG := Lib.hid hwG
    have HRR := Lib.hid hr
    have HSG := Lib.hid hbG.size
    clear hwG hr hbG HRD HTD
    go_wp2_with fail
    rw [← HWG.out, ← HRR.out]
    refine HLI.out.mono ?_
    rintro _ wE1 ⟨u3, rfl, bE, hnr⟩
    have hrE := hnr.rep (fun i hi => Nat.lt_of_lt_of_le hi (Nat.le_trans HSG.out bE.size)) 3 [] 0 I0
    obtain ⟨g6, xs, rfl, -, -, -⟩ := hnr
    have HRE := Lib.hid hrE
    have HTE1 := Lib.hid (HTG.out.below bE)
    clear bE hrE HLI HWG HRR HSG HTG
    have hL1 := HTE1.out.flip.learn KT.out (Tm.mk 3 [] 0 [Tm.mk 5 [] n [(Tm.mk 2 at' an al), (Tm.mk gk gt gn gl)], Tm.mk 1 [] 7 []]) (Lo wE1) _ HRE.out (fun _ h => h) 200 (by have := HZL.out; omega) (by omega)
    have HL1 := Lib.hid hL1
    clear hL1 HRE
    go_wp2_with fail
    refine HL1.out.mono ?_
    rintro _ wF1 ⟨rfl, ht⟩
    obtain ⟨Hu, hHu⟩ : ∃ Hu : Tm → Prop, Hu = fun y => (False ∨ (y = (Tm.mk 3 [] 0 [Tm.mk 5 [] n [(Tm.mk 2 at' an al), (Tm.mk gk gt gn gl)], Tm.mk 1 [] 7 []]) ∧ vld 0 (Tm.mk 3 [] 0 [Tm.mk 5 [] n [(Tm.mk 2 at' an al), (Tm.mk gk gt gn gl)], Tm.mk 1 [] 7 []]) = true)) := ⟨_, rfl⟩
    rw [← hHu] at ht
    have HHU := Lib.hid hHu
    have HTF := Lib.hid ht.flip
    clear ht hHu HL1 HTE1
    have hbT := HTF.out.bel
    have HSU := Lib.hid (Sum_any (Tm.mk 2 at' an al) (Tm.mk gk gt gn gl) _ _ n (Lo U) wF1 (KRX.out wF1 hbT) (KRY.out wF1 hbT) (KLO.out wF1 hbT))
    have HLT := Lib.hid (KLO.out wF1 hbT)
    obtain ⟨z0, z1, z2, z3⟩ := KC0.out wF1 hbT
    obtain ⟨y0, y1, y2, y3⟩ := KC1.out wF1 hbT
    clear hbT
    go_wp2_with fail
    refine HSU.out.mono ?_
    rintro _ wC2 ⟨u2, rfl, bC, hnr⟩
    have hrC := hnr.rep (fun i hi => Nat.lt_of_lt_of_le (HLT.out i hi) bC.size) 5 [] n HIN.out
    obtain ⟨g5, xs, rfl, -, -, -⟩ := hnr
    have HRC := Lib.hid hrC
    have HTC := Lib.hid (HTF.out.below bC)
    clear bC hrC HSU HLT z0 z1 z2 z3 y0 y1 y2 y3
    go_wp2_with fail
    refine (Num_any 7 wC2).mono ?_
    rintro _ wD2 ⟨rfl, bD⟩
    have HRD := Lib.hid (HRC.out.lo bD)
    have HTD := Lib.hid (HTC.out.below bD)
    clear bD HRC HTC
    obtain ⟨wG2, hwG⟩ : ∃ W, W = wD2.alloc (.cells #[.int .i64 5, .string ⟨#[]⟩, .int .i64 n, .slice (some ⟨g5, 0, none⟩) 2 2, .int .i64 1, .string ⟨#[]⟩, .int .i64 7, .slice none 0 0] 33) := ⟨_, rfl⟩
    obtain ⟨r2, hr⟩ : ∃ r, r = wD2.heap.size := ⟨_, rfl⟩
    have hbG : Below wD2.heap.size wD2 wG2 := by rw [hwG]; exact (Below.refl _ _).alloc (Nat.le_refl _) _
    have HLI : Hid (Calls Tryd.prog 28 #[.slice (some ⟨r2, 0, none⟩) 2 2] wG2 fun e w' => ∃ u, e = .returned (.agg #[.int .i64 3, .string ⟨#[]⟩, .int .i64 0, u]) ∧ Below wG2.heap.size wG2 w' ∧ NewRow (Lo wD2) wG2.heap.size w' [(Tm.mk 5 [] n [(Tm.mk 2 at' an al), (Tm.mk gk gt gn gl)]), (Tm.mk 1 [] 7 [])] u) := by
      rw [hwG, hr]
      exact List_any [(Tm.mk 5 [] n [(Tm.mk 2 at' an al), (Tm.mk gk gt gn gl)]), (Tm.mk 1 [] 7 [])] (some ⟨wD2.heap.size, 0, none⟩) 2 (Lo wD2) _ (by simp) (lrow_two HRD.out (rep_flat wD2 (Lo wD2) 1 [] 7 I7) (fun _ h => h) _) (fun i hi => Nat.lt_of_lt_of_le hi ((Below.refl _ _).alloc (Nat.le_refl _) _).size)
    have HTG := Lib.hid (HTD.out.below hbG)
    have HWG := Lib.hid hwG
    have HRR := Lib.hid hr
    have HSG := Lib.hid hbG.size
    clear hwG hr hbG HRD HTD
    go_wp2_with fail
    rw [← HWG.out, ← HRR.out]
    refine HLI.out.mono ?_
    rintro _ wE2 ⟨u3, rfl, bE, hnr⟩
    have hrE := hnr.rep (fun i hi => Nat.lt_of_lt_of_le hi (Nat.le_trans HSG.out bE.size)) 3 [] 0 I0
    obtain ⟨g6, xs, rfl, -, -, -⟩ := hnr
    have HRE := Lib.hid hrE
    have HTE2 := Lib.hid (HTG.out.below bE)
    clear bE hrE HLI HWG HRR HSG HTG
    have hvl := Valid_any (Tm.mk 3 [] 0 [Tm.mk 5 [] n [(Tm.mk 2 at' an al), (Tm.mk gk gt gn gl)], Tm.mk 1 [] 7 []]) (Lo wE2) _ wE2 (by have := HZL.out; omega) HRE.out (fun _ h => h)
    rw [← HO6.out] at hvl
    have HVL := Lib.hid hvl
    clear hvl HRE
    go_wp2_with fail
    refine HVL.out.mono ?_
    rintro _ wK ⟨rfl, bK⟩
    have HTK := Lib.hid (HTE2.out.below bK)
    clear bK HVL HTE2
    have hbT := HTK.out.bel
    have HK := Lib.hid (HTK.out.one.knows (KT.out.up hbT) (Tm.mk gk gt gn gl) (Lo U) _ (KRY.out wK hbT) (KLO.out wK hbT) (by have := HSY.out; omega) true ⟨fun _ => ⟨HVB.out, HCB.out⟩, fun _ => rfl⟩)
    obtain ⟨y0, y1, y2, y3⟩ := KC1.out wK hbT
    clear hbT
    go_wp2_with fail
    refine HK.out.mono ?_
    rintro _ wL ⟨rfl, hb⟩
    have HTL := Lib.hid (HTK.out.below hb)
    clear hb HK y0 y1 y2 y3
    have hbT := HTL.out.bel
    have HK := Lib.hid (HTL.out.one.knows (KT.out.up hbT) (Tm.mk 2 at' an al) (Lo U) _ (KRX.out wL hbT) (KLO.out wL hbT) (by have := HK1.out; omega) true ⟨fun _ => ⟨HO2.out.symm, HCK.out⟩, fun _ => rfl⟩)
    obtain ⟨z0, z1, z2, z3⟩ := KC0.out wL hbT
    clear hbT
    go_wp2_with fail
    refine HK.out.mono ?_
    rintro _ wM ⟨rfl, hb⟩
    have HTM := Lib.hid (HTL.out.below hb)
    clear hb HK z0 z1 z2 z3
    cases o6
    case false =>
      go_wp2
      go_ret
      exact ⟨rfl, KB.out _ HTM.out.bel⟩
    case true =>
    have HCL : Hid (Cl Hu (Tm.mk 3 [] 0 [Tm.mk 5 [] n [(Tm.mk 2 at' an al), (Tm.mk gk gt gn gl)], Tm.mk 1 [] 7 []])) := by rw [HHU.out]; exact .heard (.inr ⟨rfl, HO6.out.symm⟩)
    have hbT := HTM.out.bel
    have HK := Lib.hid (HTM.out.flip.one.knows (KT.out.up hbT) (Tm.mk gk gt gn gl) (Lo U) _ (KRY.out wM hbT) (KLO.out wM hbT) (by have := HSY.out; omega) true ⟨fun _ => ⟨HVB.out, (Cl.list (y := (Tm.mk 5 [] n [(Tm.mk 2 at' an al), (Tm.mk gk gt gn gl)])) HCL.out (by simp)).sum⟩, fun _ => rfl⟩)
    obtain ⟨y0, y1, y2, y3⟩ := KC1.out wM hbT
    clear hbT
    go_wp2_with fail
    refine HK.out.mono ?_
    rintro _ wN ⟨rfl, hb⟩
    have HTN := Lib.hid (HTM.out.below hb)
    clear hb HK y0 y1 y2 y3
    go_wp2_with fail
    refine (Num_any 7 wN).mono ?_
    rintro _ wO ⟨rfl, bO⟩
    have HTO := Lib.hid (HTN.out.below bO)
    clear bO
    have hbT := HTO.out.bel
    have HK := Lib.hid (HTO.out.flip.one.knows (KT.out.up hbT) (Tm.mk 1 [] 7 []) (Lo wO) _ (rep_flat wO (Lo wO) 1 [] 7 I7) (fun _ h => h) (by decide) true ⟨fun _ => ⟨vld_sub0 HO6.out.symm (by simp), Cl.list (y := (Tm.mk 1 [] 7 [])) HCL.out (by simp)⟩, fun _ => rfl⟩)
    clear hbT
    go_wp2_with fail
    refine HK.out.mono ?_
    rintro _ wP ⟨rfl, hb⟩
    have HTP := Lib.hid (HTO.out.below hb)
    clear hb HK 
    obtain ⟨kq, hkq⟩ : ∃ kq : Bool, (kq = true ↔ (vld 0 (Tm.mk 2 at' an al) = true ∧ Cl Hu (Tm.mk 2 at' an al))) := by
      classical
      exact ⟨decide (vld 0 (Tm.mk 2 at' an al) = true ∧ Cl Hu (Tm.mk 2 at' an al)), by simp⟩
    have HKQ := Lib.hid hkq
    clear hkq
    have hbT := HTP.out.bel
    have HK := Lib.hid (HTP.out.flip.one.knows (KT.out.up hbT) (Tm.mk 2 at' an al) (Lo U) _ (KRX.out wP hbT) (KLO.out wP hbT) (by have := HK1.out; omega) kq HKQ.out)
    obtain ⟨z0, z1, z2, z3⟩ := KC0.out wP hbT
    clear hbT
    go_wp2_with fail
    refine HK.out.mono ?_
    rintro _ wQ ⟨rfl, hb⟩
    have HTQ := Lib.hid (HTP.out.below hb)
    clear hb HK z0 z1 z2 z3
    cases kq
    case false =>
      go_wp2
      go_ret
      exact ⟨rfl, KB.out _ HTQ.out.bel⟩
    case true =>
    have hsw : shw (Tm.mk 2 at' an al) (Tm.mk 2 at' an al) (Tm.mk gk gt gn gl) = true := key_shows rfl (fun x hx => by rw [HHU.out] at hx; exact hx.elim False.elim (·.1)) (HKQ.out.1 rfl).2
    have hbT := HTQ.out.bel
    have hsh := shows_any (Tm.mk 2 at' an al) (Tm.mk 2 at' an al) (by have := HK1.out; omega) (Tm.mk gk gt gn gl) (Lo U) _ _ _ wQ (by have := HSY.out; omega) (KRY.out wQ hbT) (KRX.out wQ hbT) (KRX.out wQ hbT) (KLO.out wQ hbT)
    rw [hsw] at hsh
    have HSH := Lib.hid hsh
    obtain ⟨z0, z1, z2, z3⟩ := KC0.out wQ hbT
    obtain ⟨y0, y1, y2, y3⟩ := KC1.out wQ hbT
    clear hsw hsh hbT
    go_wp2_with fail
    refine HSH.out.mono ?_
    rintro _ wR ⟨rfl, bR⟩
    have HTR := Lib.hid (HTQ.out.below bR)
    clear bR HSH z0 z1 z2 z3 y0 y1 y2 y3
    go_wp2
    go_ret
    exact ⟨rfl, KB.out _ HTR.out.bel⟩
  case false =>
    have hL1 := HS7.out.learn KT.out (Tm.mk 4 [] n [(Tm.mk 2 at' an al), (Tm.mk gk gt gn gl)]) (Lo w5) _ (KRS.out w7 HS7.out.bel) (fun i hi => Nat.lt_of_lt_of_le hi HS7.out.bel.size) 299 (by have := HZS.out; omega) (by omega)
    have HL1 := Lib.hid hL1
    obtain ⟨q0, q1, q2, q3⟩ := KCS.out w7 HS7.out.bel
    clear hL1
    go_wp2_with fail
    refine HL1.out.mono ?_
    rintro _ w8 ⟨rfl, ht⟩
    have HS8 := Lib.hid ht
    clear ht HL1 q0 q1 q2 q3
    have hK := HS8.out.knows (KT.out.up HS8.out.bel) (Tm.mk gk gt gn gl) (Lo U) _ (KRY.out w8 HS8.out.bel) (KLO.out w8 HS8.out.bel) (by have := HSY.out; omega) false ⟨fun h => Bool.noConfusion h, fun h => absurd (cl_seal (fun x hx => hx.elim False.elim (·.1)) rfl h.2) ne_part⟩
    have HK := Lib.hid hK
    obtain ⟨y0, y1, y2, y3⟩ := KC1.out w8 HS8.out.bel
    clear hK
    go_wp2_with fail
    refine HK.out.mono ?_
    rintro _ w9 ⟨rfl, hb⟩
    have HS9 := Lib.hid (HS8.out.below hb)
    clear hb HK y0 y1 y2 y3
    have hL1 := HS9.out.learn KT.out (Tm.mk 2 at' an al) (Lo U) _ (KRX.out w9 HS9.out.bel) (KLO.out w9 HS9.out.bel) 300 (by have := HK1.out; omega) (by omega)
    have HL1 := Lib.hid hL1
    obtain ⟨z0, z1, z2, z3⟩ := KC0.out w9 HS9.out.bel
    clear hL1
    go_wp2_with fail
    refine HL1.out.mono ?_
    rintro _ wA ⟨rfl, ht⟩
    have SA1 := Lib.hid ht
    clear ht HL1 z0 z1 z2 z3
    obtain ⟨Hs, hHs⟩ : ∃ Hs : Tm → Prop, Hs = fun y => ((False ∨ (y = (Tm.mk 4 [] n [(Tm.mk 2 at' an al), (Tm.mk gk gt gn gl)]) ∧ vld 0 (Tm.mk 4 [] n [(Tm.mk 2 at' an al), (Tm.mk gk gt gn gl)]) = true)) ∨ (y = (Tm.mk 2 at' an al) ∧ vld 0 (Tm.mk 2 at' an al) = true)) := ⟨_, rfl⟩
    have HCK : Hid (Cl Hs (Tm.mk 2 at' an al)) := by rw [hHs]; exact .heard (.inr ⟨rfl, HO2.out.symm⟩)
    have HCS : Hid (Cl Hs (Tm.mk 4 [] n [(Tm.mk 2 at' an al), (Tm.mk gk gt gn gl)])) := by rw [hHs]; exact .heard (.inl (.inr ⟨rfl, HO5.out.symm⟩))
    have HCB : Hid (Cl Hs (Tm.mk gk gt gn gl)) := HCS.out.sld HCK.out
    rw [← hHs] at SA1
    clear hHs
    have hb5A := SA1.out.bel
    have HBA := Lib.hid hb5A
    clear hb5A
    go_wp2_with fail
    refine (New_any wA).mono ?_
    rintro _ wB ⟨g2, d2, e2, rfl, hsB, bB⟩
    have HTB : Hid (Two w5 g1 d1 e1 g2 d2 e2 Hs (fun _ => False) 300 0 wB) := by
      obtain ⟨F1, h1, h4⟩ := SA1.out
      exact ⟨F1, _, h1.below bB, ⟨_, _, _, hsB, Inv.start, fun i hi => Nat.le_trans h4.size hi.1, by decide⟩, fun i hi h => by have := h1.lt i hi; have := h.1; omega, h4.trans (bB.mono h4.size)⟩
    clear hsB bB SA1
    obtain ⟨o6, ho6⟩ : ∃ o6, o6 = vld 0 (Tm.mk 3 [] 0 [Tm.mk 5 [] n [(Tm.mk 2 at' an al), (Tm.mk gk gt gn gl)], Tm.mk 1 [] 7 []]) := ⟨_, rfl⟩
    have HO6 := Lib.hid ho6
    clear ho6
    have I7 : InR 7 := ⟨by omega, by omega⟩
    have I0 : InR 0 := ⟨by omega, by omega⟩
    have hbT := HTB.out.bel
    have HSU := Lib.hid (Sum_any (Tm.mk 2 at' an al) (Tm.mk gk gt gn gl) _ _ n (Lo U) wB (KRX.out wB hbT) (KRY.out wB hbT) (KLO.out wB hbT))
    have HLT := Lib.hid (KLO.out wB hbT)
    obtain ⟨z0, z1, z2, z3⟩ := KC0.out wB hbT
    obtain ⟨y0, y1, y2, y3⟩ := KC1.out wB hbT
    clear hbT
    go_wp2_with fail
    refine HSU.out.mono ?_
    rintro _ wC1 ⟨u2, rfl, bC, hnr⟩
    have hrC := hnr.rep (fun i hi => Nat.lt_of_lt_of_le (HLT.out i hi) bC.size) 5 [] n HIN.out
    obtain ⟨g5, xs, rfl, -, -, -⟩ := hnr
    have HRC := Lib.hid hrC
    have HTC := Lib.hid (HTB.out.below bC)
    clear bC hrC HSU HLT z0 z1 z2 z3 y0 y1 y2 y3
    go_wp2_with fail
    refine (Num_any 7 wC1).mono ?_
    rintro _ wD1 ⟨rfl, bD⟩
    have HRD := Lib.hid (HRC.out.lo bD)
    have HTD := Lib.hid (HTC.out.below bD)
    clear bD HRC HTC
    obtain ⟨wG1, hwG⟩ : ∃ W, W = wD1.alloc (.cells #[.int .i64 5, .string ⟨#[]⟩, .int .i64 n, .slice (some ⟨g5, 0, none⟩) 2 2, .int .i64 1, .string ⟨#[]⟩, .int .i64 7, .slice none 0 0] 33) := ⟨_, rfl⟩
    obtain ⟨r1, hr⟩ : ∃ r, r = wD1.heap.size := ⟨_, rfl⟩
    have hbG : Below wD1.heap.size wD1 wG1 := by rw [hwG]; exact (Below.refl _ _).alloc (Nat.le_refl _) _
    have HLI : Hid (Calls Tryd.prog 28 #[.slice (some ⟨r1, 0, none⟩) 2 2] wG1 fun e w' => ∃ u, e = .returned (.agg #[.int .i64 3, .string ⟨#[]⟩, .int .i64 0, u]) ∧ Below wG1.heap.size wG1 w' ∧ NewRow (Lo wD1) wG1.heap.size w' [(Tm.mk 5 [] n [(Tm.mk 2 at' an al), (Tm.mk gk gt gn gl)]), (Tm.mk 1 [] 7 [])] u) := by
      rw [hwG, hr]
      exact List_any [(Tm.mk 5 [] n [(Tm.mk 2 at' an al), (Tm.mk gk gt gn gl)]), (Tm.mk 1 [] 7 [])] (some ⟨wD1.heap.size, 0, none⟩) 2 (Lo wD1) _ (by simp) (lrow_two HRD.out (rep_flat wD1 (Lo wD1) 1 [] 7 I7) (fun _ h => h) _) (fun i hi => Nat.lt_of_lt_of_le hi ((Below.refl _ _).alloc (Nat.le_refl _) _).size)
    have HTG := Lib.hid (HTD.out.below hbG)
    have HWG := Lib.hid hwG
    have HRR := Lib.hid hr
    have HSG := Lib.hid hbG.size
    clear hwG hr hbG HRD HTD
    go_wp2_with fail
    rw [← HWG.out, ← HRR.out]
    refine HLI.out.mono ?_
    rintro _ wE1 ⟨u3, rfl, bE, hnr⟩
    have hrE := hnr.rep (fun i hi => Nat.lt_of_lt_of_le hi (Nat.le_trans HSG.out bE.size)) 3 [] 0 I0
    obtain ⟨g6, xs, rfl, -, -, -⟩ := hnr
    have HRE := Lib.hid hrE
    have HTE1 := Lib.hid (HTG.out.below bE)
    clear bE hrE HLI HWG HRR HSG HTG
    have hL1 := HTE1.out.flip.learn KT.out (Tm.mk 3 [] 0 [Tm.mk 5 [] n [(Tm.mk 2 at' an al), (Tm.mk gk gt gn gl)], Tm.mk 1 [] 7 []]) (Lo wE1) _ HRE.out (fun _ h => h) 200 (by have := HZL.out; omega) (by omega)
    have HL1 := Lib.hid hL1
    clear hL1 HRE
    go_wp2_with fail
    refine HL1.out.mono ?_
    rintro _ wF1 ⟨rfl, ht⟩
    obtain ⟨Hu, hHu⟩ : ∃ Hu : Tm → Prop, Hu = fun y => (False ∨ (y = (Tm.mk 3 [] 0 [Tm.mk 5 [] n [(Tm.mk 2 at' an al), (Tm.mk gk gt gn gl)], Tm.mk 1 [] 7 []]) ∧ vld 0 (Tm.mk 3 [] 0 [Tm.mk 5 [] n [(Tm.mk 2 at' an al), (Tm.mk gk gt gn gl)], Tm.mk 1 [] 7 []]) = true)) := ⟨_, rfl⟩
    rw [← hHu] at ht
    have HHU := Lib.hid hHu
    have HTF := Lib.hid ht.flip
    clear ht hHu HL1 HTE1
    have hbT := HTF.out.bel
    have HSU := Lib.hid (Sum_any (Tm.mk 2 at' an al) (Tm.mk gk gt gn gl) _ _ n (Lo U) wF1 (KRX.out wF1 hbT) (KRY.out wF1 hbT) (KLO.out wF1 hbT))
    have HLT := Lib.hid (KLO.out wF1 hbT)
    obtain ⟨z0, z1, z2, z3⟩ := KC0.out wF1 hbT
    obtain ⟨y0, y1, y2, y3⟩ := KC1.out wF1 hbT
    clear hbT
    go_wp2_with fail
    refine HSU.out.mono ?_
    rintro _ wC2 ⟨u2, rfl, bC, hnr⟩
    have hrC := hnr.rep (fun i hi => Nat.lt_of_lt_of_le (HLT.out i hi) bC.size) 5 [] n HIN.out
    obtain ⟨g5, xs, rfl, -, -, -⟩ := hnr
    have HRC := Lib.hid hrC
    have HTC := Lib.hid (HTF.out.below bC)
    clear bC hrC HSU HLT z0 z1 z2 z3 y0 y1 y2 y3
    go_wp2_with fail
    refine (Num_any 7 wC2).mono ?_
    rintro _ wD2 ⟨rfl, bD⟩
    have HRD := Lib.hid (HRC.out.lo bD)
    have HTD := Lib.hid (HTC.out.below bD)
    clear bD HRC HTC
    obtain ⟨wG2, hwG⟩ : ∃ W, W = wD2.alloc (.cells #[.int .i64 5, .string ⟨#[]⟩, .int .i64 n, .slice (some ⟨g5, 0, none⟩) 2 2, .int .i64 1, .string ⟨#[]⟩, .int .i64 7, .slice none 0 0] 33) := ⟨_, rfl⟩
    obtain ⟨r2, hr⟩ : ∃ r, r = wD2.heap.size := ⟨_, rfl⟩
    have hbG : Below wD2.heap.size wD2 wG2 := by rw [hwG]; exact (Below.refl _ _).alloc (Nat.le_refl _) _
    have HLI : Hid (Calls Tryd.prog 28 #[.slice (some ⟨r2, 0, none⟩) 2 2] wG2 fun e w' => ∃ u, e = .returned (.agg #[.int .i64 3, .string ⟨#[]⟩, .int .i64 0, u]) ∧ Below wG2.heap.size wG2 w' ∧ NewRow (Lo wD2) wG2.heap.size w' [(Tm.mk 5 [] n [(Tm.mk 2 at' an al), (Tm.mk gk gt gn gl)]), (Tm.mk 1 [] 7 [])] u) := by
      rw [hwG, hr]
      exact List_any [(Tm.mk 5 [] n [(Tm.mk 2 at' an al), (Tm.mk gk gt gn gl)]), (Tm.mk 1 [] 7 [])] (some ⟨wD2.heap.size, 0, none⟩) 2 (Lo wD2) _ (by simp) (lrow_two HRD.out (rep_flat wD2 (Lo wD2) 1 [] 7 I7) (fun _ h => h) _) (fun i hi => Nat.lt_of_lt_of_le hi ((Below.refl _ _).alloc (Nat.le_refl _) _).size)
    have HTG := Lib.hid (HTD.out.below hbG)
    have HWG := Lib.hid hwG
    have HRR := Lib.hid hr
    have HSG := Lib.hid hbG.size
    clear hwG hr hbG HRD HTD
    go_wp2_with fail
    rw [← HWG.out, ← HRR.out]
    refine HLI.out.mono ?_
    rintro _ wE2 ⟨u3, rfl, bE, hnr⟩
    have hrE := hnr.rep (fun i hi => Nat.lt_of_lt_of_le hi (Nat.le_trans HSG.out bE.size)) 3 [] 0 I0
    obtain ⟨g6, xs, rfl, -, -, -⟩ := hnr
    have HRE := Lib.hid hrE
    have HTE2 := Lib.hid (HTG.out.below bE)
    clear bE hrE HLI HWG HRR HSG HTG
    have hvl := Valid_any (Tm.mk 3 [] 0 [Tm.mk 5 [] n [(Tm.mk 2 at' an al), (Tm.mk gk gt gn gl)], Tm.mk 1 [] 7 []]) (Lo wE2) _ wE2 (by have := HZL.out; omega) HRE.out (fun _ h => h)
    rw [← HO6.out] at hvl
    have HVL := Lib.hid hvl
    clear hvl HRE
    go_wp2_with fail
    refine HVL.out.mono ?_
    rintro _ wK ⟨rfl, bK⟩
    have HTK := Lib.hid (HTE2.out.below bK)
    clear bK HVL HTE2
    have hbT := HTK.out.bel
    have HK := Lib.hid (HTK.out.one.knows (KT.out.up hbT) (Tm.mk gk gt gn gl) (Lo U) _ (KRY.out wK hbT) (KLO.out wK hbT) (by have := HSY.out; omega) true ⟨fun _ => ⟨HVB.out, HCB.out⟩, fun _ => rfl⟩)
    obtain ⟨y0, y1, y2, y3⟩ := KC1.out wK hbT
    clear hbT
    go_wp2_with fail
    refine HK.out.mono ?_
    rintro _ wL ⟨rfl, hb⟩
    have HTL := Lib.hid (HTK.out.below hb)
    clear hb HK y0 y1 y2 y3
    have hbT := HTL.out.bel
    have HK := Lib.hid (HTL.out.one.knows (KT.out.up hbT) (Tm.mk 2 at' an al) (Lo U) _ (KRX.out wL hbT) (KLO.out wL hbT) (by have := HK1.out; omega) true ⟨fun _ => ⟨HO2.out.symm, HCK.out⟩, fun _ => rfl⟩)
    obtain ⟨z0, z1, z2, z3⟩ := KC0.out wL hbT
    clear hbT
    go_wp2_with fail
    refine HK.out.mono ?_
    rintro _ wM ⟨rfl, hb⟩
    have HTM := Lib.hid (HTL.out.below hb)
    clear hb HK z0 z1 z2 z3
    cases o6
    case false =>
      go_wp2
      go_ret
      exact ⟨rfl, KB.out _ HTM.out.bel⟩
    case true =>
    have HCL : Hid (Cl Hu (Tm.mk 3 [] 0 [Tm.mk 5 [] n [(Tm.mk 2 at' an al), (Tm.mk gk gt gn gl)], Tm.mk 1 [] 7 []])) := by rw [HHU.out]; exact .heard (.inr ⟨rfl, HO6.out.symm⟩)
    have hbT := HTM.out.bel
    have HK := Lib.hid (HTM.out.flip.one.knows (KT.out.up hbT) (Tm.mk gk gt gn gl) (Lo U) _ (KRY.out wM hbT) (KLO.out wM hbT) (by have := HSY.out; omega) true ⟨fun _ => ⟨HVB.out, (Cl.list (y := (Tm.mk 5 [] n [(Tm.mk 2 at' an al), (Tm.mk gk gt gn gl)])) HCL.out (by simp)).sum⟩, fun _ => rfl⟩)
    obtain ⟨y0, y1, y2, y3⟩ := KC1.out wM hbT
    clear hbT
    go_wp2_with fail
    refine HK.out.mono ?_
    rintro _ wN ⟨rfl, hb⟩
    have HTN := Lib.hid (HTM.out.below hb)
    clear hb HK y0 y1 y2 y3
    go_wp2_with fail
    refine (Num_any 7 wN).mono ?_
    rintro _ wO ⟨rfl, bO⟩
    have HTO := Lib.hid (HTN.out.below bO)
    clear bO
    have hbT := HTO.out.bel
    have HK := Lib.hid (HTO.out.flip.one.knows (KT.out.up hbT) (Tm.mk 1 [] 7 []) (Lo wO) _ (rep_flat wO (Lo wO) 1 [] 7 I7) (fun _ h => h) (by decide) true ⟨fun _ => ⟨vld_sub0 HO6.out.symm (by simp), Cl.list (y := (Tm.mk 1 [] 7 [])) HCL.out (by simp)⟩, fun _ => rfl⟩)
    clear hbT
    go_wp2_with fail
    refine HK.out.mono ?_
    rintro _ wP ⟨rfl, hb⟩
    have HTP := Lib.hid (HTO.out.below hb)
    clear hb HK 
    obtain ⟨kq, hkq⟩ : ∃ kq : Bool, (kq = true ↔ (vld 0 (Tm.mk 2 at' an al) = true ∧ Cl Hu (Tm.mk 2 at' an al))) := by
      classical
      exact ⟨decide (vld 0 (Tm.mk 2 at' an al) = true ∧ Cl Hu (Tm.mk 2 at' an al)), by simp⟩
    have HKQ := Lib.hid hkq
    clear hkq
    have hbT := HTP.out.bel
    have HK := Lib.hid (HTP.out.flip.one.knows (KT.out.up hbT) (Tm.mk 2 at' an al) (Lo U) _ (KRX.out wP hbT) (KLO.out wP hbT) (by have := HK1.out; omega) kq HKQ.out)
    obtain ⟨z0, z1, z2, z3⟩ := KC0.out wP hbT
    clear hbT
    go_wp2_with fail
    refine HK.out.mono ?_
    rintro _ wQ ⟨rfl, hb⟩
    have HTQ := Lib.hid (HTP.out.below hb)
    clear hb HK z0 z1 z2 z3
    cases kq
    case false =>
      go_wp2
      go_ret
      exact ⟨rfl, KB.out _ HTQ.out.bel⟩
    case true =>
    have hsw : shw (Tm.mk 2 at' an al) (Tm.mk 2 at' an al) (Tm.mk gk gt gn gl) = true := key_shows rfl (fun x hx => by rw [HHU.out] at hx; exact hx.elim False.elim (·.1)) (HKQ.out.1 rfl).2
    have hbT := HTQ.out.bel
    have hsh := shows_any (Tm.mk 2 at' an al) (Tm.mk 2 at' an al) (by have := HK1.out; omega) (Tm.mk gk gt gn gl) (Lo U) _ _ _ wQ (by have := HSY.out; omega) (KRY.out wQ hbT) (KRX.out wQ hbT) (KRX.out wQ hbT) (KLO.out wQ hbT)
    rw [hsw] at hsh
    have HSH := Lib.hid hsh
    obtain ⟨z0, z1, z2, z3⟩ := KC0.out wQ hbT
    obtain ⟨y0, y1, y2, y3⟩ := KC1.out wQ hbT
    clear hsw hsh hbT
    go_wp2_with fail
    refine HSH.out.mono ?_
    rintro _ wR ⟨rfl, bR⟩
    have HTR := Lib.hid (HTQ.out.below bR)
    clear bR HSH z0 z1 z2 z3 y0 y1 y2 y3
    go_wp2
    go_ret
    exact ⟨rfl, KB.out _ HTR.out.bel⟩
end Go.Proofs.YtiidooponlbnmaaDoor.Kn
