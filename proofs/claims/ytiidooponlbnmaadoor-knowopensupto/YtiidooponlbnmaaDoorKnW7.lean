/- Learn. (Laid with NS=1.) -/
import Derived.Test.YtiidooponlbnmaaDoorKnW6
import Derived.Test.YtiidooponlbnmaaDoorTmW3
import Derived.Deep.LoopGhost
namespace Go.Proofs.YtiidooponlbnmaaDoor.Kn
open Go.RowKit
open Te Te.Tt
open Go (Lit DataW MemPlace keyOf maxLen)

theorem Inv.congr {H H' : Tm → Prop} {s : St} {q : List Tm} (h : Inv H s q) (e : ∀ x, H x ↔ H' x) : Inv H' s q := by
  obtain rfl : H = H' := funext fun x => propext (e x)
  exact h
theorem elsc_get {w : World} {T : Nat → Prop} : ∀ (l : List Tm) (xs : List Value) (i : Nat) (x : Tm), ElsC w T l xs → l[i]? = some x → ∃ v0 v1 v2 v3, xs[i * 4]? = some v0 ∧ xs[i * 4 + 1]? = some v1 ∧ xs[i * 4 + 2]? = some v2 ∧ xs[i * 4 + 3]? = some v3 ∧ RepC w T x (.agg #[v0, v1, v2, v3])
  | [], _, _, _, _, h => by simp at h
  | y :: r, v0 :: v1 :: v2 :: v3 :: xs, 0, x, h, hx => by
    rw [ElsC] at h
    simp at hx
    subst hx
    exact ⟨v0, v1, v2, v3, by simp, by simp, by simp, by simp, h.1⟩
  | y :: r, v0 :: v1 :: v2 :: v3 :: xs, i + 1, x, h, hx => by
    rw [ElsC] at h
    obtain ⟨u0, u1, u2, u3, h0, h1, h2, h3, hr⟩ := elsc_get r xs i x h.2 (by simpa using hx)
    have e : (i + 1) * 4 = i * 4 + 4 := by omega
    refine ⟨u0, u1, u2, u3, ?_, ?_, ?_, ?_, hr⟩
    · rw [e]; simpa using h0
    · rw [e, show i * 4 + 4 + 1 = i * 4 + 1 + 4 by omega]; simpa using h1
    · rw [e, show i * 4 + 4 + 2 = i * 4 + 2 + 4 by omega]; simpa using h2
    · rw [e, show i * 4 + 4 + 3 = i * 4 + 3 + 4 by omega]; simpa using h3
  | _ :: _, [], _, _, h, _ => by simp [ElsC] at h
  | _ :: _, [_], _, _, h, _ => by simp [ElsC] at h
  | _ :: _, [_, _], _, _, h, _ => by simp [ElsC] at h
  | _ :: _, [_, _, _], _, _, h, _ => by simp [ElsC] at h
theorem own_get {T : Nat → Prop} {w : World} {base ca n : Nat} {A : Option Addr} {l : List Tm} {i : Nat} {x : Tm} (h : OwnC T w base (.slice A n ca) l) (hx : l[i]? = some x) :
    ∃ g v0 v1 v2 v3, A = some ⟨g, 0, none⟩ ∧ w.cell? ⟨g, i * 4, none⟩ = some v0 ∧ w.cell? ⟨g, i * 4 + 1, none⟩ = some v1 ∧ w.cell? ⟨g, i * 4 + 2, none⟩ = some v2 ∧ w.cell? ⟨g, i * 4 + 3, none⟩ = some v3 ∧ RepC w T x (.agg #[v0, v1, v2, v3]) := by
  obtain ⟨xs, h1, h2⟩ := h
  obtain ⟨v0, v1, v2, v3, e0, e1, e2, e3, hr⟩ := elsc_get l xs i x h2 hx
  rcases h1.2 with ⟨_, hn⟩ | ⟨g, cap', cur, hv, _⟩
  · have := List.eq_nil_of_length_eq_zero hn
    subst this
    simp at hx
  · injection hv with e _ _
    subst e
    have hc := h1.cells (g := g) rfl
    refine ⟨g, v0, v1, v2, v3, rfl, ?_, ?_, ?_, ?_, hr⟩
    · have := hc _ _ e0; rwa [Addr.add_lit, Nat.zero_add] at this
    · have := hc _ _ e1; rwa [Addr.add_lit, Nat.zero_add] at this
    · have := hc _ _ e2; rwa [Addr.add_lit, Nat.zero_add] at this
    · have := hc _ _ e3; rwa [Addr.add_lit, Nat.zero_add] at this
theorem wt_len (s : St) : s.wt.length ≤ wz s := by
  have := szs_len (s.wt.map (·.2))
  rw [List.length_map] at this
  exact this
theorem hr_len (s : St) (x : Tm) : (hr s x).1.kn.length ≤ s.kn.length + 1 := by
  unfold hr
  split
  · simp
  · obtain ⟨k, t, n, l⟩ := x
    rw [nw]
    split
    · simp
    · split
      · simp
      · split
        · split <;> simp
        · split <;> simp
theorem szs_snoc (q : List Tm) (x : Tm) : Te.Tt.szs (q ++ [x]) = Te.Tt.szs q + sz x := by rw [szs_app]; simp [Te.Tt.szs]

theorem OwnC.one {w : World} {T : Nat → Prop} {x : Tm} {v0 v1 v2 v3 : Value} (h : RepC w T x (.agg #[v0, v1, v2, v3])) (hT : ∀ b, T b → b < w.heap.size) : OwnC T (w.alloc (.cells #[v0, v1, v2, v3] 33)) 0 (.slice (some ⟨w.heap.size, 0, none⟩) 1 1) [x] :=
  ⟨[v0, v1, v2, v3], ⟨rfl, .inr ⟨w.heap.size, 1, #[v0, v1, v2, v3], rfl, Nat.zero_le _, heap_alloc_new _ _, Nat.le_refl _, by simp [maxLen], rfl, rfl⟩⟩, elsc_one (repc_alloc h _ (fun b hb => ⟨hT b hb, hb⟩))⟩
/-- A round of learning: what is to be heard, and what the store holds. -/
def Lrn (w : World) (F : Nat → Prop) (g bk bw : Nat) (T : Nat → Prop) (H : Tm → Prop) (P : Nat) (k : Nat) (v : Value) (W : World) : Prop :=
  ∃ (q : List Tm) (s : St) (F' : Nat → Prop) (f : Tm → Value), SR W F' g bk bw T f s ∧ OwnC T W 0 v q ∧ (∀ i, v.ownBlock = some i → ¬ F' i ∧ w.heap.size ≤ i) ∧ Inv H s q ∧ Turn F w W ∧ (∀ i, F i → F' i) ∧ (∀ i, F' i → F i ∨ w.heap.size ≤ i) ∧ s.kn.length + wz s + Te.Tt.szs q ≤ P ∧ k = wz s + Te.Tt.szs q
/-- What Learn leaves. -/
def LearnPost (w : World) (F : Nat → Prop) (g bk bw : Nat) (H : Tm → Prop) (P : Nat) (w' : World) : Prop :=
  ∃ F' T f s, SR w' F' g bk bw T f s ∧ Inv H s [] ∧ Turn F w w' ∧ (∀ i, F i → F' i) ∧ (∀ i, F' i → F i ∨ w.heap.size ≤ i) ∧ s.kn.length + wz s ≤ P

set_option maxHeartbeats 4000000 in
set_option maxRecDepth 100000 in
theorem Learn_any (B : Nat) (w : World) (F : Nat → Prop) (g bk bw : Nat) (T : Nat → Prop) (f : Tm → Value) (s : St) (h : SR w F g bk bw T f s) (H : Tm → Prop) (hI : Inv H s []) (hB : B ≤ w.heap.size) (hFB : ∀ i, F i → B ≤ i) (htab : TabB B w) (x : Tm) (S : Nat → Prop) (v : Value) (hr : Rep w S x v) (hS : ∀ b, S b → b < w.heap.size) (P : Nat) (hP : s.kn.length + wz s + sz x ≤ P) (hP2 : P ≤ 200000) :
    Calls Tryd.prog 11 #[.pointer (some ⟨g, 0, none⟩), v] w fun e w' => e = .returned (.tuple #[]) ∧ LearnPost w F g bk bw (fun y => H y ∨ (y = x ∧ vld 0 x = true)) P w' := by
  obtain ⟨b, hb⟩ : ∃ b, b = vld 0 x := ⟨_, rfl⟩
  obtain ⟨z, hz⟩ : ∃ z, z = w.heap.size := ⟨_, rfl⟩
  obtain ⟨H', hH'⟩ : ∃ H' : Tm → Prop, H' = fun y => H y ∨ (y = x ∧ vld 0 x = true) := ⟨_, rfl⟩
  rw [← hH']
  have HH := Lib.hid hH'
  clear hH'
  have HBV := Lib.hid hb
  have HZ := Lib.hid hz
  have hV := fun W h1 h2 h3 => Valid_any x S v W h1 h2 h3
  have hO := fun W h1 h2 h3 => own_any x S v W h1 h2 h3
  obtain ⟨k, t, n, l⟩ := x
  have hr0 := hr
  obtain ⟨A, ca, rfl, hn, hrow⟩ := rep_mk.1 hr
  have hb1 : Below w.heap.size w (w.alloc (.cells #[.int .i64 k, .string ⟨⟨t⟩⟩, .int .i64 n, .slice A l.length ca] 33)) := (Below.refl _ _).alloc (Nat.le_refl _) _
  have hg1 := heap_alloc_new w (.cells #[.int .i64 k, .string ⟨⟨t⟩⟩, .int .i64 n, .slice A l.length ca] 33)
  rw [← hz] at hg1
  have HSR : Hid (∀ W, Below w.heap.size w W → SR W F g bk bw T f s) := fun W hW => h.below hW
  have HRT : Hid (∀ W, Below w.heap.size w W → Rep W S (.mk k t n l) (.agg #[.int .i64 k, .string ⟨⟨t⟩⟩, .int .i64 n, .slice A l.length ca])) := fun W hW => rep_below hr0 hW hS
  have HS := Lib.hid hS
  have HTAB := Lib.hid htab
  have HP := Lib.hid hP
  have HP2 := Lib.hid hP2
  have HFB := Lib.hid hFB
  have HBB := Lib.hid hB
  have HB1 := Lib.hid hb1
  have HG1 := Lib.hid hg1
  have HI := Lib.hid hI
  have HO := Lib.hid hO
  have HC := hV _ (by omega) (HRT.out _ hb1) (fun i hi => Nat.lt_of_lt_of_le (hS i hi) hb1.size)
  rw [← hb] at HC
  have HC := Lib.hid HC
  clear h hB hFB htab hr hr0 hS hP hP2 hI hV hO hb hz hb1 hg1 hrow
  go_enter Tryd.func11, Tryd.ntmps11
  go_wp2_with fail
  rw [← HZ.out]
  refine HC.out.mono ?_
  rintro _ w2 ⟨rfl, hb2⟩
  have HZ2 := Lib.hid ((hb2.block z (Array.getElem?_eq_some_iff.1 HG1.out).1).trans HG1.out)
  have HB2 := Lib.hid (HB1.out.trans (hb2.mono HB1.out.size))
  clear hb2 HC HG1 HB1
  cases b
  case false =>
    go_wp2
    refine bodyPost_ret (results_none rfl _ _ _) rfl ?_
    have hnv : vld 0 (.mk k t n l) = false := HBV.out.symm
    exact ⟨rfl, F, T, f, s, HSR.out w2 HB2.out, (by rw [HH.out]; exact HI.out.congr (fun y => by simp [hnv])), Turn.of_below HB2.out, fun _ h => h, fun _ h => .inl h, by have := HP.out; omega⟩
  case true =>
    obtain ⟨c0, c1, c2, c3⟩ := cell4 HZ2.out
    have hvx : vld 0 (.mk k t n l) = true := HBV.out.symm
    have hc2 := HO.out w2 (by have := HP.out; have := HP2.out; omega) (HRT.out w2 HB2.out) (fun i hi => Nat.lt_of_lt_of_le (HS.out i hi) HB2.out.size)
    have HC2 := Lib.hid hc2
    have HVX := Lib.hid hvx
    clear hc2 hvx HO HBV
    go_wp2_with fail
    refine HC2.out.mono ?_
    rintro _ w4 ⟨v4, rfl, hr4, hb4⟩
    obtain ⟨A4, c4, rfl, -, -⟩ := repc_mk.1 hr4
    have hbw4 := HB2.out.trans (hb4.mono HB2.out.size)
    have hb5 : Below w.heap.size w (w4.alloc (.cells #[.int .i64 k, .string ⟨⟨t⟩⟩, .int .i64 n, .slice A4 l.length c4] 33)) := hbw4.alloc hbw4.size _
    have hLrn : Lrn w F g bk bw (fun i => T i ∨ w2.heap.size ≤ i ∧ i < w4.heap.size) H' P (wz s + sz (.mk k t n l)) (.slice (some ⟨w4.heap.size, 0, none⟩) 1 1) (w4.alloc (.cells #[.int .i64 k, .string ⟨⟨t⟩⟩, .int .i64 n, .slice A4 l.length c4] 33)) := by
      have hs0 := HSR.out w (Below.refl _ _)
      have hs5 := HSR.out _ hb5
      have hw2 := HB2.out.size
      refine ⟨[.mk k t n l], s, fun i => F i ∨ w2.heap.size ≤ i ∧ i < w4.heap.size, f, (hs5.wide (fun i hi => .inl hi) (fun i hi => ?_)).more (fun i hi => .inl hi) (fun i hi => ?_) (fun x hx i hi => ?_), OwnC.one (repc_keep (fun i hi => .inr hi) (fun _ _ _ => rfl) _ _ hr4) (fun i hi => ?_), fun i hi => ?_, (by rw [HH.out]; exact (HI.out.hear HVX.out).congr (fun y => by simp [HVX.out])), Turn.of_below hb5, fun i hi => .inl hi, fun i hi => hi.imp id (fun h => by omega), by have := HP.out; simp [Te.Tt.szs]; omega, by simp [Te.Tt.szs]⟩
      · rcases hi with hi | hi
        · exact Nat.lt_of_lt_of_le (hs0.lt i hi) hb5.size
        · simp; omega
      · rcases hi with hi | hi
        · exact ⟨.inl (hs0.tF i hi).1, (hs0.tF i hi).2⟩
        · have h1 := hs0.lt g hs0.gF.1
          have h2 := hs0.lt bk hs0.gF.2.1
          have h3 := hs0.lt bw hs0.gF.2.2
          exact ⟨.inr hi, by omega, by omega, by omega⟩
      · rintro (h1 | h1)
        · exact (hs0.fF x hx i hi).2.1 h1
        · have := hs0.lt i (hs0.fF x hx i hi).1; omega
      · rcases hi with hi | hi
        · exact Nat.lt_of_lt_of_le (hs0.lt i (hs0.tF i hi).1) hbw4.size
        · exact hi.2
      · simp [Value.ownBlock] at hi
        subst hi
        refine ⟨?_, hbw4.size⟩
        rintro (h1 | h1)
        · have := hs0.lt _ h1; have := hbw4.size; omega
        · omega
    have HL := Lib.hid hLrn
    clear hLrn hbw4 hb5 hb4 hr4 HC2 c0 c1 c2 c3 HZ2 HSR HRT HS HI HB2
    obtain ⟨T', hT'⟩ : ∃ T' : Nat → Prop, T' = fun i => T i ∨ w2.heap.size ≤ i ∧ i < w4.heap.size := ⟨_, rfl⟩
    rw [← hT'] at HL
    clear hT' HVX
    go_wp2_with fail
    go_loopg [4] (wz s + sz (.mk k t n l)) (fun gk v wr => Hid (Lrn w F g bk bw T' H' P gk v wr))
    case atStart => exact HL
    case round =>
      obtain ⟨q, s', F', f', hs, ho, hown, hi, ht, hF1, hF2, hP, hgk⟩ := hrel.out
      rcases List.eq_nil_or_concat q with rfl | ⟨q0, y, hq⟩
      · obtain ⟨A5, c5, rfl⟩ := ho.form
        have HF : Hid (LearnPost w F g bk bw H' P wr) := ⟨F', T', f', s', hs, hi, ht, hF1, hF2, by simpa [Te.Tt.szs] using hP⟩
        clear hs ho hown hi ht hF1 hF2 hP hgk hrel HL
        go_wp2
        go_end0
        exact ⟨rfl, HF.out⟩
      · rw [List.concat_eq_append] at hq
        subst hq
        obtain ⟨N, hN⟩ : ∃ N, N = q0.length := ⟨_, rfl⟩
        have hlen : (q0 ++ [y]).length = N + 1 := by simp [hN]
        obtain ⟨A5, c5, e5, hcap⟩ := own_cap ho
        rw [hlen] at e5 hcap
        subst e5
        obtain ⟨gw, v0, v1, v2, v3, rfl, j0, j1, j2, j3, hry⟩ := own_get ho (i := N) (x := y) (by simp [hN])
        have hszq := szs_snoc q0 y
        have hPN : N + 1 ≤ 200000 := by have h1 := szs_len (q0 ++ [y]); have h2 := HP2.out; rw [hlen] at h1; omega
        have hgw : ¬ F' gw ∧ w.heap.size ≤ gw := hown gw rfl
        have hsy : sz y ≤ 200000 := by have := HP2.out; omega
        have hvy : vld 0 y = true := hi.okq y (by simp)
        have HH8 := Lib.hid (hear_any B wr.drew F' g bk bw T' f' s' (hs.keep (Nat.le_refl _) (fun _ _ => rfl)) (Nat.le_trans HBB.out ht.size) (fun i hi => by rcases hF2 i hi with h1 | h1; exact HFB.out i h1; exact Nat.le_trans HBB.out h1) (fun w' hw' => HTAB.out w' ((ht.below HBB.out HFB.out).trans ((Below.refl B wr).drew.trans hw'))) y hvy (by omega) (by have := HP2.out; omega) (by have := wt_len s'; have := HP2.out; omega) (.agg #[v0, v1, v2, v3]) (repc_keep (w := wr) (w' := wr.drew) (fun _ h => h) (fun _ _ _ => rfl) _ _ hry))
        have HJ := Lib.hid (And.intro j0 (And.intro j1 (And.intro j2 j3)))
        have HOW := Lib.hid ho
        have HSR := Lib.hid hs
        have HIN := Lib.hid hi
        have HTU := Lib.hid ht
        have HF1 := Lib.hid hF1
        have HF2 := Lib.hid hF2
        have HPP := Lib.hid hP
        have HGK := Lib.hid hgk
        have HNN := Lib.hid hN
        have HLE := Lib.hid hlen
        have HGW := Lib.hid hgw
        have HSQ := Lib.hid hszq
        have HVY := Lib.hid hvy
        clear hs ho hown hi ht hF1 hF2 hP hgk hrel HL hN hlen j0 j1 j2 j3 hry hszq hgw hsy hvy
        -- REGION
        have hcn : N ≤ c5 := by omega
        have hnn : ((N : Nat) : Int) < ((N : Nat) : Int) + 1 := by omega
        go_wp2_with fail
        refine wp_region_inv (by kernel_rfl) (fun L act W => ∃ t18 t19 t20 t21 t22 t23 t24 t25 t26 t27 t4, act = { tmps := #[.pointer (some ⟨g, 0, none⟩), .agg #[.int .i64 k, .string ⟨⟨t⟩⟩, .int .i64 n, .slice A l.length ca], undef, .pointer (some ⟨z, 0, none⟩), t4, .int .i64 (N : Nat), .agg #[.int .i64 k, .string ⟨⟨t⟩⟩, .int .i64 n, .slice A l.length ca], .bool true, .bool false, .agg #[.int .i64 k, .string ⟨⟨t⟩⟩, .int .i64 n, .slice A l.length ca], .agg #[.int .i64 k, .string ⟨⟨t⟩⟩, .int .i64 n, .slice A4 l.length c4], .slice (some ⟨w4.heap.size, 0, none⟩) 1 1, .slice (some ⟨gw, 0, none⟩) (N + 1) c5, .int .i64 ((N : Nat) + 1), .bool true, .slice (some ⟨gw, 0, none⟩) (N + 1) c5, .int .i64 ((N : Nat) + 1), .int .i64 (N : Nat), t18, t19, t20, t21, t22, t23, t24, t25, t26, t27], defers := [] } ∧ (L 0 = true → (.slice (some ⟨gw, 0, none⟩) (N + 1) c5 : Value) = t18) ∧ (L 1 = true → (.int .i64 (N : Nat) : Value) = t19) ∧ (L 2 = true → (.slice (some ⟨gw, 0, none⟩) N c5 : Value) = t20) ∧ (L 3 = true → (.pointer (some ⟨g, 0, none⟩) : Value) = t21) ∧ (L 4 = true → (.slice (some ⟨gw, 0, none⟩) (N + 1) c5 : Value) = t22) ∧ (L 5 = true → (.int .i64 (N : Nat) : Value) = t23) ∧ (L 6 = true → (.pointer (some ⟨gw, N * 4, none⟩) : Value) = t24) ∧ (L 7 = true → (.agg #[v0, v1, v2, v3] : Value) = t25) ∧ (L 10 = false → (.slice (some ⟨gw, 0, none⟩) (N + 1) c5 : Value) = t4) ∧ (L 8 = false → W = wr.drew) ∧ (L 8 = true → L 9 = false → HearPost wr.drew F' g bk bw T' (hr s' y) (.returned t26) W) ∧ (L 9 = true → ∃ k, k < gk ∧ Lrn w F g bk bw T' H' P k t27 W) ∧ (L 10 = true → t27 = t4) ∧ (L 10 = true → L 0 = true ∧ L 4 = true) ∧ (L 8 = true → L 7 = true) ∧ (L 9 = true → L 8 = true) ∧ (L 10 = true → L 9 = true)) (by kernel_rfl) ?_ ?_ ?_
        · exact ⟨_, _, _, _, _, _, _, _, _, _, _, rfl, nofun, nofun, nofun, nofun, nofun, nofun, nofun, nofun, fun _ => rfl, fun _ => rfl, nofun, nofun, nofun, nofun, nofun, nofun, nofun⟩
        · rintro L _ W i oo ⟨t18, t19, t20, t21, t22, t23, t24, t25, t26, t27, t4, rfl, f0, f1, f2, f3, f4, f5, f6, f7, u10, qa, g8, g9, e10, r10, r8, r9, r109⟩ ho hL hd
          rcases i with _ | _ | _ | _ | _ | _ | _ | _ | _ | _ | _ | i
          · obtain rfl := Option.some.inj ho
            have h10 : L 10 = false := by cases hq : L 10 with | false => rfl | true => (have := (fun h => (r10 h).1) hq; simp [hL] at this)
            obtain rfl := u10 h10
            clear h10
            refine wpOp_step rfl fun K hK => ?_
            have F0X := Lib.hid f0
            have F1X := Lib.hid f1
            have F2X := Lib.hid f2
            have F3X := Lib.hid f3
            have F4X := Lib.hid f4
            have F5X := Lib.hid f5
            have F6X := Lib.hid f6
            have F7X := Lib.hid f7
            have U10X := Lib.hid u10
            have QAX := Lib.hid qa
            have G8X := Lib.hid g8
            have G9X := Lib.hid g9
            have E10X := Lib.hid e10
            have R10X := Lib.hid r10
            have R8X := Lib.hid r8
            have R9X := Lib.hid r9
            have R109X := Lib.hid r109
            clear f0 f1 f2 f3 f4 f5 f6 f7 u10 qa g8 g9 e10 r10 r8 r9 r109 hd ho hL
            go_simp
            refine hK _ _ ?_
            exact ⟨_, _, _, _, _, _, _, _, _, _, _, rfl, fun _ => rfl, F1X.out, F2X.out, F3X.out, F4X.out, F5X.out, F6X.out, F7X.out, U10X.out, QAX.out, G8X.out, G9X.out, E10X.out, fun h => ⟨rfl, (R10X.out h).2⟩, R8X.out, R9X.out, R109X.out⟩
          · obtain rfl := Option.some.inj ho
            refine wpOp_step rfl fun K hK => ?_
            have F0X := Lib.hid f0
            have F1X := Lib.hid f1
            have F2X := Lib.hid f2
            have F3X := Lib.hid f3
            have F4X := Lib.hid f4
            have F5X := Lib.hid f5
            have F6X := Lib.hid f6
            have F7X := Lib.hid f7
            have U10X := Lib.hid u10
            have QAX := Lib.hid qa
            have G8X := Lib.hid g8
            have G9X := Lib.hid g9
            have E10X := Lib.hid e10
            have R10X := Lib.hid r10
            have R8X := Lib.hid r8
            have R9X := Lib.hid r9
            have R109X := Lib.hid r109
            clear f0 f1 f2 f3 f4 f5 f6 f7 u10 qa g8 g9 e10 r10 r8 r9 r109 hd ho hL
            go_simp
            refine hK _ _ ?_
            exact ⟨_, _, _, _, _, _, _, _, _, _, _, rfl, F0X.out, fun _ => rfl, F2X.out, F3X.out, F4X.out, F5X.out, F6X.out, F7X.out, U10X.out, QAX.out, G8X.out, G9X.out, E10X.out, R10X.out, R8X.out, R9X.out, R109X.out⟩
          · obtain rfl := Option.some.inj ho
            have l0 := hd ⟨0, .data⟩ (by simp) rfl
            have l1 := hd ⟨1, .data⟩ (by simp) rfl
            obtain rfl := f0 l0
            obtain rfl := f1 l1
            refine wpOp_step rfl fun K hK => ?_
            have F0X := Lib.hid f0
            have F1X := Lib.hid f1
            have F2X := Lib.hid f2
            have F3X := Lib.hid f3
            have F4X := Lib.hid f4
            have F5X := Lib.hid f5
            have F6X := Lib.hid f6
            have F7X := Lib.hid f7
            have U10X := Lib.hid u10
            have QAX := Lib.hid qa
            have G8X := Lib.hid g8
            have G9X := Lib.hid g9
            have E10X := Lib.hid e10
            have R10X := Lib.hid r10
            have R8X := Lib.hid r8
            have R9X := Lib.hid r9
            have R109X := Lib.hid r109
            clear f0 f1 f2 f3 f4 f5 f6 f7 u10 qa g8 g9 e10 r10 r8 r9 r109 hd ho hL l0 l1
            go_simp
            refine hK _ _ ?_
            exact ⟨_, _, _, _, _, _, _, _, _, _, _, rfl, F0X.out, F1X.out, fun _ => rfl, F3X.out, F4X.out, F5X.out, F6X.out, F7X.out, U10X.out, QAX.out, G8X.out, G9X.out, E10X.out, R10X.out, R8X.out, R9X.out, R109X.out⟩
          · obtain rfl := Option.some.inj ho
            refine wpOp_step rfl fun K hK => ?_
            have F0X := Lib.hid f0
            have F1X := Lib.hid f1
            have F2X := Lib.hid f2
            have F3X := Lib.hid f3
            have F4X := Lib.hid f4
            have F5X := Lib.hid f5
            have F6X := Lib.hid f6
            have F7X := Lib.hid f7
            have U10X := Lib.hid u10
            have QAX := Lib.hid qa
            have G8X := Lib.hid g8
            have G9X := Lib.hid g9
            have E10X := Lib.hid e10
            have R10X := Lib.hid r10
            have R8X := Lib.hid r8
            have R9X := Lib.hid r9
            have R109X := Lib.hid r109
            clear f0 f1 f2 f3 f4 f5 f6 f7 u10 qa g8 g9 e10 r10 r8 r9 r109 hd ho hL
            go_simp
            refine hK _ _ ?_
            exact ⟨_, _, _, _, _, _, _, _, _, _, _, rfl, F0X.out, F1X.out, F2X.out, fun _ => rfl, F4X.out, F5X.out, F6X.out, F7X.out, U10X.out, QAX.out, G8X.out, G9X.out, E10X.out, R10X.out, R8X.out, R9X.out, R109X.out⟩
          · obtain rfl := Option.some.inj ho
            have h10 : L 10 = false := by cases hq : L 10 with | false => rfl | true => (have := (fun h => (r10 h).2) hq; simp [hL] at this)
            obtain rfl := u10 h10
            clear h10
            refine wpOp_step rfl fun K hK => ?_
            have F0X := Lib.hid f0
            have F1X := Lib.hid f1
            have F2X := Lib.hid f2
            have F3X := Lib.hid f3
            have F4X := Lib.hid f4
            have F5X := Lib.hid f5
            have F6X := Lib.hid f6
            have F7X := Lib.hid f7
            have U10X := Lib.hid u10
            have QAX := Lib.hid qa
            have G8X := Lib.hid g8
            have G9X := Lib.hid g9
            have E10X := Lib.hid e10
            have R10X := Lib.hid r10
            have R8X := Lib.hid r8
            have R9X := Lib.hid r9
            have R109X := Lib.hid r109
            clear f0 f1 f2 f3 f4 f5 f6 f7 u10 qa g8 g9 e10 r10 r8 r9 r109 hd ho hL
            go_simp
            refine hK _ _ ?_
            exact ⟨_, _, _, _, _, _, _, _, _, _, _, rfl, F0X.out, F1X.out, F2X.out, F3X.out, fun _ => rfl, F5X.out, F6X.out, F7X.out, U10X.out, QAX.out, G8X.out, G9X.out, E10X.out, fun h => ⟨(R10X.out h).1, rfl⟩, R8X.out, R9X.out, R109X.out⟩
          · obtain rfl := Option.some.inj ho
            refine wpOp_step rfl fun K hK => ?_
            have F0X := Lib.hid f0
            have F1X := Lib.hid f1
            have F2X := Lib.hid f2
            have F3X := Lib.hid f3
            have F4X := Lib.hid f4
            have F5X := Lib.hid f5
            have F6X := Lib.hid f6
            have F7X := Lib.hid f7
            have U10X := Lib.hid u10
            have QAX := Lib.hid qa
            have G8X := Lib.hid g8
            have G9X := Lib.hid g9
            have E10X := Lib.hid e10
            have R10X := Lib.hid r10
            have R8X := Lib.hid r8
            have R9X := Lib.hid r9
            have R109X := Lib.hid r109
            clear f0 f1 f2 f3 f4 f5 f6 f7 u10 qa g8 g9 e10 r10 r8 r9 r109 hd ho hL
            go_simp
            refine hK _ _ ?_
            exact ⟨_, _, _, _, _, _, _, _, _, _, _, rfl, F0X.out, F1X.out, F2X.out, F3X.out, F4X.out, fun _ => rfl, F6X.out, F7X.out, U10X.out, QAX.out, G8X.out, G9X.out, E10X.out, R10X.out, R8X.out, R9X.out, R109X.out⟩
          · obtain rfl := Option.some.inj ho
            have l4 := hd ⟨4, .data⟩ (by simp) rfl
            have l5 := hd ⟨5, .data⟩ (by simp) rfl
            obtain rfl := f4 l4
            obtain rfl := f5 l5
            refine wpOp_step rfl fun K hK => ?_
            have F0X := Lib.hid f0
            have F1X := Lib.hid f1
            have F2X := Lib.hid f2
            have F3X := Lib.hid f3
            have F4X := Lib.hid f4
            have F5X := Lib.hid f5
            have F6X := Lib.hid f6
            have F7X := Lib.hid f7
            have U10X := Lib.hid u10
            have QAX := Lib.hid qa
            have G8X := Lib.hid g8
            have G9X := Lib.hid g9
            have E10X := Lib.hid e10
            have R10X := Lib.hid r10
            have R8X := Lib.hid r8
            have R9X := Lib.hid r9
            have R109X := Lib.hid r109
            clear f0 f1 f2 f3 f4 f5 f6 f7 u10 qa g8 g9 e10 r10 r8 r9 r109 hd ho hL l4 l5
            go_simp
            refine hK _ _ ?_
            exact ⟨_, _, _, _, _, _, _, _, _, _, _, rfl, F0X.out, F1X.out, F2X.out, F3X.out, F4X.out, F5X.out, fun _ => rfl, F7X.out, U10X.out, QAX.out, G8X.out, G9X.out, E10X.out, R10X.out, R8X.out, R9X.out, R109X.out⟩
          · obtain rfl := Option.some.inj ho
            have l6 := hd ⟨6, .data⟩ (by simp) rfl
            obtain rfl := f6 l6
            have h8 : L 8 = false := by cases hq : L 8 with | false => rfl | true => (have := r8 hq; simp [hL] at this)
            obtain rfl := qa h8
            obtain ⟨j0, j1, j2, j3⟩ := HJ.out
            clear h8
            refine wpOp_step rfl fun K hK => ?_
            have F0X := Lib.hid f0
            have F1X := Lib.hid f1
            have F2X := Lib.hid f2
            have F3X := Lib.hid f3
            have F4X := Lib.hid f4
            have F5X := Lib.hid f5
            have F6X := Lib.hid f6
            have F7X := Lib.hid f7
            have U10X := Lib.hid u10
            have QAX := Lib.hid qa
            have G8X := Lib.hid g8
            have G9X := Lib.hid g9
            have E10X := Lib.hid e10
            have R10X := Lib.hid r10
            have R8X := Lib.hid r8
            have R9X := Lib.hid r9
            have R109X := Lib.hid r109
            clear f0 f1 f2 f3 f4 f5 f6 f7 u10 qa g8 g9 e10 r10 r8 r9 r109 hd ho hL l6
            go_simp
            refine hK _ _ ?_
            exact ⟨_, _, _, _, _, _, _, _, _, _, _, rfl, F0X.out, F1X.out, F2X.out, F3X.out, F4X.out, F5X.out, F6X.out, fun _ => rfl, U10X.out, QAX.out, G8X.out, G9X.out, E10X.out, R10X.out, fun _ => rfl, R9X.out, R109X.out⟩
          · obtain rfl := Option.some.inj ho
            have l3 := hd ⟨3, .data⟩ (by simp) rfl
            have l7 := hd ⟨7, .data⟩ (by simp) rfl
            obtain rfl := f3 l3
            obtain rfl := f7 l7
            obtain rfl := qa hL
            have L7X := Lib.hid l7
            have h9 : L 9 = false := by cases hq : L 9 with | false => rfl | true => (have := r9 hq; simp [hL] at this)
            have h10 : L 10 = false := by cases hq : L 10 with | false => rfl | true => (have := r109 hq; simp [h9] at this)
            have H9X := Lib.hid (And.intro h9 h10)
            have HC := Lib.hid (HH8.out)
            refine wpOp_step rfl fun K hK => ?_
            have F0X := Lib.hid f0
            have F1X := Lib.hid f1
            have F2X := Lib.hid f2
            have F3X := Lib.hid f3
            have F4X := Lib.hid f4
            have F5X := Lib.hid f5
            have F6X := Lib.hid f6
            have F7X := Lib.hid f7
            have U10X := Lib.hid u10
            have QAX := Lib.hid qa
            have G8X := Lib.hid g8
            have G9X := Lib.hid g9
            have E10X := Lib.hid e10
            have R10X := Lib.hid r10
            have R8X := Lib.hid r8
            have R9X := Lib.hid r9
            have R109X := Lib.hid r109
            clear f0 f1 f2 f3 f4 f5 f6 f7 u10 qa g8 g9 e10 r10 r8 r9 r109 hd ho hL l3 l7 h9 h10
            go_simp
            refine HC.out.mono ?_
            rintro _ w1 ⟨A6, a6, fm6, F6, rfl, hp⟩
            refine hK _ _ ?_
            exact ⟨_, _, _, _, _, _, _, _, _, _, _, rfl, F0X.out, F1X.out, F2X.out, F3X.out, F4X.out, F5X.out, F6X.out, F7X.out, U10X.out, nofun, fun _ _ => ⟨A6, a6, fm6, F6, rfl, hp⟩, fun h => absurd (show L 9 = true from h) (by simp [H9X.out.1]), fun h => absurd (show L 10 = true from h) (by simp [H9X.out.2]), R10X.out, fun _ => L7X.out, fun _ => rfl, R109X.out⟩
          · obtain rfl := Option.some.inj ho
            have l2 := hd ⟨2, .data⟩ (by simp) rfl
            have l8 := hd ⟨8, .data⟩ (by simp) rfl
            obtain rfl := f2 l2
            obtain ⟨A6, a6, fm6, F6, e6, hq, ht6, hs6, hFF, hFN⟩ := g8 l8 hL
            injection e6 with e6
            subst e6
            have h10 : L 10 = false := by cases hq : L 10 with | false => rfl | true => (have := r109 hq; simp [hL] at this)
            have hT : ∀ i, T' i → W.heap[i]? = wr.heap[i]? := fun i hi => ht6.block i (HSR.out.lt i (HSR.out.tF i hi).1) (fun h => h.2 hi)
            have hgl : gw < wr.heap.size := (HOW.out.lt gw rfl).2
            have hgW : W.heap[gw]? = wr.heap[gw]? := ht6.block gw hgl (fun h => HGW.out.1 h.1)
            have hc := own_cut N (by rw [HLE.out]; exact HOW.out) (by rw [HLE.out]; omega) (by simp)
            have hcw : OwnC T' W 0 (.slice (some ⟨gw, 0, none⟩) N c5) q0 := by
                have e0 : (q0 ++ [y]).take N = q0 := by rw [HNN.out]; simp
                rw [e0] at hc
                exact hc.keep (fun i hi => by injection hi with hi; subst hi; exact hgW) (fun _ h => h) hT
            have hT2 : ∀ b, T' b → b < W.heap.size ∧ (Value.slice (some ⟨gw, 0, none⟩) N c5).ownBlock ≠ some b := fun b hb => ⟨Nat.lt_of_lt_of_le (HSR.out.lt b (HSR.out.tF b hb).1) ht6.size, fun e => by injection e with e; subst e; exact HGW.out.1 (HSR.out.tF gw hb).1⟩
            have hlt := step_lt (s := s') HVY.out
            have hk1 := hr_len s' y
            have hPP := HPP.out
            rw [HSQ.out] at hPP
            have hGK := HGK.out
            rw [HSQ.out] at hGK
            have hlr := szs_len (hr s' y).2
            have hlq := szs_len q0
            obtain ⟨v', w2, hrun, ho3, hG⟩ := run_appQ W 0 (.slice (some ⟨gw, 0, none⟩) N c5) q0 (hr s' y).2 A6 a6 T' hcw hq hT2 (by have := HP2.out; omega) (Nat.zero_le _)
            have hL2 : Hid (∃ k, k < gk ∧ Lrn w F g bk bw T' H' P k v' w2) := by
                have hgF : ¬ F6 gw := fun h => by
                  rcases hFN gw h with h1 | h1
                  · exact HGW.out.1 h1
                  · exact absurd hgl (Nat.not_lt.2 h1)
                refine ⟨wz (hr s' y).1 + Te.Tt.szs (q0 ++ (hr s' y).2), by rw [szs_app]; omega, q0 ++ (hr s' y).2, (hr s' y).1, F6, fm6, hs6.keep hG.grown.size (fun i hi => hG.grown.block i (hs6.lt i hi) (fun e => by injection e with e; subst e; exact hgF hi)), ho3, fun i hi => ?_, HIN.out.step, ((HTU.out.trans (Turn.of_below (F := F) (Below.refl _ _).drew) (fun i hi => .inl hi)).trans ht6 (fun i hi => HF2.out i hi.1)).trans (Turn.of_grown (F := fun i => i = gw) hG.grown (fun i e => by injection e with e; exact e.symm)) (fun i hi => .inr (by rw [hi]; exact HGW.out.2)), fun i hi => hFF i (HF1.out i hi), fun i hi => ?_, by rw [szs_app]; omega, rfl⟩
                · rcases hG.lies with e | e
                  · have e2 := e.symm.trans hi
                    injection e2 with e2
                    subst e2
                    exact ⟨hgF, HGW.out.2⟩
                  · have h1 := e i hi
                    refine ⟨fun h => by have := hs6.lt i h; omega, ?_⟩
                    have h2 := HTU.out.size
                    have h3 := ht6.size
                    have h4 : wr.drew.heap.size = wr.heap.size := rfl
                    omega
                · rcases hFN i hi with h1 | h1
                  · exact HF2.out i h1
                  · exact .inr (Nat.le_trans HTU.out.size h1)
            have L8X := Lib.hid l8
            have H10X := Lib.hid h10
            clear hq ht6 hs6 hFF hFN hT hgl hgW hc hcw hT2 hlt hk1 hPP hGK hlr hlq ho3 hG h10
            refine wpOp_step rfl fun K hK => ?_
            refine op_append_run _ rfl (.tmp 20) (.tmp 26) 22 22 rfl _ _ rfl rfl hrun ?_
            have F0X := Lib.hid f0
            have F1X := Lib.hid f1
            have F2X := Lib.hid f2
            have F3X := Lib.hid f3
            have F4X := Lib.hid f4
            have F5X := Lib.hid f5
            have F6X := Lib.hid f6
            have F7X := Lib.hid f7
            have U10X := Lib.hid u10
            have QAX := Lib.hid qa
            have G8X := Lib.hid g8
            have G9X := Lib.hid g9
            have E10X := Lib.hid e10
            have R10X := Lib.hid r10
            have R8X := Lib.hid r8
            have R9X := Lib.hid r9
            have R109X := Lib.hid r109
            clear f0 f1 f2 f3 f4 f5 f6 f7 u10 qa g8 g9 e10 r10 r8 r9 r109 hd ho hL l2 l8
            refine hK _ _ ?_
            exact ⟨_, _, _, _, _, _, _, _, _, _, _, rfl, F0X.out, F1X.out, F2X.out, F3X.out, F4X.out, F5X.out, F6X.out, F7X.out, U10X.out, fun h => absurd (show L 8 = false from h) (by simp [L8X.out]), nofun, fun _ => hL2.out, fun h => absurd (show L 10 = true from h) (by simp [H10X.out]), R10X.out, R8X.out, fun _ => L8X.out, fun _ => rfl⟩
          · obtain rfl := Option.some.inj ho
            have l9 := hd ⟨9, .data⟩ (by simp) rfl
            have l0 := hd ⟨0, .phase⟩ (by simp) rfl
            have l4 := hd ⟨4, .phase⟩ (by simp) rfl
            obtain rfl := f0 l0
            obtain rfl := f4 l4
            have L9X := Lib.hid (And.intro l9 (And.intro l0 l4))
            refine wpOp_step rfl fun K hK => ?_
            have F0X := Lib.hid f0
            have F1X := Lib.hid f1
            have F2X := Lib.hid f2
            have F3X := Lib.hid f3
            have F4X := Lib.hid f4
            have F5X := Lib.hid f5
            have F6X := Lib.hid f6
            have F7X := Lib.hid f7
            have U10X := Lib.hid u10
            have QAX := Lib.hid qa
            have G8X := Lib.hid g8
            have G9X := Lib.hid g9
            have E10X := Lib.hid e10
            have R10X := Lib.hid r10
            have R8X := Lib.hid r8
            have R9X := Lib.hid r9
            have R109X := Lib.hid r109
            clear f0 f1 f2 f3 f4 f5 f6 f7 u10 qa g8 g9 e10 r10 r8 r9 r109 hd ho hL l9 l0 l4
            go_simp
            refine hK _ _ ?_
            exact ⟨_, _, _, _, _, _, _, _, _, _, t27, rfl, F0X.out, F1X.out, F2X.out, F3X.out, F4X.out, F5X.out, F6X.out, F7X.out, nofun, QAX.out, G8X.out, G9X.out, fun _ => rfl, fun _ => L9X.out.2, R8X.out, R9X.out, fun _ => L9X.out.1⟩
          · simp at ho
        · rintro L _ W ⟨t18, t19, t20, t21, t22, t23, t24, t25, t26, t27, t4, rfl, f0, f1, f2, f3, f4, f5, f6, f7, u10, qa, g8, g9, e10, r10, r8, r9, r109⟩ hall
          obtain rfl := f0 (hall 0 (by decide))
          obtain rfl := f1 (hall 1 (by decide))
          obtain rfl := f2 (hall 2 (by decide))
          obtain rfl := f3 (hall 3 (by decide))
          obtain rfl := f4 (hall 4 (by decide))
          obtain rfl := f5 (hall 5 (by decide))
          obtain rfl := f6 (hall 6 (by decide))
          obtain rfl := f7 (hall 7 (by decide))
          obtain ⟨k2, hk2, hl2⟩ := g9 (hall 9 (by decide))
          obtain rfl := e10 (hall 10 (by decide))
          have HL2 := Lib.hid hl2
          clear qa g8 g9 e10 r10 r8 r9 r109 hall u10 hl2
          go_wp2
          go_roundg k2
          case measure => exact hk2
          case rel => exact HL2
end Go.Proofs.YtiidooponlbnmaaDoor.Kn
