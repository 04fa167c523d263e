/- TermDeep. -/
import Derived.Test.YtfhcfaflggiacaaDoorTmV3
import Derived.Test.YtfhcfaflggiacaaDoorTmV4
import Derived.Test.YtfhcfaflggiacaaDoorTmV1
namespace Go.Proofs.YtfhcfaflggiacaaDoor
open Go.RowKit
open Tt

/-- A new row, seen from a later world that leaves it, and what it leads to, alone. -/
theorem NewRow.repS {S S' : Nat → Prop} {m : Nat} {w' w'' : World} {l : List Tm} {u : Value} (h : NewRow S m w' l u) (hS : ∀ b, S b → S' b) (hk : ∀ b, S b ∨ (m ≤ b ∧ b < w'.heap.size) → w''.heap[b]? = w'.heap[b]?) (hg : ∀ g, m ≤ g → g < w'.heap.size → S' g) (k : Int) (s : List UInt8) (n : Int) (hn : InR n) :
    Rep w'' S' (.mk k s n l) (.agg #[.int .i64 k, .string ⟨⟨s⟩⟩, .int .i64 n, u]) := by
  obtain ⟨g, xs, rfl, hgm, hc, he⟩ := h
  have hlt : g < w'.heap.size := (Array.getElem?_eq_some_iff.1 hc).1
  refine rep_mk.2 ⟨_, _, rfl, hn, .inr ⟨g, 0, rfl, hg g hgm hlt, ?_⟩⟩
  refine els_reps l xs 0 (els_keep hS (fun b o hb => World.cell?_of_block (a := ⟨b, o, none⟩) (hk b (.inl hb))) l xs he) fun j u hj => ?_
  rw [Nat.zero_add, cell_of_row _ _ _ _ _ _ ((hk g (.inr ⟨hgm, hlt⟩)).trans hc)]
  simpa using hj

/-- What is so in the first loop. -/
def InBox (z8 : Nat) (x : Tm) (i : Nat) (wr : World) : Prop := ∃ k s n l A c, wrap i x = .mk k s n l ∧ Hold wr (fun b => b < wr.heap.size ∧ b ≠ z8) z8 k s n l A c
/-- What is so in the second one. -/
def InRow (B z11 : Nat) (S : Nat → Prop) (x : Tm) (i : Nat) (wr : World) : Prop := ∃ A c, wr.heap[z11]? = some (.cells #[.int .i64 3, .string ⟨#[]⟩, .int .i64 0, .slice A i c] 25 (0, 0)) ∧ OwnT S wr B (.slice A i c) (List.replicate i x) ∧ (Value.slice A i c).ownBlock ≠ some z11

set_option maxHeartbeats 4000000 in
set_option maxRecDepth 100000 in
theorem termDeep_walk (x : Tm) (vx : Value) (a : Int) (w : World) (hkx : bk x ≤ 1048576) (hai : -9223372036854775808 ≤ a ∧ a ≤ 9223372036854775807) (rx : Rep w (Lo w) x vx) (htab : TabB w.heap.size w) :
    Calls Tryd.prog 8 #[vx, .int .i64 a] w fun e w' => e = .returned (.bool true) ∧ Below w.heap.size w w' := by
  have hsx := sz_le_bk x
  have hdx := dp_sz x
  have HX : Hid (∀ W, Below w.heap.size w W → Rep W (Lo w) x vx) := fun W h => rep_keep (fun _ h => h) (fun c o hc => h.cell (p := ⟨c, o, none⟩) hc) _ _ rx
  have hlx := fun W (h : Below w.heap.size w W) => Large_any x 20 (Lo W) vx W (by omega) (rx.lo h) (fun _ h => h)
  have hvx := fun W (h : Below w.heap.size w W) (h2 : sz x ≤ 262144) => Valid_any x (Lo W) vx W h2 (rx.lo h) (fun _ h => h)
  have hdep := fun W (h : Below w.heap.size w W) => depth_any x (Lo W) vx W (by omega) (rx.lo h) (fun _ h => h)
  have hwv := fun i => wrap_vld i x
  have hws := fun i => wrap_sz i x
  have hrv := rep_vld 64 x (by decide) (by decide)
  have hrs := fun m => szs_rep m x
  obtain ⟨N, hN⟩ : ∃ N, N = sz x := ⟨_, rfl⟩
  obtain ⟨V, hV⟩ : ∃ V, V = vld 0 x := ⟨_, rfl⟩
  obtain ⟨D, hD⟩ : ∃ D, D = dp x := ⟨_, rfl⟩
  rw [← hN] at hlx hvx hsx hdx
  rw [← hV] at hvx hrv
  rw [← hD] at hdep hdx hrv
  simp only [← hN] at hws hrs
  simp only [← hV, ← hD] at hwv
  have HWV : Hid (∀ i, vld 0 (wrap i x) = (V && decide (D + i ≤ 16))) := hwv
  have HWS : Hid (∀ i, sz (wrap i x) = N + i) := hws
  have HRV : Hid (vld 0 (.mk 3 [] 0 (List.replicate 64 x)) = (V && decide (D < 16))) := hrv
  have HRV5 : Hid (vld 0 (.mk 3 [] 0 (List.replicate 65 x)) = false) := rep65_vld x
  have HRS : Hid (∀ m, szs (List.replicate m x) = m * N) := hrs
  clear hN hV hD hwv hws hrv hrs
  obtain ⟨k1, s1, n1, l1⟩ := x
  obtain ⟨A1, ca1, rfl, hin1, -⟩ := rep_mk.1 rx
  obtain ⟨z, hz⟩ : ∃ z, z = w.heap.size := ⟨_, rfl⟩
  obtain ⟨W2, hW2⟩ : ∃ W2, W2 = (w.alloc (.cells #[.int .i64 k1, .string ⟨⟨s1⟩⟩, .int .i64 n1, .slice A1 l1.length ca1] 25)) := ⟨_, rfl⟩
  have hB2 : Below w.heap.size w W2 := by rw [hW2]; exact (Below.refl _ _).alloc (Nat.le_refl _) _
  have hs2 : W2.heap.size = z + 1 := by rw [hW2, hz]; simp
  have hg0 : W2.heap[z]? = some (.cells #[.int .i64 k1, .string ⟨⟨s1⟩⟩, .int .i64 n1, .slice A1 l1.length ca1] 25 (0, 0)) := by
    rw [hW2, hz]; exact heap_alloc_new w _
  have HC : Hid (∀ W, Below W2.heap.size W2 W → Below w.heap.size w W ∧ (W.cell? ⟨z, 0, none⟩ = some (.int .i64 k1) ∧ W.cell? ⟨z, 1, none⟩ = some (.string ⟨⟨s1⟩⟩) ∧ W.cell? ⟨z, 2, none⟩ = some (.int .i64 n1) ∧ W.cell? ⟨z, 3, none⟩ = some (.slice A1 l1.length ca1))) := fun W h =>
    ⟨hB2.trans (h.mono hB2.size), cell4 ((h.block z (by omega)).trans hg0)⟩
  have hLo : Hid (∀ b, Lo w b → b < W2.heap.size) := fun b hb => by have h3 : b < w.heap.size := hb; omega
  have HWK := Lib.hid (works_any W2 (htab.up hB2))
  have HLX := Lib.hid hlx
  have HVX := Lib.hid hvx
  have HDEP := Lib.hid hdep
  have HW2 := Lib.hid hW2
  have HZ := Lib.hid hz
  have HS2 := Lib.hid hs2
  have HIN1 := Lib.hid hin1
  clear rx htab hlx hvx hdep hW2 hz hB2 hs2 hg0 hin1
  go_enter Tryd.func8, Tryd.ntmps8
  go_wp2_with fail
  rw [← HW2.out, ← HZ.out]
  refine HWK.out.mono ?_
  rintro _ w3 ⟨rfl, b3⟩
  have HB3 := Lib.hid b3
  obtain ⟨hb, c0, c1, c2, c3⟩ := HC.out w3 b3
  have HL1 := Lib.hid (HLX.out w3 hb)
  clear b3 hb HWK
  obtain ⟨B1, hB1⟩ : ∃ B1, B1 = decide (20 < N) := ⟨_, rfl⟩
  rw [← hB1] at HL1
  have HB1Q := Lib.hid hB1
  clear hB1
  go_wp2_with fail
  refine HL1.out.mono ?_
  rintro _ w4 ⟨rfl, b4⟩
  have HB4 : Hid (Below W2.heap.size W2 w4) := HB3.out.trans (b4.mono HB3.out.size)
  clear c0 c1 c2 c3 HL1 b4 HB3
  obtain ⟨hb, c0, c1, c2, c3⟩ := HC.out w4 HB4.out
  have HBW4 := Lib.hid hb
  clear hb
  cases B1
  case true =>
    go_wp2
    go_ret
    exact ⟨rfl, HBW4.out⟩
  by_cases ha0 : a < 0
  · go_wp2
    go_ret
    exact ⟨rfl, HBW4.out⟩
  by_cases ha20 : 20 < a
  · go_wp2
    go_ret
    exact ⟨rfl, HBW4.out⟩
  have hN20 : N ≤ 20 := by have := HB1Q.out; simpa using this
  clear HB1Q
  obtain ⟨m, rfl⟩ := Int.eq_ofNat_of_zero_le (show 0 ≤ a by omega)
  have hm20 : m ≤ 20 := by omega
  have HV4 := Lib.hid (HVX.out w4 HBW4.out (by omega))
  clear ha0 hai
  have ha0 : ¬ (m : Int) < 0 := by omega
  go_wp2_with fail
  refine HV4.out.mono ?_
  rintro _ w5 ⟨rfl, b5⟩
  have HB5 : Hid (Below W2.heap.size W2 w5) := HB4.out.trans (b5.mono HB4.out.size)
  clear c0 c1 c2 c3 HV4 b5 HB4 HBW4
  obtain ⟨hb5, c0, c1, c2, c3⟩ := HC.out w5 HB5.out
  obtain ⟨z8, hz8⟩ : ∃ z8, z8 = w5.heap.size := ⟨_, rfl⟩
  obtain ⟨W8, hW8⟩ : ∃ W8, W8 = (w5.alloc (.cells #[.int .i64 k1, .string ⟨⟨s1⟩⟩, .int .i64 n1, .slice A1 l1.length ca1] 25)) := ⟨_, rfl⟩
  have b58 : Below w5.heap.size w5 W8 := by rw [hW8]; exact (Below.refl _ _).alloc (Nat.le_refl _) _
  have HB8 : Hid (Below W2.heap.size W2 W8) := HB5.out.trans (b58.mono HB5.out.size)
  have hz28 : W2.heap.size ≤ z8 := by rw [hz8]; exact HB5.out.size
  have HI8 : Hid (InBox z8 (.mk k1 s1 n1 l1) 0 W8) := by
    refine ⟨k1, s1, n1, l1, A1, ca1, rfl, ?_, ?_, fun b hb => hb.1⟩
    · rw [hW8, hz8]; exact heap_alloc_new w5 _
    · have h1 := HX.out W8 (HC.out W8 HB8.out).1
      exact rep_keep (fun b hb => by have h2 := hLo.out b hb; have h3 := HB8.out.size; exact ⟨by omega, by omega⟩) (fun _ _ _ => rfl) _ _ h1
  have HZ8 := Lib.hid hz8
  have HW8 := Lib.hid hW8
  clear hz8 hW8 b58 hb5 HB5
  go_wp2
  rw [← HW8.out, ← HZ8.out]
  go_loopw [9] (fun iv wr => ∃ i : Nat, i ≤ m ∧ iv = .int .i64 (i : Nat) ∧ Hid (Below W2.heap.size W2 wr) ∧ Hid (InBox z8 (.mk k1 s1 n1 l1) i wr)) (fun iv _ => m - (intOf iv).toNat)
  case atStart => exact ⟨0, by omega, rfl, HB8, HI8⟩
  case round =>
    obtain ⟨i, hi, rfl, HB, HI⟩ := hrel
    clear c0 c1 c2 c3
    obtain ⟨k, s, n, l, A, c, hwr, hold⟩ := HI.out
    by_cases hlt : i < m
    · have hil : (i : Int) < (m : Int) := by omega
      obtain ⟨e0, e1, e2, e3⟩ := hold.cells
      have hlr := lrow_one (hold.rep) hold.low 25
      obtain ⟨W9, hW9⟩ : ∃ W9, W9 = (wr.alloc (.cells #[.int .i64 k, .string ⟨⟨s⟩⟩, .int .i64 n, .slice A l.length c] 25)) := ⟨_, rfl⟩
      have b9 : Below wr.heap.size wr W9 := by rw [hW9]; exact (Below.refl _ _).alloc (Nat.le_refl _) _
      rw [← hW9] at hlr
      have HL := Lib.hid (List_any [.mk k s n l] _ 1 _ W9 (by simp) hlr (fun b hb => Nat.lt_of_lt_of_le hb.1 b9.size))
      have hz8l := hold.lt
      have hg8 := (b9.block z8 hz8l).trans hold.1
      have HG8 := Lib.hid hg8
      have HW9 := Lib.hid hW9
      have HB9 : Hid (Below W2.heap.size W2 W9) := HB.out.trans (b9.mono HB.out.size)
      have HSZ9 : Hid (wr.heap.size ≤ W9.heap.size) := b9.size
      clear hlr hold b9 hg8 hW9 HI
      go_wp2_with fail
      rw [← HW9.out]
      refine HL.out.mono ?_
      rintro _ w10 ⟨u, rfl, b10, hnr⟩
      have hg10 := (b10.block z8 (by have := HSZ9.out; omega)).trans HG8.out
      have HG10 := Lib.hid hg10
      clear e0 e1 e2 e3
      obtain ⟨e0, e1, e2, e3⟩ := cell4 hg10
      have f0 := fun k => frozen_of_row _ _ k _ _ hg10
      have HB10 : Hid (Below W2.heap.size W2 w10) := HB9.out.trans (b10.mono HB9.out.size)
      have hlt9 : z8 < W9.heap.size := by have := HSZ9.out; omega
      have hnr2 : ∀ cs, Rep (w10.setRow z8 cs) (fun b => b < (w10.setRow z8 cs).heap.size ∧ b ≠ z8) (.mk 3 [] 0 [.mk k s n l]) (.agg #[.int .i64 3, .string ⟨⟨[]⟩⟩, .int .i64 0, u]) := fun cs =>
        hnr.repS (fun b hb => ⟨by rw [size_setRow]; have := HSZ9.out; have := b10.size; omega, hb.2⟩) (fun b hb => setRow_other _ _ _ _ (by rcases hb with hb | hb; exact hb.2; omega)) (fun g h1 h2 => ⟨by rw [size_setRow]; exact h2, by omega⟩) 3 [] 0 ⟨by omega, by omega⟩
      obtain ⟨g, xs, rfl, -, -, -⟩ := hnr
      have HNR2 := Lib.hid hnr2
      have HWR := Lib.hid hwr
      clear hg10 b10 hnr2 HL hwr
      go_wp2
      rw [set4 HG10.out]
      go_roundw
      case rel =>
        refine ⟨i + 1, by omega, by go_num, below_setRow4 HB10.out hz28 _, ?_⟩
        refine ⟨3, [], 0, [.mk k s n l], some ⟨g, 0, none⟩, 1, by rw [wrap, HWR.out], setRow_heap _ _ _ _ _ _ HG10.out, HNR2.out _, fun b hb => hb.1⟩
      case measure => simp [intOf]; omega
    · have hil : ¬ (i : Int) < (m : Int) := by omega
      obtain rfl : i = m := by omega
      obtain ⟨hbr, c0, c1, c2, c3⟩ := HC.out wr HB.out
      have HD6 := Lib.hid (HDEP.out wr hbr)
      have hws := HWS.out i
      have hwv := HWV.out i
      rw [hwr] at hws hwv
      have HHO := Lib.hid hold
      have hz8l := hold.lt
      clear hold hwr hbr HI HI8
      go_wp2_with fail
      refine HD6.out.mono ?_
      rintro _ w11 ⟨rfl, b11⟩
      have HB11 : Hid (Below W2.heap.size W2 w11) := HB.out.trans (b11.mono HB.out.size)
      have hold11 := HHO.out.below b11
      obtain ⟨e0, e1, e2, e3⟩ := hold11.cells
      have hva := Valid_any (.mk k s n l) _ _ w11 (by omega) hold11.rep hold11.low
      rw [hwv] at hva
      have HVA := Lib.hid hva
      clear hva hold11 HHO b11 HD6 c0 c1 c2 c3 hws hwv
      have hD16 : D ≤ 20 := by omega
      cases V
      case false =>
        rw [show (false && decide (D + i ≤ 16)) = false from rfl] at HVA
        go_wp2_with fail
        refine HVA.out.mono ?_
        rintro _ w12 ⟨rfl, b12⟩
        have HB12 : Hid (Below W2.heap.size W2 w12) := HB11.out.trans (b12.mono HB11.out.size)
        clear b12 HVA e0 e1 e2 e3 HB11
        have HLN := Lib.hid (List_any [] none 0 (Lo w) w12 (by simp) (.inl rfl) (fun b hb => by have := hLo.out b hb; have := HB12.out.size; omega))
        go_wp2_with fail
        refine HLN.out.mono ?_
        rintro _ w13 ⟨u, rfl, b13, hnr⟩
        have HB13 : Hid (Below W2.heap.size W2 w13) := HB12.out.trans (b13.mono HB12.out.size)
        have hown13 : OwnT (Lo w) w13 W2.heap.size u [] := hnr.own HB12.out.size (by simp) (fun _ h => h)
        obtain ⟨A13, ca13, rfl⟩ := hown13.form
        obtain ⟨z11, hz11⟩ : ∃ z11, z11 = w13.heap.size := ⟨_, rfl⟩
        obtain ⟨W14, hW14⟩ : ∃ W14, W14 = (w13.alloc (.cells #[.int .i64 3, .string ⟨#[]⟩, .int .i64 0, .slice A13 0 ca13] 25)) := ⟨_, rfl⟩
        have b14 : Below w13.heap.size w13 W14 := by rw [hW14]; exact (Below.refl _ _).alloc (Nat.le_refl _) _
        have HB14 : Hid (Below W2.heap.size W2 W14) := HB13.out.trans (b14.mono HB13.out.size)
        have hz211 : W2.heap.size ≤ z11 := by rw [hz11]; exact HB13.out.size
        have HI14 : Hid (InRow W2.heap.size z11 (Lo w) (.mk k1 s1 n1 l1) 0 W14) := by
          refine ⟨A13, ca13, ?_, hown13.below b14 (fun b hb => by have := hLo.out b hb; have := HB13.out.size; omega), fun e => by have := (hown13.lt z11 e).2; omega⟩
          rw [hW14, hz11]; exact heap_alloc_new w13 _
        have HZ11 := Lib.hid hz11
        have HW14 := Lib.hid hW14
        clear hz11 hW14 b14 b13 hnr hown13 HLN HB13 HB12
        go_wp2
        rw [← HW14.out, ← HZ11.out]
        go_loopw [12] (fun jv wr => ∃ j : Nat, j ≤ 64 ∧ jv = .int .i64 (j : Nat) ∧ Hid (Below W2.heap.size W2 wr) ∧ Hid (InRow W2.heap.size z11 (Lo w) (.mk k1 s1 n1 l1) j wr)) (fun jv _ => 64 - (intOf jv).toNat)
        case atStart => exact ⟨0, by omega, rfl, HB14, HI14⟩
        case round =>
          obtain ⟨j, hj, rfl, HBj, HIj⟩ := hrel
          obtain ⟨A, c, hg, ho, hne⟩ := HIj.out
          obtain ⟨hbw, c0, c1, c2, c3⟩ := HC.out wr HBj.out
          obtain ⟨d0, d1, d2, d3⟩ := cell4 hg
          have HXX := Lib.hid (HX.out wr hbw)
          have HOj := Lib.hid ho
          have HGj := Lib.hid hg
          have hbase : W2.heap.size ≤ wr.heap.size := HBj.out.size
          have hz11l : z11 < wr.heap.size := (Array.getElem?_eq_some_iff.1 hg).1
          by_cases hjl : j < 64
          · have hjli : (j : Int) < 64 := by omega
            clear HIj hg ho hbw
            go_wp2_with (at_builtin; refine wpList_appT wr rfl (.tmp 58) (.tmp 60) rfl W2.heap.size _ (List.replicate j (.mk k1 s1 n1 l1)) (.mk k1 s1 n1 l1) _ _ _ _ (Lo w) rfl _ rfl rfl HOj.out HXX.out hLo.out (by rw [List.length_replicate]; omega) hbase ?_; intro v' w10 ho10 hb10 hk10 how10 hsz10; obtain ⟨A10, ca10, hv10⟩ := ho10.form; rw [List.length_append, List.length_replicate, List.length_singleton] at hv10; subst hv10; have hg10 := (hk10 z11 hz11l hne).trans HGj.out; have hf10 := fun k => frozen_of_row _ _ k _ _ hg10; have hs10 := set1L hg10 (.slice A10 (j + 1) ca10); have hc10 := cell4 hg10; obtain ⟨x0, x1, x2, x3⟩ := hc10; have hg11 := setRow_heap w10 z11 _ #[.int .i64 3, .string ⟨#[]⟩, .int .i64 0, .slice A10 (j + 1) ca10] _ _ hg10; have hc11 := cell4 hg11; obtain ⟨y0, y1, y2, y3⟩ := hc11; have HNE : Hid ((Value.slice A10 (j + 1) ca10).ownBlock ≠ some z11) := (fun e => (by rcases how10 z11 e with h | h; exact hne h; omega)); have HO11 : Hid (OwnT (Lo w) (w10.setRow z11 #[.int .i64 3, .string ⟨#[]⟩, .int .i64 0, .slice A10 (j + 1) ca10]) W2.heap.size (.slice A10 (j + 1) ca10) (List.replicate (j + 1) (.mk k1 s1 n1 l1))) := (by have h5 := ho10.keep (w' := (w10.setRow z11 #[.int .i64 3, .string ⟨#[]⟩, .int .i64 0, .slice A10 (j + 1) ca10])) (fun k hk => setRow_other _ _ _ _ (fun e => HNE.out (e ▸ hk))) (fun _ h => h) (fun b hb => setRow_other _ _ _ _ (by have := hLo.out b hb; omega)); rwa [← List.replicate_succ'] at h5); have HB10 := Lib.hid hb10; have HG11 := Lib.hid hg11; clear ho10 hb10 hk10 hg10 how10 hg11 )
            have hi15 : InRow W2.heap.size z11 (Lo w) (.mk k1 s1 n1 l1) (j + 1) (w10.setRow z11 #[.int .i64 3, .string ⟨#[]⟩, .int .i64 0, .slice A10 (j + 1) ca10]) := ⟨A10, ca10, HG11.out, HO11.out, HNE.out⟩
            have hb15 : Below W2.heap.size W2 (w10.setRow z11 #[.int .i64 3, .string ⟨#[]⟩, .int .i64 0, .slice A10 (j + 1) ca10]) := below_setRow4 (HBj.out.trans HB10.out) hz211 _
            go_roundw
            case rel => exact ⟨j + 1, by omega, by go_num, hb15, hi15⟩
            case measure => simp [intOf]; omega
          · obtain rfl : j = 64 := by omega
            have hjli : ¬ ((64 : Nat) : Int) < 64 := by omega
            have hrow := ho.row (S' := Lo wr) (fun b h => by have := hLo.out b h; omega) (fun b h => (ho.lt b h).2)
            have hrepw : Rep wr (Lo wr) (.mk 3 [] 0 (List.replicate 64 (.mk k1 s1 n1 l1))) (.agg #[.int .i64 3, .string ⟨⟨[]⟩⟩, .int .i64 0, .slice A 64 c]) := rep_mk.2 ⟨A, c, by rw [List.length_replicate], ⟨by omega, by omega⟩, hrow⟩
            have hvl := Valid_any _ (Lo wr) _ wr (by rw [sz, HRS.out]; omega) hrepw (fun _ h => h)
            rw [HRV.out] at hvl
            have HVL := Lib.hid hvl
            clear HIj hg ho hbw hrow hrepw hvl
            go_wp2_with fail
            refine HVL.out.mono ?_
            rintro _ w15 ⟨rfl, b15⟩
            have HB15 : Hid (Below W2.heap.size W2 w15) := HBj.out.trans (b15.mono HBj.out.size)
            have HO15 : Hid (OwnT (Lo w) w15 W2.heap.size (.slice A 64 c) (List.replicate 64 (.mk k1 s1 n1 l1))) := HOj.out.below b15 (fun b hb => by have := hLo.out b hb; omega)
            have hg15 := (b15.block z11 hz11l).trans HGj.out
            have HG15 := Lib.hid hg15
            clear c0 c1 c2 c3 d0 d1 d2 d3 HXX
            obtain ⟨hbw, c0, c1, c2, c3⟩ := HC.out w15 HB15.out
            obtain ⟨d0, d1, d2, d3⟩ := cell4 hg15
            have HXX := Lib.hid (HX.out w15 hbw)
            have hbase5 : W2.heap.size ≤ w15.heap.size := HB15.out.size
            have hz11l5 : z11 < w15.heap.size := by have := b15.size; omega
            clear hbw b15 hg15 HVL
            go_wp2_with (at_builtin; refine wpList_appT w15 rfl (.tmp 66) (.tmp 68) rfl W2.heap.size _ (List.replicate 64 (.mk k1 s1 n1 l1)) (.mk k1 s1 n1 l1) _ _ _ _ (Lo w) rfl _ rfl rfl HO15.out HXX.out hLo.out (by rw [List.length_replicate]; omega) hbase5 ?_; intro v' w10 ho10 hb10 hk10 how10 hsz10; obtain ⟨A10, ca10, hv10⟩ := ho10.form; rw [List.length_append, List.length_replicate, List.length_singleton] at hv10; subst hv10; have hg10 := (hk10 z11 hz11l5 hne).trans HG15.out; have hf10 := fun k => frozen_of_row _ _ k _ _ hg10; have hs10 := set1L hg10 (.slice A10 (65) ca10); have hc10 := cell4 hg10; obtain ⟨x0, x1, x2, x3⟩ := hc10; have hg11 := setRow_heap w10 z11 _ #[.int .i64 3, .string ⟨#[]⟩, .int .i64 0, .slice A10 (65) ca10] _ _ hg10; have hc11 := cell4 hg11; obtain ⟨y0, y1, y2, y3⟩ := hc11; have HNE : Hid ((Value.slice A10 (65) ca10).ownBlock ≠ some z11) := (fun e => (by rcases how10 z11 e with h | h; exact hne h; omega)); have HO11 : Hid (OwnT (Lo w) (w10.setRow z11 #[.int .i64 3, .string ⟨#[]⟩, .int .i64 0, .slice A10 (65) ca10]) W2.heap.size (.slice A10 (65) ca10) (List.replicate (65) (.mk k1 s1 n1 l1))) := (by have h5 := ho10.keep (w' := (w10.setRow z11 #[.int .i64 3, .string ⟨#[]⟩, .int .i64 0, .slice A10 (65) ca10])) (fun k hk => setRow_other _ _ _ _ (fun e => HNE.out (e ▸ hk))) (fun _ h => h) (fun b hb => setRow_other _ _ _ _ (by have := hLo.out b hb; omega)); rwa [← List.replicate_succ'] at h5); have HB10 := Lib.hid hb10; have HG11 := Lib.hid hg11; clear ho10 hb10 hk10 hg10 how10 hg11 ; have hb16 : Below W2.heap.size W2 (w10.setRow z11 #[.int .i64 3, .string ⟨#[]⟩, .int .i64 0, .slice A10 65 ca10]) := below_setRow4 (HB15.out.trans HB10.out) hz211 _; clear c0 c1 c2 c3; obtain ⟨hbw, c0, c1, c2, c3⟩ := HC.out _ hb16; have HBW16 := Lib.hid hbw; have HB16 := Lib.hid hb16; clear hbw hb16; obtain ⟨W17, hW17⟩ : ∃ W17, W17 = (w10.setRow z11 #[.int .i64 3, .string ⟨#[]⟩, .int .i64 0, .slice A10 (65) ca10]) := ⟨_, rfl⟩; rw [← hW17] at HO11 HG11 HB16 HBW16 y0 y1 y2 y3 c0 c1 c2 c3 hs10; have HO17 := HO11; have HB17 := HB16; have HW17 := Lib.hid hW17; clear hW17)
            have hrow := HO17.out.row (S' := Lo W17) (fun b h => by have := hLo.out b h; have := HB17.out.size; omega) (fun b h => (HO17.out.lt b h).2)
            have hrepw : Rep W17 (Lo W17) (.mk 3 [] 0 (List.replicate 65 (.mk k1 s1 n1 l1))) (.agg #[.int .i64 3, .string ⟨⟨[]⟩⟩, .int .i64 0, .slice A10 65 ca10]) := rep_mk.2 ⟨A10, ca10, by rw [List.length_replicate], ⟨by omega, by omega⟩, hrow⟩
            have hvl := Valid_any _ (Lo W17) _ W17 (by rw [sz, HRS.out]; omega) hrepw (fun _ h => h)
            rw [HRV5.out] at hvl
            have HVL5 := Lib.hid hvl
            clear hrow hrepw hvl
            go_wp2_with fail
            refine HVL5.out.mono ?_
            rintro _ w18 ⟨rfl, b18⟩
            have HE : Hid (Below w.heap.size w w18) := (HC.out _ (HB17.out.trans (b18.mono HB17.out.size))).1
            clear b18
            go_wp2
            go_ret
            exact ⟨rfl, HE.out⟩
      case true =>
        by_cases hq : D + i ≤ 16
        · have hqi : (D : Int) + (i : Int) ≤ 16 := by omega
          rw [show (true && decide (D + i ≤ 16)) = true by simp [hq]] at HVA
          go_wp2_with fail
          refine HVA.out.mono ?_
          rintro _ w12 ⟨rfl, b12⟩
          have HB12 : Hid (Below W2.heap.size W2 w12) := HB11.out.trans (b12.mono HB11.out.size)
          clear b12 HVA e0 e1 e2 e3 HB11
          have HLN := Lib.hid (List_any [] none 0 (Lo w) w12 (by simp) (.inl rfl) (fun b hb => by have := hLo.out b hb; have := HB12.out.size; omega))
          go_wp2_with fail
          refine HLN.out.mono ?_
          rintro _ w13 ⟨u, rfl, b13, hnr⟩
          have HB13 : Hid (Below W2.heap.size W2 w13) := HB12.out.trans (b13.mono HB12.out.size)
          have hown13 : OwnT (Lo w) w13 W2.heap.size u [] := hnr.own HB12.out.size (by simp) (fun _ h => h)
          obtain ⟨A13, ca13, rfl⟩ := hown13.form
          obtain ⟨z11, hz11⟩ : ∃ z11, z11 = w13.heap.size := ⟨_, rfl⟩
          obtain ⟨W14, hW14⟩ : ∃ W14, W14 = (w13.alloc (.cells #[.int .i64 3, .string ⟨#[]⟩, .int .i64 0, .slice A13 0 ca13] 25)) := ⟨_, rfl⟩
          have b14 : Below w13.heap.size w13 W14 := by rw [hW14]; exact (Below.refl _ _).alloc (Nat.le_refl _) _
          have HB14 : Hid (Below W2.heap.size W2 W14) := HB13.out.trans (b14.mono HB13.out.size)
          have hz211 : W2.heap.size ≤ z11 := by rw [hz11]; exact HB13.out.size
          have HI14 : Hid (InRow W2.heap.size z11 (Lo w) (.mk k1 s1 n1 l1) 0 W14) := by
            refine ⟨A13, ca13, ?_, hown13.below b14 (fun b hb => by have := hLo.out b hb; have := HB13.out.size; omega), fun e => by have := (hown13.lt z11 e).2; omega⟩
            rw [hW14, hz11]; exact heap_alloc_new w13 _
          have HZ11 := Lib.hid hz11
          have HW14 := Lib.hid hW14
          clear hz11 hW14 b14 b13 hnr hown13 HLN HB13 HB12
          go_wp2
          rw [← HW14.out, ← HZ11.out]
          go_loopw [12] (fun jv wr => ∃ j : Nat, j ≤ 64 ∧ jv = .int .i64 (j : Nat) ∧ Hid (Below W2.heap.size W2 wr) ∧ Hid (InRow W2.heap.size z11 (Lo w) (.mk k1 s1 n1 l1) j wr)) (fun jv _ => 64 - (intOf jv).toNat)
          case atStart => exact ⟨0, by omega, rfl, HB14, HI14⟩
          case round =>
            obtain ⟨j, hj, rfl, HBj, HIj⟩ := hrel
            obtain ⟨A, c, hg, ho, hne⟩ := HIj.out
            obtain ⟨hbw, c0, c1, c2, c3⟩ := HC.out wr HBj.out
            obtain ⟨d0, d1, d2, d3⟩ := cell4 hg
            have HXX := Lib.hid (HX.out wr hbw)
            have HOj := Lib.hid ho
            have HGj := Lib.hid hg
            have hbase : W2.heap.size ≤ wr.heap.size := HBj.out.size
            have hz11l : z11 < wr.heap.size := (Array.getElem?_eq_some_iff.1 hg).1
            by_cases hjl : j < 64
            · have hjli : (j : Int) < 64 := by omega
              clear HIj hg ho hbw
              go_wp2_with (at_builtin; refine wpList_appT wr rfl (.tmp 58) (.tmp 60) rfl W2.heap.size _ (List.replicate j (.mk k1 s1 n1 l1)) (.mk k1 s1 n1 l1) _ _ _ _ (Lo w) rfl _ rfl rfl HOj.out HXX.out hLo.out (by rw [List.length_replicate]; omega) hbase ?_; intro v' w10 ho10 hb10 hk10 how10 hsz10; obtain ⟨A10, ca10, hv10⟩ := ho10.form; rw [List.length_append, List.length_replicate, List.length_singleton] at hv10; subst hv10; have hg10 := (hk10 z11 hz11l hne).trans HGj.out; have hf10 := fun k => frozen_of_row _ _ k _ _ hg10; have hs10 := set1L hg10 (.slice A10 (j + 1) ca10); have hc10 := cell4 hg10; obtain ⟨x0, x1, x2, x3⟩ := hc10; have hg11 := setRow_heap w10 z11 _ #[.int .i64 3, .string ⟨#[]⟩, .int .i64 0, .slice A10 (j + 1) ca10] _ _ hg10; have hc11 := cell4 hg11; obtain ⟨y0, y1, y2, y3⟩ := hc11; have HNE : Hid ((Value.slice A10 (j + 1) ca10).ownBlock ≠ some z11) := (fun e => (by rcases how10 z11 e with h | h; exact hne h; omega)); have HO11 : Hid (OwnT (Lo w) (w10.setRow z11 #[.int .i64 3, .string ⟨#[]⟩, .int .i64 0, .slice A10 (j + 1) ca10]) W2.heap.size (.slice A10 (j + 1) ca10) (List.replicate (j + 1) (.mk k1 s1 n1 l1))) := (by have h5 := ho10.keep (w' := (w10.setRow z11 #[.int .i64 3, .string ⟨#[]⟩, .int .i64 0, .slice A10 (j + 1) ca10])) (fun k hk => setRow_other _ _ _ _ (fun e => HNE.out (e ▸ hk))) (fun _ h => h) (fun b hb => setRow_other _ _ _ _ (by have := hLo.out b hb; omega)); rwa [← List.replicate_succ'] at h5); have HB10 := Lib.hid hb10; have HG11 := Lib.hid hg11; clear ho10 hb10 hk10 hg10 how10 hg11 )
              have hi15 : InRow W2.heap.size z11 (Lo w) (.mk k1 s1 n1 l1) (j + 1) (w10.setRow z11 #[.int .i64 3, .string ⟨#[]⟩, .int .i64 0, .slice A10 (j + 1) ca10]) := ⟨A10, ca10, HG11.out, HO11.out, HNE.out⟩
              have hb15 : Below W2.heap.size W2 (w10.setRow z11 #[.int .i64 3, .string ⟨#[]⟩, .int .i64 0, .slice A10 (j + 1) ca10]) := below_setRow4 (HBj.out.trans HB10.out) hz211 _
              go_roundw
              case rel => exact ⟨j + 1, by omega, by go_num, hb15, hi15⟩
              case measure => simp [intOf]; omega
            · obtain rfl : j = 64 := by omega
              have hjli : ¬ ((64 : Nat) : Int) < 64 := by omega
              have hrow := ho.row (S' := Lo wr) (fun b h => by have := hLo.out b h; omega) (fun b h => (ho.lt b h).2)
              have hrepw : Rep wr (Lo wr) (.mk 3 [] 0 (List.replicate 64 (.mk k1 s1 n1 l1))) (.agg #[.int .i64 3, .string ⟨⟨[]⟩⟩, .int .i64 0, .slice A 64 c]) := rep_mk.2 ⟨A, c, by rw [List.length_replicate], ⟨by omega, by omega⟩, hrow⟩
              have hvl := Valid_any _ (Lo wr) _ wr (by rw [sz, HRS.out]; omega) hrepw (fun _ h => h)
              rw [HRV.out] at hvl
              have HVL := Lib.hid hvl
              clear HIj hg ho hbw hrow hrepw hvl
              go_wp2_with fail
              refine HVL.out.mono ?_
              rintro _ w15 ⟨rfl, b15⟩
              have HB15 : Hid (Below W2.heap.size W2 w15) := HBj.out.trans (b15.mono HBj.out.size)
              have HO15 : Hid (OwnT (Lo w) w15 W2.heap.size (.slice A 64 c) (List.replicate 64 (.mk k1 s1 n1 l1))) := HOj.out.below b15 (fun b hb => by have := hLo.out b hb; omega)
              have hg15 := (b15.block z11 hz11l).trans HGj.out
              have HG15 := Lib.hid hg15
              clear c0 c1 c2 c3 d0 d1 d2 d3 HXX
              obtain ⟨hbw, c0, c1, c2, c3⟩ := HC.out w15 HB15.out
              obtain ⟨d0, d1, d2, d3⟩ := cell4 hg15
              have HXX := Lib.hid (HX.out w15 hbw)
              have hbase5 : W2.heap.size ≤ w15.heap.size := HB15.out.size
              have hz11l5 : z11 < w15.heap.size := by have := b15.size; omega
              clear hbw b15 hg15 HVL
              by_cases hd : D < 16
              · have hdi : (D : Int) < 16 := by omega
                have hdec : decide (D < 16) = true := by simp [hd]
                rw [hdec]
                go_wp2_with (at_builtin; refine wpList_appT w15 rfl (.tmp 66) (.tmp 68) rfl W2.heap.size _ (List.replicate 64 (.mk k1 s1 n1 l1)) (.mk k1 s1 n1 l1) _ _ _ _ (Lo w) rfl _ rfl rfl HO15.out HXX.out hLo.out (by rw [List.length_replicate]; omega) hbase5 ?_; intro v' w10 ho10 hb10 hk10 how10 hsz10; obtain ⟨A10, ca10, hv10⟩ := ho10.form; rw [List.length_append, List.length_replicate, List.length_singleton] at hv10; subst hv10; have hg10 := (hk10 z11 hz11l5 hne).trans HG15.out; have hf10 := fun k => frozen_of_row _ _ k _ _ hg10; have hs10 := set1L hg10 (.slice A10 (65) ca10); have hc10 := cell4 hg10; obtain ⟨x0, x1, x2, x3⟩ := hc10; have hg11 := setRow_heap w10 z11 _ #[.int .i64 3, .string ⟨#[]⟩, .int .i64 0, .slice A10 (65) ca10] _ _ hg10; have hc11 := cell4 hg11; obtain ⟨y0, y1, y2, y3⟩ := hc11; have HNE : Hid ((Value.slice A10 (65) ca10).ownBlock ≠ some z11) := (fun e => (by rcases how10 z11 e with h | h; exact hne h; omega)); have HO11 : Hid (OwnT (Lo w) (w10.setRow z11 #[.int .i64 3, .string ⟨#[]⟩, .int .i64 0, .slice A10 (65) ca10]) W2.heap.size (.slice A10 (65) ca10) (List.replicate (65) (.mk k1 s1 n1 l1))) := (by have h5 := ho10.keep (w' := (w10.setRow z11 #[.int .i64 3, .string ⟨#[]⟩, .int .i64 0, .slice A10 (65) ca10])) (fun k hk => setRow_other _ _ _ _ (fun e => HNE.out (e ▸ hk))) (fun _ h => h) (fun b hb => setRow_other _ _ _ _ (by have := hLo.out b hb; omega)); rwa [← List.replicate_succ'] at h5); have HB10 := Lib.hid hb10; have HG11 := Lib.hid hg11; clear ho10 hb10 hk10 hg10 how10 hg11 ; have hb16 : Below W2.heap.size W2 (w10.setRow z11 #[.int .i64 3, .string ⟨#[]⟩, .int .i64 0, .slice A10 65 ca10]) := below_setRow4 (HB15.out.trans HB10.out) hz211 _; clear c0 c1 c2 c3; obtain ⟨hbw, c0, c1, c2, c3⟩ := HC.out _ hb16; have HBW16 := Lib.hid hbw; have HB16 := Lib.hid hb16; clear hbw hb16; have HD16 := Lib.hid (HDEP.out _ HBW16.out); obtain ⟨W17, hW17⟩ : ∃ W17, W17 = (w10.setRow z11 #[.int .i64 3, .string ⟨#[]⟩, .int .i64 0, .slice A10 (65) ca10]) := ⟨_, rfl⟩; rw [← hW17] at HO11 HG11 HB16 HBW16 y0 y1 y2 y3 c0 c1 c2 c3 hs10 HD16; have HW17 := Lib.hid hW17; clear hW17)
                refine HD16.out.mono ?_
                rintro _ w17 ⟨rfl, b17⟩
                have HB17 : Hid (Below W2.heap.size W2 w17) := HB16.out.trans (b17.mono HB16.out.size)
                have HO17 : Hid (OwnT (Lo w) w17 W2.heap.size (.slice A10 65 ca10) (List.replicate 65 (.mk k1 s1 n1 l1))) := HO11.out.below b17 (fun b hb => by have := hLo.out b hb; have := HB16.out.size; omega)
                have hg17 := (b17.block z11 (Array.getElem?_eq_some_iff.1 HG11.out).1).trans HG11.out
                clear y0 y1 y2 y3 c0 c1 c2 c3 b17 x0 x1 x2 x3
                obtain ⟨y0, y1, y2, y3⟩ := cell4 hg17
                have hrow := HO17.out.row (S' := Lo w17) (fun b h => by have := hLo.out b h; have := HB17.out.size; omega) (fun b h => (HO17.out.lt b h).2)
                have hrepw : Rep w17 (Lo w17) (.mk 3 [] 0 (List.replicate 65 (.mk k1 s1 n1 l1))) (.agg #[.int .i64 3, .string ⟨⟨[]⟩⟩, .int .i64 0, .slice A10 65 ca10]) := rep_mk.2 ⟨A10, ca10, by rw [List.length_replicate], ⟨by omega, by omega⟩, hrow⟩
                have hvl := Valid_any _ (Lo w17) _ w17 (by rw [sz, HRS.out]; omega) hrepw (fun _ h => h)
                rw [HRV5.out] at hvl
                have HVL5 := Lib.hid hvl
                clear hrow hrepw hvl
                go_wp2_with fail
                refine HVL5.out.mono ?_
                rintro _ w18 ⟨rfl, b18⟩
                have HE : Hid (Below w.heap.size w w18) := (HC.out _ (HB17.out.trans (b18.mono HB17.out.size))).1
                clear b18
                go_wp2
                go_ret
                exact ⟨rfl, HE.out⟩
              · have hdi : ¬ (D : Int) < 16 := by omega
                have hdec : decide (D < 16) = false := by simp; omega
                rw [hdec]
                go_wp2_with (at_builtin; refine wpList_appT w15 rfl (.tmp 66) (.tmp 68) rfl W2.heap.size _ (List.replicate 64 (.mk k1 s1 n1 l1)) (.mk k1 s1 n1 l1) _ _ _ _ (Lo w) rfl _ rfl rfl HO15.out HXX.out hLo.out (by rw [List.length_replicate]; omega) hbase5 ?_; intro v' w10 ho10 hb10 hk10 how10 hsz10; obtain ⟨A10, ca10, hv10⟩ := ho10.form; rw [List.length_append, List.length_replicate, List.length_singleton] at hv10; subst hv10; have hg10 := (hk10 z11 hz11l5 hne).trans HG15.out; have hf10 := fun k => frozen_of_row _ _ k _ _ hg10; have hs10 := set1L hg10 (.slice A10 (65) ca10); have hc10 := cell4 hg10; obtain ⟨x0, x1, x2, x3⟩ := hc10; have hg11 := setRow_heap w10 z11 _ #[.int .i64 3, .string ⟨#[]⟩, .int .i64 0, .slice A10 (65) ca10] _ _ hg10; have hc11 := cell4 hg11; obtain ⟨y0, y1, y2, y3⟩ := hc11; have HNE : Hid ((Value.slice A10 (65) ca10).ownBlock ≠ some z11) := (fun e => (by rcases how10 z11 e with h | h; exact hne h; omega)); have HO11 : Hid (OwnT (Lo w) (w10.setRow z11 #[.int .i64 3, .string ⟨#[]⟩, .int .i64 0, .slice A10 (65) ca10]) W2.heap.size (.slice A10 (65) ca10) (List.replicate (65) (.mk k1 s1 n1 l1))) := (by have h5 := ho10.keep (w' := (w10.setRow z11 #[.int .i64 3, .string ⟨#[]⟩, .int .i64 0, .slice A10 (65) ca10])) (fun k hk => setRow_other _ _ _ _ (fun e => HNE.out (e ▸ hk))) (fun _ h => h) (fun b hb => setRow_other _ _ _ _ (by have := hLo.out b hb; omega)); rwa [← List.replicate_succ'] at h5); have HB10 := Lib.hid hb10; have HG11 := Lib.hid hg11; clear ho10 hb10 hk10 hg10 how10 hg11 ; have hb16 : Below W2.heap.size W2 (w10.setRow z11 #[.int .i64 3, .string ⟨#[]⟩, .int .i64 0, .slice A10 65 ca10]) := below_setRow4 (HB15.out.trans HB10.out) hz211 _; clear c0 c1 c2 c3; obtain ⟨hbw, c0, c1, c2, c3⟩ := HC.out _ hb16; have HBW16 := Lib.hid hbw; have HB16 := Lib.hid hb16; clear hbw hb16; have HD16 := Lib.hid (HDEP.out _ HBW16.out); obtain ⟨W17, hW17⟩ : ∃ W17, W17 = (w10.setRow z11 #[.int .i64 3, .string ⟨#[]⟩, .int .i64 0, .slice A10 (65) ca10]) := ⟨_, rfl⟩; rw [← hW17] at HO11 HG11 HB16 HBW16 y0 y1 y2 y3 c0 c1 c2 c3 hs10 HD16; have HW17 := Lib.hid hW17; clear hW17)
                refine HD16.out.mono ?_
                rintro _ w17 ⟨rfl, b17⟩
                have HB17 : Hid (Below W2.heap.size W2 w17) := HB16.out.trans (b17.mono HB16.out.size)
                have HO17 : Hid (OwnT (Lo w) w17 W2.heap.size (.slice A10 65 ca10) (List.replicate 65 (.mk k1 s1 n1 l1))) := HO11.out.below b17 (fun b hb => by have := hLo.out b hb; have := HB16.out.size; omega)
                have hg17 := (b17.block z11 (Array.getElem?_eq_some_iff.1 HG11.out).1).trans HG11.out
                clear y0 y1 y2 y3 c0 c1 c2 c3 b17 x0 x1 x2 x3
                obtain ⟨y0, y1, y2, y3⟩ := cell4 hg17
                have hrow := HO17.out.row (S' := Lo w17) (fun b h => by have := hLo.out b h; have := HB17.out.size; omega) (fun b h => (HO17.out.lt b h).2)
                have hrepw : Rep w17 (Lo w17) (.mk 3 [] 0 (List.replicate 65 (.mk k1 s1 n1 l1))) (.agg #[.int .i64 3, .string ⟨⟨[]⟩⟩, .int .i64 0, .slice A10 65 ca10]) := rep_mk.2 ⟨A10, ca10, by rw [List.length_replicate], ⟨by omega, by omega⟩, hrow⟩
                have hvl := Valid_any _ (Lo w17) _ w17 (by rw [sz, HRS.out]; omega) hrepw (fun _ h => h)
                rw [HRV5.out] at hvl
                have HVL5 := Lib.hid hvl
                clear hrow hrepw hvl
                go_wp2_with fail
                refine HVL5.out.mono ?_
                rintro _ w18 ⟨rfl, b18⟩
                have HE : Hid (Below w.heap.size w w18) := (HC.out _ (HB17.out.trans (b18.mono HB17.out.size))).1
                clear b18
                go_wp2
                go_ret
                exact ⟨congrArg (fun b => Ending.returned (.bool b)) (show (!decide ((D : Int) < 16)) = true from congrArg Bool.not (decide_eq_false (show ¬ ((D : Int) < 16) by omega))), HE.out⟩
        · have hqi : ¬ (D : Int) + (i : Int) ≤ 16 := by omega
          rw [show (true && decide (D + i ≤ 16)) = false by simp; omega] at HVA
          go_wp2_with fail
          refine HVA.out.mono ?_
          rintro _ w12 ⟨rfl, b12⟩
          have HB12 : Hid (Below W2.heap.size W2 w12) := HB11.out.trans (b12.mono HB11.out.size)
          clear b12 HVA e0 e1 e2 e3 HB11
          have HLN := Lib.hid (List_any [] none 0 (Lo w) w12 (by simp) (.inl rfl) (fun b hb => by have := hLo.out b hb; have := HB12.out.size; omega))
          go_wp2_with fail
          refine HLN.out.mono ?_
          rintro _ w13 ⟨u, rfl, b13, hnr⟩
          have HB13 : Hid (Below W2.heap.size W2 w13) := HB12.out.trans (b13.mono HB12.out.size)
          have hown13 : OwnT (Lo w) w13 W2.heap.size u [] := hnr.own HB12.out.size (by simp) (fun _ h => h)
          obtain ⟨A13, ca13, rfl⟩ := hown13.form
          obtain ⟨z11, hz11⟩ : ∃ z11, z11 = w13.heap.size := ⟨_, rfl⟩
          obtain ⟨W14, hW14⟩ : ∃ W14, W14 = (w13.alloc (.cells #[.int .i64 3, .string ⟨#[]⟩, .int .i64 0, .slice A13 0 ca13] 25)) := ⟨_, rfl⟩
          have b14 : Below w13.heap.size w13 W14 := by rw [hW14]; exact (Below.refl _ _).alloc (Nat.le_refl _) _
          have HB14 : Hid (Below W2.heap.size W2 W14) := HB13.out.trans (b14.mono HB13.out.size)
          have hz211 : W2.heap.size ≤ z11 := by rw [hz11]; exact HB13.out.size
          have HI14 : Hid (InRow W2.heap.size z11 (Lo w) (.mk k1 s1 n1 l1) 0 W14) := by
            refine ⟨A13, ca13, ?_, hown13.below b14 (fun b hb => by have := hLo.out b hb; have := HB13.out.size; omega), fun e => by have := (hown13.lt z11 e).2; omega⟩
            rw [hW14, hz11]; exact heap_alloc_new w13 _
          have HZ11 := Lib.hid hz11
          have HW14 := Lib.hid hW14
          clear hz11 hW14 b14 b13 hnr hown13 HLN HB13 HB12
          go_wp2
          rw [← HW14.out, ← HZ11.out]
          go_loopw [12] (fun jv wr => ∃ j : Nat, j ≤ 64 ∧ jv = .int .i64 (j : Nat) ∧ Hid (Below W2.heap.size W2 wr) ∧ Hid (InRow W2.heap.size z11 (Lo w) (.mk k1 s1 n1 l1) j wr)) (fun jv _ => 64 - (intOf jv).toNat)
          case atStart => exact ⟨0, by omega, rfl, HB14, HI14⟩
          case round =>
            obtain ⟨j, hj, rfl, HBj, HIj⟩ := hrel
            obtain ⟨A, c, hg, ho, hne⟩ := HIj.out
            obtain ⟨hbw, c0, c1, c2, c3⟩ := HC.out wr HBj.out
            obtain ⟨d0, d1, d2, d3⟩ := cell4 hg
            have HXX := Lib.hid (HX.out wr hbw)
            have HOj := Lib.hid ho
            have HGj := Lib.hid hg
            have hbase : W2.heap.size ≤ wr.heap.size := HBj.out.size
            have hz11l : z11 < wr.heap.size := (Array.getElem?_eq_some_iff.1 hg).1
            by_cases hjl : j < 64
            · have hjli : (j : Int) < 64 := by omega
              clear HIj hg ho hbw
              go_wp2_with (at_builtin; refine wpList_appT wr rfl (.tmp 58) (.tmp 60) rfl W2.heap.size _ (List.replicate j (.mk k1 s1 n1 l1)) (.mk k1 s1 n1 l1) _ _ _ _ (Lo w) rfl _ rfl rfl HOj.out HXX.out hLo.out (by rw [List.length_replicate]; omega) hbase ?_; intro v' w10 ho10 hb10 hk10 how10 hsz10; obtain ⟨A10, ca10, hv10⟩ := ho10.form; rw [List.length_append, List.length_replicate, List.length_singleton] at hv10; subst hv10; have hg10 := (hk10 z11 hz11l hne).trans HGj.out; have hf10 := fun k => frozen_of_row _ _ k _ _ hg10; have hs10 := set1L hg10 (.slice A10 (j + 1) ca10); have hc10 := cell4 hg10; obtain ⟨x0, x1, x2, x3⟩ := hc10; have hg11 := setRow_heap w10 z11 _ #[.int .i64 3, .string ⟨#[]⟩, .int .i64 0, .slice A10 (j + 1) ca10] _ _ hg10; have hc11 := cell4 hg11; obtain ⟨y0, y1, y2, y3⟩ := hc11; have HNE : Hid ((Value.slice A10 (j + 1) ca10).ownBlock ≠ some z11) := (fun e => (by rcases how10 z11 e with h | h; exact hne h; omega)); have HO11 : Hid (OwnT (Lo w) (w10.setRow z11 #[.int .i64 3, .string ⟨#[]⟩, .int .i64 0, .slice A10 (j + 1) ca10]) W2.heap.size (.slice A10 (j + 1) ca10) (List.replicate (j + 1) (.mk k1 s1 n1 l1))) := (by have h5 := ho10.keep (w' := (w10.setRow z11 #[.int .i64 3, .string ⟨#[]⟩, .int .i64 0, .slice A10 (j + 1) ca10])) (fun k hk => setRow_other _ _ _ _ (fun e => HNE.out (e ▸ hk))) (fun _ h => h) (fun b hb => setRow_other _ _ _ _ (by have := hLo.out b hb; omega)); rwa [← List.replicate_succ'] at h5); have HB10 := Lib.hid hb10; have HG11 := Lib.hid hg11; clear ho10 hb10 hk10 hg10 how10 hg11 )
              have hi15 : InRow W2.heap.size z11 (Lo w) (.mk k1 s1 n1 l1) (j + 1) (w10.setRow z11 #[.int .i64 3, .string ⟨#[]⟩, .int .i64 0, .slice A10 (j + 1) ca10]) := ⟨A10, ca10, HG11.out, HO11.out, HNE.out⟩
              have hb15 : Below W2.heap.size W2 (w10.setRow z11 #[.int .i64 3, .string ⟨#[]⟩, .int .i64 0, .slice A10 (j + 1) ca10]) := below_setRow4 (HBj.out.trans HB10.out) hz211 _
              go_roundw
              case rel => exact ⟨j + 1, by omega, by go_num, hb15, hi15⟩
              case measure => simp [intOf]; omega
            · obtain rfl : j = 64 := by omega
              have hjli : ¬ ((64 : Nat) : Int) < 64 := by omega
              have hrow := ho.row (S' := Lo wr) (fun b h => by have := hLo.out b h; omega) (fun b h => (ho.lt b h).2)
              have hrepw : Rep wr (Lo wr) (.mk 3 [] 0 (List.replicate 64 (.mk k1 s1 n1 l1))) (.agg #[.int .i64 3, .string ⟨⟨[]⟩⟩, .int .i64 0, .slice A 64 c]) := rep_mk.2 ⟨A, c, by rw [List.length_replicate], ⟨by omega, by omega⟩, hrow⟩
              have hvl := Valid_any _ (Lo wr) _ wr (by rw [sz, HRS.out]; omega) hrepw (fun _ h => h)
              rw [HRV.out] at hvl
              have HVL := Lib.hid hvl
              clear HIj hg ho hbw hrow hrepw hvl
              go_wp2_with fail
              refine HVL.out.mono ?_
              rintro _ w15 ⟨rfl, b15⟩
              have HB15 : Hid (Below W2.heap.size W2 w15) := HBj.out.trans (b15.mono HBj.out.size)
              have HO15 : Hid (OwnT (Lo w) w15 W2.heap.size (.slice A 64 c) (List.replicate 64 (.mk k1 s1 n1 l1))) := HOj.out.below b15 (fun b hb => by have := hLo.out b hb; omega)
              have hg15 := (b15.block z11 hz11l).trans HGj.out
              have HG15 := Lib.hid hg15
              clear c0 c1 c2 c3 d0 d1 d2 d3 HXX
              obtain ⟨hbw, c0, c1, c2, c3⟩ := HC.out w15 HB15.out
              obtain ⟨d0, d1, d2, d3⟩ := cell4 hg15
              have HXX := Lib.hid (HX.out w15 hbw)
              have hbase5 : W2.heap.size ≤ w15.heap.size := HB15.out.size
              have hz11l5 : z11 < w15.heap.size := by have := b15.size; omega
              clear hbw b15 hg15 HVL
              by_cases hd : D < 16
              · have hdi : (D : Int) < 16 := by omega
                have hdec : decide (D < 16) = true := by simp [hd]
                rw [hdec]
                go_wp2_with (at_builtin; refine wpList_appT w15 rfl (.tmp 66) (.tmp 68) rfl W2.heap.size _ (List.replicate 64 (.mk k1 s1 n1 l1)) (.mk k1 s1 n1 l1) _ _ _ _ (Lo w) rfl _ rfl rfl HO15.out HXX.out hLo.out (by rw [List.length_replicate]; omega) hbase5 ?_; intro v' w10 ho10 hb10 hk10 how10 hsz10; obtain ⟨A10, ca10, hv10⟩ := ho10.form; rw [List.length_append, List.length_replicate, List.length_singleton] at hv10; subst hv10; have hg10 := (hk10 z11 hz11l5 hne).trans HG15.out; have hf10 := fun k => frozen_of_row _ _ k _ _ hg10; have hs10 := set1L hg10 (.slice A10 (65) ca10); have hc10 := cell4 hg10; obtain ⟨x0, x1, x2, x3⟩ := hc10; have hg11 := setRow_heap w10 z11 _ #[.int .i64 3, .string ⟨#[]⟩, .int .i64 0, .slice A10 (65) ca10] _ _ hg10; have hc11 := cell4 hg11; obtain ⟨y0, y1, y2, y3⟩ := hc11; have HNE : Hid ((Value.slice A10 (65) ca10).ownBlock ≠ some z11) := (fun e => (by rcases how10 z11 e with h | h; exact hne h; omega)); have HO11 : Hid (OwnT (Lo w) (w10.setRow z11 #[.int .i64 3, .string ⟨#[]⟩, .int .i64 0, .slice A10 (65) ca10]) W2.heap.size (.slice A10 (65) ca10) (List.replicate (65) (.mk k1 s1 n1 l1))) := (by have h5 := ho10.keep (w' := (w10.setRow z11 #[.int .i64 3, .string ⟨#[]⟩, .int .i64 0, .slice A10 (65) ca10])) (fun k hk => setRow_other _ _ _ _ (fun e => HNE.out (e ▸ hk))) (fun _ h => h) (fun b hb => setRow_other _ _ _ _ (by have := hLo.out b hb; omega)); rwa [← List.replicate_succ'] at h5); have HB10 := Lib.hid hb10; have HG11 := Lib.hid hg11; clear ho10 hb10 hk10 hg10 how10 hg11 ; have hb16 : Below W2.heap.size W2 (w10.setRow z11 #[.int .i64 3, .string ⟨#[]⟩, .int .i64 0, .slice A10 65 ca10]) := below_setRow4 (HB15.out.trans HB10.out) hz211 _; clear c0 c1 c2 c3; obtain ⟨hbw, c0, c1, c2, c3⟩ := HC.out _ hb16; have HBW16 := Lib.hid hbw; have HB16 := Lib.hid hb16; clear hbw hb16; have HD16 := Lib.hid (HDEP.out _ HBW16.out); obtain ⟨W17, hW17⟩ : ∃ W17, W17 = (w10.setRow z11 #[.int .i64 3, .string ⟨#[]⟩, .int .i64 0, .slice A10 (65) ca10]) := ⟨_, rfl⟩; rw [← hW17] at HO11 HG11 HB16 HBW16 y0 y1 y2 y3 c0 c1 c2 c3 hs10 HD16; have HW17 := Lib.hid hW17; clear hW17)
                refine HD16.out.mono ?_
                rintro _ w17 ⟨rfl, b17⟩
                have HB17 : Hid (Below W2.heap.size W2 w17) := HB16.out.trans (b17.mono HB16.out.size)
                have HO17 : Hid (OwnT (Lo w) w17 W2.heap.size (.slice A10 65 ca10) (List.replicate 65 (.mk k1 s1 n1 l1))) := HO11.out.below b17 (fun b hb => by have := hLo.out b hb; have := HB16.out.size; omega)
                have hg17 := (b17.block z11 (Array.getElem?_eq_some_iff.1 HG11.out).1).trans HG11.out
                clear y0 y1 y2 y3 c0 c1 c2 c3 b17 x0 x1 x2 x3
                obtain ⟨y0, y1, y2, y3⟩ := cell4 hg17
                have hrow := HO17.out.row (S' := Lo w17) (fun b h => by have := hLo.out b h; have := HB17.out.size; omega) (fun b h => (HO17.out.lt b h).2)
                have hrepw : Rep w17 (Lo w17) (.mk 3 [] 0 (List.replicate 65 (.mk k1 s1 n1 l1))) (.agg #[.int .i64 3, .string ⟨⟨[]⟩⟩, .int .i64 0, .slice A10 65 ca10]) := rep_mk.2 ⟨A10, ca10, by rw [List.length_replicate], ⟨by omega, by omega⟩, hrow⟩
                have hvl := Valid_any _ (Lo w17) _ w17 (by rw [sz, HRS.out]; omega) hrepw (fun _ h => h)
                rw [HRV5.out] at hvl
                have HVL5 := Lib.hid hvl
                clear hrow hrepw hvl
                go_wp2_with fail
                refine HVL5.out.mono ?_
                rintro _ w18 ⟨rfl, b18⟩
                have HE : Hid (Below w.heap.size w w18) := (HC.out _ (HB17.out.trans (b18.mono HB17.out.size))).1
                clear b18
                go_wp2
                go_ret
                exact ⟨rfl, HE.out⟩
              · have hdi : ¬ (D : Int) < 16 := by omega
                have hdec : decide (D < 16) = false := by simp; omega
                rw [hdec]
                go_wp2_with (at_builtin; refine wpList_appT w15 rfl (.tmp 66) (.tmp 68) rfl W2.heap.size _ (List.replicate 64 (.mk k1 s1 n1 l1)) (.mk k1 s1 n1 l1) _ _ _ _ (Lo w) rfl _ rfl rfl HO15.out HXX.out hLo.out (by rw [List.length_replicate]; omega) hbase5 ?_; intro v' w10 ho10 hb10 hk10 how10 hsz10; obtain ⟨A10, ca10, hv10⟩ := ho10.form; rw [List.length_append, List.length_replicate, List.length_singleton] at hv10; subst hv10; have hg10 := (hk10 z11 hz11l5 hne).trans HG15.out; have hf10 := fun k => frozen_of_row _ _ k _ _ hg10; have hs10 := set1L hg10 (.slice A10 (65) ca10); have hc10 := cell4 hg10; obtain ⟨x0, x1, x2, x3⟩ := hc10; have hg11 := setRow_heap w10 z11 _ #[.int .i64 3, .string ⟨#[]⟩, .int .i64 0, .slice A10 (65) ca10] _ _ hg10; have hc11 := cell4 hg11; obtain ⟨y0, y1, y2, y3⟩ := hc11; have HNE : Hid ((Value.slice A10 (65) ca10).ownBlock ≠ some z11) := (fun e => (by rcases how10 z11 e with h | h; exact hne h; omega)); have HO11 : Hid (OwnT (Lo w) (w10.setRow z11 #[.int .i64 3, .string ⟨#[]⟩, .int .i64 0, .slice A10 (65) ca10]) W2.heap.size (.slice A10 (65) ca10) (List.replicate (65) (.mk k1 s1 n1 l1))) := (by have h5 := ho10.keep (w' := (w10.setRow z11 #[.int .i64 3, .string ⟨#[]⟩, .int .i64 0, .slice A10 (65) ca10])) (fun k hk => setRow_other _ _ _ _ (fun e => HNE.out (e ▸ hk))) (fun _ h => h) (fun b hb => setRow_other _ _ _ _ (by have := hLo.out b hb; omega)); rwa [← List.replicate_succ'] at h5); have HB10 := Lib.hid hb10; have HG11 := Lib.hid hg11; clear ho10 hb10 hk10 hg10 how10 hg11 ; have hb16 : Below W2.heap.size W2 (w10.setRow z11 #[.int .i64 3, .string ⟨#[]⟩, .int .i64 0, .slice A10 65 ca10]) := below_setRow4 (HB15.out.trans HB10.out) hz211 _; clear c0 c1 c2 c3; obtain ⟨hbw, c0, c1, c2, c3⟩ := HC.out _ hb16; have HBW16 := Lib.hid hbw; have HB16 := Lib.hid hb16; clear hbw hb16; have HD16 := Lib.hid (HDEP.out _ HBW16.out); obtain ⟨W17, hW17⟩ : ∃ W17, W17 = (w10.setRow z11 #[.int .i64 3, .string ⟨#[]⟩, .int .i64 0, .slice A10 (65) ca10]) := ⟨_, rfl⟩; rw [← hW17] at HO11 HG11 HB16 HBW16 y0 y1 y2 y3 c0 c1 c2 c3 hs10 HD16; have HW17 := Lib.hid hW17; clear hW17)
                refine HD16.out.mono ?_
                rintro _ w17 ⟨rfl, b17⟩
                have HB17 : Hid (Below W2.heap.size W2 w17) := HB16.out.trans (b17.mono HB16.out.size)
                have HO17 : Hid (OwnT (Lo w) w17 W2.heap.size (.slice A10 65 ca10) (List.replicate 65 (.mk k1 s1 n1 l1))) := HO11.out.below b17 (fun b hb => by have := hLo.out b hb; have := HB16.out.size; omega)
                have hg17 := (b17.block z11 (Array.getElem?_eq_some_iff.1 HG11.out).1).trans HG11.out
                clear y0 y1 y2 y3 c0 c1 c2 c3 b17 x0 x1 x2 x3
                obtain ⟨y0, y1, y2, y3⟩ := cell4 hg17
                have hrow := HO17.out.row (S' := Lo w17) (fun b h => by have := hLo.out b h; have := HB17.out.size; omega) (fun b h => (HO17.out.lt b h).2)
                have hrepw : Rep w17 (Lo w17) (.mk 3 [] 0 (List.replicate 65 (.mk k1 s1 n1 l1))) (.agg #[.int .i64 3, .string ⟨⟨[]⟩⟩, .int .i64 0, .slice A10 65 ca10]) := rep_mk.2 ⟨A10, ca10, by rw [List.length_replicate], ⟨by omega, by omega⟩, hrow⟩
                have hvl := Valid_any _ (Lo w17) _ w17 (by rw [sz, HRS.out]; omega) hrepw (fun _ h => h)
                rw [HRV5.out] at hvl
                have HVL5 := Lib.hid hvl
                clear hrow hrepw hvl
                go_wp2_with fail
                refine HVL5.out.mono ?_
                rintro _ w18 ⟨rfl, b18⟩
                have HE : Hid (Below w.heap.size w w18) := (HC.out _ (HB17.out.trans (b18.mono HB17.out.size))).1
                clear b18
                go_wp2
                go_ret
                exact ⟨congrArg (fun b => Ending.returned (.bool b)) (show (!decide ((D : Int) < 16)) = true from congrArg Bool.not (decide_eq_false (show ¬ ((D : Int) < 16) by omega))), HE.out⟩
end Go.Proofs.YtfhcfaflggiacaaDoor
