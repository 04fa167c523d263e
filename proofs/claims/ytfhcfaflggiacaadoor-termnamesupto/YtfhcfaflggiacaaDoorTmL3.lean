/- TermNames. -/
import Derived.Test.YtfhcfaflggiacaaDoorTmV3
import Derived.Test.YtfhcfaflggiacaaDoorTmV1
import Derived.Lib.QuietBelow
namespace Go.Proofs.YtfhcfaflggiacaaDoor
open Go.RowKit
open Tt

set_option maxHeartbeats 2000000 in
set_option maxRecDepth 100000 in
theorem termNames_walk (l : List (List UInt8)) (A : Option Addr) (ca : Nat) (x : Tm) (vx : Value) (w : World) (hll : l.length ≤ 1048576) (hkx : bk x ≤ 1048576) (hr : SRow w l A) (rx : Rep w (Lo w) x vx) (htab : TabB w.heap.size w) :
    Calls Tryd.prog 9 #[.slice A l.length ca, vx] w fun e w' => e = .returned (.bool true) ∧ Below w.heap.size w w' := by
  have hsx := sz_le_bk x
  have HX : Hid (∀ W, Below w.heap.size w W → Rep W (Lo w) x vx) := fun W h => rep_keep (fun _ h => h) (fun c o hc => h.cell (p := ⟨c, o, none⟩) hc) _ _ rx
  have HSR : Hid (∀ W, Below w.heap.size w W → SRow W l A) := fun W h => hr.below h
  have hlx := fun W (h : Below w.heap.size w W) => Large_any x 200 (Lo W) vx W (by omega) (rx.lo h) (fun _ h => h)
  obtain ⟨n, hn⟩ : ∃ n, n = l.length := ⟨_, rfl⟩
  obtain ⟨N, hN⟩ : ∃ N, N = sz x := ⟨_, rfl⟩
  have hrow : n ≤ 1000000 → ∀ W, Below w.heap.size w W → Calls Tryd.prog 33 #[.slice A n ca] W fun e w' => ∃ u, e = .returned (.agg #[.int .i64 3, .string ⟨#[]⟩, .int .i64 0, u]) ∧ Below W.heap.size W w' ∧ NewRow (fun _ => False) W.heap.size w' (l.map nm) u := by
    intro h6 W h
    have := Row_any l A ca W (by omega) (HSR.out W h)
    rwa [← hn] at this
  rw [← hN] at hlx hsx
  clear hN
  obtain ⟨k1, s1, n1, l1⟩ := x
  obtain ⟨A1, ca1, rfl, hin1, -⟩ := rep_mk.1 rx
  rw [← hn]
  obtain ⟨z, hz⟩ : ∃ z, z = w.heap.size := ⟨_, rfl⟩
  obtain ⟨W2, hW2⟩ : ∃ W2, W2 = (w.alloc (.cells #[.int .i64 k1, .string ⟨⟨s1⟩⟩, .int .i64 n1, .slice A1 l1.length ca1] 25)) := ⟨_, rfl⟩
  have hB2 : Below w.heap.size w W2 := by rw [hW2]; exact (Below.refl _ _).alloc (Nat.le_refl _) _
  have hs2 : W2.heap.size = z + 1 := by rw [hW2, hz]; simp
  have hg0 : W2.heap[z]? = some (.cells #[.int .i64 k1, .string ⟨⟨s1⟩⟩, .int .i64 n1, .slice A1 l1.length ca1] 25 (0, 0)) := by
    rw [hW2, hz]; exact heap_alloc_new w _
  have HC : Hid (∀ W, Below W2.heap.size W2 W → Below w.heap.size w W ∧ (W.cell? ⟨z, 0, none⟩ = some (.int .i64 k1) ∧ W.cell? ⟨z, 1, none⟩ = some (.string ⟨⟨s1⟩⟩) ∧ W.cell? ⟨z, 2, none⟩ = some (.int .i64 n1) ∧ W.cell? ⟨z, 3, none⟩ = some (.slice A1 l1.length ca1))) := fun W h =>
    ⟨hB2.trans (h.mono hB2.size), cell4 ((h.block z (by omega)).trans hg0)⟩
  have HWK := Lib.hid (works_any W2 (htab.up hB2))
  have HLX := Lib.hid hlx
  have HROW := Lib.hid hrow
  have HW2 := Lib.hid hW2
  have HZ := Lib.hid hz
  have HN := Lib.hid hn
  have HS2 := Lib.hid hs2
  rw [← hn] at hll
  clear hr rx htab hlx hrow hW2 hz hB2 hs2 hg0 hn
  go_enter Tryd.func9, Tryd.ntmps9
  go_wp2_with fail
  rw [← HW2.out, ← HZ.out]
  refine HWK.out.mono ?_
  rintro _ w3 ⟨rfl, b3⟩
  have HB3 := Lib.hid b3
  obtain ⟨hb, c0, c1, c2, c3⟩ := HC.out w3 b3
  have HBW3 := Lib.hid hb
  clear b3 HWK
  by_cases h200 : (200 : Int) < (n : Int)
  · go_wp2
    go_ret
    exact ⟨rfl, HBW3.out⟩
  have HL1 := Lib.hid (HLX.out w3 hb)
  clear hb
  obtain ⟨B1, hB1⟩ : ∃ B1, B1 = decide (200 < N) := ⟨_, rfl⟩
  rw [← hB1] at HL1
  clear hB1
  go_wp2_with fail
  refine HL1.out.mono ?_
  rintro _ w4 ⟨rfl, b4⟩
  have HB4 : Hid (Below W2.heap.size W2 w4) := HB3.out.trans (b4.mono HB3.out.size)
  clear c0 c1 c2 c3 HL1 b4 HB3 HBW3
  obtain ⟨hb, c0, c1, c2, c3⟩ := HC.out w4 HB4.out
  have HBW4 := Lib.hid hb
  clear hb
  cases B1
  case true =>
    go_wp2
    go_ret
    exact ⟨rfl, HBW4.out⟩
  case false =>
    have hn6 : n ≤ 1000000 := by omega
    have HR4 := Lib.hid (HROW.out hn6 w4 HBW4.out)
    go_wp2_with fail
    refine HR4.out.mono ?_
    rintro _ w5 ⟨u5, rfl, b5, hnr5⟩
    obtain ⟨g5, rfl, hrow5⟩ := hnr5.form (fun _ h => h.elim)
    have hall : (l.map nm).all (fun p => decide (p.k = 0)) = true := by simp [nm, Tm.k]
    have hms : (l.map nm).map Tm.s = l := by simp [nm, Tm.s, Function.comp_def]
    have hNY := NamesY_any [] 0 (l.map nm) _ (l.map nm).length (Lo w5) w5 hrow5 (fun _ h => h) (by rw [List.length_map, ← HN.out]; exact hn6) hall
    rw [hms, List.length_map, ← HN.out] at hNY
    rw [List.length_map, ← HN.out]
    have HNY := Lib.hid hNY
    have HB5 : Hid (Below W2.heap.size W2 w5) := HB4.out.trans (b5.mono HB4.out.size)
    clear c0 c1 c2 c3 hNY hrow5 hall hms b5 HR4 HB4 HBW4 hnr5
    go_wp2_with fail
    refine HNY.out.mono ?_
    rintro _ w6 ⟨u6, rfl, ⟨g6, rfl, hg6, hc6⟩, b6⟩
    rw [← HN.out]
    have HB6 : Hid (Below W2.heap.size W2 w6) := HB5.out.trans (b6.mono HB5.out.size)
    have HC6 := Lib.hid hc6
    clear b6 HNY HB5 hg6 hc6
    go_wp2
    go_loopw [8] (fun iv wr => ∃ i : Nat, i ≤ n ∧ iv = .int .i64 (i : Nat) ∧ Hid (Below W2.heap.size W2 wr) ∧ Hid (Below w6.heap.size w6 wr)) (fun iv _ => n - (intOf iv).toNat)
    case atStart => exact ⟨0, by omega, rfl, HB6, Below.refl _ _⟩
    case round =>
      obtain ⟨i, hi, rfl, HB, HBr⟩ := hrel
      by_cases hlt : i < n
      · have hil : (i : Int) < (n : Int) := by omega
        have hiL : i < l.length := by rw [← HN.out]; exact hlt
        obtain ⟨s, hs⟩ : ∃ s, s = l[i] := ⟨_, rfl⟩
        have d1 : wr.cell? ⟨g6, i, none⟩ = some (.string ⟨⟨s⟩⟩) := by
          have hlt6 := (Array.getElem?_eq_some_iff.1 HC6.out).1
          rw [cell_of_row _ _ _ _ _ _ ((HBr.out.block g6 hlt6).trans HC6.out), hs]
          simp [List.getElem?_eq_getElem hiL]
        rcases HSR.out wr (HC.out wr HB.out).1 with h0 | ⟨b, ob, rfl, hblt, hcell⟩
        · rw [h0] at hiL; simp at hiL
        have d2 := hcell i hiL
        rw [← hs] at d2
        clear hs hcell hblt
        go_wp2_with fail
        refine wp_region_quiet_below (by kernel_rfl) (by kernel_rfl) ?_
        have e1 := fun d os => cell_regrown d1 d os
        have e2 := fun d os => cell_regrown d2 d os
        repeat (quiet_step (fail))
        refine wpQuiet_nil ?_
        intro _ hw'
        obtain ⟨⟨dq, osq⟩, hw''⟩ := hw'
        subst hw''
        have b7 := below_regrown wr dq osq
        clear e1 e2
        generalize Go.Sort.grow (redrawn wr dq) osq = w7 at *
        have HB7 : Hid (Below W2.heap.size W2 w7) := HB.out.trans (b7.mono HB.out.size)
        have HBr7 : Hid (Below w6.heap.size w6 w7) := HBr.out.trans (b7.mono HBr.out.size)
        clear b7 d1 d2
        go_wp2
        go_roundw
        case rel => exact ⟨i + 1, by omega, by go_num, HB7, HBr7⟩
        case measure => simp [intOf]; omega
      · have hil : ¬ (i : Int) < (n : Int) := by omega
        have HR7 := Lib.hid (HROW.out hn6 wr (HC.out wr HB.out).1)
        go_wp2_with fail
        refine HR7.out.mono ?_
        rintro _ w8 ⟨u8, rfl, b8, hnr8⟩
        have HB8 : Hid (Below W2.heap.size W2 w8) := HB.out.trans (b8.mono HB.out.size)
        have hown8 : OwnT (Lo w) w8 W2.heap.size u8 (l.map nm) := hnr8.own HB.out.size (by rw [List.length_map, ← HN.out]; exact hn6) (fun _ h => h.elim)
        obtain ⟨A8, ca8, rfl⟩ := hown8.form
        rw [List.length_map, ← HN.out] at hown8
        rw [List.length_map, ← HN.out]
        obtain ⟨z8, hz8⟩ : ∃ z8, z8 = w8.heap.size := ⟨_, rfl⟩
        obtain ⟨W9, hW9⟩ : ∃ W9, W9 = (w8.alloc (.cells #[.int .i64 3, .string ⟨#[]⟩, .int .i64 0, .slice A8 n ca8] 25)) := ⟨_, rfl⟩
        have hg9 : W9.heap[z8]? = some (.cells #[.int .i64 3, .string ⟨#[]⟩, .int .i64 0, .slice A8 n ca8] 25 (0, 0)) := by
          rw [hW9, hz8]; exact heap_alloc_new w8 _
        have b89 : Below w8.heap.size w8 W9 := by rw [hW9]; exact (Below.refl _ _).alloc (Nat.le_refl _) _
        have HB9 : Hid (Below W2.heap.size W2 W9) := HB8.out.trans (b89.mono HB8.out.size)
        obtain ⟨hbw9, c0, c1, c2, c3⟩ := HC.out W9 HB9.out
        have hown9 : OwnT (Lo w) W9 W2.heap.size (.slice A8 n ca8) (l.map nm) := hown8.below b89 (fun b hb => Nat.lt_of_lt_of_le hb (Nat.le_trans (HC.out w8 HB8.out).1.size (Nat.le_refl _)))
        have hne8z : (Value.slice A8 n ca8).ownBlock ≠ some z8 := fun e => by have := (hown8.lt z8 e).2; omega
        have hz29 : W2.heap.size ≤ z8 := by rw [hz8]; exact HB8.out.size
        have HZ8 := Lib.hid hz8
        have HW9 := Lib.hid hW9
        have HO9 := Lib.hid hown9
        have HG9 := Lib.hid hg9
        have hx9 := HX.out W9 hbw9
        have hbase : W2.heap.size ≤ W9.heap.size := HB9.out.size
        have hLo : ∀ b, Lo w b → b < W2.heap.size := fun b hb => by have h1 := HS2.out; have h2 := HZ.out; have h3 : b < w.heap.size := hb; omega
        obtain ⟨d0, d1, d2, d3⟩ := cell4 hg9
        rw [hW9, hz8] at d0 d1 d2 d3
        rw [hW9] at c0 c1 c2 c3
        have hz2s : W2.heap.size = z + 1 := HS2.out
        have HXX := Lib.hid hx9
        have hzs9 : z8 + 1 = W9.heap.size := by rw [hW9, hz8]; simp
        have HZS9 := Lib.hid hzs9
        clear hzs9 HR7 b8 hnr8 hown8 hz8 hW9 hown9 hg9 b89 hbw9 hx9
        by_cases hk : k1 = 0
        · subst hk
          have hNM : ∀ W v', Below w.heap.size w W → OwnT (Lo w) W W2.heap.size v' (l.map nm ++ [.mk 0 s1 n1 l1]) → Calls Tryd.prog 15 #[.agg #[.int .i64 3, .string ⟨#[]⟩, .int .i64 0, v']] W fun e w' => ∃ u, e = .returned (.tuple #[.slice (some ⟨u, 0, none⟩) (n + 1) (n + 1), .bool true]) ∧ Below W.heap.size W w' := by
            intro W v' hb ho
            obtain ⟨A', ca', hf⟩ := ho.form
            subst hf
            have hrow := ho.row (S' := Lo W) (fun b h => Nat.lt_of_lt_of_le h hb.size) (fun b h => (ho.lt b h).2)
            have hlen : (l.map nm ++ [Tm.mk 0 s1 n1 l1]).length = n + 1 := by rw [List.length_append, List.length_map, ← HN.out]; rfl
            have := NamesY_any [] 0 _ A' ca' (Lo W) W hrow (fun _ h => h) (by omega) (by simp [nm, Tm.k])
            refine this.mono ?_
            rintro _ w' ⟨u, rfl, ⟨g, rfl, -, -⟩, hb'⟩
            rw [List.length_map, hlen]
            exact ⟨g, rfl, hb'⟩
          have HNM := Lib.hid hNM
          clear hNM
          go_wp2_with (at_builtin; rw [← HW9.out, ← HZ8.out]; refine wpList_appT W9 rfl (.tmp 56) (.tmp 58) rfl W2.heap.size _ (l.map nm) (.mk 0 s1 n1 l1) _ _ _ _ (Lo w) rfl _ HZS9.out rfl HO9.out HXX.out hLo (by rw [List.length_map, ← HN.out]; exact hn6) hbase ?_; intro v' w10 ho10 hb10 hk10 how10 hsz10; obtain ⟨A10, ca10, hv10⟩ := ho10.form; rw [List.length_append, List.length_map, ← HN.out, List.length_singleton] at hv10; subst hv10; have hg10 := (hk10 z8 (by have := HZS9.out; omega) hne8z).trans HG9.out; have hf10 := fun k => frozen_of_row _ _ k _ _ hg10; have hs10 := set1L hg10 (.slice A10 (n + 1) ca10); have hc10 := cell4 hg10; obtain ⟨x0, x1, x2, x3⟩ := hc10; have hg11 := setRow_heap w10 z8 _ #[.int .i64 3, .string ⟨#[]⟩, .int .i64 0, .slice A10 (n + 1) ca10] _ _ hg10; have hc11 := cell4 hg11; obtain ⟨y0, y1, y2, y3⟩ := hc11; have HO10 := Lib.hid ho10; have HB10 := Lib.hid hb10; have HOW : Hid (∀ k, (Value.slice A10 (n + 1) ca10).ownBlock = some k → k = z8 → False) := (fun k hk e => (by rcases how10 k hk with h | h; exact hne8z (e ▸ h); have h3 := HZS9.out; omega)); clear ho10 hb10 hk10 hg10 how10)
          have hb11 : Below W2.heap.size W2 (w10.setRow z8 #[.int .i64 3, .string ⟨#[]⟩, .int .i64 0, .slice A10 (n + 1) ca10]) := below_setRow4 (HB9.out.trans HB10.out) hz29 _
          have ho11 : OwnT (Lo w) (w10.setRow z8 #[.int .i64 3, .string ⟨#[]⟩, .int .i64 0, .slice A10 (n + 1) ca10]) W2.heap.size (.slice A10 (n + 1) ca10) (l.map nm ++ [.mk 0 s1 n1 l1]) := HO10.out.keep (fun k hk => setRow_other _ _ _ _ (fun e => HOW.out k hk e)) (fun _ h => h) (fun b hb => setRow_other _ _ _ _ (by have := hLo b hb; omega))
          obtain ⟨W11, hW11⟩ : ∃ W11, W11 = (w10.setRow z8 #[.int .i64 3, .string ⟨#[]⟩, .int .i64 0, .slice A10 (n + 1) ca10]) := ⟨_, rfl⟩
          rw [← hW11] at hb11 ho11 ⊢
          obtain ⟨hbw11, -⟩ := HC.out W11 hb11
          refine (HNM.out W11 _ hbw11 ho11).mono ?_
          clear x0 x1 x2 x3 y0 y1 y2 y3 hg11 hf10 hs10 hsz10 ho11 c0 c1 c2 c3 d0 d1 d2 d3
          rintro _ w12 ⟨g12, rfl, b12⟩
          have hb12 : Below W2.heap.size W2 w12 := hb11.trans (b12.mono hb11.size)
          obtain ⟨hbw12, c0, c1, c2, c3⟩ := HC.out w12 hb12
          have HE := Lib.hid hbw12
          clear hbw12 hb12 b12 hb11 hW11 hbw11
          go_wp2
          go_ret
          exact ⟨rfl, HE.out⟩
        · skip
          have hNM : ∀ W v', Below w.heap.size w W → OwnT (Lo w) W W2.heap.size v' (l.map nm ++ [.mk k1 s1 n1 l1]) → Calls Tryd.prog 15 #[.agg #[.int .i64 3, .string ⟨#[]⟩, .int .i64 0, v']] W fun e w' => e = .returned (.tuple #[.slice none 0 0, .bool false]) ∧ Below W.heap.size W w' := by
            intro W v' hb ho
            obtain ⟨A', ca', hf⟩ := ho.form
            subst hf
            have hrow := ho.row (S' := Lo W) (fun b h => Nat.lt_of_lt_of_le h hb.size) (fun b h => (ho.lt b h).2)
            have hlen : (l.map nm ++ [Tm.mk k1 s1 n1 l1]).length = n + 1 := by rw [List.length_append, List.length_map, ← HN.out]; rfl
            exact NamesN_any 3 [] 0 _ A' ca' (Lo W) W hrow (fun _ h => h) (by omega) (by rintro ⟨-, h⟩; rw [List.all_append, Bool.and_eq_true] at h; simp [Tm.k] at h; exact hk (of_decide_eq_true h.2))
          have HNM := Lib.hid hNM
          clear hNM
          go_wp2_with (at_builtin; rw [← HW9.out, ← HZ8.out]; refine wpList_appT W9 rfl (.tmp 56) (.tmp 58) rfl W2.heap.size _ (l.map nm) (.mk k1 s1 n1 l1) _ _ _ _ (Lo w) rfl _ HZS9.out rfl HO9.out HXX.out hLo (by rw [List.length_map, ← HN.out]; exact hn6) hbase ?_; intro v' w10 ho10 hb10 hk10 how10 hsz10; obtain ⟨A10, ca10, hv10⟩ := ho10.form; rw [List.length_append, List.length_map, ← HN.out, List.length_singleton] at hv10; subst hv10; have hg10 := (hk10 z8 (by have := HZS9.out; omega) hne8z).trans HG9.out; have hf10 := fun k => frozen_of_row _ _ k _ _ hg10; have hs10 := set1L hg10 (.slice A10 (n + 1) ca10); have hc10 := cell4 hg10; obtain ⟨x0, x1, x2, x3⟩ := hc10; have hg11 := setRow_heap w10 z8 _ #[.int .i64 3, .string ⟨#[]⟩, .int .i64 0, .slice A10 (n + 1) ca10] _ _ hg10; have hc11 := cell4 hg11; obtain ⟨y0, y1, y2, y3⟩ := hc11; have HO10 := Lib.hid ho10; have HB10 := Lib.hid hb10; have HOW : Hid (∀ k, (Value.slice A10 (n + 1) ca10).ownBlock = some k → k = z8 → False) := (fun k hk e => (by rcases how10 k hk with h | h; exact hne8z (e ▸ h); have h3 := HZS9.out; omega)); clear ho10 hb10 hk10 hg10 how10)
          have hb11 : Below W2.heap.size W2 (w10.setRow z8 #[.int .i64 3, .string ⟨#[]⟩, .int .i64 0, .slice A10 (n + 1) ca10]) := below_setRow4 (HB9.out.trans HB10.out) hz29 _
          have ho11 : OwnT (Lo w) (w10.setRow z8 #[.int .i64 3, .string ⟨#[]⟩, .int .i64 0, .slice A10 (n + 1) ca10]) W2.heap.size (.slice A10 (n + 1) ca10) (l.map nm ++ [.mk k1 s1 n1 l1]) := HO10.out.keep (fun k hk => setRow_other _ _ _ _ (fun e => HOW.out k hk e)) (fun _ h => h) (fun b hb => setRow_other _ _ _ _ (by have := hLo b hb; omega))
          obtain ⟨W11, hW11⟩ : ∃ W11, W11 = (w10.setRow z8 #[.int .i64 3, .string ⟨#[]⟩, .int .i64 0, .slice A10 (n + 1) ca10]) := ⟨_, rfl⟩
          rw [← hW11] at hb11 ho11 ⊢
          obtain ⟨hbw11, -⟩ := HC.out W11 hb11
          refine (HNM.out W11 _ hbw11 ho11).mono ?_
          clear x0 x1 x2 x3 y0 y1 y2 y3 hg11 hf10 hs10 hsz10 ho11 c0 c1 c2 c3 d0 d1 d2 d3
          rintro _ w12 ⟨rfl, b12⟩
          have hb12 : Below W2.heap.size W2 w12 := hb11.trans (b12.mono hb11.size)
          obtain ⟨hbw12, c0, c1, c2, c3⟩ := HC.out w12 hb12
          have HE := Lib.hid hbw12
          clear hbw12 hb12 b12 hb11 hW11 hbw11
          go_wp2
          go_ret
          exact ⟨congrArg (fun b => Ending.returned (.bool b)) (show (!(k1 == 0)) = true by simp [hk]), HE.out⟩
end Go.Proofs.YtfhcfaflggiacaaDoor
