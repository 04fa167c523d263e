/- swappedBytes. -/
import Derived.Test.YtdjehpbkkbahcaaDoorMkB
import Derived.Test.YtdjehpbkkbahcaaDoorAeW2
import Derived.StillTailTactics
namespace Go.Proofs.YtdjehpbkkbahcaaDoor
open Go.RowKit

theorem noughts_size (n : Nat) : (bcells (List.replicate n 0)).size = n := by rw [bcells_size, List.length_replicate]

/-- A scope with one label: the first way to it, and each pass behind it, with what holds at the label. -/
theorem wp_scope_again {P : Program} {a : Act} {w : World} {Q : Exit → Act → World → Prop} {c rest : Code} (l : Nat) (J : Act → World → Prop) (μ : Act → World → Nat) (hf : findLabel c l = some (Code.skip.seq rest))
    (first : (∀ a w, J a w → rest.wp P (Exit.jump l J Q) a w) → c.wp P (Exit.jump l J Q) a w)
    (pass : ∀ a w, J a w → rest.wp P (Exit.jump l (fun a' w' => J a' w' ∧ μ a' w' < μ a w) Q) a w) : (Code.scope c).wp P Q a w :=
  wp_scope_jumps l J μ hf (first fun a w h => Code.wp_mono (fun e a' w' hq => by
    cases e <;> first | exact ⟨hq.1, hq.2.1⟩ | exact hq) (pass a w h)) fun a w h => wp_seq (wp_skip (pass a w h))

theorem TB_length (k : Nat) : (Ae.TB k).length = 256 := by
  induction k with
  | zero => rw [Ae.TB, List.length_set, List.length_replicate]
  | succ k ih => rw [Ae.TB, List.length_set, ih]


/-- What holds at the label: the powers lie in block g1, the table in block g2. -/
def AtAgain (w : World) (P : List UInt8) (zs : Array Value) (wr : World) (g1 g2 k : Nat) : Prop :=
  Below w.heap.size w wr ∧ w.heap.size < g1 ∧ g1 < g2 ∧ wr.heap[w.heap.size]? = some (.cells zs 94 (0, 0)) ∧ wr.heap[g1]? = some (.cells (bcells P) 106 (0, 0)) ∧ wr.heap[g2]? = some (.cells (bcells (Ae.TB k)) 94 (0, 0))

set_option maxRecDepth 100000 in
set_option maxHeartbeats 1000000 in
theorem swaps_any (w : World) :
    Calls Tryd.prog 83 #[] w fun e w' => e = .returned (.agg (bcells Ae.SB)) ∧ Below w.heap.size w w' := by
  have HP := Lib.hid powers_any
  have HL := Lib.hid PW_length
  have HS0 := Lib.hid fun W => spreadA_any 0 W
  have hz := zeroA256
  have hz2 := zeroA255
  have hne := noughtsA_ne 256 (by decide)
  have hne2 := noughtsA_ne 255 (by decide)
  have HI : Hid ((Tryd.prog.info? 106).map (·.size) = some (bcells Ae.PW).size) := by rw [Hid, infoA255, bcells_size, PW_length]
  have HZ2 : Hid ((bcells (List.replicate 255 0)).size = (bcells Ae.PW).size) := by rw [Hid, noughts_size, bcells_size, PW_length]
  have HT0 : Hid (Ae.TB 0 = (List.replicate 256 0).set 0 (Ae.spr 0)) := Lib.hid rfl
  have HTS : Hid (∀ k, Ae.TB (k + 1) = (Ae.TB k).set (Ae.PW.getD k 0).toNat (Ae.spr (Ae.PW.getD ((255 - k) % 255) 0))) := Lib.hid fun _ => rfl
  have HTE := Lib.hid Ae.TB_SB
  have HLS : Hid (Ae.SB.length = 256) := Lib.hid rfl
  generalize Ae.SB = S at *
  generalize hzs : bcells (List.replicate 256 0) = zs at *
  generalize hzs2 : bcells (List.replicate 255 0) = zs2 at *
  generalize Ae.PW = P at *
  have hb1' : Below w.heap.size w (w.alloc (.cells zs 94)) := (Below.refl _ _).alloc (Nat.le_refl _) _
  go_enter Tryd.func83, Tryd.ntmps83
  go_wp2
  refine wp_scope_again 0 (fun a' w' => ∃ (g1 g2 k : Nat) (vk : Int) (u4 u5 u6 u7 u8 u9 u10 u11 u12 u13 u14 u15 u16 u17 u18 u19 u20 u21 : Value), a' = { tmps := #[.pointer (some ⟨w.heap.size, 0, none⟩), .pointer (some ⟨g1, 0, none⟩), .pointer (some ⟨g2, 0, none⟩), .int .i64 vk, u4, u5, u6, u7, u8, u9, u10, u11, u12, u13, u14, u15, u16, u17, u18, u19, u20, u21], defers := [] } ∧ Hid (vk = k) ∧ k < 255 ∧ AtAgain w P zs w' g1 g2 k) (fun a' _ => 255 - (intOf (a'.tmps.getD 3 undef)).toNat) rfl (fun again => ?_) ?_
  · go_wp2_with fail
    refine (HP.out _).mono ?_
    rintro _ w1 ⟨rfl, hb1⟩
    go_wp2_with (first | (refine wpList_store_row rfl 106 (.tmp 1) (.tmp 4) rfl w1.heap.size (bcells P) rfl rfl 106 _ (heap_alloc_new _ _) HI.out HZ2.out (bcells_one _) ?_; rw [World.setRow_alloc_new]) | fail)
    refine (HS0.out _).mono ?_
    rintro _ w2 ⟨rfl, rfl⟩
    have hbw : Below w.heap.size w ((w1.alloc (.cells (bcells P) 106)).alloc (.cells zs 94)) := ((hb1'.trans (hb1.mono (by simp))).alloc (by have := hb1.size; simp at this; omega) _).alloc (by have := hb1.size; simp at this ⊢; omega) _
    have hw1 : w.heap.size < w1.heap.size := by have := hb1.size; simp at this; omega
    have h0 : ((w1.alloc (.cells (bcells P) 106)).alloc (.cells zs 94)).heap[w.heap.size]? = some (.cells zs 94 (0, 0)) := by
      rw [heap_alloc_old _ _ (by simp; omega), heap_alloc_old _ _ hw1, hb1.block _ (by simp)]
      exact heap_alloc_new _ _
    have h1 := heap_alloc2_old w1 (.cells (bcells P) 106) (.cells zs 94)
    have h2 := heap_alloc2_new w1 (.cells (bcells P) 106) (.cells zs 94)
    generalize (w1.alloc (.cells (bcells P) 106)).alloc (.cells zs 94) = W at *
    rw [← hzs] at h2
    have hcell : W.cell? ⟨w1.heap.size + 1, 0, none⟩ = some (.int .u8 ((0 : UInt8).toNat : Nat)) := bget h2 (by rw [List.length_replicate]; decide) 0 rfl
    have hfro := frozen_of_row _ _ 0 _ _ h2
    have HB := Lib.hid (bset (i := 0) h2 (Ae.spr 0))
    rw [← HT0.out] at HB
    have H0 := Lib.hid h0
    have H1 := Lib.hid h1
    clear h0 h1 h2 HT0 HS0 HP HTS HTE
    go_wp2
    go_step3
    rename_i hK
    refine hK _ _ (again _ _ ⟨w1.heap.size, w1.heap.size + 1, 0, 0, _, _, _, _, _, _, _, _, _, _, _, _, _, _, _, _, _, _, rfl, Lib.hid rfl, by decide, hbw.setCell (by show w.heap.size ≤ w1.heap.size + 1; omega) _, hw1, by omega, ?_, ?_, HB.out⟩)
    · rw [heap_setCell_other _ _ _ _ (by show w.heap.size ≠ w1.heap.size + 1; omega)]; exact H0.out
    · rw [heap_setCell_other _ _ _ _ (by show w1.heap.size ≠ w1.heap.size + 1; omega)]; exact H1.out
  · rintro a' w' ⟨g1, g2, k, vk, u4, u5, u6, u7, u8, u9, u10, u11, u12, u13, u14, u15, u16, u17, u18, u19, u20, u21, rfl, Hk, hk, hA⟩
    obtain rfl := Hk.out
    obtain ⟨hb, h1, h2, HC0, HC1, HC2⟩ := hA
    obtain ⟨j, hj⟩ : ∃ j, j = (255 - k) % 255 := ⟨_, rfl⟩
    have hjl : j < 255 := by omega
    have HJ := Lib.hid hj
    obtain ⟨x, hx⟩ : ∃ x, P.getD k 0 = x := ⟨_, rfl⟩
    obtain ⟨y, hy⟩ : ∃ y, P.getD j 0 = y := ⟨_, rfl⟩
    have hcx := bget HC1 (by rw [HL.out]; exact hk) x hx
    have hcy := bget HC1 (by rw [HL.out]; exact hjl) y hy
    have hx8 : x.toNat < 256 := UInt8.toNat_lt x
    obtain ⟨z, hz⟩ : ∃ z, (Ae.TB k).getD x.toNat 0 = z := ⟨_, rfl⟩
    have hcz := bget HC2 (by rw [TB_length]; exact hx8) z hz
    have hfro := frozen_of_row _ _ x.toNat _ _ HC2
    have HN := Lib.hid (bset (i := x.toNat) HC2 (Ae.spr y))
    have HE := Lib.hid (HTS.out k)
    rw [← HJ.out, hy, hx] at HE
    rw [← HE.out] at HN
    have HS := Lib.hid fun W => spreadA_any y W
    have H0 := Lib.hid HC0
    have H1 := Lib.hid HC1
    obtain ⟨m, hm⟩ : ∃ m : Nat, m = 255 - k := ⟨_, rfl⟩
    have e0 : (k : Int) < 255 := by omega
    have e1 : IntKind.i64.wrap (255 - (k : Int)) = (m : Int) := by rw [IntWalk.i64_in _ (by omega)]; omega
    have e2 : (m : Int).tmod 255 = (j : Int) := by rw [hj, ← hm]; exact (Int.ofNat_tmod _ 255).symm
    have e3 : (j : Int) < 255 := by omega
    have e4 : (x.toNat : Int) < 256 := by omega
    have HZS := Lib.hid hzs
    clear hj hm hy hx HTS HT0 HP HS0 hz HC0 HC1 HC2 HE hzs hzs2 hne hne2
    have hcx' : w'.drew.cell? ⟨g1, k, none⟩ = some (.int .u8 (x.toNat : Nat)) := hcx
    have hcy' : w'.drew.cell? ⟨g1, j, none⟩ = some (.int .u8 (y.toNat : Nat)) := hcy
    have hcz' : w'.drew.cell? ⟨g2, x.toNat, none⟩ = some (.int .u8 (z.toNat : Nat)) := hcz
    have hfro' : w'.drew.frozen? ⟨g2, x.toNat, none⟩ = false := hfro
    have hb' : Below w.heap.size w w'.drew := hb.drew
    have HN' : Hid ((w'.drew.setCell ⟨g2, x.toNat, none⟩ (.int .u8 ((Ae.spr y).toNat : Nat))).heap[g2]? = some (.cells (bcells (Ae.TB (k + 1))) 94 (0, 0))) := HN
    have H0' : Hid (w'.drew.heap[w.heap.size]? = some (.cells zs 94 (0, 0))) := H0
    have H1' : Hid (w'.drew.heap[g1]? = some (.cells (bcells P) 106 (0, 0))) := H1
    clear hcx hcy hcz hfro hb HN H0 H1
    go_wp2_with fail
    refine wp_region_still_tail 9 (by kernel_rfl) (by kernel_rfl) ?_
    change wpStill _ _ (World.drew _) (fun a' => wpList _ _ _ _ a' (World.drew _)) _ _
    generalize w'.drew = w2 at *
    simp only [List.take_succ_cons, List.take_zero, List.drop_succ_cons, List.drop_zero]
    repeat still_step
    still_call ((HS.out _).mono fun _ _ ⟨h, g⟩ => ⟨h, g.symm⟩)
    refine wpStill_nil ?_
    have HA : AtAgain w P zs (w2.setCell ⟨g2, x.toNat, none⟩ (.int .u8 ((Ae.spr y).toNat : Nat))) g1 g2 (k + 1) := ⟨hb'.setCell (show w.heap.size ≤ g2 by omega) _, h1, h2, by rw [heap_setCell_other _ _ _ _ (show w.heap.size ≠ g2 by omega)]; exact H0'.out, by rw [heap_setCell_other _ _ _ _ (show g1 ≠ g2 by omega)]; exact H1'.out, HN'.out⟩
    clear HN' H0' H1' HS hb'
    by_cases hlast : k + 1 < 255
    · go_wp2
      go_step3
      exact ⟨rfl, ⟨g1, g2, k + 1, _, _, _, _, _, _, _, _, _, _, _, _, _, _, _, _, _, _, _, rfl, Lib.hid (by go_num), hlast, HA⟩, by simp [intOf]; omega⟩
    · obtain rfl : k = 254 := by omega
      obtain ⟨hb3, _, _, hc0, _, hc2⟩ := HA
      have hc2' : (w2.setCell ⟨g2, x.toNat, none⟩ (.int .u8 ((Ae.spr y).toNat : Nat))).heap[g2]? = some (.cells (bcells S) 94 (0, 0)) := by rw [← HTE.out]; exact hc2
      have HC0 := Lib.hid hc0
      have HC2 := Lib.hid hc2'
      have HI2 : Hid ((Tryd.prog.info? 94).map (·.size) = some (bcells S).size) := by rw [Hid, infoA256, bcells_size, HLS.out]
      have HS2 : Hid (zs.size = (bcells S).size) := by rw [Hid, ← HZS.out, noughts_size, bcells_size, HLS.out]
      clear hc0 hc2 hc2' HTE
      go_wp2_with (first | (refine wpList_load_row rfl 94 (.tmp 2) rfl g2 rfl 94 (bcells S) (0, 0) _ HC2.out Tryd.underlying94 rfl HI2.out ?_) | (refine wpList_store_row rfl 94 (.tmp 0) (.tmp 21) rfl w.heap.size (bcells S) rfl rfl 94 _ HC0.out HI2.out HS2.out (bcells_one _) ?_))
      simp only [Exit.jump]
      exact bodyPost_ret (v := .agg (bcells S)) (results_cell_row Tryd.results83 _ _ w.heap.size 94 _ (0, 0) _ rfl (setRow_heap _ _ _ _ _ _ HC0.out) Tryd.underlying94 rfl HI2.out) rfl ⟨rfl, below_setRow' hb3 (Nat.le_refl _) _⟩
end Go.Proofs.YtdjehpbkkbahcaaDoor
