/- swappedBytes. -/
import Derived.Test.YticofjbngfjjlaaGreatDoorGAShaW3
import Derived.Test.YticofjbngfjjlaaGreatDoorGAWiMemB
import Derived.StillTailTactics
import Derived.Test.YticofjbngfjjlaaGreatDoorGAAePureC
import Derived.Lib.QuietBelow
namespace Go.Proofs.YticofjbngfjjlaaGreatDoor
open Go.RowKit

theorem noughts_size (n : Nat) : (bcells (List.replicate n 0)).size = n := by rw [bcells_size, List.length_replicate]

/-- A scope with one label: the first way to it, and each pass behind it, with what holds at the label. -/
theorem wp_scope_again {P : Program} {a : Act} {w : World} {Q : Exit → Act → World → Prop} {c rest : Code} (l : Nat) (J : Act → World → Prop) (μ : Act → World → Nat) (hf : findLabel c l = some (Code.skip.seq rest))
    (first : (∀ a w, J a w → rest.wp P (Exit.jump l J Q) a w) → c.wp P (Exit.jump l J Q) a w)
    (pass : ∀ a w, J a w → rest.wp P (Exit.jump l (fun a' w' => J a' w' ∧ μ a' w' < μ a w) Q) a w) : (Code.scope c).wp P Q a w :=
  wp_scope_jumps l J μ hf (first fun a w h => Code.wp_mono (fun e a' w' hq => by
    cases e <;> first | exact ⟨hq.1, hq.2.1⟩ | exact hq) (pass a w h)) fun a w h => wp_seq (wp_skip (pass a w h))

theorem TB_length (k : Nat) : (Ae.TB k).length = 256 := by
  induction k with
  | zero => rw [Ae.TB, List.length_set, List.length_replicate]
  | succ k ih => rw [Ae.TB, List.length_set, ih]


/-- What holds at the label: the powers lie in block g1, the table in block g2. -/
def AtAgain (w : World) (P : List UInt8) (zs : Array Value) (wr : World) (g1 g2 k : Nat) : Prop :=
  Below w.heap.size w wr ∧ w.heap.size < g1 ∧ g1 < g2 ∧ wr.heap[w.heap.size]? = some (.cells zs 199 (0, 0)) ∧ wr.heap[g1]? = some (.cells (bcells P) 210 (0, 0)) ∧ wr.heap[g2]? = some (.cells (bcells (Ae.TB k)) 199 (0, 0))

set_option maxRecDepth 100000 in
set_option maxHeartbeats 1000000 in
theorem swaps_any (w : World) :
    Calls Tryz.prog 211 #[] w fun e w' => e = .returned (.agg (bcells Ae.SB)) ∧ Below w.heap.size w w' := by
  have HP := Lib.hid powers_any
  have HL := Lib.hid PW_length
  have HS0 := Lib.hid fun W => spreadA_any 0 W
  have hz := zeroA256
  have hz2 := zeroA255
  have hne := noughtsA_ne 256 (by decide)
  have hne2 := noughtsA_ne 255 (by decide)
  have HI : Hid ((Tryz.prog.info? 210).map (·.size) = some (bcells Ae.PW).size) := by rw [Hid, infoA255, bcells_size, PW_length]
  have HZ2 : Hid ((bcells (List.replicate 255 0)).size = (bcells Ae.PW).size) := by rw [Hid, noughts_size, bcells_size, PW_length]
  have HT0 : Hid (Ae.TB 0 = (List.replicate 256 0).set 0 (Ae.spr 0)) := Lib.hid rfl
  have HTS : Hid (∀ k, Ae.TB (k + 1) = (Ae.TB k).set (Ae.PW.getD k 0).toNat (Ae.spr (Ae.PW.getD ((255 - k) % 255) 0))) := Lib.hid fun _ => rfl
  have HTE := Lib.hid Ae.TB_SB
  have HLS : Hid (Ae.SB.length = 256) := Lib.hid rfl
  generalize Ae.SB = S at *
  generalize hzs : bcells (List.replicate 256 0) = zs at *
  generalize hzs2 : bcells (List.replicate 255 0) = zs2 at *
  generalize Ae.PW = P at *
  have hb1' : Below w.heap.size w (w.alloc (.cells zs 199)) := (Below.refl _ _).alloc (Nat.le_refl _) _
  go_enter Tryz.func211, Tryz.ntmps211
  go_wp2
  refine wp_scope_again 0 (fun a' w' => ∃ (g1 g2 k : Nat) (vk : Int) (u4 u5 u6 u7 u8 u9 u10 u11 u12 u13 u14 u15 u16 u17 u18 u19 u20 u21 : Value), a' = { tmps := #[.pointer (some ⟨w.heap.size, 0, none⟩), .pointer (some ⟨g1, 0, none⟩), .pointer (some ⟨g2, 0, none⟩), .int .i64 vk, u4, u5, u6, u7, u8, u9, u10, u11, u12, u13, u14, u15, u16, u17, u18, u19, u20, u21], defers := [] } ∧ Hid (vk = k) ∧ k < 255 ∧ AtAgain w P zs w' g1 g2 k) (fun a' _ => 255 - (intOf (a'.tmps.getD 3 undef)).toNat) rfl (fun again => ?_) ?_
  · go_wp2_with fail
    refine (HP.out _).mono ?_
    rintro _ w1 ⟨rfl, hb1⟩
    go_wp2_with (first | (refine wpList_store_row rfl 210 (.tmp 1) (.tmp 4) rfl w1.heap.size (bcells P) rfl rfl 210 _ (heap_alloc_new _ _) HI.out HZ2.out (bcells_one _) ?_; rw [World.setRow_alloc_new]) | fail)
    refine (HS0.out _).mono ?_
    rintro _ w2 ⟨rfl, rfl⟩
    have hbw : Below w.heap.size w ((w1.alloc (.cells (bcells P) 210)).alloc (.cells zs 199)) := ((hb1'.trans (hb1.mono (by simp))).alloc (by have := hb1.size; simp at this; omega) _).alloc (by have := hb1.size; simp at this ⊢; omega) _
    have hw1 : w.heap.size < w1.heap.size := by have := hb1.size; simp at this; omega
    have h0 : ((w1.alloc (.cells (bcells P) 210)).alloc (.cells zs 199)).heap[w.heap.size]? = some (.cells zs 199 (0, 0)) := by
      rw [heap_alloc_old _ _ (by simp; omega), heap_alloc_old _ _ hw1, hb1.block _ (by simp)]
      exact heap_alloc_new _ _
    have h1 := heap_alloc2_old w1 (.cells (bcells P) 210) (.cells zs 199)
    have h2 := heap_alloc2_new w1 (.cells (bcells P) 210) (.cells zs 199)
    generalize (w1.alloc (.cells (bcells P) 210)).alloc (.cells zs 199) = W at *
    rw [← hzs] at h2
    have hcell : W.cell? ⟨w1.heap.size + 1, 0, none⟩ = some (.int .u8 ((0 : UInt8).toNat : Nat)) := bget h2 (by rw [List.length_replicate]; decide) 0 rfl
    have hfro := frozen_of_row _ _ 0 _ _ h2
    have HB := Lib.hid (bset (i := 0) h2 (Ae.spr 0))
    rw [← HT0.out] at HB
    have H0 := Lib.hid h0
    have H1 := Lib.hid h1
    clear h0 h1 h2 HT0 HS0 HP HTS HTE
    go_wp2
    go_step3
    rename_i hK
    refine hK _ _ (again _ _ ⟨w1.heap.size, w1.heap.size + 1, 0, 0, _, _, _, _, _, _, _, _, _, _, _, _, _, _, _, _, _, _, rfl, Lib.hid rfl, by decide, hbw.setCell (by show w.heap.size ≤ w1.heap.size + 1; omega) _, hw1, by omega, ?_, ?_, HB.out⟩)
    · rw [heap_setCell_other _ _ _ _ (by show w.heap.size ≠ w1.heap.size + 1; omega)]; exact H0.out
    · rw [heap_setCell_other _ _ _ _ (by show w1.heap.size ≠ w1.heap.size + 1; omega)]; exact H1.out
  · rintro a' w' ⟨g1, g2, k, vk, u4, u5, u6, u7, u8, u9, u10, u11, u12, u13, u14, u15, u16, u17, u18, u19, u20, u21, rfl, Hk, hk, hA⟩
    obtain rfl := Hk.out
    obtain ⟨hb, h1, h2, HC0, HC1, HC2⟩ := hA
    obtain ⟨j, hj⟩ : ∃ j, j = (255 - k) % 255 := ⟨_, rfl⟩
    have hjl : j < 255 := by omega
    have HJ := Lib.hid hj
    obtain ⟨x, hx⟩ : ∃ x, P.getD k 0 = x := ⟨_, rfl⟩
    obtain ⟨y, hy⟩ : ∃ y, P.getD j 0 = y := ⟨_, rfl⟩
    have hcx := bget HC1 (by rw [HL.out]; exact hk) x hx
    have hcy := bget HC1 (by rw [HL.out]; exact hjl) y hy
    have hx8 : x.toNat < 256 := UInt8.toNat_lt x
    obtain ⟨z, hz⟩ : ∃ z, (Ae.TB k).getD x.toNat 0 = z := ⟨_, rfl⟩
    have hcz := bget HC2 (by rw [TB_length]; exact hx8) z hz
    have hfro := frozen_of_row _ _ x.toNat _ _ HC2
    have HN := Lib.hid (bset (i := x.toNat) HC2 (Ae.spr y))
    have HE := Lib.hid (HTS.out k)
    rw [← HJ.out, hy, hx] at HE
    rw [← HE.out] at HN
    have HS := Lib.hid fun W => spreadA_any y W
    have H0 := Lib.hid HC0
    have H1 := Lib.hid HC1
    obtain ⟨m, hm⟩ : ∃ m : Nat, m = 255 - k := ⟨_, rfl⟩
    have e0 : (k : Int) < 255 := by omega
    have e1 : IntKind.i64.wrap (255 - (k : Int)) = (m : Int) := by rw [IntWalk.i64_in _ (by omega)]; omega
    have e2 : (m : Int).tmod 255 = (j : Int) := by rw [hj, ← hm]; exact (Int.ofNat_tmod _ 255).symm
    have e3 : (j : Int) < 255 := by omega
    have e4 : (x.toNat : Int) < 256 := by omega
    have HZS := Lib.hid hzs
    clear hj hm hy hx HTS HT0 HP HS0 hz HC0 HC1 HC2 HE hzs hzs2 hne hne2
    have hcx' : w'.drew.cell? ⟨g1, k, none⟩ = some (.int .u8 (x.toNat : Nat)) := hcx
    have hcy' : w'.drew.cell? ⟨g1, j, none⟩ = some (.int .u8 (y.toNat : Nat)) := hcy
    have hcz' : w'.drew.cell? ⟨g2, x.toNat, none⟩ = some (.int .u8 (z.toNat : Nat)) := hcz
    have hfro' : w'.drew.frozen? ⟨g2, x.toNat, none⟩ = false := hfro
    have hb' : Below w.heap.size w w'.drew := hb.drew
    have HN' : Hid ((w'.drew.setCell ⟨g2, x.toNat, none⟩ (.int .u8 ((Ae.spr y).toNat : Nat))).heap[g2]? = some (.cells (bcells (Ae.TB (k + 1))) 199 (0, 0))) := HN
    have H0' : Hid (w'.drew.heap[w.heap.size]? = some (.cells zs 199 (0, 0))) := H0
    have H1' : Hid (w'.drew.heap[g1]? = some (.cells (bcells P) 210 (0, 0))) := H1
    clear hcx hcy hcz hfro hb HN H0 H1
    go_wp2_with fail
    refine wp_region_still_tail 9 (by kernel_rfl) (by kernel_rfl) ?_
    change wpStill _ _ (World.drew _) (fun a' => wpList _ _ _ _ a' (World.drew _)) _ _
    generalize w'.drew = w2 at *
    simp only [List.take_succ_cons, List.take_zero, List.drop_succ_cons, List.drop_zero]
    repeat still_step
    still_call ((HS.out _).mono fun _ _ ⟨h, g⟩ => ⟨h, g.symm⟩)
    refine wpStill_nil ?_
    have HA : AtAgain w P zs (w2.setCell ⟨g2, x.toNat, none⟩ (.int .u8 ((Ae.spr y).toNat : Nat))) g1 g2 (k + 1) := ⟨hb'.setCell (show w.heap.size ≤ g2 by omega) _, h1, h2, by rw [heap_setCell_other _ _ _ _ (show w.heap.size ≠ g2 by omega)]; exact H0'.out, by rw [heap_setCell_other _ _ _ _ (show g1 ≠ g2 by omega)]; exact H1'.out, HN'.out⟩
    clear HN' H0' H1' HS hb'
    by_cases hlast : k + 1 < 255
    · go_wp2
      go_step3
      exact ⟨rfl, ⟨g1, g2, k + 1, _, _, _, _, _, _, _, _, _, _, _, _, _, _, _, _, _, _, _, rfl, Lib.hid (by go_num), hlast, HA⟩, by simp [intOf]; omega⟩
    · obtain rfl : k = 254 := by omega
      obtain ⟨hb3, _, _, hc0, _, hc2⟩ := HA
      have hc2' : (w2.setCell ⟨g2, x.toNat, none⟩ (.int .u8 ((Ae.spr y).toNat : Nat))).heap[g2]? = some (.cells (bcells S) 199 (0, 0)) := by rw [← HTE.out]; exact hc2
      have HC0 := Lib.hid hc0
      have HC2 := Lib.hid hc2'
      have HI2 : Hid ((Tryz.prog.info? 199).map (·.size) = some (bcells S).size) := by rw [Hid, infoA256, bcells_size, HLS.out]
      have HS2 : Hid (zs.size = (bcells S).size) := by rw [Hid, ← HZS.out, noughts_size, bcells_size, HLS.out]
      clear hc0 hc2 hc2' HTE
      go_wp2_with (first | (refine wpList_load_row rfl 199 (.tmp 2) rfl g2 rfl 199 (bcells S) (0, 0) _ HC2.out Tryz.underlying199 rfl HI2.out ?_) | (refine wpList_store_row rfl 199 (.tmp 0) (.tmp 21) rfl w.heap.size (bcells S) rfl rfl 199 _ HC0.out HI2.out HS2.out (bcells_one _) ?_))
      simp only [Exit.jump]
      exact bodyPost_ret (v := .agg (bcells S)) (results_cell_row Tryz.results211 _ _ w.heap.size 199 _ (0, 0) _ rfl (setRow_heap _ _ _ _ _ _ HC0.out) Tryz.underlying199 rfl HI2.out) rfl ⟨rfl, below_setRow' hb3 (Nat.le_refl _) _⟩
end Go.Proofs.YticofjbngfjjlaaGreatDoor

/- plus, swapped, turned, mixed. -/

namespace Go.Proofs.YticofjbngfjjlaaGreatDoor
open Go.RowKit

/-- The first k bytes of L, then what S has. -/
def fil (L S : List UInt8) (k : Nat) : List UInt8 := L.take k ++ S.drop k
theorem fil_length {L S : List UInt8} {n k : Nat} (hL : L.length = n) (hS : S.length = n) (hk : k ≤ n) : (fil L S k).length = n := by simp [fil]; omega
theorem fil_zero (L S : List UInt8) : fil L S 0 = S := by simp [fil]
theorem fil_all {L S : List UInt8} {n : Nat} (hL : L.length = n) (hS : S.length = n) : fil L S n = L := by
  rw [fil, List.take_of_length_le (by omega), List.drop_of_length_le (by omega), List.append_nil]
theorem fil_high {L S : List UInt8} {n k i : Nat} (hL : L.length = n) (hk : k ≤ n) (hi : k ≤ i) : (fil L S k).getD i 0 = S.getD i 0 := by
  have h1 : (L.take k).length = k := by simp; omega
  rw [fil, List.getD_eq_getElem?_getD, List.getD_eq_getElem?_getD, List.getElem?_append_right (by omega), h1, List.getElem?_drop, show k + (i - k) = i by omega]
theorem fil_low {L S : List UInt8} {n k i : Nat} (hL : L.length = n) (hk : k ≤ n) (hi : i < k) : (fil L S k).getD i 0 = L.getD i 0 := by
  have h1 : (L.take k).length = k := by simp; omega
  rw [fil, List.getD_eq_getElem?_getD, List.getD_eq_getElem?_getD, List.getElem?_append_left (by omega), List.getElem?_take, if_pos hi]
theorem fil_set {L S : List UInt8} {n k : Nat} (hL : L.length = n) (hS : S.length = n) (hk : k < n) (x : UInt8) (hx : L.getD k 0 = x) : (fil L S k).set k x = fil L S (k + 1) := by
  subst hx
  have h1 : (L.take k).length = k := by simp; omega
  have e : L.take (k + 1) = L.take k ++ [L[k]'(by omega)] := List.take_succ_eq_append_getElem (by omega)
  rw [fil, fil, e, List.set_append_right _ _ (by omega), h1, Nat.sub_self, List.drop_eq_getElem_cons (show k < S.length by omega), List.set_cons_zero, List.getD_eq_getElem?_getD, List.getElem?_eq_getElem (by omega), List.append_assoc]
  rfl

/-- The table of swapped bytes lies in block g. -/
def TabAt (w : World) (g : Nat) : Prop := w.heap[g]? = some (.cells (bcells Ae.SB) 199 (0, 0))
theorem TabAt.lt {w : World} {g : Nat} (h : TabAt w g) : g < w.heap.size := (Array.getElem?_eq_some_iff.1 h).1
theorem SB_length : Ae.SB.length = 256 := by decide +kernel
theorem TabAt.at {w : World} {g : Nat} (h : TabAt w g) (x : UInt8) : w.cell? ⟨g, x.toNat, none⟩ = some (.int .u8 ((Ae.sw x).toNat : Nat)) :=
  bget h (by rw [SB_length]; exact UInt8.toNat_lt x) _ rfl
theorem TabAt.below {w w' : World} {g B : Nat} (h : TabAt w g) (hB : g < B) (hb : Below B w w') : TabAt w' g := (hb.block _ hB).trans h

set_option maxRecDepth 100000 in
theorem plus_any (s K : List UInt8) (g o cap : Nat) (w : World) (hs : s.length = 16) (hg : g < w.heap.size) (hc : ∀ j, j < 16 → w.cell? ⟨g, o + j, none⟩ = some (.int .u8 ((K.getD j 0).toNat : Nat))) :
    Calls Tryz.prog 213 #[.agg (bcells s), .slice (some ⟨g, o, none⟩) 16 cap] w fun e w' => e = .returned (.agg (bcells (Ae.plus s K))) ∧ Below w.heap.size w w' := by
  have HS := Lib.hid hs
  have HC := Lib.hid hc
  have HL := Lib.hid (Ae.plus_length s K)
  have HAT : Hid (∀ j, j < 16 → (Ae.plus s K).getD j 0 = s.getD j 0 ^^^ K.getD j 0) := Lib.hid fun j hj => Ae.mk16_at _ j hj
  generalize Ae.plus s K = L at *
  clear hs hc
  go_enter Tryz.func213, Tryz.ntmps213
  go_wp2
  go_loopw [6] (fun i wr => ∃ k : Nat, k ≤ 16 ∧ i = .int .i64 k ∧ Below w.heap.size w wr ∧ w.heap.size + 2 ≤ wr.heap.size ∧ Hid (wr.heap[w.heap.size]? = some (.cells (bcells (fil L s k)) 205 (0, 0))) ∧ Hid (wr.heap[w.heap.size + 1]? = some (.cells (bcells (List.replicate 16 0)) 205 (0, 0)))) (fun i _ => 16 - (intOf i).toNat)
  case atStart => exact ⟨0, by omega, rfl, ((Below.refl _ _).alloc (Nat.le_refl _) _).alloc (by simp) _, by simp, by rw [fil_zero]; exact heap_alloc2_old _ _ _, heap_alloc2_new _ _ _⟩
  case round =>
    obtain ⟨k, hk, rfl, hb, hz, HC0, HC1⟩ := hrel
    by_cases hlt : k < 16
    · obtain ⟨x, hx⟩ : ∃ x, s.getD k 0 = x := ⟨_, rfl⟩
      obtain ⟨y, hy⟩ : ∃ y, K.getD k 0 = y := ⟨_, rfl⟩
      have hlen := fil_length HL.out HS.out hk
      have hcx : wr.drew.cell? ⟨w.heap.size, k, none⟩ = some (.int .u8 (x.toNat : Nat)) := bget (wr := wr) HC0.out (by omega) x ((fil_high HL.out hk (Nat.le_refl k)).trans hx)
      have hcy : wr.drew.cell? ⟨g, o + k, none⟩ = some (.int .u8 (y.toNat : Nat)) := by
        rw [← hy, ← HC.out k hlt]
        exact hb.cell (p := ⟨g, o + k, none⟩) hg
      have hfro : wr.drew.frozen? ⟨w.heap.size, k, none⟩ = false := frozen_of_row wr _ k _ _ HC0.out
      have hv := xor_byte x y
      have HN : Hid ((wr.drew.setCell ⟨w.heap.size, k, none⟩ (.int .u8 ((x ^^^ y).toNat : Nat))).heap[w.heap.size]? = some (.cells (bcells (fil L s (k + 1))) 205 (0, 0))) := by
        rw [Hid, ← fil_set HL.out HS.out hlt (x ^^^ y) (by rw [HAT.out k hlt, hx, hy])]
        exact bset (wr := wr.drew) HC0.out _
      have HC1' : Hid (wr.drew.heap[w.heap.size + 1]? = some (.cells (bcells (List.replicate 16 0)) 205 (0, 0))) := HC1
      have hb' : Below w.heap.size w wr.drew := hb.drew
      have hz' : w.heap.size + 2 ≤ wr.drew.heap.size := hz
      have e0 : (k : Int) < 16 := by omega
      clear hx hy HC0 HC1 hb hz hlen
      go_wp2_with fail
      refine wp_region_still_tail 8 (by kernel_rfl) (by kernel_rfl) ?_
      change wpStill _ _ (World.drew _) (fun a' => wpList _ _ _ _ a' (World.drew _)) _ _
      generalize wr.drew = w2 at *
      simp only [List.take_succ_cons, List.take_zero, List.drop_succ_cons, List.drop_zero]
      repeat still_step
      refine wpStill_nil ?_
      go_wp2
      go_roundw
      case rel => exact ⟨k + 1, by omega, by go_num, hb'.setCell (Nat.le_refl _) _, by simp [World.setCell]; omega, HN, by rw [Hid, heap_setCell_other _ _ _ _ (by show w.heap.size + 1 ≠ w.heap.size; omega)]; exact HC1'.out⟩
      case measure => simp [intOf]; omega
    · obtain rfl : k = 16 := by omega
      have HR : Hid (wr.heap[w.heap.size]? = some (.cells (bcells L) 205 (0, 0))) := by
        have h := HC0.out
        rw [fil_all HL.out HS.out] at h
        exact h
      clear HC0
      have HI : Hid ((Tryz.prog.info? 205).map (·.size) = some (bcells L).size) := by rw [Hid, infoA16, bcells_size, HL.out]
      have HZ : Hid ((bcells (List.replicate 16 0)).size = (bcells L).size) := by rw [Hid, noughts_size, bcells_size, HL.out]
      go_wp2_with (first | (refine wpList_load_row rfl 205 (.tmp 2) rfl w.heap.size rfl 205 (bcells L) (0, 0) _ HR.out Tryz.underlying205 rfl HI.out ?_) | (refine wpList_store_row rfl 205 (.tmp 4) (.tmp 19) rfl (w.heap.size + 1) (bcells L) rfl rfl 205 _ HC1.out HI.out HZ.out (bcells_one _) ?_))
      exact bodyPost_ret (v := .agg (bcells L)) (results_cell_row Tryz.results213 _ _ (w.heap.size + 1) 205 _ (0, 0) _ rfl (setRow_heap _ _ _ _ _ _ HC1.out) Tryz.underlying205 rfl HI.out) rfl ⟨rfl, below_setRow' hb (Nat.le_succ _) _⟩

set_option maxRecDepth 100000 in
theorem swapped_any (s : List UInt8) (g : Nat) (w : World) (hs : s.length = 16) (hc : TabAt w g) :
    Calls Tryz.prog 214 #[.agg (bcells s), .pointer (some ⟨g, 0, none⟩)] w fun e w' => e = .returned (.agg (bcells (Ae.swapped s))) ∧ Below w.heap.size w w' := by
  have HS := Lib.hid hs
  have hg := hc.lt
  have HC := Lib.hid hc
  have HL := Lib.hid (Ae.swapped_length s)
  have HAT : Hid (∀ j, j < 16 → (Ae.swapped s).getD j 0 = Ae.sw (s.getD j 0)) := Lib.hid fun j hj => Ae.mk16_at _ j hj
  generalize Ae.swapped s = L at *
  clear hs hc
  go_enter Tryz.func214, Tryz.ntmps214
  go_wp2
  go_loopw [6] (fun i wr => ∃ k : Nat, k ≤ 16 ∧ i = .int .i64 k ∧ Below w.heap.size w wr ∧ w.heap.size + 2 ≤ wr.heap.size ∧ Hid (wr.heap[w.heap.size]? = some (.cells (bcells (fil L s k)) 205 (0, 0))) ∧ Hid (wr.heap[w.heap.size + 1]? = some (.cells (bcells (List.replicate 16 0)) 205 (0, 0)))) (fun i _ => 16 - (intOf i).toNat)
  case atStart => exact ⟨0, by omega, rfl, ((Below.refl _ _).alloc (Nat.le_refl _) _).alloc (by simp) _, by simp, by rw [fil_zero]; exact heap_alloc2_old _ _ _, heap_alloc2_new _ _ _⟩
  case round =>
    obtain ⟨k, hk, rfl, hb, hz, HC0, HC1⟩ := hrel
    by_cases hlt : k < 16
    · obtain ⟨x, hx⟩ : ∃ x, s.getD k 0 = x := ⟨_, rfl⟩
      obtain ⟨y, hy⟩ : ∃ y, Ae.sw x = y := ⟨_, rfl⟩
      have hlen := fil_length HL.out HS.out hk
      have hcx : wr.drew.cell? ⟨w.heap.size, k, none⟩ = some (.int .u8 (x.toNat : Nat)) := bget (wr := wr) HC0.out (by omega) x ((fil_high HL.out hk (Nat.le_refl k)).trans hx)
      have hcy : wr.drew.cell? ⟨g, x.toNat, none⟩ = some (.int .u8 (y.toNat : Nat)) := by
        rw [← hy]
        exact (hb.cell (p := ⟨g, x.toNat, none⟩) hg).trans (HC.out.at x)
      have hx8 : (x.toNat : Int) < 256 := by have := UInt8.toNat_lt x; omega
      have hfro : wr.drew.frozen? ⟨w.heap.size, k, none⟩ = false := frozen_of_row wr _ k _ _ HC0.out
      have HN : Hid ((wr.drew.setCell ⟨w.heap.size, k, none⟩ (.int .u8 (y.toNat : Nat))).heap[w.heap.size]? = some (.cells (bcells (fil L s (k + 1))) 205 (0, 0))) := by
        rw [Hid, ← fil_set HL.out HS.out hlt y (by rw [HAT.out k hlt, hx, hy])]
        exact bset (wr := wr.drew) HC0.out _
      have HC1' : Hid (wr.drew.heap[w.heap.size + 1]? = some (.cells (bcells (List.replicate 16 0)) 205 (0, 0))) := HC1
      have hb' : Below w.heap.size w wr.drew := hb.drew
      have hz' : w.heap.size + 2 ≤ wr.drew.heap.size := hz
      have e0 : (k : Int) < 16 := by omega
      clear hx hy HC0 HC1 hb hz hlen
      go_wp2_with fail
      refine wp_region_still_tail 8 (by kernel_rfl) (by kernel_rfl) ?_
      change wpStill _ _ (World.drew _) (fun a' => wpList _ _ _ _ a' (World.drew _)) _ _
      generalize wr.drew = w2 at *
      simp only [List.take_succ_cons, List.take_zero, List.drop_succ_cons, List.drop_zero]
      repeat still_step
      refine wpStill_nil ?_
      go_wp2
      go_roundw
      case rel => exact ⟨k + 1, by omega, by go_num, hb'.setCell (Nat.le_refl _) _, by simp [World.setCell]; omega, HN, by rw [Hid, heap_setCell_other _ _ _ _ (by show w.heap.size + 1 ≠ w.heap.size; omega)]; exact HC1'.out⟩
      case measure => simp [intOf]; omega
    · obtain rfl : k = 16 := by omega
      have HR : Hid (wr.heap[w.heap.size]? = some (.cells (bcells L) 205 (0, 0))) := by
        have h := HC0.out
        rw [fil_all HL.out HS.out] at h
        exact h
      clear HC0
      have HI : Hid ((Tryz.prog.info? 205).map (·.size) = some (bcells L).size) := by rw [Hid, infoA16, bcells_size, HL.out]
      have HZ : Hid ((bcells (List.replicate 16 0)).size = (bcells L).size) := by rw [Hid, noughts_size, bcells_size, HL.out]
      go_wp2_with (first | (refine wpList_load_row rfl 205 (.tmp 2) rfl w.heap.size rfl 205 (bcells L) (0, 0) _ HR.out Tryz.underlying205 rfl HI.out ?_) | (refine wpList_store_row rfl 205 (.tmp 4) (.tmp 19) rfl (w.heap.size + 1) (bcells L) rfl rfl 205 _ HC1.out HI.out HZ.out (bcells_one _) ?_))
      exact bodyPost_ret (v := .agg (bcells L)) (results_cell_row Tryz.results214 _ _ (w.heap.size + 1) 205 _ (0, 0) _ rfl (setRow_heap _ _ _ _ _ _ HC1.out) Tryz.underlying205 rfl HI.out) rfl ⟨rfl, below_setRow' hb (Nat.le_succ _) _⟩

set_option maxRecDepth 100000 in
theorem turnedA_any (s : List UInt8) (w : World) (hs : s.length = 16) :
    Calls Tryz.prog 215 #[.agg (bcells s)] w fun e w' => e = .returned (.agg (bcells (Ae.turned s))) ∧ Below w.heap.size w w' := by
  have HS := Lib.hid hs
  have HL := Lib.hid (Ae.turned_length s)
  have HAT : Hid (∀ j, j < 16 → (Ae.turned s).getD j 0 = s.getD ((j / 4 + j % 4) % 4 * 4 + j % 4) 0) := Lib.hid fun j hj => Ae.mk16_at _ j hj
  generalize Ae.turned s = L at *
  clear hs
  go_enter Tryz.func215, Tryz.ntmps215
  go_wp2
  go_loopw [7] (fun i wr => ∃ k : Nat, k ≤ 16 ∧ i = .int .i64 k ∧ Below w.heap.size w wr ∧ w.heap.size + 3 ≤ wr.heap.size ∧ Hid (wr.heap[w.heap.size]? = some (.cells (bcells s) 205 (0, 0))) ∧ Hid (wr.heap[w.heap.size + 1]? = some (.cells (bcells (List.replicate 16 0)) 205 (0, 0))) ∧ Hid (wr.heap[w.heap.size + 1 + 1]? = some (.cells (bcells (L.take k ++ List.replicate (16 - k) 0)) 205 (0, 0)))) (fun i _ => 16 - (intOf i).toNat)
  case atStart => exact ⟨0, by omega, rfl, (((Below.refl _ _).alloc (Nat.le_refl _) _).alloc (by simp) _).alloc (by simp; omega) _, by simp, (heap_alloc_old _ _ (by simp; omega)).trans (heap_alloc2_old _ _ _), (heap_alloc_old _ _ (by simp)).trans (heap_alloc2_new _ _ _), by rw [Hid, show w.heap.size + 1 + 1 = ((w.alloc (.cells (bcells s) 205)).alloc (.cells (bcells (List.replicate 16 0)) 205)).heap.size by simp]; exact heap_alloc_new _ _⟩
  case round =>
    obtain ⟨k, hk, rfl, hb, hz, HC0, HC1, HC2⟩ := hrel
    by_cases hlt : k < 16
    · obtain ⟨m, hm⟩ : ∃ m : Nat, m = (k / 4 + k) % 4 * 4 + k % 4 := ⟨_, rfl⟩
      have hm16 : m < 16 := by omega
      obtain ⟨x, hx⟩ : ∃ x, s.getD m 0 = x := ⟨_, rfl⟩
      have hcx : wr.cell? ⟨w.heap.size, m, none⟩ = some (.int .u8 (x.toNat : Nat)) := bget HC0.out (by rw [HS.out]; exact hm16) x hx
      have hcell := brow_cell HC2.out HL.out hlt
      have hfro := frozen_of_row _ _ k _ _ HC2.out
      have HB := Lib.hid (brow_set HC2.out HL.out hlt)
      rw [HAT.out k hlt, show (k / 4 + k % 4) % 4 * 4 + k % 4 = m by omega, hx] at HB
      have e0 : (k : Int) < 16 := by omega
      subst hm
      clear hx
      go_wp2
      go_roundw
      case rel => exact ⟨k + 1, by omega, by go_num, hb.setCell (by show w.heap.size ≤ w.heap.size + 1 + 1; omega) _, by simp [World.setCell]; omega, by rw [Hid, heap_setCell_other _ _ _ _ (by show w.heap.size ≠ w.heap.size + 1 + 1; omega)]; exact HC0.out, by rw [Hid, heap_setCell_other _ _ _ _ (by show w.heap.size + 1 ≠ w.heap.size + 1 + 1; omega)]; exact HC1.out, HB⟩
      case measure => simp [intOf]; omega
    · obtain rfl : k = 16 := by omega
      have HR : Hid (wr.heap[w.heap.size + 1 + 1]? = some (.cells (bcells L) 205 (0, 0))) := by
        have h := HC2.out
        rw [List.take_of_length_le (by rw [HL.out]; exact Nat.le_refl _), Nat.sub_self, List.replicate_zero, List.append_nil] at h
        exact h
      clear HC2
      have HI : Hid ((Tryz.prog.info? 205).map (·.size) = some (bcells L).size) := by rw [Hid, infoA16, bcells_size, HL.out]
      have HZ : Hid ((bcells (List.replicate 16 0)).size = (bcells L).size) := by rw [Hid, noughts_size, bcells_size, HL.out]
      go_wp2_with (first | (refine wpList_load_row rfl 205 (.tmp 3) rfl (w.heap.size + 1 + 1) rfl 205 (bcells L) (0, 0) _ HR.out Tryz.underlying205 rfl HI.out ?_) | (refine wpList_store_row rfl 205 (.tmp 2) (.tmp 26) rfl (w.heap.size + 1) (bcells L) rfl rfl 205 _ HC1.out HI.out HZ.out (bcells_one _) ?_))
      exact bodyPost_ret (v := .agg (bcells L)) (results_cell_row Tryz.results215 _ _ (w.heap.size + 1) 205 _ (0, 0) _ rfl (setRow_heap _ _ _ _ _ _ HC1.out) Tryz.underlying205 rfl HI.out) rfl ⟨rfl, below_setRow' hb (Nat.le_succ _) _⟩

end Go.Proofs.YticofjbngfjjlaaGreatDoor

/- carry: writeNumber. (Laid with NS=1.) -/

namespace Go.Proofs.YticofjbngfjjlaaGreatDoor.Cy
open Go.RowKit
open Te Te.Tt

set_option maxHeartbeats 1000000 in
set_option maxRecDepth 100000 in
theorem number_any (n : Int) (w : World) :
    Calls Tryz.prog 62 #[.int .i64 n] w fun e w' => e = .returned (.string ⟨⟨nm8 n⟩⟩) ∧ Below w.heap.size w w' := by
  have hu : IntKind.u64.wrap n = ((De.un n : Nat) : Int) := by rw [IntKind.wrap_u64, De.un_cast]
  have HL := Lib.hid (nm8_length n)
  have HAT : Hid (∀ m, m < 8 → (nm8 n).getD m 0 = Sh.byt (De.un n / 2 ^ (8 * (7 - m)))) := Lib.hid fun m hm => by
    rw [nm8, De.num, List.getD_eq_getElem?_getD, List.getElem?_map, List.getElem?_range hm]
    rfl
  have h0 : (w.alloc (.cells #[.int .u8 0, .int .u8 0, .int .u8 0, .int .u8 0, .int .u8 0, .int .u8 0, .int .u8 0, .int .u8 0] 120)).heap[w.heap.size]? = some (.cells (bcells (List.replicate 8 0)) 120 (0, 0)) := heap_alloc_new _ _
  have HS : Hid ((List.replicate 8 (0 : UInt8)).length = 8) := Lib.hid rfl
  generalize nm8 n = L at *
  generalize De.un n = c at *
  generalize List.replicate 8 (0 : UInt8) = zs at *
  go_enter Tryz.func62, Tryz.ntmps62
  go_wp2
  go_loopw [5] (fun i wr => ∃ m : Nat, m ≤ 8 ∧ i = .int .i64 m ∧ Below w.heap.size w wr ∧ w.heap.size + 1 ≤ wr.heap.size ∧ Hid (wr.heap[w.heap.size]? = some (.cells (bcells (fil L zs m)) 120 (0, 0)))) (fun i _ => 8 - (intOf i).toNat)
  case atStart => exact ⟨0, by omega, rfl, (Below.refl _ _).alloc (Nat.le_refl _) _, by simp, by rw [fil_zero]; exact h0⟩
  case round =>
    obtain ⟨m, hm, rfl, hb, hz, HC⟩ := hrel
    clear h0
    by_cases hlt : m < 8
    · have hlen := fil_length HL.out HS.out hm
      obtain ⟨z, hz0⟩ : ∃ z, (fil L zs m).getD m 0 = z := ⟨_, rfl⟩
      have hcz : wr.cell? ⟨w.heap.size, m, none⟩ = some (.int .u8 (z.toNat : Nat)) := bget HC.out (by omega) z hz0
      have hfro : wr.frozen? ⟨w.heap.size, m, none⟩ = false := frozen_of_row wr _ m _ _ HC.out
      have hv : (c : Int) / 2 ^ (8 * (7 - m)) % 256 = ((Sh.byt (c / 2 ^ (8 * (7 - m)))).toNat : Nat) := by
        rw [Sh.byt, UInt8.toNat_ofNat']
        simp
      have HA := Lib.hid (HAT.out m hlt)
      generalize Sh.byt (c / 2 ^ (8 * (7 - m))) = d at *
      have HN : Hid ((wr.setCell ⟨w.heap.size, m, none⟩ (.int .u8 (d.toNat : Nat))).heap[w.heap.size]? = some (.cells (bcells (fil L zs (m + 1))) 120 (0, 0))) := by
        rw [Hid, ← fil_set HL.out HS.out hlt d HA.out]
        exact bset HC.out _
      have e0 : (m : Int) < 8 := by omega
      clear hz0 HC hlen
      go_wp2
      go_roundw
      case rel => exact ⟨m + 1, by omega, by go_num, hb.setCell (Nat.le_refl _) _, by simp [World.setCell]; omega, HN⟩
      case measure => simp [intOf]; omega
    · obtain rfl : m = 8 := by omega
      have HR : Hid (wr.heap[w.heap.size]? = some (.cells (bcells L) 120 (0, 0))) := by
        have h := HC.out
        rw [fil_all HL.out HS.out] at h
        exact h
      have hcv := conv_any wr w.heap.size 8 L 120 (0, 0) _ HR.out (fun j hj => bcells_at L j hj)
      rw [HL.out] at hcv
      clear HC
      go_wp2
      go_ret
      exact ⟨rfl, hb⟩
end Go.Proofs.YticofjbngfjjlaaGreatDoor.Cy

/- How long a valid term's text is; what a seal or a sum is made of. (Laid with NS=1.) -/

namespace Go.Proofs.YticofjbngfjjlaaGreatDoor.Cy
open Go.RowKit
open Te Te.Tt

theorem mis_use {k : Int} {n : Int} {l : List Tm} (hk : k = 4 ∨ k = 5) (h : mis (.mk k [] n l) = false) : 1 ≤ n ∧ n ≤ 255 := by
  rw [mis] at h
  rcases hk with rfl | rfl
  all_goals
    simp only [show ¬ (4 : Int) = 0 by decide, show ¬ (4 : Int) = 1 by decide, show ¬ (4 : Int) = 2 by decide, show ¬ (4 : Int) = 3 by decide, show ¬ (5 : Int) = 0 by decide, show ¬ (5 : Int) = 1 by decide, show ¬ (5 : Int) = 2 by decide, show ¬ (5 : Int) = 3 by decide, if_false, true_or, or_true, if_true, Bool.or_eq_false_iff, decide_eq_false_iff_not, Decidable.not_not] at h
    omega
theorem name_len {s : List UInt8} (h : isName s = true) : s.length ≤ 40 := by
  unfold isName at h
  simp only [Bool.and_eq_true, decide_eq_true_eq] at h
  exact h.1.2
theorem mis_key {s : List UInt8} {n : Int} {l : List Tm} (h : mis (.mk 2 s n l) = false) : s.length ≤ 40 := by
  rw [mis] at h
  simp only [show ¬ (2 : Int) = 0 by decide, show ¬ (2 : Int) = 1 by decide, if_false, if_true, Bool.or_eq_false_iff, decide_eq_false_iff_not, Bool.and_eq_false_iff, Bool.not_eq_false', Decidable.not_not] at h
  rcases h.1.1 with e | e
  · rw [e]; simp
  · exact name_len e

theorem jn_szs : ∀ (l : List Tm), (∀ x ∈ l, (text x).length + 1 ≤ 70 * sz x) → (jn (texts l)).length ≤ 70 * szs l
  | [], _ => by simp [texts, jn]
  | [x], h => by
    have := h x (by simp)
    simp only [texts, jn, szs]; omega
  | x :: y :: r, h => by
    have h1 := h x (by simp)
    have h2 := jn_szs (y :: r) (fun z hz => h z (by simp [hz]))
    rw [texts, texts, jn, szs]
    rw [texts] at h2
    simp only [List.length_append, List.length_cons]
    omega

theorem txt_sz (w : World) (S : Nat → Prop) : ∀ x (d : Nat) v, vld d x = true → Rep w S x v → (text x).length + 1 ≤ 70 * sz x := Tm.ind (by
  intro k s n l ih d v hv hr
  obtain ⟨A, ca, -, hn, hrow⟩ := rep_mk.1 hr
  have hit := itoa_len n hn
  obtain ⟨hmis, hall⟩ := vld_own hv
  have hl : ∀ x ∈ l, (text x).length + 1 ≤ 70 * sz x := by
    intro x hx
    obtain ⟨i, hi, rfl⟩ := List.getElem_of_mem hx
    rcases hrow with h | ⟨b, o, -, -, hreps⟩
    · rw [h] at hi; simp at hi
    · obtain ⟨v0, v1, v2, v3, -, -, -, -, hrep⟩ := reps_at l b o i _ hreps (List.getElem?_eq_getElem hi)
      exact ih _ (List.getElem_mem hi) (d + 1) _ (hall _ (List.getElem_mem hi)) hrep
  have hj := jn_szs l hl
  rw [text, sz]
  rcases mis_kinds hmis with ⟨rfl, h1, rfl, rfl⟩ | ⟨rfl, rfl, rfl⟩ | ⟨rfl, h1, rfl⟩ | ⟨rfl, rfl, rfl⟩ | ⟨rfl, rfl, y0, y1, rfl⟩ | ⟨rfl, rfl, y0, y1, rfl⟩
  · have := name_len h1
    simp [tx, szs]; omega
  · simp [tx, szs]; omega
  · have := mis_key hmis
    simp [tx, szs]; omega
  · simp [tx]; omega
  · have e1 := hl y0 (by simp)
    have e2 := hl y1 (by simp)
    simp [tx, ky, texts, szs]; omega
  · have e1 := hl y0 (by simp)
    have e2 := hl y1 (by simp)
    simp [tx, ky, texts, szs]; omega)
end Go.Proofs.YticofjbngfjjlaaGreatDoor.Cy

/- The program's seal: what it answers, by what the layers below answer. -/

namespace Go.Proofs.YticofjbngfjjlaaGreatDoor
open Go.RowKit

/-- What derive's Cipher and Sum answer, and ctr's Cipher. -/
abbrev DCipIs (b : List UInt8) (n : Int) (k : List UInt8) : Prop := ∀ w, Tabs w → Calls Tryz.prog 163 #[.string ⟨⟨b⟩⟩, .int .i64 n] w fun e w' => e = .returned (.string ⟨⟨k⟩⟩) ∧ Below w.heap.size w w'
abbrev DSumIs (b : List UInt8) (n : Int) (k : List UInt8) : Prop := ∀ w, Tabs w → Calls Tryz.prog 164 #[.string ⟨⟨b⟩⟩, .int .i64 n] w fun e w' => e = .returned (.string ⟨⟨k⟩⟩) ∧ Below w.heap.size w w'
abbrev CCipIs (k o x c : List UInt8) : Prop := ∀ w, Calls Tryz.prog 162 #[.string ⟨⟨k⟩⟩, .string ⟨⟨o⟩⟩, .string ⟨⟨x⟩⟩] w fun e w' => e = .returned (.string ⟨⟨c⟩⟩) ∧ Below w.heap.size w w'
abbrev EquIs (a c : List UInt8) (q : Bool) : Prop := ∀ w, Calls Tryz.prog 145 #[.string ⟨⟨a⟩⟩, .string ⟨⟨c⟩⟩] w fun e w' => e = .returned (.bool q) ∧ Below w.heap.size w w'
/-- What its own parts answer. -/
abbrev CipIs (b : List UInt8) (n : Int) (o x c : List UInt8) : Prop := ∀ w, Tabs w → Calls Tryz.prog 134 #[.string ⟨⟨b⟩⟩, .int .i64 n, .string ⟨⟨o⟩⟩, .string ⟨⟨x⟩⟩] w fun e w' => e = .returned (.string ⟨⟨c⟩⟩) ∧ Below w.heap.size w w'
abbrev SmIs (b : List UInt8) (n : Int) (s m : List UInt8) : Prop := ∀ w, Tabs w → Calls Tryz.prog 135 #[.string ⟨⟨b⟩⟩, .int .i64 n, .string ⟨⟨s⟩⟩] w fun e w' => e = .returned (.string ⟨⟨m⟩⟩) ∧ Below w.heap.size w w'

set_option maxRecDepth 100000 in
theorem ciphered_by (b k o x c : List UInt8) (n : Int) (HD : Hid (DCipIs b n k)) (HC : Hid (CCipIs k o x c)) : CipIs b n o x c := by
  intro w HT
  go_enter Tryz.func134, Tryz.ntmps134
  go_wp2_with fail
  refine (HD.out w HT).mono ?_
  rintro _ w1 ⟨rfl, b1⟩
  go_wp2_with fail
  refine (HC.out w1).mono ?_
  rintro _ w2 ⟨rfl, hb2⟩
  have b2 := b1.trans (hb2.mono b1.size)
  clear hb2 b1
  go_wp2
  go_ret
  exact ⟨rfl, b2⟩

set_option maxRecDepth 100000 in
theorem sealSum_by (b k s m : List UInt8) (n : Int) (HD : Hid (DSumIs b n k)) (HM : Hid (MacIs k s m)) : SmIs b n s m := by
  intro w HT
  go_enter Tryz.func135, Tryz.ntmps135
  go_wp2_with fail
  refine (HD.out w HT).mono ?_
  rintro _ w1 ⟨rfl, b1⟩
  go_wp2_with fail
  refine (HM.out w1 (HT.below b1)).mono ?_
  rintro _ w2 ⟨rfl, hb2⟩
  have b2 := b1.trans (hb2.mono b1.size)
  clear hb2 b1
  go_wp2
  go_ret
  exact ⟨rfl, b2⟩

abbrev ChkIs (b : List UInt8) (n : Int) (x m : List UInt8) : Prop := ∀ w, Tabs w → Calls Tryz.prog 103 #[.string ⟨⟨b⟩⟩, .int .i64 n, .string ⟨⟨x⟩⟩] w fun e w' => e = .returned (.string ⟨⟨m⟩⟩) ∧ Below w.heap.size w w'
set_option maxRecDepth 100000 in
theorem slSum_by (b k x m : List UInt8) (n : Int) (HK : Hid (KeyIs b n [99, 104, 101, 99, 107] k)) (HM : Hid (MacIs k x m)) : ChkIs b n x m := by
  intro w HT
  go_enter Tryz.func103, Tryz.ntmps103
  go_wp2_with fail
  refine (HK.out w HT).mono ?_
  rintro _ w1 ⟨rfl, b1⟩
  go_wp2_with fail
  refine (HM.out w1 (HT.below b1)).mono ?_
  rintro _ w2 ⟨rfl, hb2⟩
  have b2 := b1.trans (hb2.mono b1.size)
  clear hb2 b1
  go_wp2
  go_ret
  exact ⟨rfl, b2⟩

/-- The number of the error that Check answers. -/
def chkNo (m s : List UInt8) : Int := if m = s then 0 else 62
set_option maxRecDepth 100000 in
theorem slCheck_by (b x m s : List UInt8) (n : Int) (w : World) (HT : Tabs w) (HS : Hid (ChkIs b n x m)) (HE : Hid (EquIs m s (decide (m = s)))) :
    Calls Tryz.prog 174 #[.string ⟨⟨b⟩⟩, .int .i64 n, .string ⟨⟨x⟩⟩, .string ⟨⟨s⟩⟩] w fun e w' => e = .returned (.int .i64 (chkNo m s)) ∧ Below w.heap.size w w' := by
  by_cases h : m = s
  · rw [chkNo, if_pos h]
    rw [decide_eq_true h] at HE
    clear h
    go_enter Tryz.func174, Tryz.ntmps174
    go_wp2_with fail
    refine (HS.out w HT).mono ?_
    rintro _ w1 ⟨rfl, b1⟩
    go_wp2_with fail
    refine (HE.out w1).mono ?_
    rintro _ w2 ⟨rfl, hb2⟩
    have b2 := b1.trans (hb2.mono b1.size)
    clear hb2 b1
    go_wp2
    go_ret
    exact ⟨rfl, b2⟩
  · rw [chkNo, if_neg h]
    rw [decide_eq_false h] at HE
    clear h
    go_enter Tryz.func174, Tryz.ntmps174
    go_wp2_with fail
    refine (HS.out w HT).mono ?_
    rintro _ w1 ⟨rfl, b1⟩
    go_wp2_with fail
    refine (HE.out w1).mono ?_
    rintro _ w2 ⟨rfl, hb2⟩
    have b2 := b1.trans (hb2.mono b1.size)
    clear hb2 b1
    go_wp2
    go_ret
    exact ⟨rfl, b2⟩

/-- What Seal answers. -/
abbrev SealIs (b : List UInt8) (n : Int) (o x s : List UInt8) (q : Int) : Prop := ∀ w, Tabs w → Calls Tryz.prog 101 #[.string ⟨⟨b⟩⟩, .int .i64 n, .string ⟨⟨o⟩⟩, .string ⟨⟨x⟩⟩] w fun e w' => e = .returned (.tuple #[.string ⟨⟨s⟩⟩, .int .i64 q]) ∧ Below w.heap.size w w'

set_option maxRecDepth 100000 in
theorem slSeal_no (b o x : List UInt8) (n : Int) (ho : o.length ≠ 12) : SealIs b n o x [] 1 := by
  intro w HT
  obtain ⟨o1, o2, o3, o4⟩ := len_false ho
  simp only [Int.cast_ofNat_Int] at o1 o3
  clear ho
  go_enter Tryz.func101, Tryz.ntmps101
  go_wp2
  go_ret2
  exact ⟨rfl, Below.refl _ _⟩

set_option maxRecDepth 100000 in
theorem slSeal_by (b o x c m : List UInt8) (n : Int) (ho : o.length = 12) (hx : x.length ≤ 65536) (hc : c.length ≤ 65536) (hm : m.length ≤ 32) (HC : Hid (CipIs b n o x c)) (HS : Hid (SmIs b n (o ++ c) m)) :
    SealIs b n o x (o ++ c ++ m) 0 := by
  intro w HT
  obtain ⟨o1, o2, o3, o4⟩ := len_true ho
  simp only [Int.cast_ofNat_Int] at o1 o3
  have hxi : (x.length : Int) ≤ 65536 := by omega
  have hap1 : ByteArray.mk ⟨o⟩ ++ ByteArray.mk ⟨c⟩ = ⟨⟨o ++ c⟩⟩ := str_app _ _
  have hap2 : ByteArray.mk ⟨o ++ c⟩ ++ ByteArray.mk ⟨m⟩ = ⟨⟨o ++ c ++ m⟩⟩ := str_app _ _
  have hw1 : ¬ 9223372036854775807 < o.length + c.length := by omega
  have hw2 : ¬ 9223372036854775807 < (o ++ c).length + m.length := by rw [List.length_append]; omega
  generalize o ++ c ++ m = r at *
  generalize o ++ c = t at *
  clear ho hc hm
  go_enter Tryz.func101, Tryz.ntmps101
  go_wp2_with fail
  refine (HC.out w HT).mono ?_
  rintro _ w1 ⟨rfl, b1⟩
  go_wp2_with fail
  refine (HS.out w1 (HT.below b1)).mono ?_
  rintro _ w2 ⟨rfl, hb2⟩
  have b2 := b1.trans (hb2.mono b1.size)
  clear hb2 b1
  go_wp2
  go_ret2
  exact ⟨rfl, b2⟩

abbrev HoldIs (b : List UInt8) (n : Int) (s : List UInt8) (q : Bool) : Prop := ∀ w, Tabs w → Calls Tryz.prog 198 #[.string ⟨⟨b⟩⟩, .int .i64 n, .string ⟨⟨s⟩⟩] w fun e w' => e = .returned (.bool q) ∧ Below w.heap.size w w'

set_option maxRecDepth 100000 in
theorem holds_by (b s m : List UInt8) (n : Int) (q : Bool) (h44 : 44 ≤ s.length) (hs : s.length ≤ 65580) (HS : Hid (SmIs b n (s.take (s.length - 32)) m)) (HE : Hid (EquIs m (s.drop (s.length - 32)) q)) : HoldIs b n s q := by
  intro w HT
  obtain ⟨e, he⟩ : ∃ e : Nat, e = s.length - 32 := ⟨_, rfl⟩
  rw [← he] at HS HE
  have e0 : (s.length : Int) - 32 = (e : Int) := by omega
  have f1 : IntKind.i64.wrap (e : Int) = (e : Int) := by rw [IntKind.wrap_i64]; omega
  have c1 : (ByteArray.mk ⟨s⟩).extract 0 e = ⟨⟨s.take e⟩⟩ := by rw [cut_str, List.drop_zero, Nat.sub_zero]
  have c2 : (ByteArray.mk ⟨s⟩).extract e s.length = ⟨⟨s.drop e⟩⟩ := by rw [cut_str, List.take_of_length_le (by rw [List.length_drop]; exact Nat.le_refl _)]
  have g1 : (e : Int) ≤ (s.length : Int) := by omega
  have g2 : ¬ (e : Int) < 0 := by omega
  have g3 : e ≤ s.length := by omega
  generalize s.take e = s1 at *
  generalize s.drop e = s2 at *
  clear h44 hs he
  have kS : ∀ d os, Calls Tryz.prog 135 #[.string ⟨⟨b⟩⟩, .int .i64 n, .string ⟨⟨s1⟩⟩] (Go.Sort.grow (redrawn w d) os) fun e w'' => e = .returned (.string ⟨⟨m⟩⟩) ∧ ∃ p : Regrown, w'' = Go.Sort.grow (redrawn w p.d) p.os := fun d os => Calls.regrown_of (HS.out _ (HT.below (below_regrown w d os)))
  have kE : ∀ d os, Calls Tryz.prog 145 #[.string ⟨⟨m⟩⟩, .string ⟨⟨s2⟩⟩] (Go.Sort.grow (redrawn w d) os) fun e w'' => e = .returned (.bool q) ∧ ∃ p : Regrown, w'' = Go.Sort.grow (redrawn w p.d) p.os := fun d os => Calls.regrown_of (HE.out _)
  clear HS HE
  go_enter Tryz.func198, Tryz.ntmps198
  go_wp2_with fail
  refine wp_region_quiet_below (by kernel_rfl) (by kernel_rfl) ?_
  repeat (quiet_step (first | exact kS _ _ | exact kE _ _))
  refine wpQuiet_nil ?_
  intro _ hw'
  obtain ⟨⟨dq, osq⟩, hw''⟩ := hw'
  subst hw''
  clear kS kE
  go_wp2
  go_ret
  exact ⟨rfl, below_regrown w dq osq⟩

/-- What wrong answers. -/
abbrev WrongIs (b : List UInt8) (n : Int) (s : List UInt8) (q : Int) : Prop := ∀ w, Tabs w → Calls Tryz.prog 177 #[.string ⟨⟨b⟩⟩, .int .i64 n, .string ⟨⟨s⟩⟩] w fun e w' => e = .returned (.int .i64 q) ∧ Below w.heap.size w w'

set_option maxRecDepth 100000 in
theorem wrong_short (b s : List UInt8) (n : Int) (h : s.length < 44) : WrongIs b n s 10 := by
  intro w HT
  have h1 : (s.length : Int) < 44 := by omega
  clear h
  go_enter Tryz.func177, Tryz.ntmps177
  go_wp2
  go_ret
  exact ⟨rfl, Below.refl _ _⟩
set_option maxRecDepth 100000 in
theorem wrong_ok (b s : List UInt8) (n : Int) (h44 : 44 ≤ s.length) (hs : s.length ≤ 65580) (HH : Hid (HoldIs b n s true)) : WrongIs b n s 0 := by
  intro w HT
  have h1 : ¬ (s.length : Int) < 44 := by omega
  have h2 : ¬ (65580 : Int) < (s.length : Int) := by omega
  clear h44 hs
  go_enter Tryz.func177, Tryz.ntmps177
  go_wp2_with fail
  refine (HH.out w HT).mono ?_
  rintro _ w1 ⟨rfl, b1⟩
  go_wp2
  go_ret
  exact ⟨rfl, b1⟩
set_option maxRecDepth 100000 in
theorem wrong_bad (b s : List UInt8) (n : Int) (h44 : 44 ≤ s.length) (hs : s.length ≤ 65580) (HH : Hid (HoldIs b n s false)) : WrongIs b n s 20 := by
  intro w HT
  have h1 : ¬ (s.length : Int) < 44 := by omega
  have h2 : ¬ (65580 : Int) < (s.length : Int) := by omega
  clear h44 hs
  go_enter Tryz.func177, Tryz.ntmps177
  go_wp2_with fail
  refine (HH.out w HT).mono ?_
  rintro _ w1 ⟨rfl, b1⟩
  go_wp2
  go_ret
  exact ⟨rfl, b1⟩

/-- What Open answers. -/
abbrev OpenIs (b : List UInt8) (n : Int) (s x : List UInt8) (q : Int) : Prop := ∀ w, Tabs w → Calls Tryz.prog 147 #[.string ⟨⟨b⟩⟩, .int .i64 n, .string ⟨⟨s⟩⟩] w fun e w' => e = .returned (.tuple #[.string ⟨⟨x⟩⟩, .int .i64 q]) ∧ Below w.heap.size w w'

set_option maxRecDepth 100000 in
theorem slOpen_no (b s : List UInt8) (n q : Int) (hq : q ≠ 0) (HW : Hid (WrongIs b n s q)) : OpenIs b n s [] q := by
  intro w HT
  have h1 : (q != 0) = true := by simpa using hq
  clear hq
  go_enter Tryz.func147, Tryz.ntmps147
  go_wp2_with fail
  refine (HW.out w HT).mono ?_
  rintro _ w1 ⟨rfl, b1⟩
  go_wp2
  go_ret2
  exact ⟨rfl, b1⟩

set_option maxRecDepth 100000 in
theorem slOpen_by (b s x : List UInt8) (n : Int) (h44 : 44 ≤ s.length) (hs : s.length ≤ 65580) (HW : Hid (WrongIs b n s 0)) (HC : Hid (CipIs b n (s.take 12) ((s.drop 12).take (s.length - 32 - 12)) x)) : OpenIs b n s x 0 := by
  intro w HT
  obtain ⟨e, he⟩ : ∃ e : Nat, e = s.length - 32 := ⟨_, rfl⟩
  rw [← he] at HC
  have e0 : (s.length : Int) - 32 = (e : Int) := by omega
  have f1 : IntKind.i64.wrap (e : Int) = (e : Int) := by rw [IntKind.wrap_i64]; omega
  have c1 : (ByteArray.mk ⟨s⟩).extract 0 12 = ⟨⟨s.take 12⟩⟩ := by rw [cut_str, List.drop_zero]
  have c2 : (ByteArray.mk ⟨s⟩).extract 12 e = ⟨⟨(s.drop 12).take (e - 12)⟩⟩ := cut_str _ _ _
  have g1 : (e : Int) ≤ (s.length : Int) := by omega
  have g2 : (12 : Int) ≤ (e : Int) := by omega
  have g3 : e ≤ s.length := by omega
  have g4 : 12 ≤ e := by omega
  have g5 : (12 : Int) ≤ (s.length : Int) := by omega
  have g6 : 12 ≤ s.length := by omega
  generalize s.take 12 = s1 at *
  generalize (s.drop 12).take (e - 12) = s2 at *
  clear h44 hs he
  go_enter Tryz.func147, Tryz.ntmps147
  go_wp2_with fail
  refine (HW.out w HT).mono ?_
  rintro _ w1 ⟨rfl, b1⟩
  have kC : ∀ d os, Calls Tryz.prog 134 #[.string ⟨⟨b⟩⟩, .int .i64 n, .string ⟨⟨s1⟩⟩, .string ⟨⟨s2⟩⟩] (Go.Sort.grow (redrawn w1 d) os) fun e w'' => e = .returned (.string ⟨⟨x⟩⟩) ∧ ∃ p : Regrown, w'' = Go.Sort.grow (redrawn w1 p.d) p.os := fun d os => Calls.regrown_of (HC.out _ ((HT.below b1).below (below_regrown w1 d os)))
  clear HC HW
  go_wp2_with fail
  refine wp_region_quiet_below (by kernel_rfl) (by kernel_rfl) ?_
  repeat (quiet_step (exact kC _ _))
  refine wpQuiet_nil ?_
  intro _ hw'
  obtain ⟨⟨dq, osq⟩, hw''⟩ := hw'
  subst hw''
  have b2 : Below w.heap.size w (Go.Sort.grow (redrawn w1 dq) osq) := b1.trans ((below_regrown w1 dq osq).mono b1.size)
  clear kC b1
  go_wp2
  go_ret2
  exact ⟨rfl, b2⟩
end Go.Proofs.YticofjbngfjjlaaGreatDoor

