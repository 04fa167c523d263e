/- plus, swapped, turned, mixed. -/
import Derived.Test.YtdjehpbkkbahcaaDoorAeW3
namespace Go.Proofs.YtdjehpbkkbahcaaDoor
open Go.RowKit

/-- The first k bytes of L, then what S has. -/
def fil (L S : List UInt8) (k : Nat) : List UInt8 := L.take k ++ S.drop k
theorem fil_length {L S : List UInt8} {n k : Nat} (hL : L.length = n) (hS : S.length = n) (hk : k ≤ n) : (fil L S k).length = n := by simp [fil]; omega
theorem fil_zero (L S : List UInt8) : fil L S 0 = S := by simp [fil]
theorem fil_all {L S : List UInt8} {n : Nat} (hL : L.length = n) (hS : S.length = n) : fil L S n = L := by
  rw [fil, List.take_of_length_le (by omega), List.drop_of_length_le (by omega), List.append_nil]
theorem fil_high {L S : List UInt8} {n k i : Nat} (hL : L.length = n) (hk : k ≤ n) (hi : k ≤ i) : (fil L S k).getD i 0 = S.getD i 0 := by
  have h1 : (L.take k).length = k := by simp; omega
  rw [fil, List.getD_eq_getElem?_getD, List.getD_eq_getElem?_getD, List.getElem?_append_right (by omega), h1, List.getElem?_drop, show k + (i - k) = i by omega]
theorem fil_low {L S : List UInt8} {n k i : Nat} (hL : L.length = n) (hk : k ≤ n) (hi : i < k) : (fil L S k).getD i 0 = L.getD i 0 := by
  have h1 : (L.take k).length = k := by simp; omega
  rw [fil, List.getD_eq_getElem?_getD, List.getD_eq_getElem?_getD, List.getElem?_append_left (by omega), List.getElem?_take, if_pos hi]
theorem fil_set {L S : List UInt8} {n k : Nat} (hL : L.length = n) (hS : S.length = n) (hk : k < n) (x : UInt8) (hx : L.getD k 0 = x) : (fil L S k).set k x = fil L S (k + 1) := by
  subst hx
  have h1 : (L.take k).length = k := by simp; omega
  have e : L.take (k + 1) = L.take k ++ [L[k]'(by omega)] := List.take_succ_eq_append_getElem (by omega)
  rw [fil, fil, e, List.set_append_right _ _ (by omega), h1, Nat.sub_self, List.drop_eq_getElem_cons (show k < S.length by omega), List.set_cons_zero, List.getD_eq_getElem?_getD, List.getElem?_eq_getElem (by omega), List.append_assoc]
  rfl

/-- The table of swapped bytes lies in block g. -/
def TabAt (w : World) (g : Nat) : Prop := w.heap[g]? = some (.cells (bcells Ae.SB) 94 (0, 0))
theorem TabAt.lt {w : World} {g : Nat} (h : TabAt w g) : g < w.heap.size := (Array.getElem?_eq_some_iff.1 h).1
theorem SB_length : Ae.SB.length = 256 := by decide +kernel
theorem TabAt.at {w : World} {g : Nat} (h : TabAt w g) (x : UInt8) : w.cell? ⟨g, x.toNat, none⟩ = some (.int .u8 ((Ae.sw x).toNat : Nat)) :=
  bget h (by rw [SB_length]; exact UInt8.toNat_lt x) _ rfl
theorem TabAt.below {w w' : World} {g B : Nat} (h : TabAt w g) (hB : g < B) (hb : Below B w w') : TabAt w' g := (hb.block _ hB).trans h

set_option maxRecDepth 100000 in
theorem plus_any (s K : List UInt8) (g o cap : Nat) (w : World) (hs : s.length = 16) (hg : g < w.heap.size) (hc : ∀ j, j < 16 → w.cell? ⟨g, o + j, none⟩ = some (.int .u8 ((K.getD j 0).toNat : Nat))) :
    Calls Tryd.prog 85 #[.agg (bcells s), .slice (some ⟨g, o, none⟩) 16 cap] w fun e w' => e = .returned (.agg (bcells (Ae.plus s K))) ∧ Below w.heap.size w w' := by
  have HS := Lib.hid hs
  have HC := Lib.hid hc
  have HL := Lib.hid (Ae.plus_length s K)
  have HAT : Hid (∀ j, j < 16 → (Ae.plus s K).getD j 0 = s.getD j 0 ^^^ K.getD j 0) := Lib.hid fun j hj => Ae.mk16_at _ j hj
  generalize Ae.plus s K = L at *
  clear hs hc
  go_enter Tryd.func85, Tryd.ntmps85
  go_wp2
  go_loopw [6] (fun i wr => ∃ k : Nat, k ≤ 16 ∧ i = .int .i64 k ∧ Below w.heap.size w wr ∧ w.heap.size + 2 ≤ wr.heap.size ∧ Hid (wr.heap[w.heap.size]? = some (.cells (bcells (fil L s k)) 100 (0, 0))) ∧ Hid (wr.heap[w.heap.size + 1]? = some (.cells (bcells (List.replicate 16 0)) 100 (0, 0)))) (fun i _ => 16 - (intOf i).toNat)
  case atStart => exact ⟨0, by omega, rfl, ((Below.refl _ _).alloc (Nat.le_refl _) _).alloc (by simp) _, by simp, by rw [fil_zero]; exact heap_alloc2_old _ _ _, heap_alloc2_new _ _ _⟩
  case round =>
    obtain ⟨k, hk, rfl, hb, hz, HC0, HC1⟩ := hrel
    by_cases hlt : k < 16
    · obtain ⟨x, hx⟩ : ∃ x, s.getD k 0 = x := ⟨_, rfl⟩
      obtain ⟨y, hy⟩ : ∃ y, K.getD k 0 = y := ⟨_, rfl⟩
      have hlen := fil_length HL.out HS.out hk
      have hcx : wr.drew.cell? ⟨w.heap.size, k, none⟩ = some (.int .u8 (x.toNat : Nat)) := bget (wr := wr) HC0.out (by omega) x ((fil_high HL.out hk (Nat.le_refl k)).trans hx)
      have hcy : wr.drew.cell? ⟨g, o + k, none⟩ = some (.int .u8 (y.toNat : Nat)) := by
        rw [← hy, ← HC.out k hlt]
        exact hb.cell (p := ⟨g, o + k, none⟩) hg
      have hfro : wr.drew.frozen? ⟨w.heap.size, k, none⟩ = false := frozen_of_row wr _ k _ _ HC0.out
      have hv := xor_byte x y
      have HN : Hid ((wr.drew.setCell ⟨w.heap.size, k, none⟩ (.int .u8 ((x ^^^ y).toNat : Nat))).heap[w.heap.size]? = some (.cells (bcells (fil L s (k + 1))) 100 (0, 0))) := by
        rw [Hid, ← fil_set HL.out HS.out hlt (x ^^^ y) (by rw [HAT.out k hlt, hx, hy])]
        exact bset (wr := wr.drew) HC0.out _
      have HC1' : Hid (wr.drew.heap[w.heap.size + 1]? = some (.cells (bcells (List.replicate 16 0)) 100 (0, 0))) := HC1
      have hb' : Below w.heap.size w wr.drew := hb.drew
      have hz' : w.heap.size + 2 ≤ wr.drew.heap.size := hz
      have e0 : (k : Int) < 16 := by omega
      clear hx hy HC0 HC1 hb hz hlen
      go_wp2_with fail
      refine wp_region_still_tail 8 (by kernel_rfl) (by kernel_rfl) ?_
      change wpStill _ _ (World.drew _) (fun a' => wpList _ _ _ _ a' (World.drew _)) _ _
      generalize wr.drew = w2 at *
      simp only [List.take_succ_cons, List.take_zero, List.drop_succ_cons, List.drop_zero]
      repeat still_step
      refine wpStill_nil ?_
      go_wp2
      go_roundw
      case rel => exact ⟨k + 1, by omega, by go_num, hb'.setCell (Nat.le_refl _) _, by simp [World.setCell]; omega, HN, by rw [Hid, heap_setCell_other _ _ _ _ (by show w.heap.size + 1 ≠ w.heap.size; omega)]; exact HC1'.out⟩
      case measure => simp [intOf]; omega
    · obtain rfl : k = 16 := by omega
      have HR : Hid (wr.heap[w.heap.size]? = some (.cells (bcells L) 100 (0, 0))) := by
        have h := HC0.out
        rw [fil_all HL.out HS.out] at h
        exact h
      clear HC0
      have HI : Hid ((Tryd.prog.info? 100).map (·.size) = some (bcells L).size) := by rw [Hid, infoA16, bcells_size, HL.out]
      have HZ : Hid ((bcells (List.replicate 16 0)).size = (bcells L).size) := by rw [Hid, noughts_size, bcells_size, HL.out]
      go_wp2_with (first | (refine wpList_load_row rfl 100 (.tmp 2) rfl w.heap.size rfl 100 (bcells L) (0, 0) _ HR.out Tryd.underlying100 rfl HI.out ?_) | (refine wpList_store_row rfl 100 (.tmp 4) (.tmp 19) rfl (w.heap.size + 1) (bcells L) rfl rfl 100 _ HC1.out HI.out HZ.out (bcells_one _) ?_))
      exact bodyPost_ret (v := .agg (bcells L)) (results_cell_row Tryd.results85 _ _ (w.heap.size + 1) 100 _ (0, 0) _ rfl (setRow_heap _ _ _ _ _ _ HC1.out) Tryd.underlying100 rfl HI.out) rfl ⟨rfl, below_setRow' hb (Nat.le_succ _) _⟩

set_option maxRecDepth 100000 in
theorem swapped_any (s : List UInt8) (g : Nat) (w : World) (hs : s.length = 16) (hc : TabAt w g) :
    Calls Tryd.prog 86 #[.agg (bcells s), .pointer (some ⟨g, 0, none⟩)] w fun e w' => e = .returned (.agg (bcells (Ae.swapped s))) ∧ Below w.heap.size w w' := by
  have HS := Lib.hid hs
  have hg := hc.lt
  have HC := Lib.hid hc
  have HL := Lib.hid (Ae.swapped_length s)
  have HAT : Hid (∀ j, j < 16 → (Ae.swapped s).getD j 0 = Ae.sw (s.getD j 0)) := Lib.hid fun j hj => Ae.mk16_at _ j hj
  generalize Ae.swapped s = L at *
  clear hs hc
  go_enter Tryd.func86, Tryd.ntmps86
  go_wp2
  go_loopw [6] (fun i wr => ∃ k : Nat, k ≤ 16 ∧ i = .int .i64 k ∧ Below w.heap.size w wr ∧ w.heap.size + 2 ≤ wr.heap.size ∧ Hid (wr.heap[w.heap.size]? = some (.cells (bcells (fil L s k)) 100 (0, 0))) ∧ Hid (wr.heap[w.heap.size + 1]? = some (.cells (bcells (List.replicate 16 0)) 100 (0, 0)))) (fun i _ => 16 - (intOf i).toNat)
  case atStart => exact ⟨0, by omega, rfl, ((Below.refl _ _).alloc (Nat.le_refl _) _).alloc (by simp) _, by simp, by rw [fil_zero]; exact heap_alloc2_old _ _ _, heap_alloc2_new _ _ _⟩
  case round =>
    obtain ⟨k, hk, rfl, hb, hz, HC0, HC1⟩ := hrel
    by_cases hlt : k < 16
    · obtain ⟨x, hx⟩ : ∃ x, s.getD k 0 = x := ⟨_, rfl⟩
      obtain ⟨y, hy⟩ : ∃ y, Ae.sw x = y := ⟨_, rfl⟩
      have hlen := fil_length HL.out HS.out hk
      have hcx : wr.drew.cell? ⟨w.heap.size, k, none⟩ = some (.int .u8 (x.toNat : Nat)) := bget (wr := wr) HC0.out (by omega) x ((fil_high HL.out hk (Nat.le_refl k)).trans hx)
      have hcy : wr.drew.cell? ⟨g, x.toNat, none⟩ = some (.int .u8 (y.toNat : Nat)) := by
        rw [← hy]
        exact (hb.cell (p := ⟨g, x.toNat, none⟩) hg).trans (HC.out.at x)
      have hx8 : (x.toNat : Int) < 256 := by have := UInt8.toNat_lt x; omega
      have hfro : wr.drew.frozen? ⟨w.heap.size, k, none⟩ = false := frozen_of_row wr _ k _ _ HC0.out
      have HN : Hid ((wr.drew.setCell ⟨w.heap.size, k, none⟩ (.int .u8 (y.toNat : Nat))).heap[w.heap.size]? = some (.cells (bcells (fil L s (k + 1))) 100 (0, 0))) := by
        rw [Hid, ← fil_set HL.out HS.out hlt y (by rw [HAT.out k hlt, hx, hy])]
        exact bset (wr := wr.drew) HC0.out _
      have HC1' : Hid (wr.drew.heap[w.heap.size + 1]? = some (.cells (bcells (List.replicate 16 0)) 100 (0, 0))) := HC1
      have hb' : Below w.heap.size w wr.drew := hb.drew
      have hz' : w.heap.size + 2 ≤ wr.drew.heap.size := hz
      have e0 : (k : Int) < 16 := by omega
      clear hx hy HC0 HC1 hb hz hlen
      go_wp2_with fail
      refine wp_region_still_tail 8 (by kernel_rfl) (by kernel_rfl) ?_
      change wpStill _ _ (World.drew _) (fun a' => wpList _ _ _ _ a' (World.drew _)) _ _
      generalize wr.drew = w2 at *
      simp only [List.take_succ_cons, List.take_zero, List.drop_succ_cons, List.drop_zero]
      repeat still_step
      refine wpStill_nil ?_
      go_wp2
      go_roundw
      case rel => exact ⟨k + 1, by omega, by go_num, hb'.setCell (Nat.le_refl _) _, by simp [World.setCell]; omega, HN, by rw [Hid, heap_setCell_other _ _ _ _ (by show w.heap.size + 1 ≠ w.heap.size; omega)]; exact HC1'.out⟩
      case measure => simp [intOf]; omega
    · obtain rfl : k = 16 := by omega
      have HR : Hid (wr.heap[w.heap.size]? = some (.cells (bcells L) 100 (0, 0))) := by
        have h := HC0.out
        rw [fil_all HL.out HS.out] at h
        exact h
      clear HC0
      have HI : Hid ((Tryd.prog.info? 100).map (·.size) = some (bcells L).size) := by rw [Hid, infoA16, bcells_size, HL.out]
      have HZ : Hid ((bcells (List.replicate 16 0)).size = (bcells L).size) := by rw [Hid, noughts_size, bcells_size, HL.out]
      go_wp2_with (first | (refine wpList_load_row rfl 100 (.tmp 2) rfl w.heap.size rfl 100 (bcells L) (0, 0) _ HR.out Tryd.underlying100 rfl HI.out ?_) | (refine wpList_store_row rfl 100 (.tmp 4) (.tmp 19) rfl (w.heap.size + 1) (bcells L) rfl rfl 100 _ HC1.out HI.out HZ.out (bcells_one _) ?_))
      exact bodyPost_ret (v := .agg (bcells L)) (results_cell_row Tryd.results86 _ _ (w.heap.size + 1) 100 _ (0, 0) _ rfl (setRow_heap _ _ _ _ _ _ HC1.out) Tryd.underlying100 rfl HI.out) rfl ⟨rfl, below_setRow' hb (Nat.le_succ _) _⟩

set_option maxRecDepth 100000 in
theorem turnedA_any (s : List UInt8) (w : World) (hs : s.length = 16) :
    Calls Tryd.prog 87 #[.agg (bcells s)] w fun e w' => e = .returned (.agg (bcells (Ae.turned s))) ∧ Below w.heap.size w w' := by
  have HS := Lib.hid hs
  have HL := Lib.hid (Ae.turned_length s)
  have HAT : Hid (∀ j, j < 16 → (Ae.turned s).getD j 0 = s.getD ((j / 4 + j % 4) % 4 * 4 + j % 4) 0) := Lib.hid fun j hj => Ae.mk16_at _ j hj
  generalize Ae.turned s = L at *
  clear hs
  go_enter Tryd.func87, Tryd.ntmps87
  go_wp2
  go_loopw [7] (fun i wr => ∃ k : Nat, k ≤ 16 ∧ i = .int .i64 k ∧ Below w.heap.size w wr ∧ w.heap.size + 3 ≤ wr.heap.size ∧ Hid (wr.heap[w.heap.size]? = some (.cells (bcells s) 100 (0, 0))) ∧ Hid (wr.heap[w.heap.size + 1]? = some (.cells (bcells (List.replicate 16 0)) 100 (0, 0))) ∧ Hid (wr.heap[w.heap.size + 1 + 1]? = some (.cells (bcells (L.take k ++ List.replicate (16 - k) 0)) 100 (0, 0)))) (fun i _ => 16 - (intOf i).toNat)
  case atStart => exact ⟨0, by omega, rfl, (((Below.refl _ _).alloc (Nat.le_refl _) _).alloc (by simp) _).alloc (by simp; omega) _, by simp, (heap_alloc_old _ _ (by simp; omega)).trans (heap_alloc2_old _ _ _), (heap_alloc_old _ _ (by simp)).trans (heap_alloc2_new _ _ _), by rw [Hid, show w.heap.size + 1 + 1 = ((w.alloc (.cells (bcells s) 100)).alloc (.cells (bcells (List.replicate 16 0)) 100)).heap.size by simp]; exact heap_alloc_new _ _⟩
  case round =>
    obtain ⟨k, hk, rfl, hb, hz, HC0, HC1, HC2⟩ := hrel
    by_cases hlt : k < 16
    · obtain ⟨m, hm⟩ : ∃ m : Nat, m = (k / 4 + k) % 4 * 4 + k % 4 := ⟨_, rfl⟩
      have hm16 : m < 16 := by omega
      obtain ⟨x, hx⟩ : ∃ x, s.getD m 0 = x := ⟨_, rfl⟩
      have hcx : wr.cell? ⟨w.heap.size, m, none⟩ = some (.int .u8 (x.toNat : Nat)) := bget HC0.out (by rw [HS.out]; exact hm16) x hx
      have hcell := brow_cell HC2.out HL.out hlt
      have hfro := frozen_of_row _ _ k _ _ HC2.out
      have HB := Lib.hid (brow_set HC2.out HL.out hlt)
      rw [HAT.out k hlt, show (k / 4 + k % 4) % 4 * 4 + k % 4 = m by omega, hx] at HB
      have e0 : (k : Int) < 16 := by omega
      subst hm
      clear hx
      go_wp2
      go_roundw
      case rel => exact ⟨k + 1, by omega, by go_num, hb.setCell (by show w.heap.size ≤ w.heap.size + 1 + 1; omega) _, by simp [World.setCell]; omega, by rw [Hid, heap_setCell_other _ _ _ _ (by show w.heap.size ≠ w.heap.size + 1 + 1; omega)]; exact HC0.out, by rw [Hid, heap_setCell_other _ _ _ _ (by show w.heap.size + 1 ≠ w.heap.size + 1 + 1; omega)]; exact HC1.out, HB⟩
      case measure => simp [intOf]; omega
    · obtain rfl : k = 16 := by omega
      have HR : Hid (wr.heap[w.heap.size + 1 + 1]? = some (.cells (bcells L) 100 (0, 0))) := by
        have h := HC2.out
        rw [List.take_of_length_le (by rw [HL.out]; exact Nat.le_refl _), Nat.sub_self, List.replicate_zero, List.append_nil] at h
        exact h
      clear HC2
      have HI : Hid ((Tryd.prog.info? 100).map (·.size) = some (bcells L).size) := by rw [Hid, infoA16, bcells_size, HL.out]
      have HZ : Hid ((bcells (List.replicate 16 0)).size = (bcells L).size) := by rw [Hid, noughts_size, bcells_size, HL.out]
      go_wp2_with (first | (refine wpList_load_row rfl 100 (.tmp 3) rfl (w.heap.size + 1 + 1) rfl 100 (bcells L) (0, 0) _ HR.out Tryd.underlying100 rfl HI.out ?_) | (refine wpList_store_row rfl 100 (.tmp 2) (.tmp 26) rfl (w.heap.size + 1) (bcells L) rfl rfl 100 _ HC1.out HI.out HZ.out (bcells_one _) ?_))
      exact bodyPost_ret (v := .agg (bcells L)) (results_cell_row Tryd.results87 _ _ (w.heap.size + 1) 100 _ (0, 0) _ rfl (setRow_heap _ _ _ _ _ _ HC1.out) Tryd.underlying100 rfl HI.out) rfl ⟨rfl, below_setRow' hb (Nat.le_succ _) _⟩

end Go.Proofs.YtdjehpbkkbahcaaDoor
