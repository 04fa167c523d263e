/- twice, thrice, RotateLeft8, spread, Times. -/
import Derived.Test.YtdjehpbkkbahcaaDoorGShaWa
import Derived.Test.YtdjehpbkkbahcaaDoorGPur
import Derived.WalkMore
import Derived.ScopeJumps
import Derived.Deep.RegionWith
import Derived.Deep.WholeRow
import Derived.StillTailTactics
namespace Go.Proofs.YtdjehpbkkbahcaaDoor
open Go.RowKit

theorem ret_byte {a b : Int} (h : a = b) : Ending.returned (.int .u8 a) = .returned (.int .u8 b) := by rw [h]
theorem xor_byte (a b : UInt8) : bits BinOp.xor IntKind.u8 (a.toNat : Int) (b.toNat : Int) = ((a ^^^ b).toNat : Nat) := by
  rw [u8_xor_nat _ _ (UInt8.toNat_lt _) (UInt8.toNat_lt _), UInt8.toNat_xor]

theorem twice_val (a : Nat) (h : a < 256) : bits BinOp.xor IntKind.u8 ((a : Int) * 2 % 256) ((a : Int) / 128 * 27) = ((Ae.twN a : Nat) : Int) := by
  rw [show (a : Int) * 2 % 256 = ((a * 2 % 256 : Nat) : Int) by omega, show (a : Int) / 128 * 27 = ((a / 128 * 27 : Nat) : Int) by omega, u8_xor_nat _ _ (by omega) (by omega)]
  rfl

set_option maxRecDepth 100000 in
theorem twice_any (a : UInt8) (w : World) :
    Calls Tryd.prog 93 #[.int .u8 (a.toNat : Nat)] w fun e w' => e = .returned (.int .u8 ((Ae.tw a).toNat : Nat)) ∧ w = w' := by
  have h1 : a.toNat < 256 := UInt8.toNat_lt _
  have HV := Lib.hid (twice_val a.toNat h1)
  rw [← Ae.tw_nat] at HV
  go_enter Tryd.func93, Tryd.ntmps93
  go_wp2
  go_ret
  refine ⟨ret_byte ?_, rfl⟩
  rw [← HV.out]

set_option maxRecDepth 100000 in
theorem thrice_any (a : UInt8) (w : World) :
    Calls Tryd.prog 94 #[.int .u8 (a.toNat : Nat)] w fun e w' => e = .returned (.int .u8 ((Ae.th a).toNat : Nat)) ∧ w = w' := by
  have HV := Lib.hid (xor_byte (Ae.tw a) a)
  have HT := Lib.hid (twice_any a w)
  have HE : Hid (Ae.th a = Ae.tw a ^^^ a) := Lib.hid rfl
  generalize Ae.tw a = t at *
  generalize Ae.th a = r at *
  go_enter Tryd.func94, Tryd.ntmps94
  go_wp2_with fail
  refine HT.out.mono ?_
  rintro _ w' ⟨rfl, rfl⟩
  go_wp2
  go_ret
  refine ⟨ret_byte ?_, rfl⟩
  rw [HE.out, ← HV.out]

theorem and7 (n : Nat) (h2 : n ≤ 7) : bits BinOp.and IntKind.u64 (n : Int) 7 = (n : Int) := by
  show bits BinOp.and IntKind.u64 _ ((7 : Nat) : Int) = _
  rw [u64_and_nat _ _ (by omega) (by decide), show n &&& 7 = n from ?_]
  have := Nat.and_two_pow_sub_one_eq_mod n 3
  rw [show 2 ^ 3 - 1 = 7 by decide] at this
  rw [this]
  omega

set_option maxRecDepth 100000 in
theorem rot8_any (x : UInt8) (n : Nat) (w : World) (hk : 1 ≤ n) (hk2 : n ≤ 7) :
    Calls Tryd.prog 95 #[.int .u8 (x.toNat : Nat), .int .i64 (n : Int)] w fun e w' => e = .returned (.int .u8 ((Ae.rl x n).toNat : Nat)) ∧ w = w' := by
  have ha := and7 n hk2
  have hx : x.toNat < 256 := UInt8.toNat_lt _
  have hw : IntKind.u64.wrap (8 - (n : Int)) = ((8 - n : Nat) : Int) := by rw [IntKind.wrap_u64]; omega
  have hv : bits BinOp.or IntKind.u8 ((x.toNat : Int) * 2 ^ n % 256) ((x.toNat : Int) / 2 ^ (8 - n)) = ((Ae.rl x n).toNat : Nat) := by
    have h1 : x.toNat / 2 ^ (8 - n) < 256 := Nat.lt_of_le_of_lt (Nat.div_le_self _ _) hx
    have h2 : x.toNat * 2 ^ n % 256 < 256 := Nat.mod_lt _ (by decide)
    rw [Ae.rl, UInt8.toNat_ofNat', Nat.mod_eq_of_lt (Nat.or_lt_two_pow (n := 8) h2 h1), ← u8_or_nat _ _ h2 h1]
    simp
  have HV := Lib.hid hv
  clear hv
  go_enter Tryd.func95, Tryd.ntmps95
  go_wp2
  go_ret
  refine ⟨ret_byte ?_, rfl⟩
  rw [← HV.out]

set_option maxRecDepth 100000 in
theorem spreadA_any (b : UInt8) (w : World) :
    Calls Tryd.prog 92 #[.int .u8 (b.toNat : Nat)] w fun e w' => e = .returned (.int .u8 ((Ae.spr b).toNat : Nat)) ∧ w = w' := by
  have h0 : bits BinOp.xor IntKind.u8 (b.toNat : Int) 99 = ((Ae.sprk b 0).toNat : Nat) := xor_byte b 99
  have HR := Lib.hid fun n => rot8_any b n w
  have HE : Hid (∀ k, Ae.sprk b (k + 1) = Ae.sprk b k ^^^ Ae.rl b (k + 1)) := Lib.hid fun k => rfl
  have HS : Hid (Ae.sprk b 4 = Ae.spr b) := Lib.hid rfl
  generalize Ae.spr b = sp at *
  generalize Ae.sprk b = sq at *
  generalize Ae.rl b = rb at *
  go_enter Tryd.func92, Tryd.ntmps92
  go_wp2
  go_loop [3, 4] (fun v i => ∃ k : Nat, k ≤ 4 ∧ i = .int .i64 (k + 1 : Nat) ∧ v = .int .u8 ((sq k).toNat : Nat)) (fun _ i => 5 - (intOf i).toNat)
  case atStart => exact ⟨0, by omega, rfl, rfl⟩
  case round =>
    obtain ⟨k, hk, rfl, rfl⟩ := hrel
    clear h0
    by_cases hlt : k < 4
    · have HV := Lib.hid (xor_byte (sq k) (rb (k + 1)))
      have HN := Lib.hid (HE.out k)
      go_wp2_with fail
      refine (HR.out (k + 1) (by omega) (by omega)).mono ?_
      rintro _ w' ⟨rfl, rfl⟩
      go_wp2
      go_round
      case rel => exact ⟨k + 1, by omega, by go_num, by rw [HN.out]; exact congrArg (Value.int IntKind.u8) HV.out⟩
      case measure => simp [intOf]; omega
    · obtain rfl : k = 4 := by omega
      go_wp2
      go_ret
      exact ⟨ret_byte (by rw [← HS.out]), rfl⟩

end Go.Proofs.YtdjehpbkkbahcaaDoor

/- powersOfThree. -/

namespace Go.Proofs.YtdjehpbkkbahcaaDoor
open Go.RowKit

theorem bcells_one (l : List UInt8) : (bcells l).all (·.oneCell') = true := by
  simp [bcells, Value.oneCell']
theorem infoA255 : (Tryd.prog.info? 106).map (·.size) = some 255 := by kernel_rfl
theorem infoA256 : (Tryd.prog.info? 94).map (·.size) = some 256 := by kernel_rfl
theorem infoA176 : (Tryd.prog.info? 96).map (·.size) = some 176 := by kernel_rfl
theorem infoA16 : (Tryd.prog.info? 100).map (·.size) = some 16 := by kernel_rfl
theorem infoA4 : (Tryd.prog.info? 108).map (·.size) = some 4 := by kernel_rfl

theorem zeroA255 : ∀ w, (zeroValue 106).run Tryd.prog w = .ok (.agg (bcells (List.replicate 255 0))) w := (zero_of_info (P := Tryd.prog) (n := 255) (by kernel_rfl)).1
theorem zeroA256 : ∀ w, (zeroValue 94).run Tryd.prog w = .ok (.agg (bcells (List.replicate 256 0))) w := (zero_of_info (P := Tryd.prog) (n := 256) (by kernel_rfl)).1
theorem zeroA176 : ∀ w, (zeroValue 96).run Tryd.prog w = .ok (.agg (bcells (List.replicate 176 0))) w := (zero_of_info (P := Tryd.prog) (n := 176) (by kernel_rfl)).1
theorem noughtsA_ne (n : Nat) (h : 0 < n) : ¬ bcells (List.replicate n 0) = #[] := fun e => by
  have := congrArg Array.size e
  rw [bcells_size, List.length_replicate] at this
  simp at this
  omega

theorem PW_length : Ae.PW.length = 255 := by simp [Ae.PW]
theorem PW_at (k : Nat) (h : k < 255) : Ae.PW.getD k 0 = Ae.pw k := by simp [Ae.PW, List.getD_eq_getElem?_getD, h]

set_option maxRecDepth 100000 in
theorem powers_any (w : World) :
    Calls Tryd.prog 91 #[] w fun e w' => e = .returned (.agg (bcells Ae.PW)) ∧ Below w.heap.size w w' := by
  have HL := Lib.hid PW_length
  have HAT := Lib.hid PW_at
  have HP0 : Hid (Ae.pw 0 = 1) := Lib.hid rfl
  have HPS : Hid (∀ k, Ae.pw (k + 1) = Ae.th (Ae.pw k)) := Lib.hid fun _ => rfl
  generalize Ae.PW = L at *
  generalize Ae.pw = pw at *
  have hz := zeroA255
  have hne := noughtsA_ne 255 (by decide)
  have HZ : Hid (bcells (List.replicate 255 0) = bcells (L.take 0 ++ List.replicate (255 - 0) 0)) := Lib.hid rfl
  generalize hzs : bcells (List.replicate 255 0) = zs at *
  go_enter Tryd.func91, Tryd.ntmps91
  go_wp2
  go_loopw [2, 4] (fun p i wr => ∃ k : Nat, k ≤ 255 ∧ i = .int .i64 k ∧ p = .int .u8 ((pw k).toNat : Nat) ∧ Below w.heap.size w wr ∧ w.heap.size + 2 ≤ wr.heap.size ∧ Hid (wr.heap[w.heap.size]? = some (.cells zs 106 (0, 0))) ∧ Hid (wr.heap[w.heap.size + 1]? = some (.cells (bcells (L.take k ++ List.replicate (255 - k) 0)) 106 (0, 0)))) (fun _ i _ => 255 - (intOf i).toNat)
  case atStart => exact ⟨0, by omega, rfl, by rw [HP0.out]; rfl, ((Below.refl _ _).alloc (Nat.le_refl _) _).alloc (by simp) _, by simp, heap_alloc2_old _ _ _, by rw [Hid, ← HZ.out]; exact heap_alloc2_new _ _ _⟩
  case round =>
    obtain ⟨k, hk, rfl, rfl, hb, hz, HC0, HC1⟩ := hrel
    by_cases hlt : k < 255
    · have hcell := brow_cell HC1.out HL.out hlt
      have hfro := frozen_of_row _ _ k _ _ HC1.out
      have HA := Lib.hid (HAT.out k hlt)
      have HT := Lib.hid fun W => thrice_any (pw k) W
      rw [← HPS.out k] at HT
      go_wp2_with fail
      refine (HT.out _).mono ?_
      rintro _ w' ⟨rfl, rfl⟩
      have HB := Lib.hid (brow_set HC1.out HL.out hlt)
      rw [HA.out] at HB
      go_wp2
      go_roundw
      case rel => exact ⟨k + 1, by omega, by go_num, rfl, hb.setCell (by show w.heap.size ≤ w.heap.size + 1; omega) _, by simp [World.setCell]; omega, by rw [Hid, heap_setCell_other _ _ _ _ (by show w.heap.size ≠ w.heap.size + 1; omega)]; exact HC0.out, HB⟩
      case measure => simp [intOf]; omega
    · obtain rfl : k = 255 := by omega
      have hzz : zs.size = 255 := by rw [← hzs, bcells_size, List.length_replicate]
      clear hzs hz hne HZ
      have HR : Hid (wr.heap[w.heap.size + 1]? = some (.cells (bcells L) 106 (0, 0))) := by
        have h := HC1.out
        rw [List.take_of_length_le (by rw [HL.out]; exact Nat.le_refl _), Nat.sub_self, List.replicate_zero, List.append_nil] at h
        exact h
      clear HC1
      have HI : Hid ((Tryd.prog.info? 106).map (·.size) = some (bcells L).size) := by rw [Hid, infoA255, bcells_size, HL.out]
      have HS : Hid (zs.size = (bcells L).size) := by rw [Hid, bcells_size, HL.out, hzz]
      clear hzz
      go_wp2_with (first | (refine wpList_load_row rfl 106 (.tmp 1) rfl (w.heap.size + 1) rfl 106 (bcells L) (0, 0) _ HR.out Tryd.underlying106 rfl HI.out ?_) | (refine wpList_store_row rfl 106 (.tmp 0) (.tmp 13) rfl w.heap.size (bcells L) rfl rfl 106 _ HC0.out HI.out HS.out (bcells_one _) ?_))
      exact bodyPost_ret (v := .agg (bcells L)) (results_cell_row Tryd.results91 _ _ w.heap.size 106 _ (0, 0) _ rfl (setRow_heap _ _ _ _ _ _ HC0.out) Tryd.underlying106 rfl HI.out) rfl ⟨rfl, below_setRow' hb (Nat.le_refl _) _⟩
end Go.Proofs.YtdjehpbkkbahcaaDoor

/- swappedBytes. -/

namespace Go.Proofs.YtdjehpbkkbahcaaDoor
open Go.RowKit

theorem noughts_size (n : Nat) : (bcells (List.replicate n 0)).size = n := by rw [bcells_size, List.length_replicate]

/-- A scope with one label: the first way to it, and each pass behind it, with what holds at the label. -/
theorem wp_scope_again {P : Program} {a : Act} {w : World} {Q : Exit → Act → World → Prop} {c rest : Code} (l : Nat) (J : Act → World → Prop) (μ : Act → World → Nat) (hf : findLabel c l = some (Code.skip.seq rest))
    (first : (∀ a w, J a w → rest.wp P (Exit.jump l J Q) a w) → c.wp P (Exit.jump l J Q) a w)
    (pass : ∀ a w, J a w → rest.wp P (Exit.jump l (fun a' w' => J a' w' ∧ μ a' w' < μ a w) Q) a w) : (Code.scope c).wp P Q a w :=
  wp_scope_jumps l J μ hf (first fun a w h => Code.wp_mono (fun e a' w' hq => by
    cases e <;> first | exact ⟨hq.1, hq.2.1⟩ | exact hq) (pass a w h)) fun a w h => wp_seq (wp_skip (pass a w h))

theorem TB_length (k : Nat) : (Ae.TB k).length = 256 := by
  induction k with
  | zero => rw [Ae.TB, List.length_set, List.length_replicate]
  | succ k ih => rw [Ae.TB, List.length_set, ih]


/-- What holds at the label: the powers lie in block g1, the table in block g2. -/
def AtAgain (w : World) (P : List UInt8) (zs : Array Value) (wr : World) (g1 g2 k : Nat) : Prop :=
  Below w.heap.size w wr ∧ w.heap.size < g1 ∧ g1 < g2 ∧ wr.heap[w.heap.size]? = some (.cells zs 94 (0, 0)) ∧ wr.heap[g1]? = some (.cells (bcells P) 106 (0, 0)) ∧ wr.heap[g2]? = some (.cells (bcells (Ae.TB k)) 94 (0, 0))

set_option maxRecDepth 100000 in
set_option maxHeartbeats 1000000 in
theorem swaps_any (w : World) :
    Calls Tryd.prog 83 #[] w fun e w' => e = .returned (.agg (bcells Ae.SB)) ∧ Below w.heap.size w w' := by
  have HP := Lib.hid powers_any
  have HL := Lib.hid PW_length
  have HS0 := Lib.hid fun W => spreadA_any 0 W
  have hz := zeroA256
  have hz2 := zeroA255
  have hne := noughtsA_ne 256 (by decide)
  have hne2 := noughtsA_ne 255 (by decide)
  have HI : Hid ((Tryd.prog.info? 106).map (·.size) = some (bcells Ae.PW).size) := by rw [Hid, infoA255, bcells_size, PW_length]
  have HZ2 : Hid ((bcells (List.replicate 255 0)).size = (bcells Ae.PW).size) := by rw [Hid, noughts_size, bcells_size, PW_length]
  have HT0 : Hid (Ae.TB 0 = (List.replicate 256 0).set 0 (Ae.spr 0)) := Lib.hid rfl
  have HTS : Hid (∀ k, Ae.TB (k + 1) = (Ae.TB k).set (Ae.PW.getD k 0).toNat (Ae.spr (Ae.PW.getD ((255 - k) % 255) 0))) := Lib.hid fun _ => rfl
  have HTE := Lib.hid Ae.TB_SB
  have HLS : Hid (Ae.SB.length = 256) := Lib.hid rfl
  generalize Ae.SB = S at *
  generalize hzs : bcells (List.replicate 256 0) = zs at *
  generalize hzs2 : bcells (List.replicate 255 0) = zs2 at *
  generalize Ae.PW = P at *
  have hb1' : Below w.heap.size w (w.alloc (.cells zs 94)) := (Below.refl _ _).alloc (Nat.le_refl _) _
  go_enter Tryd.func83, Tryd.ntmps83
  go_wp2
  refine wp_scope_again 0 (fun a' w' => ∃ (g1 g2 k : Nat) (vk : Int) (u4 u5 u6 u7 u8 u9 u10 u11 u12 u13 u14 u15 u16 u17 u18 u19 u20 u21 : Value), a' = { tmps := #[.pointer (some ⟨w.heap.size, 0, none⟩), .pointer (some ⟨g1, 0, none⟩), .pointer (some ⟨g2, 0, none⟩), .int .i64 vk, u4, u5, u6, u7, u8, u9, u10, u11, u12, u13, u14, u15, u16, u17, u18, u19, u20, u21], defers := [] } ∧ Hid (vk = k) ∧ k < 255 ∧ AtAgain w P zs w' g1 g2 k) (fun a' _ => 255 - (intOf (a'.tmps.getD 3 undef)).toNat) rfl (fun again => ?_) ?_
  · go_wp2_with fail
    refine (HP.out _).mono ?_
    rintro _ w1 ⟨rfl, hb1⟩
    go_wp2_with (first | (refine wpList_store_row rfl 106 (.tmp 1) (.tmp 4) rfl w1.heap.size (bcells P) rfl rfl 106 _ (heap_alloc_new _ _) HI.out HZ2.out (bcells_one _) ?_; rw [World.setRow_alloc_new]) | fail)
    refine (HS0.out _).mono ?_
    rintro _ w2 ⟨rfl, rfl⟩
    have hbw : Below w.heap.size w ((w1.alloc (.cells (bcells P) 106)).alloc (.cells zs 94)) := ((hb1'.trans (hb1.mono (by simp))).alloc (by have := hb1.size; simp at this; omega) _).alloc (by have := hb1.size; simp at this ⊢; omega) _
    have hw1 : w.heap.size < w1.heap.size := by have := hb1.size; simp at this; omega
    have h0 : ((w1.alloc (.cells (bcells P) 106)).alloc (.cells zs 94)).heap[w.heap.size]? = some (.cells zs 94 (0, 0)) := by
      rw [heap_alloc_old _ _ (by simp; omega), heap_alloc_old _ _ hw1, hb1.block _ (by simp)]
      exact heap_alloc_new _ _
    have h1 := heap_alloc2_old w1 (.cells (bcells P) 106) (.cells zs 94)
    have h2 := heap_alloc2_new w1 (.cells (bcells P) 106) (.cells zs 94)
    generalize (w1.alloc (.cells (bcells P) 106)).alloc (.cells zs 94) = W at *
    rw [← hzs] at h2
    have hcell : W.cell? ⟨w1.heap.size + 1, 0, none⟩ = some (.int .u8 ((0 : UInt8).toNat : Nat)) := bget h2 (by rw [List.length_replicate]; decide) 0 rfl
    have hfro := frozen_of_row _ _ 0 _ _ h2
    have HB := Lib.hid (bset (i := 0) h2 (Ae.spr 0))
    rw [← HT0.out] at HB
    have H0 := Lib.hid h0
    have H1 := Lib.hid h1
    clear h0 h1 h2 HT0 HS0 HP HTS HTE
    go_wp2
    go_step3
    rename_i hK
    refine hK _ _ (again _ _ ⟨w1.heap.size, w1.heap.size + 1, 0, 0, _, _, _, _, _, _, _, _, _, _, _, _, _, _, _, _, _, _, rfl, Lib.hid rfl, by decide, hbw.setCell (by show w.heap.size ≤ w1.heap.size + 1; omega) _, hw1, by omega, ?_, ?_, HB.out⟩)
    · rw [heap_setCell_other _ _ _ _ (by show w.heap.size ≠ w1.heap.size + 1; omega)]; exact H0.out
    · rw [heap_setCell_other _ _ _ _ (by show w1.heap.size ≠ w1.heap.size + 1; omega)]; exact H1.out
  · rintro a' w' ⟨g1, g2, k, vk, u4, u5, u6, u7, u8, u9, u10, u11, u12, u13, u14, u15, u16, u17, u18, u19, u20, u21, rfl, Hk, hk, hA⟩
    obtain rfl := Hk.out
    obtain ⟨hb, h1, h2, HC0, HC1, HC2⟩ := hA
    obtain ⟨j, hj⟩ : ∃ j, j = (255 - k) % 255 := ⟨_, rfl⟩
    have hjl : j < 255 := by omega
    have HJ := Lib.hid hj
    obtain ⟨x, hx⟩ : ∃ x, P.getD k 0 = x := ⟨_, rfl⟩
    obtain ⟨y, hy⟩ : ∃ y, P.getD j 0 = y := ⟨_, rfl⟩
    have hcx := bget HC1 (by rw [HL.out]; exact hk) x hx
    have hcy := bget HC1 (by rw [HL.out]; exact hjl) y hy
    have hx8 : x.toNat < 256 := UInt8.toNat_lt x
    obtain ⟨z, hz⟩ : ∃ z, (Ae.TB k).getD x.toNat 0 = z := ⟨_, rfl⟩
    have hcz := bget HC2 (by rw [TB_length]; exact hx8) z hz
    have hfro := frozen_of_row _ _ x.toNat _ _ HC2
    have HN := Lib.hid (bset (i := x.toNat) HC2 (Ae.spr y))
    have HE := Lib.hid (HTS.out k)
    rw [← HJ.out, hy, hx] at HE
    rw [← HE.out] at HN
    have HS := Lib.hid fun W => spreadA_any y W
    have H0 := Lib.hid HC0
    have H1 := Lib.hid HC1
    obtain ⟨m, hm⟩ : ∃ m : Nat, m = 255 - k := ⟨_, rfl⟩
    have e0 : (k : Int) < 255 := by omega
    have e1 : IntKind.i64.wrap (255 - (k : Int)) = (m : Int) := by rw [IntWalk.i64_in _ (by omega)]; omega
    have e2 : (m : Int).tmod 255 = (j : Int) := by rw [hj, ← hm]; exact (Int.ofNat_tmod _ 255).symm
    have e3 : (j : Int) < 255 := by omega
    have e4 : (x.toNat : Int) < 256 := by omega
    have HZS := Lib.hid hzs
    clear hj hm hy hx HTS HT0 HP HS0 hz HC0 HC1 HC2 HE hzs hzs2 hne hne2
    have hcx' : w'.drew.cell? ⟨g1, k, none⟩ = some (.int .u8 (x.toNat : Nat)) := hcx
    have hcy' : w'.drew.cell? ⟨g1, j, none⟩ = some (.int .u8 (y.toNat : Nat)) := hcy
    have hcz' : w'.drew.cell? ⟨g2, x.toNat, none⟩ = some (.int .u8 (z.toNat : Nat)) := hcz
    have hfro' : w'.drew.frozen? ⟨g2, x.toNat, none⟩ = false := hfro
    have hb' : Below w.heap.size w w'.drew := hb.drew
    have HN' : Hid ((w'.drew.setCell ⟨g2, x.toNat, none⟩ (.int .u8 ((Ae.spr y).toNat : Nat))).heap[g2]? = some (.cells (bcells (Ae.TB (k + 1))) 94 (0, 0))) := HN
    have H0' : Hid (w'.drew.heap[w.heap.size]? = some (.cells zs 94 (0, 0))) := H0
    have H1' : Hid (w'.drew.heap[g1]? = some (.cells (bcells P) 106 (0, 0))) := H1
    clear hcx hcy hcz hfro hb HN H0 H1
    go_wp2_with fail
    refine wp_region_still_tail 9 (by kernel_rfl) (by kernel_rfl) ?_
    change wpStill _ _ (World.drew _) (fun a' => wpList _ _ _ _ a' (World.drew _)) _ _
    generalize w'.drew = w2 at *
    simp only [List.take_succ_cons, List.take_zero, List.drop_succ_cons, List.drop_zero]
    repeat still_step
    still_call ((HS.out _).mono fun _ _ ⟨h, g⟩ => ⟨h, g.symm⟩)
    refine wpStill_nil ?_
    have HA : AtAgain w P zs (w2.setCell ⟨g2, x.toNat, none⟩ (.int .u8 ((Ae.spr y).toNat : Nat))) g1 g2 (k + 1) := ⟨hb'.setCell (show w.heap.size ≤ g2 by omega) _, h1, h2, by rw [heap_setCell_other _ _ _ _ (show w.heap.size ≠ g2 by omega)]; exact H0'.out, by rw [heap_setCell_other _ _ _ _ (show g1 ≠ g2 by omega)]; exact H1'.out, HN'.out⟩
    clear HN' H0' H1' HS hb'
    by_cases hlast : k + 1 < 255
    · go_wp2
      go_step3
      exact ⟨rfl, ⟨g1, g2, k + 1, _, _, _, _, _, _, _, _, _, _, _, _, _, _, _, _, _, _, _, rfl, Lib.hid (by go_num), hlast, HA⟩, by simp [intOf]; omega⟩
    · obtain rfl : k = 254 := by omega
      obtain ⟨hb3, _, _, hc0, _, hc2⟩ := HA
      have hc2' : (w2.setCell ⟨g2, x.toNat, none⟩ (.int .u8 ((Ae.spr y).toNat : Nat))).heap[g2]? = some (.cells (bcells S) 94 (0, 0)) := by rw [← HTE.out]; exact hc2
      have HC0 := Lib.hid hc0
      have HC2 := Lib.hid hc2'
      have HI2 : Hid ((Tryd.prog.info? 94).map (·.size) = some (bcells S).size) := by rw [Hid, infoA256, bcells_size, HLS.out]
      have HS2 : Hid (zs.size = (bcells S).size) := by rw [Hid, ← HZS.out, noughts_size, bcells_size, HLS.out]
      clear hc0 hc2 hc2' HTE
      go_wp2_with (first | (refine wpList_load_row rfl 94 (.tmp 2) rfl g2 rfl 94 (bcells S) (0, 0) _ HC2.out Tryd.underlying94 rfl HI2.out ?_) | (refine wpList_store_row rfl 94 (.tmp 0) (.tmp 21) rfl w.heap.size (bcells S) rfl rfl 94 _ HC0.out HI2.out HS2.out (bcells_one _) ?_))
      simp only [Exit.jump]
      exact bodyPost_ret (v := .agg (bcells S)) (results_cell_row Tryd.results83 _ _ w.heap.size 94 _ (0, 0) _ rfl (setRow_heap _ _ _ _ _ _ HC0.out) Tryd.underlying94 rfl HI2.out) rfl ⟨rfl, below_setRow' hb3 (Nat.le_refl _) _⟩
end Go.Proofs.YtdjehpbkkbahcaaDoor

/- plus, swapped, turned, mixed. -/

namespace Go.Proofs.YtdjehpbkkbahcaaDoor
open Go.RowKit

/-- The first k bytes of L, then what S has. -/
def fil (L S : List UInt8) (k : Nat) : List UInt8 := L.take k ++ S.drop k
theorem fil_length {L S : List UInt8} {n k : Nat} (hL : L.length = n) (hS : S.length = n) (hk : k ≤ n) : (fil L S k).length = n := by simp [fil]; omega
theorem fil_zero (L S : List UInt8) : fil L S 0 = S := by simp [fil]
theorem fil_all {L S : List UInt8} {n : Nat} (hL : L.length = n) (hS : S.length = n) : fil L S n = L := by
  rw [fil, List.take_of_length_le (by omega), List.drop_of_length_le (by omega), List.append_nil]
theorem fil_high {L S : List UInt8} {n k i : Nat} (hL : L.length = n) (hk : k ≤ n) (hi : k ≤ i) : (fil L S k).getD i 0 = S.getD i 0 := by
  have h1 : (L.take k).length = k := by simp; omega
  rw [fil, List.getD_eq_getElem?_getD, List.getD_eq_getElem?_getD, List.getElem?_append_right (by omega), h1, List.getElem?_drop, show k + (i - k) = i by omega]
theorem fil_low {L S : List UInt8} {n k i : Nat} (hL : L.length = n) (hk : k ≤ n) (hi : i < k) : (fil L S k).getD i 0 = L.getD i 0 := by
  have h1 : (L.take k).length = k := by simp; omega
  rw [fil, List.getD_eq_getElem?_getD, List.getD_eq_getElem?_getD, List.getElem?_append_left (by omega), List.getElem?_take, if_pos hi]
theorem fil_set {L S : List UInt8} {n k : Nat} (hL : L.length = n) (hS : S.length = n) (hk : k < n) (x : UInt8) (hx : L.getD k 0 = x) : (fil L S k).set k x = fil L S (k + 1) := by
  subst hx
  have h1 : (L.take k).length = k := by simp; omega
  have e : L.take (k + 1) = L.take k ++ [L[k]'(by omega)] := List.take_succ_eq_append_getElem (by omega)
  rw [fil, fil, e, List.set_append_right _ _ (by omega), h1, Nat.sub_self, List.drop_eq_getElem_cons (show k < S.length by omega), List.set_cons_zero, List.getD_eq_getElem?_getD, List.getElem?_eq_getElem (by omega), List.append_assoc]
  rfl

/-- The table of swapped bytes lies in block g. -/
def TabAt (w : World) (g : Nat) : Prop := w.heap[g]? = some (.cells (bcells Ae.SB) 94 (0, 0))
theorem TabAt.lt {w : World} {g : Nat} (h : TabAt w g) : g < w.heap.size := (Array.getElem?_eq_some_iff.1 h).1
theorem SB_length : Ae.SB.length = 256 := by decide +kernel
theorem TabAt.at {w : World} {g : Nat} (h : TabAt w g) (x : UInt8) : w.cell? ⟨g, x.toNat, none⟩ = some (.int .u8 ((Ae.sw x).toNat : Nat)) :=
  bget h (by rw [SB_length]; exact UInt8.toNat_lt x) _ rfl
theorem TabAt.below {w w' : World} {g B : Nat} (h : TabAt w g) (hB : g < B) (hb : Below B w w') : TabAt w' g := (hb.block _ hB).trans h

set_option maxRecDepth 100000 in
theorem plus_any (s K : List UInt8) (g o cap : Nat) (w : World) (hs : s.length = 16) (hg : g < w.heap.size) (hc : ∀ j, j < 16 → w.cell? ⟨g, o + j, none⟩ = some (.int .u8 ((K.getD j 0).toNat : Nat))) :
    Calls Tryd.prog 85 #[.agg (bcells s), .slice (some ⟨g, o, none⟩) 16 cap] w fun e w' => e = .returned (.agg (bcells (Ae.plus s K))) ∧ Below w.heap.size w w' := by
  have HS := Lib.hid hs
  have HC := Lib.hid hc
  have HL := Lib.hid (Ae.plus_length s K)
  have HAT : Hid (∀ j, j < 16 → (Ae.plus s K).getD j 0 = s.getD j 0 ^^^ K.getD j 0) := Lib.hid fun j hj => Ae.mk16_at _ j hj
  generalize Ae.plus s K = L at *
  clear hs hc
  go_enter Tryd.func85, Tryd.ntmps85
  go_wp2
  go_loopw [6] (fun i wr => ∃ k : Nat, k ≤ 16 ∧ i = .int .i64 k ∧ Below w.heap.size w wr ∧ w.heap.size + 2 ≤ wr.heap.size ∧ Hid (wr.heap[w.heap.size]? = some (.cells (bcells (fil L s k)) 100 (0, 0))) ∧ Hid (wr.heap[w.heap.size + 1]? = some (.cells (bcells (List.replicate 16 0)) 100 (0, 0)))) (fun i _ => 16 - (intOf i).toNat)
  case atStart => exact ⟨0, by omega, rfl, ((Below.refl _ _).alloc (Nat.le_refl _) _).alloc (by simp) _, by simp, by rw [fil_zero]; exact heap_alloc2_old _ _ _, heap_alloc2_new _ _ _⟩
  case round =>
    obtain ⟨k, hk, rfl, hb, hz, HC0, HC1⟩ := hrel
    by_cases hlt : k < 16
    · obtain ⟨x, hx⟩ : ∃ x, s.getD k 0 = x := ⟨_, rfl⟩
      obtain ⟨y, hy⟩ : ∃ y, K.getD k 0 = y := ⟨_, rfl⟩
      have hlen := fil_length HL.out HS.out hk
      have hcx : wr.drew.cell? ⟨w.heap.size, k, none⟩ = some (.int .u8 (x.toNat : Nat)) := bget (wr := wr) HC0.out (by omega) x ((fil_high HL.out hk (Nat.le_refl k)).trans hx)
      have hcy : wr.drew.cell? ⟨g, o + k, none⟩ = some (.int .u8 (y.toNat : Nat)) := by
        rw [← hy, ← HC.out k hlt]
        exact hb.cell (p := ⟨g, o + k, none⟩) hg
      have hfro : wr.drew.frozen? ⟨w.heap.size, k, none⟩ = false := frozen_of_row wr _ k _ _ HC0.out
      have hv := xor_byte x y
      have HN : Hid ((wr.drew.setCell ⟨w.heap.size, k, none⟩ (.int .u8 ((x ^^^ y).toNat : Nat))).heap[w.heap.size]? = some (.cells (bcells (fil L s (k + 1))) 100 (0, 0))) := by
        rw [Hid, ← fil_set HL.out HS.out hlt (x ^^^ y) (by rw [HAT.out k hlt, hx, hy])]
        exact bset (wr := wr.drew) HC0.out _
      have HC1' : Hid (wr.drew.heap[w.heap.size + 1]? = some (.cells (bcells (List.replicate 16 0)) 100 (0, 0))) := HC1
      have hb' : Below w.heap.size w wr.drew := hb.drew
      have hz' : w.heap.size + 2 ≤ wr.drew.heap.size := hz
      have e0 : (k : Int) < 16 := by omega
      clear hx hy HC0 HC1 hb hz hlen
      go_wp2_with fail
      refine wp_region_still_tail 8 (by kernel_rfl) (by kernel_rfl) ?_
      change wpStill _ _ (World.drew _) (fun a' => wpList _ _ _ _ a' (World.drew _)) _ _
      generalize wr.drew = w2 at *
      simp only [List.take_succ_cons, List.take_zero, List.drop_succ_cons, List.drop_zero]
      repeat still_step
      refine wpStill_nil ?_
      go_wp2
      go_roundw
      case rel => exact ⟨k + 1, by omega, by go_num, hb'.setCell (Nat.le_refl _) _, by simp [World.setCell]; omega, HN, by rw [Hid, heap_setCell_other _ _ _ _ (by show w.heap.size + 1 ≠ w.heap.size; omega)]; exact HC1'.out⟩
      case measure => simp [intOf]; omega
    · obtain rfl : k = 16 := by omega
      have HR : Hid (wr.heap[w.heap.size]? = some (.cells (bcells L) 100 (0, 0))) := by
        have h := HC0.out
        rw [fil_all HL.out HS.out] at h
        exact h
      clear HC0
      have HI : Hid ((Tryd.prog.info? 100).map (·.size) = some (bcells L).size) := by rw [Hid, infoA16, bcells_size, HL.out]
      have HZ : Hid ((bcells (List.replicate 16 0)).size = (bcells L).size) := by rw [Hid, noughts_size, bcells_size, HL.out]
      go_wp2_with (first | (refine wpList_load_row rfl 100 (.tmp 2) rfl w.heap.size rfl 100 (bcells L) (0, 0) _ HR.out Tryd.underlying100 rfl HI.out ?_) | (refine wpList_store_row rfl 100 (.tmp 4) (.tmp 19) rfl (w.heap.size + 1) (bcells L) rfl rfl 100 _ HC1.out HI.out HZ.out (bcells_one _) ?_))
      exact bodyPost_ret (v := .agg (bcells L)) (results_cell_row Tryd.results85 _ _ (w.heap.size + 1) 100 _ (0, 0) _ rfl (setRow_heap _ _ _ _ _ _ HC1.out) Tryd.underlying100 rfl HI.out) rfl ⟨rfl, below_setRow' hb (Nat.le_succ _) _⟩

set_option maxRecDepth 100000 in
theorem swapped_any (s : List UInt8) (g : Nat) (w : World) (hs : s.length = 16) (hc : TabAt w g) :
    Calls Tryd.prog 86 #[.agg (bcells s), .pointer (some ⟨g, 0, none⟩)] w fun e w' => e = .returned (.agg (bcells (Ae.swapped s))) ∧ Below w.heap.size w w' := by
  have HS := Lib.hid hs
  have hg := hc.lt
  have HC := Lib.hid hc
  have HL := Lib.hid (Ae.swapped_length s)
  have HAT : Hid (∀ j, j < 16 → (Ae.swapped s).getD j 0 = Ae.sw (s.getD j 0)) := Lib.hid fun j hj => Ae.mk16_at _ j hj
  generalize Ae.swapped s = L at *
  clear hs hc
  go_enter Tryd.func86, Tryd.ntmps86
  go_wp2
  go_loopw [6] (fun i wr => ∃ k : Nat, k ≤ 16 ∧ i = .int .i64 k ∧ Below w.heap.size w wr ∧ w.heap.size + 2 ≤ wr.heap.size ∧ Hid (wr.heap[w.heap.size]? = some (.cells (bcells (fil L s k)) 100 (0, 0))) ∧ Hid (wr.heap[w.heap.size + 1]? = some (.cells (bcells (List.replicate 16 0)) 100 (0, 0)))) (fun i _ => 16 - (intOf i).toNat)
  case atStart => exact ⟨0, by omega, rfl, ((Below.refl _ _).alloc (Nat.le_refl _) _).alloc (by simp) _, by simp, by rw [fil_zero]; exact heap_alloc2_old _ _ _, heap_alloc2_new _ _ _⟩
  case round =>
    obtain ⟨k, hk, rfl, hb, hz, HC0, HC1⟩ := hrel
    by_cases hlt : k < 16
    · obtain ⟨x, hx⟩ : ∃ x, s.getD k 0 = x := ⟨_, rfl⟩
      obtain ⟨y, hy⟩ : ∃ y, Ae.sw x = y := ⟨_, rfl⟩
      have hlen := fil_length HL.out HS.out hk
      have hcx : wr.drew.cell? ⟨w.heap.size, k, none⟩ = some (.int .u8 (x.toNat : Nat)) := bget (wr := wr) HC0.out (by omega) x ((fil_high HL.out hk (Nat.le_refl k)).trans hx)
      have hcy : wr.drew.cell? ⟨g, x.toNat, none⟩ = some (.int .u8 (y.toNat : Nat)) := by
        rw [← hy]
        exact (hb.cell (p := ⟨g, x.toNat, none⟩) hg).trans (HC.out.at x)
      have hx8 : (x.toNat : Int) < 256 := by have := UInt8.toNat_lt x; omega
      have hfro : wr.drew.frozen? ⟨w.heap.size, k, none⟩ = false := frozen_of_row wr _ k _ _ HC0.out
      have HN : Hid ((wr.drew.setCell ⟨w.heap.size, k, none⟩ (.int .u8 (y.toNat : Nat))).heap[w.heap.size]? = some (.cells (bcells (fil L s (k + 1))) 100 (0, 0))) := by
        rw [Hid, ← fil_set HL.out HS.out hlt y (by rw [HAT.out k hlt, hx, hy])]
        exact bset (wr := wr.drew) HC0.out _
      have HC1' : Hid (wr.drew.heap[w.heap.size + 1]? = some (.cells (bcells (List.replicate 16 0)) 100 (0, 0))) := HC1
      have hb' : Below w.heap.size w wr.drew := hb.drew
      have hz' : w.heap.size + 2 ≤ wr.drew.heap.size := hz
      have e0 : (k : Int) < 16 := by omega
      clear hx hy HC0 HC1 hb hz hlen
      go_wp2_with fail
      refine wp_region_still_tail 8 (by kernel_rfl) (by kernel_rfl) ?_
      change wpStill _ _ (World.drew _) (fun a' => wpList _ _ _ _ a' (World.drew _)) _ _
      generalize wr.drew = w2 at *
      simp only [List.take_succ_cons, List.take_zero, List.drop_succ_cons, List.drop_zero]
      repeat still_step
      refine wpStill_nil ?_
      go_wp2
      go_roundw
      case rel => exact ⟨k + 1, by omega, by go_num, hb'.setCell (Nat.le_refl _) _, by simp [World.setCell]; omega, HN, by rw [Hid, heap_setCell_other _ _ _ _ (by show w.heap.size + 1 ≠ w.heap.size; omega)]; exact HC1'.out⟩
      case measure => simp [intOf]; omega
    · obtain rfl : k = 16 := by omega
      have HR : Hid (wr.heap[w.heap.size]? = some (.cells (bcells L) 100 (0, 0))) := by
        have h := HC0.out
        rw [fil_all HL.out HS.out] at h
        exact h
      clear HC0
      have HI : Hid ((Tryd.prog.info? 100).map (·.size) = some (bcells L).size) := by rw [Hid, infoA16, bcells_size, HL.out]
      have HZ : Hid ((bcells (List.replicate 16 0)).size = (bcells L).size) := by rw [Hid, noughts_size, bcells_size, HL.out]
      go_wp2_with (first | (refine wpList_load_row rfl 100 (.tmp 2) rfl w.heap.size rfl 100 (bcells L) (0, 0) _ HR.out Tryd.underlying100 rfl HI.out ?_) | (refine wpList_store_row rfl 100 (.tmp 4) (.tmp 19) rfl (w.heap.size + 1) (bcells L) rfl rfl 100 _ HC1.out HI.out HZ.out (bcells_one _) ?_))
      exact bodyPost_ret (v := .agg (bcells L)) (results_cell_row Tryd.results86 _ _ (w.heap.size + 1) 100 _ (0, 0) _ rfl (setRow_heap _ _ _ _ _ _ HC1.out) Tryd.underlying100 rfl HI.out) rfl ⟨rfl, below_setRow' hb (Nat.le_succ _) _⟩

set_option maxRecDepth 100000 in
theorem turnedA_any (s : List UInt8) (w : World) (hs : s.length = 16) :
    Calls Tryd.prog 87 #[.agg (bcells s)] w fun e w' => e = .returned (.agg (bcells (Ae.turned s))) ∧ Below w.heap.size w w' := by
  have HS := Lib.hid hs
  have HL := Lib.hid (Ae.turned_length s)
  have HAT : Hid (∀ j, j < 16 → (Ae.turned s).getD j 0 = s.getD ((j / 4 + j % 4) % 4 * 4 + j % 4) 0) := Lib.hid fun j hj => Ae.mk16_at _ j hj
  generalize Ae.turned s = L at *
  clear hs
  go_enter Tryd.func87, Tryd.ntmps87
  go_wp2
  go_loopw [7] (fun i wr => ∃ k : Nat, k ≤ 16 ∧ i = .int .i64 k ∧ Below w.heap.size w wr ∧ w.heap.size + 3 ≤ wr.heap.size ∧ Hid (wr.heap[w.heap.size]? = some (.cells (bcells s) 100 (0, 0))) ∧ Hid (wr.heap[w.heap.size + 1]? = some (.cells (bcells (List.replicate 16 0)) 100 (0, 0))) ∧ Hid (wr.heap[w.heap.size + 1 + 1]? = some (.cells (bcells (L.take k ++ List.replicate (16 - k) 0)) 100 (0, 0)))) (fun i _ => 16 - (intOf i).toNat)
  case atStart => exact ⟨0, by omega, rfl, (((Below.refl _ _).alloc (Nat.le_refl _) _).alloc (by simp) _).alloc (by simp; omega) _, by simp, (heap_alloc_old _ _ (by simp; omega)).trans (heap_alloc2_old _ _ _), (heap_alloc_old _ _ (by simp)).trans (heap_alloc2_new _ _ _), by rw [Hid, show w.heap.size + 1 + 1 = ((w.alloc (.cells (bcells s) 100)).alloc (.cells (bcells (List.replicate 16 0)) 100)).heap.size by simp]; exact heap_alloc_new _ _⟩
  case round =>
    obtain ⟨k, hk, rfl, hb, hz, HC0, HC1, HC2⟩ := hrel
    by_cases hlt : k < 16
    · obtain ⟨m, hm⟩ : ∃ m : Nat, m = (k / 4 + k) % 4 * 4 + k % 4 := ⟨_, rfl⟩
      have hm16 : m < 16 := by omega
      obtain ⟨x, hx⟩ : ∃ x, s.getD m 0 = x := ⟨_, rfl⟩
      have hcx : wr.cell? ⟨w.heap.size, m, none⟩ = some (.int .u8 (x.toNat : Nat)) := bget HC0.out (by rw [HS.out]; exact hm16) x hx
      have hcell := brow_cell HC2.out HL.out hlt
      have hfro := frozen_of_row _ _ k _ _ HC2.out
      have HB := Lib.hid (brow_set HC2.out HL.out hlt)
      rw [HAT.out k hlt, show (k / 4 + k % 4) % 4 * 4 + k % 4 = m by omega, hx] at HB
      have e0 : (k : Int) < 16 := by omega
      subst hm
      clear hx
      go_wp2
      go_roundw
      case rel => exact ⟨k + 1, by omega, by go_num, hb.setCell (by show w.heap.size ≤ w.heap.size + 1 + 1; omega) _, by simp [World.setCell]; omega, by rw [Hid, heap_setCell_other _ _ _ _ (by show w.heap.size ≠ w.heap.size + 1 + 1; omega)]; exact HC0.out, by rw [Hid, heap_setCell_other _ _ _ _ (by show w.heap.size + 1 ≠ w.heap.size + 1 + 1; omega)]; exact HC1.out, HB⟩
      case measure => simp [intOf]; omega
    · obtain rfl : k = 16 := by omega
      have HR : Hid (wr.heap[w.heap.size + 1 + 1]? = some (.cells (bcells L) 100 (0, 0))) := by
        have h := HC2.out
        rw [List.take_of_length_le (by rw [HL.out]; exact Nat.le_refl _), Nat.sub_self, List.replicate_zero, List.append_nil] at h
        exact h
      clear HC2
      have HI : Hid ((Tryd.prog.info? 100).map (·.size) = some (bcells L).size) := by rw [Hid, infoA16, bcells_size, HL.out]
      have HZ : Hid ((bcells (List.replicate 16 0)).size = (bcells L).size) := by rw [Hid, noughts_size, bcells_size, HL.out]
      go_wp2_with (first | (refine wpList_load_row rfl 100 (.tmp 3) rfl (w.heap.size + 1 + 1) rfl 100 (bcells L) (0, 0) _ HR.out Tryd.underlying100 rfl HI.out ?_) | (refine wpList_store_row rfl 100 (.tmp 2) (.tmp 26) rfl (w.heap.size + 1) (bcells L) rfl rfl 100 _ HC1.out HI.out HZ.out (bcells_one _) ?_))
      exact bodyPost_ret (v := .agg (bcells L)) (results_cell_row Tryd.results87 _ _ (w.heap.size + 1) 100 _ (0, 0) _ rfl (setRow_heap _ _ _ _ _ _ HC1.out) Tryd.underlying100 rfl HI.out) rfl ⟨rfl, below_setRow' hb (Nat.le_succ _) _⟩

end Go.Proofs.YtdjehpbkkbahcaaDoor

/- mixed. -/

namespace Go.Proofs.YtdjehpbkkbahcaaDoor
open Go.RowKit

theorem mix_rows (s : List UInt8) (q : Nat) (hq : q < 4) (a b c d : UInt8) (ha : s.getD (4 * q) 0 = a) (hb : s.getD (4 * q + 1) 0 = b) (hc : s.getD (4 * q + 2) 0 = c) (hd : s.getD (4 * q + 3) 0 = d) :
    (Ae.mixed s).getD (4 * q) 0 = Ae.tw a ^^^ Ae.th b ^^^ c ^^^ d ∧ (Ae.mixed s).getD (4 * q + 1) 0 = a ^^^ Ae.tw b ^^^ Ae.th c ^^^ d ∧ (Ae.mixed s).getD (4 * q + 2) 0 = a ^^^ b ^^^ Ae.tw c ^^^ Ae.th d ∧ (Ae.mixed s).getD (4 * q + 3) 0 = Ae.th a ^^^ b ^^^ c ^^^ Ae.tw d := by
  have e : ∀ r, r < 4 → (Ae.mixed s).getD (4 * q + r) 0 = Ae.mixAt s q r := by
    intro r hr
    rw [Ae.mixed, Ae.mk16_at _ _ (by omega), show (4 * q + r) / 4 = q by omega, show (4 * q + r) % 4 = r by omega]
  obtain ⟨m0, m1, m2, m3⟩ := Ae.mixAt_m0 s q
  rw [ha, hb, hc, hd] at m0 m1 m2 m3
  refine ⟨(e 0 (by decide)).trans m0, (e 1 (by decide)).trans (m1.trans ?_), (e 2 (by decide)).trans (m2.trans ?_), (e 3 (by decide)).trans (m3.trans ?_)⟩
  · rw [Ae.m0, Ae.xor_assoc, Ae.xor_assoc, Ae.xor_assoc, Ae.xor_assoc, Ae.xor_comm (Ae.tw b)]
    simp only [Ae.xor_comm, Ae.xor_left_comm]
  · rw [Ae.m0]
    simp only [Ae.xor_comm, Ae.xor_left_comm]
  · rw [Ae.m0]
    simp only [Ae.xor_comm, Ae.xor_left_comm]

theorem xor4_byte (a b c d : UInt8) : bits BinOp.xor IntKind.u8 (bits BinOp.xor IntKind.u8 (bits BinOp.xor IntKind.u8 (a.toNat : Int) (b.toNat : Int)) (c.toNat : Int)) (d.toNat : Int) = ((a ^^^ b ^^^ c ^^^ d).toNat : Nat) := by
  rw [xor_byte, xor_byte, xor_byte]


set_option maxRecDepth 100000 in
set_option maxHeartbeats 1000000 in
theorem mixed_any (s : List UInt8) (w : World) (hs : s.length = 16) :
    Calls Tryd.prog 88 #[.agg (bcells s)] w fun e w' => e = .returned (.agg (bcells (Ae.mixed s))) ∧ Below w.heap.size w w' := by
  have HS := Lib.hid hs
  have HL := Lib.hid (Ae.mixed_length s)
  have HAT := Lib.hid (mix_rows s)
  generalize Ae.mixed s = L at *
  clear hs
  go_enter Tryd.func88, Tryd.ntmps88
  go_wp2
  go_loopw [3] (fun i wr => ∃ k : Nat, k ≤ 16 ∧ Hid (k % 4 = 0) ∧ i = .int .i64 k ∧ Below w.heap.size w wr ∧ w.heap.size + 2 ≤ wr.heap.size ∧ Hid (wr.heap[w.heap.size]? = some (.cells (bcells (fil L s k)) 100 (0, 0))) ∧ Hid (wr.heap[w.heap.size + 1]? = some (.cells (bcells (List.replicate 16 0)) 100 (0, 0)))) (fun i _ => 16 - (intOf i).toNat)
  case atStart => exact ⟨0, by omega, Lib.hid rfl, rfl, ((Below.refl _ _).alloc (Nat.le_refl _) _).alloc (by simp) _, by simp, by rw [fil_zero]; exact heap_alloc2_old _ _ _, heap_alloc2_new _ _ _⟩
  case round =>
    obtain ⟨k, hk, Hk4, rfl, hb, hz, HC0, HC1⟩ := hrel
    by_cases hlt : k < 16
    · have hk4 := Hk4.out
      have hk3 : k + 3 < 16 := by omega
      obtain ⟨q, hq⟩ : ∃ q, q = k / 4 := ⟨_, rfl⟩
      have hkq : k = 4 * q := by omega
      obtain ⟨a, ha⟩ : ∃ x, s.getD k 0 = x := ⟨_, rfl⟩
      obtain ⟨b, hbb⟩ : ∃ x, s.getD (k + 1) 0 = x := ⟨_, rfl⟩
      obtain ⟨c, hc⟩ : ∃ x, s.getD (k + 2) 0 = x := ⟨_, rfl⟩
      obtain ⟨d, hd⟩ : ∃ x, s.getD (k + 3) 0 = x := ⟨_, rfl⟩
      obtain ⟨r0, r1, r2, r3⟩ := HAT.out q (by omega) a b c d (by rw [← hkq]; exact ha) (by rw [← hkq]; exact hbb) (by rw [← hkq]; exact hc) (by rw [← hkq]; exact hd)
      rw [← hkq] at r0 r1 r2 r3
      have hlen := fil_length HL.out HS.out hk
      have ca : wr.cell? ⟨w.heap.size, k, none⟩ = some (.int .u8 (a.toNat : Nat)) := bget HC0.out (by omega) a ((fil_high HL.out hk (by omega)).trans ha)
      have cb : wr.cell? ⟨w.heap.size, k + 1, none⟩ = some (.int .u8 (b.toNat : Nat)) := bget HC0.out (by omega) b ((fil_high HL.out hk (by omega)).trans hbb)
      have cc : wr.cell? ⟨w.heap.size, k + 2, none⟩ = some (.int .u8 (c.toNat : Nat)) := bget HC0.out (by omega) c ((fil_high HL.out hk (by omega)).trans hc)
      have cd : wr.cell? ⟨w.heap.size, k + 3, none⟩ = some (.int .u8 (d.toNat : Nat)) := bget HC0.out (by omega) d ((fil_high HL.out hk (by omega)).trans hd)
      have T1 := Lib.hid fun W => twice_any a W
      have T2 := Lib.hid fun W => twice_any b W
      have T3 := Lib.hid fun W => twice_any c W
      have T4 := Lib.hid fun W => twice_any d W
      have U1 := Lib.hid fun W => thrice_any a W
      have U2 := Lib.hid fun W => thrice_any b W
      have U3 := Lib.hid fun W => thrice_any c W
      have U4 := Lib.hid fun W => thrice_any d W
      have R0 := Lib.hid r0
      have R1 := Lib.hid r1
      have R2 := Lib.hid r2
      have R3 := Lib.hid r3
      have V0 := Lib.hid (xor4_byte (Ae.tw a) (Ae.th b) c d)
      have V1 := Lib.hid (xor4_byte a (Ae.tw b) (Ae.th c) d)
      have V2 := Lib.hid (xor4_byte a b (Ae.tw c) (Ae.th d))
      have V3 := Lib.hid (xor4_byte (Ae.th a) b c (Ae.tw d))
      obtain ⟨l0, h0⟩ : ∃ x, L.getD k 0 = x := ⟨_, rfl⟩
      have L0 := Lib.hid h0
      rw [← R0.out, L0.out] at V0
      obtain ⟨l1, h1⟩ : ∃ x, L.getD (k + 1) 0 = x := ⟨_, rfl⟩
      have L1 := Lib.hid h1
      rw [← R1.out, L1.out] at V1
      obtain ⟨l2, h2⟩ : ∃ x, L.getD (k + 2) 0 = x := ⟨_, rfl⟩
      have L2 := Lib.hid h2
      rw [← R2.out, L2.out] at V2
      obtain ⟨l3, h3⟩ : ∃ x, L.getD (k + 3) 0 = x := ⟨_, rfl⟩
      have L3 := Lib.hid h3
      rw [← R3.out, L3.out] at V3
      generalize Ae.tw a = ta at *
      generalize Ae.tw b = tb at *
      generalize Ae.tw c = tc at *
      generalize Ae.tw d = td at *
      generalize Ae.th a = ha3 at *
      generalize Ae.th b = hb3 at *
      generalize Ae.th c = hc3 at *
      generalize Ae.th d = hd3 at *
      have e0 : (k : Int) + 3 < 16 := by omega
      have HD : Hid (wr.drew.heap[w.heap.size]? = some (.cells (bcells (fil L s k)) 100 (0, 0))) := HC0
      clear ha hbb hc hd h0 h1 h2 h3 hkq hq r0 r1 r2 r3 hlen hk4 HAT R0 R1 R2 R3
      go_wp2
      go_quiet (fail)
      have hb1 : Below w.heap.size w (wr.drewN nq) := hb.trans ⟨rfl, rfl, rfl, Nat.le_refl _, fun _ _ => rfl⟩
      have hz1 : w.heap.size + 2 ≤ (wr.drewN nq).heap.size := hz
      have D0 : Hid ((wr.drewN nq).heap[w.heap.size]? = some (.cells (bcells (fil L s k)) 100 (0, 0))) := HC0
      have D1 : Hid ((wr.drewN nq).heap[w.heap.size + 1]? = some (.cells (bcells (List.replicate 16 0)) 100 (0, 0))) := HC1
      clear HC0 HC1 hb hz HD ca cb cc cd
      generalize wr.drewN nq = w1 at *
      have hlen := fil_length (k := k) HL.out HS.out (by omega)
      obtain ⟨x, hx⟩ : ∃ x, (fil L s (k)).getD (k) 0 = x := ⟨_, rfl⟩
      have cx1 := bget D0.out (by omega) x hx
      have fx1 := frozen_of_row _ _ (k) _ _ D0.out
      have V0v := V0.out
      clear hlen hx
      go_wp2_with fail
      refine (T1.out _).mono ?_
      rintro _ _ ⟨rfl, rfl⟩
      go_wp2_with fail
      refine (U2.out _).mono ?_
      rintro _ _ ⟨rfl, rfl⟩
      go_wp2_with fail
      have hb2 : Below w.heap.size w (w1.setCell ⟨w.heap.size, k, none⟩ (.int .u8 (l0.toNat : Nat))) := hb1.setCell (Nat.le_refl _) _
      have hz2 : w.heap.size + 2 ≤ (w1.setCell ⟨w.heap.size, k, none⟩ (.int .u8 (l0.toNat : Nat))).heap.size := by simp [World.setCell]; omega
      have E0 : Hid ((w1.setCell ⟨w.heap.size, k, none⟩ (.int .u8 (l0.toNat : Nat))).heap[w.heap.size]? = some (.cells (bcells (fil L s (k + 1))) 100 (0, 0))) := by
        rw [Hid, ← fil_set HL.out HS.out (by omega) l0 L0.out]
        exact bset D0.out _
      have E1 : Hid ((w1.setCell ⟨w.heap.size, k, none⟩ (.int .u8 (l0.toNat : Nat))).heap[w.heap.size + 1]? = some (.cells (bcells (List.replicate 16 0)) 100 (0, 0))) := by
        rw [Hid, bset_other (by omega)]
        exact D1.out
      clear D0 D1 hb1 hz1 cx1 fx1 V0v
      have D0 := E0
      have D1 := E1
      clear E0 E1
      have hlen := fil_length (k := k + 1) HL.out HS.out (by omega)
      obtain ⟨x, hx⟩ : ∃ x, (fil L s (k + 1)).getD (k + 1) 0 = x := ⟨_, rfl⟩
      have cx2 := bget D0.out (by omega) x hx
      have fx2 := frozen_of_row _ _ (k + 1) _ _ D0.out
      have V1v := V1.out
      clear hlen hx
      generalize w1.setCell ⟨w.heap.size, k, none⟩ (.int .u8 (l0.toNat : Nat)) = w2 at *
      refine (T2.out _).mono ?_
      rintro _ _ ⟨rfl, rfl⟩
      go_wp2_with fail
      refine (U3.out _).mono ?_
      rintro _ _ ⟨rfl, rfl⟩
      go_wp2_with fail
      have hb3 : Below w.heap.size w (w2.setCell ⟨w.heap.size, k + 1, none⟩ (.int .u8 (l1.toNat : Nat))) := hb2.setCell (Nat.le_refl _) _
      have hz3 : w.heap.size + 2 ≤ (w2.setCell ⟨w.heap.size, k + 1, none⟩ (.int .u8 (l1.toNat : Nat))).heap.size := by simp [World.setCell]; omega
      have E0 : Hid ((w2.setCell ⟨w.heap.size, k + 1, none⟩ (.int .u8 (l1.toNat : Nat))).heap[w.heap.size]? = some (.cells (bcells (fil L s (k + 2))) 100 (0, 0))) := by
        rw [Hid, ← fil_set HL.out HS.out (by omega) l1 L1.out]
        exact bset D0.out _
      have E1 : Hid ((w2.setCell ⟨w.heap.size, k + 1, none⟩ (.int .u8 (l1.toNat : Nat))).heap[w.heap.size + 1]? = some (.cells (bcells (List.replicate 16 0)) 100 (0, 0))) := by
        rw [Hid, bset_other (by omega)]
        exact D1.out
      clear D0 D1 hb2 hz2 cx2 fx2 V1v
      have D0 := E0
      have D1 := E1
      clear E0 E1
      have hlen := fil_length (k := k + 2) HL.out HS.out (by omega)
      obtain ⟨x, hx⟩ : ∃ x, (fil L s (k + 2)).getD (k + 2) 0 = x := ⟨_, rfl⟩
      have cx3 := bget D0.out (by omega) x hx
      have fx3 := frozen_of_row _ _ (k + 2) _ _ D0.out
      have V2v := V2.out
      clear hlen hx
      generalize w2.setCell ⟨w.heap.size, k + 1, none⟩ (.int .u8 (l1.toNat : Nat)) = w3 at *
      refine (T3.out _).mono ?_
      rintro _ _ ⟨rfl, rfl⟩
      go_wp2_with fail
      refine (U4.out _).mono ?_
      rintro _ _ ⟨rfl, rfl⟩
      go_wp2_with fail
      have hb4 : Below w.heap.size w (w3.setCell ⟨w.heap.size, k + 2, none⟩ (.int .u8 (l2.toNat : Nat))) := hb3.setCell (Nat.le_refl _) _
      have hz4 : w.heap.size + 2 ≤ (w3.setCell ⟨w.heap.size, k + 2, none⟩ (.int .u8 (l2.toNat : Nat))).heap.size := by simp [World.setCell]; omega
      have E0 : Hid ((w3.setCell ⟨w.heap.size, k + 2, none⟩ (.int .u8 (l2.toNat : Nat))).heap[w.heap.size]? = some (.cells (bcells (fil L s (k + 3))) 100 (0, 0))) := by
        rw [Hid, ← fil_set HL.out HS.out (by omega) l2 L2.out]
        exact bset D0.out _
      have E1 : Hid ((w3.setCell ⟨w.heap.size, k + 2, none⟩ (.int .u8 (l2.toNat : Nat))).heap[w.heap.size + 1]? = some (.cells (bcells (List.replicate 16 0)) 100 (0, 0))) := by
        rw [Hid, bset_other (by omega)]
        exact D1.out
      clear D0 D1 hb3 hz3 cx3 fx3 V2v
      have D0 := E0
      have D1 := E1
      clear E0 E1
      have hlen := fil_length (k := k + 3) HL.out HS.out (by omega)
      obtain ⟨x, hx⟩ : ∃ x, (fil L s (k + 3)).getD (k + 3) 0 = x := ⟨_, rfl⟩
      have cx4 := bget D0.out (by omega) x hx
      have fx4 := frozen_of_row _ _ (k + 3) _ _ D0.out
      have V3v := V3.out
      clear hlen hx
      generalize w3.setCell ⟨w.heap.size, k + 2, none⟩ (.int .u8 (l2.toNat : Nat)) = w4 at *
      refine (U1.out _).mono ?_
      rintro _ _ ⟨rfl, rfl⟩
      go_wp2_with fail
      refine (T4.out _).mono ?_
      rintro _ _ ⟨rfl, rfl⟩
      go_wp2
      go_roundw
      case rel => exact ⟨k + 4, by omega, Lib.hid (by have := Hk4.out; omega), by go_num, hb4.setCell (Nat.le_refl _) _, by simp [World.setCell]; omega, by rw [Hid, ← fil_set HL.out HS.out (by omega) l3 L3.out]; exact bset D0.out _, by rw [Hid, bset_other (by omega)]; exact D1.out⟩
      case measure => simp [intOf]; omega
    · obtain rfl : k = 16 := by omega
      have HR : Hid (wr.heap[w.heap.size]? = some (.cells (bcells L) 100 (0, 0))) := by
        have h := HC0.out
        rw [fil_all HL.out HS.out] at h
        exact h
      clear HC0 HAT
      have HI : Hid ((Tryd.prog.info? 100).map (·.size) = some (bcells L).size) := by rw [Hid, infoA16, bcells_size, HL.out]
      have HZ : Hid ((bcells (List.replicate 16 0)).size = (bcells L).size) := by rw [Hid, noughts_size, bcells_size, HL.out]
      go_wp2_with (first | (refine wpList_load_row rfl 100 (.tmp 1) rfl w.heap.size rfl 100 (bcells L) (0, 0) _ HR.out Tryd.underlying100 rfl HI.out ?_) | (refine wpList_store_row rfl 100 (.tmp 2) (.tmp 74) rfl (w.heap.size + 1) (bcells L) rfl rfl 100 _ HC1.out HI.out HZ.out (bcells_one _) ?_))
      exact bodyPost_ret (v := .agg (bcells L)) (results_cell_row Tryd.results88 _ _ (w.heap.size + 1) 100 _ (0, 0) _ rfl (setRow_heap _ _ _ _ _ _ HC1.out) Tryd.underlying100 rfl HI.out) rfl ⟨rfl, below_setRow' hb (Nat.le_succ _) _⟩
end Go.Proofs.YtdjehpbkkbahcaaDoor

