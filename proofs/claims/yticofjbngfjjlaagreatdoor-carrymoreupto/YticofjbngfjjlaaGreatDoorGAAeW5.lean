/- mixed. -/
import Derived.Test.YticofjbngfjjlaaGreatDoorGAShaW3
import Derived.Test.YticofjbngfjjlaaGreatDoorGAAeW3
namespace Go.Proofs.YticofjbngfjjlaaGreatDoor
open Go.RowKit

theorem mix_rows (s : List UInt8) (q : Nat) (hq : q < 4) (a b c d : UInt8) (ha : s.getD (4 * q) 0 = a) (hb : s.getD (4 * q + 1) 0 = b) (hc : s.getD (4 * q + 2) 0 = c) (hd : s.getD (4 * q + 3) 0 = d) :
    (Ae.mixed s).getD (4 * q) 0 = Ae.tw a ^^^ Ae.th b ^^^ c ^^^ d ∧ (Ae.mixed s).getD (4 * q + 1) 0 = a ^^^ Ae.tw b ^^^ Ae.th c ^^^ d ∧ (Ae.mixed s).getD (4 * q + 2) 0 = a ^^^ b ^^^ Ae.tw c ^^^ Ae.th d ∧ (Ae.mixed s).getD (4 * q + 3) 0 = Ae.th a ^^^ b ^^^ c ^^^ Ae.tw d := by
  have e : ∀ r, r < 4 → (Ae.mixed s).getD (4 * q + r) 0 = Ae.mixAt s q r := by
    intro r hr
    rw [Ae.mixed, Ae.mk16_at _ _ (by omega), show (4 * q + r) / 4 = q by omega, show (4 * q + r) % 4 = r by omega]
  obtain ⟨m0, m1, m2, m3⟩ := Ae.mixAt_m0 s q
  rw [ha, hb, hc, hd] at m0 m1 m2 m3
  refine ⟨(e 0 (by decide)).trans m0, (e 1 (by decide)).trans (m1.trans ?_), (e 2 (by decide)).trans (m2.trans ?_), (e 3 (by decide)).trans (m3.trans ?_)⟩
  · rw [Ae.m0, Ae.xor_assoc, Ae.xor_assoc, Ae.xor_assoc, Ae.xor_assoc, Ae.xor_comm (Ae.tw b)]
    simp only [Ae.xor_comm, Ae.xor_left_comm]
  · rw [Ae.m0]
    simp only [Ae.xor_comm, Ae.xor_left_comm]
  · rw [Ae.m0]
    simp only [Ae.xor_comm, Ae.xor_left_comm]

theorem xor4_byte (a b c d : UInt8) : bits BinOp.xor IntKind.u8 (bits BinOp.xor IntKind.u8 (bits BinOp.xor IntKind.u8 (a.toNat : Int) (b.toNat : Int)) (c.toNat : Int)) (d.toNat : Int) = ((a ^^^ b ^^^ c ^^^ d).toNat : Nat) := by
  rw [xor_byte, xor_byte, xor_byte]


set_option maxRecDepth 100000 in
set_option maxHeartbeats 1000000 in
theorem mixed_any (s : List UInt8) (w : World) (hs : s.length = 16) :
    Calls Tryz.prog 216 #[.agg (bcells s)] w fun e w' => e = .returned (.agg (bcells (Ae.mixed s))) ∧ Below w.heap.size w w' := by
  have HS := Lib.hid hs
  have HL := Lib.hid (Ae.mixed_length s)
  have HAT := Lib.hid (mix_rows s)
  generalize Ae.mixed s = L at *
  clear hs
  go_enter Tryz.func216, Tryz.ntmps216
  go_wp2
  go_loopw [3] (fun i wr => ∃ k : Nat, k ≤ 16 ∧ Hid (k % 4 = 0) ∧ i = .int .i64 k ∧ Below w.heap.size w wr ∧ w.heap.size + 2 ≤ wr.heap.size ∧ Hid (wr.heap[w.heap.size]? = some (.cells (bcells (fil L s k)) 205 (0, 0))) ∧ Hid (wr.heap[w.heap.size + 1]? = some (.cells (bcells (List.replicate 16 0)) 205 (0, 0)))) (fun i _ => 16 - (intOf i).toNat)
  case atStart => exact ⟨0, by omega, Lib.hid rfl, rfl, ((Below.refl _ _).alloc (Nat.le_refl _) _).alloc (by simp) _, by simp, by rw [fil_zero]; exact heap_alloc2_old _ _ _, heap_alloc2_new _ _ _⟩
  case round =>
    obtain ⟨k, hk, Hk4, rfl, hb, hz, HC0, HC1⟩ := hrel
    by_cases hlt : k < 16
    · have hk4 := Hk4.out
      have hk3 : k + 3 < 16 := by omega
      obtain ⟨q, hq⟩ : ∃ q, q = k / 4 := ⟨_, rfl⟩
      have hkq : k = 4 * q := by omega
      obtain ⟨a, ha⟩ : ∃ x, s.getD k 0 = x := ⟨_, rfl⟩
      obtain ⟨b, hbb⟩ : ∃ x, s.getD (k + 1) 0 = x := ⟨_, rfl⟩
      obtain ⟨c, hc⟩ : ∃ x, s.getD (k + 2) 0 = x := ⟨_, rfl⟩
      obtain ⟨d, hd⟩ : ∃ x, s.getD (k + 3) 0 = x := ⟨_, rfl⟩
      obtain ⟨r0, r1, r2, r3⟩ := HAT.out q (by omega) a b c d (by rw [← hkq]; exact ha) (by rw [← hkq]; exact hbb) (by rw [← hkq]; exact hc) (by rw [← hkq]; exact hd)
      rw [← hkq] at r0 r1 r2 r3
      have hlen := fil_length HL.out HS.out hk
      have ca : wr.cell? ⟨w.heap.size, k, none⟩ = some (.int .u8 (a.toNat : Nat)) := bget HC0.out (by omega) a ((fil_high HL.out hk (by omega)).trans ha)
      have cb : wr.cell? ⟨w.heap.size, k + 1, none⟩ = some (.int .u8 (b.toNat : Nat)) := bget HC0.out (by omega) b ((fil_high HL.out hk (by omega)).trans hbb)
      have cc : wr.cell? ⟨w.heap.size, k + 2, none⟩ = some (.int .u8 (c.toNat : Nat)) := bget HC0.out (by omega) c ((fil_high HL.out hk (by omega)).trans hc)
      have cd : wr.cell? ⟨w.heap.size, k + 3, none⟩ = some (.int .u8 (d.toNat : Nat)) := bget HC0.out (by omega) d ((fil_high HL.out hk (by omega)).trans hd)
      have T1 := Lib.hid fun W => twice_any a W
      have T2 := Lib.hid fun W => twice_any b W
      have T3 := Lib.hid fun W => twice_any c W
      have T4 := Lib.hid fun W => twice_any d W
      have U1 := Lib.hid fun W => thrice_any a W
      have U2 := Lib.hid fun W => thrice_any b W
      have U3 := Lib.hid fun W => thrice_any c W
      have U4 := Lib.hid fun W => thrice_any d W
      have R0 := Lib.hid r0
      have R1 := Lib.hid r1
      have R2 := Lib.hid r2
      have R3 := Lib.hid r3
      have V0 := Lib.hid (xor4_byte (Ae.tw a) (Ae.th b) c d)
      have V1 := Lib.hid (xor4_byte a (Ae.tw b) (Ae.th c) d)
      have V2 := Lib.hid (xor4_byte a b (Ae.tw c) (Ae.th d))
      have V3 := Lib.hid (xor4_byte (Ae.th a) b c (Ae.tw d))
      obtain ⟨l0, h0⟩ : ∃ x, L.getD k 0 = x := ⟨_, rfl⟩
      have L0 := Lib.hid h0
      rw [← R0.out, L0.out] at V0
      obtain ⟨l1, h1⟩ : ∃ x, L.getD (k + 1) 0 = x := ⟨_, rfl⟩
      have L1 := Lib.hid h1
      rw [← R1.out, L1.out] at V1
      obtain ⟨l2, h2⟩ : ∃ x, L.getD (k + 2) 0 = x := ⟨_, rfl⟩
      have L2 := Lib.hid h2
      rw [← R2.out, L2.out] at V2
      obtain ⟨l3, h3⟩ : ∃ x, L.getD (k + 3) 0 = x := ⟨_, rfl⟩
      have L3 := Lib.hid h3
      rw [← R3.out, L3.out] at V3
      generalize Ae.tw a = ta at *
      generalize Ae.tw b = tb at *
      generalize Ae.tw c = tc at *
      generalize Ae.tw d = td at *
      generalize Ae.th a = ha3 at *
      generalize Ae.th b = hb3 at *
      generalize Ae.th c = hc3 at *
      generalize Ae.th d = hd3 at *
      have e0 : (k : Int) + 3 < 16 := by omega
      have HD : Hid (wr.drew.heap[w.heap.size]? = some (.cells (bcells (fil L s k)) 205 (0, 0))) := HC0
      clear ha hbb hc hd h0 h1 h2 h3 hkq hq r0 r1 r2 r3 hlen hk4 HAT R0 R1 R2 R3
      go_wp2
      go_quiet (fail)
      have hb1 : Below w.heap.size w (wr.drewN nq) := hb.trans ⟨rfl, rfl, rfl, Nat.le_refl _, fun _ _ => rfl⟩
      have hz1 : w.heap.size + 2 ≤ (wr.drewN nq).heap.size := hz
      have D0 : Hid ((wr.drewN nq).heap[w.heap.size]? = some (.cells (bcells (fil L s k)) 205 (0, 0))) := HC0
      have D1 : Hid ((wr.drewN nq).heap[w.heap.size + 1]? = some (.cells (bcells (List.replicate 16 0)) 205 (0, 0))) := HC1
      clear HC0 HC1 hb hz HD ca cb cc cd
      generalize wr.drewN nq = w1 at *
      have hlen := fil_length (k := k) HL.out HS.out (by omega)
      obtain ⟨x, hx⟩ : ∃ x, (fil L s (k)).getD (k) 0 = x := ⟨_, rfl⟩
      have cx1 := bget D0.out (by omega) x hx
      have fx1 := frozen_of_row _ _ (k) _ _ D0.out
      have V0v := V0.out
      clear hlen hx
      go_wp2_with fail
      refine (T1.out _).mono ?_
      rintro _ _ ⟨rfl, rfl⟩
      go_wp2_with fail
      refine (U2.out _).mono ?_
      rintro _ _ ⟨rfl, rfl⟩
      go_wp2_with fail
      have hb2 : Below w.heap.size w (w1.setCell ⟨w.heap.size, k, none⟩ (.int .u8 (l0.toNat : Nat))) := hb1.setCell (Nat.le_refl _) _
      have hz2 : w.heap.size + 2 ≤ (w1.setCell ⟨w.heap.size, k, none⟩ (.int .u8 (l0.toNat : Nat))).heap.size := by simp [World.setCell]; omega
      have E0 : Hid ((w1.setCell ⟨w.heap.size, k, none⟩ (.int .u8 (l0.toNat : Nat))).heap[w.heap.size]? = some (.cells (bcells (fil L s (k + 1))) 205 (0, 0))) := by
        rw [Hid, ← fil_set HL.out HS.out (by omega) l0 L0.out]
        exact bset D0.out _
      have E1 : Hid ((w1.setCell ⟨w.heap.size, k, none⟩ (.int .u8 (l0.toNat : Nat))).heap[w.heap.size + 1]? = some (.cells (bcells (List.replicate 16 0)) 205 (0, 0))) := by
        rw [Hid, bset_other (by omega)]
        exact D1.out
      clear D0 D1 hb1 hz1 cx1 fx1 V0v
      have D0 := E0
      have D1 := E1
      clear E0 E1
      have hlen := fil_length (k := k + 1) HL.out HS.out (by omega)
      obtain ⟨x, hx⟩ : ∃ x, (fil L s (k + 1)).getD (k + 1) 0 = x := ⟨_, rfl⟩
      have cx2 := bget D0.out (by omega) x hx
      have fx2 := frozen_of_row _ _ (k + 1) _ _ D0.out
      have V1v := V1.out
      clear hlen hx
      generalize w1.setCell ⟨w.heap.size, k, none⟩ (.int .u8 (l0.toNat : Nat)) = w2 at *
      refine (T2.out _).mono ?_
      rintro _ _ ⟨rfl, rfl⟩
      go_wp2_with fail
      refine (U3.out _).mono ?_
      rintro _ _ ⟨rfl, rfl⟩
      go_wp2_with fail
      have hb3 : Below w.heap.size w (w2.setCell ⟨w.heap.size, k + 1, none⟩ (.int .u8 (l1.toNat : Nat))) := hb2.setCell (Nat.le_refl _) _
      have hz3 : w.heap.size + 2 ≤ (w2.setCell ⟨w.heap.size, k + 1, none⟩ (.int .u8 (l1.toNat : Nat))).heap.size := by simp [World.setCell]; omega
      have E0 : Hid ((w2.setCell ⟨w.heap.size, k + 1, none⟩ (.int .u8 (l1.toNat : Nat))).heap[w.heap.size]? = some (.cells (bcells (fil L s (k + 2))) 205 (0, 0))) := by
        rw [Hid, ← fil_set HL.out HS.out (by omega) l1 L1.out]
        exact bset D0.out _
      have E1 : Hid ((w2.setCell ⟨w.heap.size, k + 1, none⟩ (.int .u8 (l1.toNat : Nat))).heap[w.heap.size + 1]? = some (.cells (bcells (List.replicate 16 0)) 205 (0, 0))) := by
        rw [Hid, bset_other (by omega)]
        exact D1.out
      clear D0 D1 hb2 hz2 cx2 fx2 V1v
      have D0 := E0
      have D1 := E1
      clear E0 E1
      have hlen := fil_length (k := k + 2) HL.out HS.out (by omega)
      obtain ⟨x, hx⟩ : ∃ x, (fil L s (k + 2)).getD (k + 2) 0 = x := ⟨_, rfl⟩
      have cx3 := bget D0.out (by omega) x hx
      have fx3 := frozen_of_row _ _ (k + 2) _ _ D0.out
      have V2v := V2.out
      clear hlen hx
      generalize w2.setCell ⟨w.heap.size, k + 1, none⟩ (.int .u8 (l1.toNat : Nat)) = w3 at *
      refine (T3.out _).mono ?_
      rintro _ _ ⟨rfl, rfl⟩
      go_wp2_with fail
      refine (U4.out _).mono ?_
      rintro _ _ ⟨rfl, rfl⟩
      go_wp2_with fail
      have hb4 : Below w.heap.size w (w3.setCell ⟨w.heap.size, k + 2, none⟩ (.int .u8 (l2.toNat : Nat))) := hb3.setCell (Nat.le_refl _) _
      have hz4 : w.heap.size + 2 ≤ (w3.setCell ⟨w.heap.size, k + 2, none⟩ (.int .u8 (l2.toNat : Nat))).heap.size := by simp [World.setCell]; omega
      have E0 : Hid ((w3.setCell ⟨w.heap.size, k + 2, none⟩ (.int .u8 (l2.toNat : Nat))).heap[w.heap.size]? = some (.cells (bcells (fil L s (k + 3))) 205 (0, 0))) := by
        rw [Hid, ← fil_set HL.out HS.out (by omega) l2 L2.out]
        exact bset D0.out _
      have E1 : Hid ((w3.setCell ⟨w.heap.size, k + 2, none⟩ (.int .u8 (l2.toNat : Nat))).heap[w.heap.size + 1]? = some (.cells (bcells (List.replicate 16 0)) 205 (0, 0))) := by
        rw [Hid, bset_other (by omega)]
        exact D1.out
      clear D0 D1 hb3 hz3 cx3 fx3 V2v
      have D0 := E0
      have D1 := E1
      clear E0 E1
      have hlen := fil_length (k := k + 3) HL.out HS.out (by omega)
      obtain ⟨x, hx⟩ : ∃ x, (fil L s (k + 3)).getD (k + 3) 0 = x := ⟨_, rfl⟩
      have cx4 := bget D0.out (by omega) x hx
      have fx4 := frozen_of_row _ _ (k + 3) _ _ D0.out
      have V3v := V3.out
      clear hlen hx
      generalize w3.setCell ⟨w.heap.size, k + 2, none⟩ (.int .u8 (l2.toNat : Nat)) = w4 at *
      refine (U1.out _).mono ?_
      rintro _ _ ⟨rfl, rfl⟩
      go_wp2_with fail
      refine (T4.out _).mono ?_
      rintro _ _ ⟨rfl, rfl⟩
      go_wp2
      go_roundw
      case rel => exact ⟨k + 4, by omega, Lib.hid (by have := Hk4.out; omega), by go_num, hb4.setCell (Nat.le_refl _) _, by simp [World.setCell]; omega, by rw [Hid, ← fil_set HL.out HS.out (by omega) l3 L3.out]; exact bset D0.out _, by rw [Hid, bset_other (by omega)]; exact D1.out⟩
      case measure => simp [intOf]; omega
    · obtain rfl : k = 16 := by omega
      have HR : Hid (wr.heap[w.heap.size]? = some (.cells (bcells L) 205 (0, 0))) := by
        have h := HC0.out
        rw [fil_all HL.out HS.out] at h
        exact h
      clear HC0 HAT
      have HI : Hid ((Tryz.prog.info? 205).map (·.size) = some (bcells L).size) := by rw [Hid, infoA16, bcells_size, HL.out]
      have HZ : Hid ((bcells (List.replicate 16 0)).size = (bcells L).size) := by rw [Hid, noughts_size, bcells_size, HL.out]
      go_wp2_with (first | (refine wpList_load_row rfl 205 (.tmp 1) rfl w.heap.size rfl 205 (bcells L) (0, 0) _ HR.out Tryz.underlying205 rfl HI.out ?_) | (refine wpList_store_row rfl 205 (.tmp 2) (.tmp 74) rfl (w.heap.size + 1) (bcells L) rfl rfl 205 _ HC1.out HI.out HZ.out (bcells_one _) ?_))
      exact bodyPost_ret (v := .agg (bcells L)) (results_cell_row Tryz.results216 _ _ (w.heap.size + 1) 205 _ (0, 0) _ rfl (setRow_heap _ _ _ _ _ _ HC1.out) Tryz.underlying205 rfl HI.out) rfl ⟨rfl, below_setRow' hb (Nat.le_succ _) _⟩
end Go.Proofs.YticofjbngfjjlaaGreatDoor

