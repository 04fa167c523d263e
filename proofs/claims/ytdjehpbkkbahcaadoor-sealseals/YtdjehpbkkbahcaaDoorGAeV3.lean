/- The reference's Expand. -/
import Derived.Test.YtdjehpbkkbahcaaDoorGAeVa
namespace Go.Proofs.YtdjehpbkkbahcaaDoor
open Go.RowKit

/-- The table of swapped bytes, as a slice lies in memory. -/
def TabS (w : World) (g : Nat) : Prop := g < w.heap.size ∧ ∀ y : UInt8, w.cell? ⟨g, y.toNat, none⟩ = some (.int .u8 ((Ae.sw y).toNat : Nat))
theorem TabS.below {w w' : World} {g B : Nat} (h : TabS w g) (hB : g < B) (hb : Below B w w') (hs : B ≤ w'.heap.size) : TabS w' g :=
  ⟨by omega, fun y => (hb.cell (p := ⟨g, y.toNat, none⟩) hB).trans (h.2 y)⟩
theorem TabS.of {w : World} {base : Nat} {v : Value} (h : OwnB w base v Ae.SB) : ∃ g cap, v = .slice (some ⟨g, 0, none⟩) 256 cap ∧ base ≤ g ∧ TabS w g := by
  obtain ⟨g, cap, cur, hv, hb, hg, hc⟩ := h.form (by rw [SB_length]; decide)
  rw [SB_length] at hv
  exact ⟨g, cap, hv, hb, (Array.getElem?_eq_some_iff.1 hg).1, fun y => by
    rw [cell_of_row _ _ _ _ _ _ hg]
    exact hc y.toNat (by rw [SB_length]; exact UInt8.toNat_lt y)⟩

/-- The first p bytes of all keys are laid, in a block that was made here. -/
def AtByte (w wr : World) (E Z : List UInt8) (p : Nat) : Prop :=
  Below w.heap.size w wr ∧ w.heap.size + 1 ≤ wr.heap.size ∧ wr.heap[w.heap.size]? = some (.cells (bcells (fil E Z p)) 5 (0, 0))
theorem AtByte.drew {w wr : World} {E Z : List UInt8} {p : Nat} (h : AtByte w wr E Z p) : AtByte w wr.drew E Z p := ⟨h.1.drew, h.2.1, h.2.2⟩
theorem AtByte.alloc {w wr : World} {E Z : List UInt8} {p : Nat} (h : AtByte w wr E Z p) (o : Obj) : AtByte w (wr.alloc o) E Z p :=
  ⟨h.1.alloc (by have := h.2.1; omega) _, by have := h.2.1; simp; omega, by rw [heap_alloc_old _ _ (by have := h.2.1; omega)]; exact h.2.2⟩
theorem AtByte.put {w wr : World} {E Z : List UInt8} {p : Nat} (h : AtByte w wr E Z p) (hE : E.length = 176) (hZ : Z.length = 176) (hp : p < 176) (x : UInt8) (hx : E.getD p 0 = x) : AtByte w (wr.setCell ⟨w.heap.size, p, none⟩ (.int .u8 (x.toNat : Nat))) E Z (p + 1) :=
  ⟨h.1.setCell (Nat.le_refl _) _, by simp [World.setCell]; exact h.2.1, by rw [← fil_set hE hZ hp x hx]; exact bset h.2.2 _⟩
theorem AtByte.get {w wr : World} {E Z : List UInt8} {p : Nat} (h : AtByte w wr E Z p) (hE : E.length = 176) (hZ : Z.length = 176) (hp : p ≤ 176) (i : Nat) (hi : i < p) (x : UInt8) (hx : E.getD i 0 = x) : wr.cell? ⟨w.heap.size, i, none⟩ = some (.int .u8 (x.toNat : Nat)) :=
  bget h.2.2 (by rw [fil_length hE hZ hp]; omega) x ((fil_low hE hp hi).trans hx)
theorem AtByte.here {w wr : World} {E Z : List UInt8} {p : Nat} (h : AtByte w wr E Z p) (hE : E.length = 176) (hZ : Z.length = 176) (hp : p < 176) : ∃ z : UInt8, wr.cell? ⟨w.heap.size, p, none⟩ = some (.int .u8 (z.toNat : Nat)) ∧ wr.frozen? ⟨w.heap.size, p, none⟩ = false :=
  ⟨_, bget h.2.2 (by rw [fil_length hE hZ (by omega)]; exact hp) _ rfl, frozen_of_row _ _ _ _ _ h.2.2⟩

set_option maxRecDepth 100000 in
theorem refExpand_no (k : List UInt8) (v : Value) (w : World) (h : k.length ≠ 16) :
    Calls Tryd.prog 66 #[v, .string ⟨⟨k⟩⟩] w fun e w' => e = .returned (.string ⟨⟨[]⟩⟩) ∧ w = w' := by
  have e1 : ((k.length : Int) != 16) = true := by simp; omega
  have e2 : (k.length != 16) = true := by simpa using h
  clear h
  go_enter Tryd.func66, Tryd.ntmps66
  go_wp2
  go_ret
  exact ⟨rfl, rfl⟩

theorem ex_low (key : List UInt8) (h : key.length = 16) (i : Nat) (hi : i < key.length) : (Ae.ex key).getD i 0 = key[i] := by
  rw [Ae.KS_ex key h 0 i (by decide) (by omega), Ae.KS, List.getD_eq_getElem?_getD, List.getElem?_eq_getElem hi]
  rfl

set_option maxRecDepth 100000 in
set_option maxHeartbeats 2000000 in
theorem refExpand_yes (k : List UInt8) (gt cap : Nat) (w : World) (h : k.length = 16) (ht : TabS w gt) :
    Calls Tryd.prog 66 #[.slice (some ⟨gt, 0, none⟩) 256 cap, .string ⟨⟨k⟩⟩] w fun e w' => e = .returned (.string ⟨⟨Ae.ex k⟩⟩) ∧ Below w.heap.size w w' := by
  have e1 : ((k.length : Int) != 16) = false := by simp [h]
  have e2 : (k.length != 16) = false := by simp [h]
  have HL := Lib.hid (Ae.ex_length k h)
  have HLOW := Lib.hid (ex_low k h)
  have HREC := Lib.hid (ex_rec k h)
  have HK := Lib.hid h
  have HT := Lib.hid ht
  generalize Ae.ex k = E at *
  have hmk := make_any 176 (by decide)
  simp only [Int.cast_ofNat_Int] at hmk
  have HZ : Hid ((List.replicate 176 (0 : UInt8)).length = 176) := Lib.hid List.length_replicate
  have hst : AtByte w (w.alloc (.cells (bcells (List.replicate 176 0)) 5)) E (List.replicate 176 0) 0 := ⟨(Below.refl _ _).alloc (Nat.le_refl _) _, by simp, by rw [fil_zero]; exact heap_alloc_new _ _⟩
  have HST := Lib.hid hst
  clear h ht hst
  generalize List.replicate 176 (0 : UInt8) = Z at *
  go_enter Tryd.func66, Tryd.ntmps66
  go_wp2
  clear hmk
  go_loopw [6] (fun i wr => ∃ p : Nat, p ≤ 16 ∧ i = .int .i64 (p : Nat) ∧ Hid (AtByte w wr E Z p)) (fun i _ => 16 - (intOf i).toNat)
  case atStart => exact ⟨0, by omega, rfl, HST⟩
  case round =>
    obtain ⟨p, hp, rfl, HA⟩ := hrel
    clear HST
    by_cases hlt : p < 16
    · have hpk : p < k.length := by rw [HK.out]; exact hlt
      have hby := byte_at k p hpk
      obtain ⟨z, hz, hfz⟩ := HA.out.here HL.out HZ.out (by omega)
      have HN := Lib.hid (HA.out.put HL.out HZ.out (by omega) _ (HLOW.out p hpk))
      go_wp2
      go_roundw
      case rel => exact ⟨p + 1, by omega, by go_num, HN⟩
      case measure => simp [intOf]; omega
    · obtain rfl : p = 16 := by omega
      go_wp2
      go_loopw [7, 8] (fun r i wr => ∃ n : Nat, n ≤ 40 ∧ r = .int .u8 ((Ae.twi ((n + 3) / 4) 1).toNat : Nat) ∧ i = .int .i64 (n + 4 : Nat) ∧ Hid (AtByte w wr E Z (16 + 4 * n))) (fun _ i _ => 44 - (intOf i).toNat)
      case atStart => exact ⟨0, by omega, rfl, rfl, HA⟩
      case round =>
        obtain ⟨n, hn', rfl, rfl, HW⟩ := hrel
        clear HA
        by_cases hn : n < 40
        · obtain ⟨a, ha⟩ : ∃ x, E.getD (12 + 4 * n) 0 = x := ⟨_, rfl⟩
          obtain ⟨b, hb⟩ : ∃ x, E.getD (13 + 4 * n) 0 = x := ⟨_, rfl⟩
          obtain ⟨c, hc⟩ : ∃ x, E.getD (14 + 4 * n) 0 = x := ⟨_, rfl⟩
          obtain ⟨d, hd⟩ : ∃ x, E.getD (15 + 4 * n) 0 = x := ⟨_, rfl⟩
          obtain ⟨i, hi⟩ : ∃ i, i = n + 4 := ⟨_, rfl⟩
          obtain ⟨f, hf⟩ : ∃ f, f = 4 * i := ⟨_, rfl⟩
          obtain ⟨p0, h0⟩ : ∃ p, p = 12 + 4 * n := ⟨_, rfl⟩
          obtain ⟨p1, h1⟩ : ∃ p, p = 13 + 4 * n := ⟨_, rfl⟩
          obtain ⟨p2, h2⟩ : ∃ p, p = 14 + 4 * n := ⟨_, rfl⟩
          obtain ⟨p3, h3⟩ : ∃ p, p = 15 + 4 * n := ⟨_, rfl⟩
          have WD := HW.out.drew
          have q0 := WD.get HL.out HZ.out (by omega) p0 (by omega) a (by rw [h0]; exact ha)
          have q1 := WD.get HL.out HZ.out (by omega) p1 (by omega) b (by rw [h1]; exact hb)
          have q2 := WD.get HL.out HZ.out (by omega) p2 (by omega) c (by rw [h2]; exact hc)
          have q3 := WD.get HL.out HZ.out (by omega) p3 (by omega) d (by rw [h3]; exact hd)
          have x0 : IntKind.i64.wrap (4 * (i : Int)) = (f : Int) := by rw [IntWalk.i64_in _ (by omega)]; omega
          have y0 : IntKind.i64.wrap ((f : Int) - 4) = (p0 : Int) := by rw [IntWalk.i64_in _ (by omega)]; omega
          have y1 : IntKind.i64.wrap ((f : Int) - 3) = (p1 : Int) := by rw [IntWalk.i64_in _ (by omega)]; omega
          have y2 : IntKind.i64.wrap ((f : Int) - 2) = (p2 : Int) := by rw [IntWalk.i64_in _ (by omega)]; omega
          have y3 : IntKind.i64.wrap ((f : Int) - 1) = (p3 : Int) := by rw [IntWalk.i64_in _ (by omega)]; omega
          have z0 : (p0 : Int) < 176 := by omega
          have z1 : (p1 : Int) < 176 := by omega
          have z2 : (p2 : Int) < 176 := by omega
          have z3 : (p3 : Int) < 176 := by omega
          have i44 : (i : Int) < 44 := by omega
          have HI := Lib.hid hi
          have HF := Lib.hid hf
          rw [← hi]
          have HWD := Lib.hid WD
          clear WD HW hf h0 h1 h2 h3 hi
          go_wp2_with fail
          refine wp_region_still_tail 24 (by kernel_rfl) (by kernel_rfl) ?_
          change wpStill _ _ (World.drew _) (fun a' => wpList _ _ _ _ a' (World.drew _)) _ _
          generalize wr.drew = w1 at *
          simp only [List.take_succ_cons, List.take_zero, List.drop_succ_cons, List.drop_zero]
          repeat still_step
          refine wpStill_nil ?_
          clear q0 q1 q2 q3 x0 y0 y1 y2 y3 z0 z1 z2 z3
          by_cases hn4 : n % 4 = 0
          · have hdec : (((i : Int) % 4) == 0) = true := by simp; have := HI.out; omega
            have HLS : Hid (Ae.lst E n = [Ae.sw b ^^^ Ae.twi (n / 4) 1, Ae.sw c, Ae.sw d, Ae.sw a]) := by rw [Hid, Ae.lst_yes E n hn4, ha, hb, hc, hd]
            have HTW : Hid (∀ W, Calls Tryd.prog 56 #[.int .u8 ((Ae.twi (n / 4) 1).toNat : Nat), .int .u8 2] W fun e w' => e = .returned (.int .u8 ((Ae.twi (n / 4 + 1) 1).toNat : Nat)) ∧ W = w') := Lib.hid fun W => by
              have := refTimes_any (Ae.twi (n / 4) 1) 2 W
              rw [Ae.tm_two, twi_next] at this
              exact this
            have RREL : Value.int IntKind.u8 ((Ae.twi (n / 4 + 1) 1).toNat : Nat) = Value.int IntKind.u8 ((Ae.twi ((n + 1 + 3) / 4) 1).toNat : Nat) := by rw [show (n + 1 + 3) / 4 = n / 4 + 1 by omega]
            rw [show (n + 3) / 4 = n / 4 by omega]
            have HRREL := Lib.hid RREL
            clear ha hb hc hd hn4 RREL
            generalize Ae.twi (n / 4 + 1) 1 = r2 at *
            generalize Ae.twi (n / 4) 1 = r1 at *
            have W2 := (HWD.out.alloc (.cells (bcells [a, b, c, d]) 5)).drew
            have hg1 := HWD.out.2.1
            have hbx := W2.1
            have hsx : w.heap.size ≤ (w1.alloc (.cells (bcells [a, b, c, d]) 5)).drew.heap.size := by have := W2.2.1; omega
            have htab := HT.out.below HT.out.1 hbx hsx
            have ta := htab.2 a
            have tb := htab.2 b
            have tc := htab.2 c
            have td := htab.2 d
            have hnew : (w1.alloc (.cells (bcells [a, b, c, d]) 5)).drew.heap[w1.heap.size]? = some (.cells (bcells [a, b, c, d]) 5 (0, 0)) := heap_alloc_new w1 _
            have q0 := bget (i := 0) hnew (by simp) a rfl
            have q1 := bget (i := 1) hnew (by simp) b rfl
            have q2 := bget (i := 2) hnew (by simp) c rfl
            have q3 := bget (i := 3) hnew (by simp) d rfl
            have x0 : (a.toNat : Int) < 256 := by have := UInt8.toNat_lt a; omega
            have x1 : (b.toNat : Int) < 256 := by have := UInt8.toNat_lt b; omega
            have x2 : (c.toNat : Int) < 256 := by have := UInt8.toNat_lt c; omega
            have x3 : (d.toNat : Int) < 256 := by have := UInt8.toNat_lt d; omega
            generalize Ae.sw a = sa at *
            generalize Ae.sw b = sb at *
            generalize Ae.sw c = sc at *
            generalize Ae.sw d = sd at *
            have hv := xor_byte sb r1
            generalize sb ^^^ r1 = l0 at *
            obtain ⟨w3, hw3⟩ : ∃ w3, (w1.alloc (.cells (bcells [a, b, c, d]) 5)).drew = w3 := ⟨_, rfl⟩
            rw [hw3] at W2 ta tb tc td q0 q1 q2 q3
            have HW3 := Lib.hid hw3
            have HW4 : Hid (AtByte w (w3.alloc (.cells (bcells [l0, sc, sd, sa]) 5)) E Z (16 + 4 * n + 0)) := Lib.hid (W2.alloc _)
            have HG4 : Hid ((w3.alloc (.cells (bcells [l0, sc, sd, sa]) 5)).heap[w3.heap.size]? = some (.cells (bcells [l0, sc, sd, sa]) 5 (0, 0))) := Lib.hid (heap_alloc_new _ _)
            have hg : w.heap.size < w3.heap.size := by have := W2.2.1; omega
            have HI4 : Hid ([l0, sc, sd, sa].length = 4) := Lib.hid rfl
            clear hw3 hnew htab hbx hsx hg1 W2 HWD
            go_wp2_with fail
            refine wp_region_still_tail 26 (by kernel_rfl) (by kernel_rfl) ?_
            change wpStill _ _ (World.drew _) (fun a' => wpList _ _ _ _ a' (World.drew _)) _ _
            simp only [List.take_succ_cons, List.take_zero, List.drop_succ_cons, List.drop_zero]
            generalize hWW : World.drew _ = WW
            have hWW3 : w3 = WW := HW3.out.symm.trans hWW
            clear hWW HW3
            subst hWW3
            repeat still_step
            refine wpStill_nil ?_
            clear q0 q1 q2 q3 ta tb tc td x0 x1 x2 x3 hv
            go_wp2_with fail
            refine (HTW.out _).mono ?_
            rintro _ _ ⟨rfl, rfl⟩
            clear HTW
            generalize hw4 : w3.alloc _ = w4
            have hw4' : w3.alloc (.cells (bcells [l0, sc, sd, sa]) 5) = w4 := hw4
            rw [hw4'] at HW4 HG4
            clear hw4 hw4'
            obtain ⟨g, hgg⟩ : ∃ g, g = w3.heap.size := ⟨_, rfl⟩
            rw [← hgg] at HG4 hg ⊢
            clear hgg
            obtain ⟨l4, hl4⟩ : ∃ l4, [l0, sc, sd, sa] = l4 := ⟨_, rfl⟩
            rw [hl4] at HG4 HI4 HLS
            clear hl4 hdec i44
            go_wp2
            go_loopw [10] (fun i wj => ∃ j : Nat, j ≤ 4 ∧ i = .int .i64 (j : Nat) ∧ Hid (AtByte w wj E Z (16 + 4 * n + j)) ∧ w.heap.size < g ∧ Hid (wj.heap[g]? = some (.cells (bcells l4) 5 (0, 0)))) (fun i _ => 4 - (intOf i).toNat)
            case atStart => exact ⟨0, by omega, rfl, HW4, hg, HG4⟩
            case round =>
              obtain ⟨j, hj, rfl, HWj, hg', HGj⟩ := hrel
              clear HW4 HG4
              by_cases hlt4 : j < 4
              · have hi := HI.out
                have hf := HF.out
                obtain ⟨x, hx⟩ : ∃ x, E.getD (4 * n + j) 0 = x := ⟨_, rfl⟩
                obtain ⟨y, hy⟩ : ∃ y, l4.getD j 0 = y := ⟨_, rfl⟩
                obtain ⟨m, hm⟩ : ∃ m, m = 4 * n + j := ⟨_, rfl⟩
                obtain ⟨q, hq⟩ : ∃ q, q = 4 * n := ⟨_, rfl⟩
                obtain ⟨p, hp⟩ : ∃ p, p = 16 + 4 * n + j := ⟨_, rfl⟩
                have WD := HWj.out.drew
                have cx := WD.get HL.out HZ.out (by omega) m (by omega) x (by rw [hm]; exact hx)
                have cy : wr.drew.cell? ⟨g, j, none⟩ = some (.int .u8 (y.toNat : Nat)) := bget (wr := wr) HGj.out (by rw [HI4.out]; exact hlt4) y hy
                rw [← hp] at WD
                obtain ⟨z, hz, hfz⟩ := WD.here HL.out HZ.out (by omega)
                have HN := Lib.hid (WD.put HL.out HZ.out (by omega) (x ^^^ y) (by rw [hp, HREC.out n j hn hlt4, hx, HLS.out, hy]))
                have HN' : Hid (AtByte w (wr.drew.setCell ⟨w.heap.size, p, none⟩ (.int .u8 ((x ^^^ y).toNat : Nat))) E Z (16 + 4 * n + (j + 1))) := by
                  rw [Hid, show 16 + 4 * n + (j + 1) = p + 1 by omega]; exact HN.out
                have HG' : Hid ((wr.drew.setCell ⟨w.heap.size, p, none⟩ (.int .u8 ((x ^^^ y).toNat : Nat))).heap[g]? = some (.cells (bcells l4) 5 (0, 0))) := by
                  rw [Hid, bset_other (by omega)]; exact HGj.out
                have hv := xor_byte x y
                have x0 : IntKind.i64.wrap (4 * (i : Int)) = (f : Int) := by rw [IntWalk.i64_in _ (by omega)]; omega
                have x1 : IntKind.i64.wrap ((f : Int) + (j : Int)) = (p : Int) := by rw [IntWalk.i64_in _ (by omega)]; omega
                have x2 : IntKind.i64.wrap ((f : Int) - 16) = (q : Int) := by rw [IntWalk.i64_in _ (by omega)]; omega
                have x3 : IntKind.i64.wrap ((q : Int) + (j : Int)) = (m : Int) := by rw [IntWalk.i64_in _ (by omega)]; omega
                have z0 : (m : Int) < 176 := by omega
                have z1 : (p : Int) < 176 := by omega
                have z2 : (j : Int) < 4 := by omega
                clear hx hy hm hq hp WD HN HWj HGj hi hf
                go_wp2_with fail
                refine wp_region_still_tail 18 (by kernel_rfl) (by kernel_rfl) ?_
                change wpStill _ _ (World.drew _) (fun a' => wpList _ _ _ _ a' (World.drew _)) _ _
                generalize wr.drew = w9 at *
                simp only [List.take_succ_cons, List.take_zero, List.drop_succ_cons, List.drop_zero]
                repeat still_step
                refine wpStill_nil ?_
                go_wp2
                go_roundw
                case rel => exact ⟨j + 1, by omega, by go_num, HN', hg', HG'⟩
                case measure => simp [intOf]; omega
              · obtain rfl : j = 4 := by omega
                have HWe : Hid (AtByte w wr E Z (16 + 4 * (n + 1))) := by
                  rw [Hid, show 16 + 4 * (n + 1) = 16 + 4 * n + 4 by omega]
                  exact HWj.out
                clear HWj HGj
                have hb44 : i ≤ 44 := by have := HI.out; omega
                go_wp2
                go_roundw
                case rel =>
                  refine ⟨_, _, _, _, _, _, _, _, _, _, _, _, _, _, _, _, _, _, _, _, _, _, _, _, _, _, _, _, _, _, _, _, _, _, _, _, _, _, _, _, _, _, _, _, _, _, _, _, _, _, _, _, _, _, _, _, _, _, _, _, _, _, _, _, _, _, _, _, _, _, _, _, _, _, _, _, _, _, _, _, _, _, _, _, _, _, _, _, ⟨n + 1, ?_, HRREL.out, ?_, HWe⟩, rfl⟩
                  · omega
                  · have := HI.out; go_num
                case measure => simp [intOf]; have := HI.out; omega
          · have hdec : (((i : Int) % 4) == 0) = false := by simp; have := HI.out; omega
            have HLS : Hid (Ae.lst E n = [a, b, c, d]) := by rw [Hid, Ae.lst_no E n hn4, ha, hb, hc, hd]
            have RREL : Value.int IntKind.u8 ((Ae.twi ((n + 3) / 4) 1).toNat : Nat) = Value.int IntKind.u8 ((Ae.twi ((n + 1 + 3) / 4) 1).toNat : Nat) := by rw [show (n + 1 + 3) / 4 = (n + 3) / 4 by omega]
            have HRREL := Lib.hid RREL
            clear ha hb hc hd hn4 RREL
            generalize Ae.twi ((n + 3) / 4) 1 = r1 at *
            have HW4 : Hid (AtByte w (w1.alloc (.cells (bcells [a, b, c, d]) 5)) E Z (16 + 4 * n + 0)) := Lib.hid (HWD.out.alloc _)
            have HG4 : Hid ((w1.alloc (.cells (bcells [a, b, c, d]) 5)).heap[w1.heap.size]? = some (.cells (bcells [a, b, c, d]) 5 (0, 0))) := Lib.hid (heap_alloc_new _ _)
            have hg : w.heap.size < w1.heap.size := by have := HWD.out.2.1; omega
            have HI4 : Hid ([a, b, c, d].length = 4) := Lib.hid rfl
            clear HWD
            go_wp2_with fail
            generalize hw4 : w1.alloc _ = w4
            have hw4' : w1.alloc (.cells (bcells [a, b, c, d]) 5) = w4 := hw4
            rw [hw4'] at HW4 HG4
            clear hw4 hw4'
            obtain ⟨g, hgg⟩ : ∃ g, g = w1.heap.size := ⟨_, rfl⟩
            rw [← hgg] at HG4 hg ⊢
            clear hgg
            obtain ⟨l4, hl4⟩ : ∃ l4, [a, b, c, d] = l4 := ⟨_, rfl⟩
            rw [hl4] at HG4 HI4 HLS
            clear hl4 hdec i44
            go_loopw [10] (fun i wj => ∃ j : Nat, j ≤ 4 ∧ i = .int .i64 (j : Nat) ∧ Hid (AtByte w wj E Z (16 + 4 * n + j)) ∧ w.heap.size < g ∧ Hid (wj.heap[g]? = some (.cells (bcells l4) 5 (0, 0)))) (fun i _ => 4 - (intOf i).toNat)
            case atStart => exact ⟨0, by omega, rfl, HW4, hg, HG4⟩
            case round =>
              obtain ⟨j, hj, rfl, HWj, hg', HGj⟩ := hrel
              clear HW4 HG4
              by_cases hlt4 : j < 4
              · have hi := HI.out
                have hf := HF.out
                obtain ⟨x, hx⟩ : ∃ x, E.getD (4 * n + j) 0 = x := ⟨_, rfl⟩
                obtain ⟨y, hy⟩ : ∃ y, l4.getD j 0 = y := ⟨_, rfl⟩
                obtain ⟨m, hm⟩ : ∃ m, m = 4 * n + j := ⟨_, rfl⟩
                obtain ⟨q, hq⟩ : ∃ q, q = 4 * n := ⟨_, rfl⟩
                obtain ⟨p, hp⟩ : ∃ p, p = 16 + 4 * n + j := ⟨_, rfl⟩
                have WD := HWj.out.drew
                have cx := WD.get HL.out HZ.out (by omega) m (by omega) x (by rw [hm]; exact hx)
                have cy : wr.drew.cell? ⟨g, j, none⟩ = some (.int .u8 (y.toNat : Nat)) := bget (wr := wr) HGj.out (by rw [HI4.out]; exact hlt4) y hy
                rw [← hp] at WD
                obtain ⟨z, hz, hfz⟩ := WD.here HL.out HZ.out (by omega)
                have HN := Lib.hid (WD.put HL.out HZ.out (by omega) (x ^^^ y) (by rw [hp, HREC.out n j hn hlt4, hx, HLS.out, hy]))
                have HN' : Hid (AtByte w (wr.drew.setCell ⟨w.heap.size, p, none⟩ (.int .u8 ((x ^^^ y).toNat : Nat))) E Z (16 + 4 * n + (j + 1))) := by
                  rw [Hid, show 16 + 4 * n + (j + 1) = p + 1 by omega]; exact HN.out
                have HG' : Hid ((wr.drew.setCell ⟨w.heap.size, p, none⟩ (.int .u8 ((x ^^^ y).toNat : Nat))).heap[g]? = some (.cells (bcells l4) 5 (0, 0))) := by
                  rw [Hid, bset_other (by omega)]; exact HGj.out
                have hv := xor_byte x y
                have x0 : IntKind.i64.wrap (4 * (i : Int)) = (f : Int) := by rw [IntWalk.i64_in _ (by omega)]; omega
                have x1 : IntKind.i64.wrap ((f : Int) + (j : Int)) = (p : Int) := by rw [IntWalk.i64_in _ (by omega)]; omega
                have x2 : IntKind.i64.wrap ((f : Int) - 16) = (q : Int) := by rw [IntWalk.i64_in _ (by omega)]; omega
                have x3 : IntKind.i64.wrap ((q : Int) + (j : Int)) = (m : Int) := by rw [IntWalk.i64_in _ (by omega)]; omega
                have z0 : (m : Int) < 176 := by omega
                have z1 : (p : Int) < 176 := by omega
                have z2 : (j : Int) < 4 := by omega
                clear hx hy hm hq hp WD HN HWj HGj hi hf
                go_wp2_with fail
                refine wp_region_still_tail 18 (by kernel_rfl) (by kernel_rfl) ?_
                change wpStill _ _ (World.drew _) (fun a' => wpList _ _ _ _ a' (World.drew _)) _ _
                generalize wr.drew = w9 at *
                simp only [List.take_succ_cons, List.take_zero, List.drop_succ_cons, List.drop_zero]
                repeat still_step
                refine wpStill_nil ?_
                go_wp2
                go_roundw
                case rel => exact ⟨j + 1, by omega, by go_num, HN', hg', HG'⟩
                case measure => simp [intOf]; omega
              · obtain rfl : j = 4 := by omega
                have HWe : Hid (AtByte w wr E Z (16 + 4 * (n + 1))) := by
                  rw [Hid, show 16 + 4 * (n + 1) = 16 + 4 * n + 4 by omega]
                  exact HWj.out
                clear HWj HGj
                have hb44 : i ≤ 44 := by have := HI.out; omega
                go_wp2
                go_roundw
                case rel =>
                  refine ⟨_, _, _, _, _, _, _, _, _, _, _, _, _, _, _, _, _, _, _, _, _, _, _, _, _, _, _, _, _, _, _, _, _, _, _, _, _, _, _, _, _, _, _, _, _, _, _, _, _, _, _, _, _, _, _, _, _, _, _, _, _, _, _, _, _, _, _, _, _, _, _, _, _, _, _, _, _, _, _, _, _, _, _, _, _, _, _, _, ⟨n + 1, ?_, HRREL.out, ?_, HWe⟩, rfl⟩
                  · omega
                  · have := HI.out; go_num
                case measure => simp [intOf]; have := HI.out; omega
        · obtain rfl : n = 40 := by omega
          obtain ⟨hbe, _, hc1⟩ := HW.out
          rw [fil_all HL.out HZ.out] at hc1
          have hcv := conv_any wr w.heap.size 176 E 5 (0, 0) _ hc1 (fun j hj => bcells_at _ j hj)
          rw [HL.out] at hcv
          clear hc1 HW
          go_wp2
          go_ret
          exact ⟨rfl, hbe⟩
end Go.Proofs.YtdjehpbkkbahcaaDoor

