/- The reference's Encrypt: what lies in memory. -/
import Derived.Test.YtdjehpbkkbahcaaDoorGShaWa
import Derived.Test.YtdjehpbkkbahcaaDoorGAeV3
import Derived.Test.YtdjehpbkkbahcaaDoorGAeWb
namespace Go.Proofs.YtdjehpbkkbahcaaDoor
open Go.RowKit


/-- Two rows, the second of which is being written. -/
structure TwoA (w wr : World) (a b : Nat) (A B : List UInt8) : Prop where
  below : Below w.heap.size w wr
  la : w.heap.size ≤ a
  lb : w.heap.size ≤ b
  ne : a ≠ b
  ra : Row wr a A
  rb : Row wr b B
theorem TwoA.drew {w wr : World} {a b : Nat} {A B : List UInt8} (h : TwoA w wr a b A B) : TwoA w wr.drew a b A B := ⟨h.below.drew, h.la, h.lb, h.ne, h.ra, h.rb⟩
theorem TwoA.put {w wr : World} {a b : Nat} {A B : List UInt8} (h : TwoA w wr a b A B) (i : Nat) (x : UInt8) : TwoA w (wr.setCell ⟨b, i, none⟩ (.int .u8 (x.toNat : Nat))) a b A (B.set i x) :=
  ⟨h.below.setCell h.lb _, h.la, h.lb, h.ne, h.ra.other h.ne _ _, h.rb.put _ _⟩
/-- Three rows, the third of which is being written. -/
structure Three (w wr : World) (a b c : Nat) (A B C : List UInt8) : Prop where
  below : Below w.heap.size w wr
  la : w.heap.size ≤ a
  lb : w.heap.size ≤ b
  lc : w.heap.size ≤ c
  ac : a ≠ c
  bc : b ≠ c
  ra : Row wr a A
  rb : Row wr b B
  rc : Row wr c C
theorem Three.drew {w wr : World} {a b c : Nat} {A B C : List UInt8} (h : Three w wr a b c A B C) : Three w wr.drew a b c A B C := ⟨h.below.drew, h.la, h.lb, h.lc, h.ac, h.bc, h.ra, h.rb, h.rc⟩
theorem Three.put {w wr : World} {a b c : Nat} {A B C : List UInt8} (h : Three w wr a b c A B C) (i : Nat) (x : UInt8) : Three w (wr.setCell ⟨c, i, none⟩ (.int .u8 (x.toNat : Nat))) a b c A B (C.set i x) :=
  ⟨h.below.setCell h.lc _, h.la, h.lb, h.lc, h.ac, h.bc, h.ra.other h.ac _ _, h.rb.other h.bc _ _, h.rc.put _ _⟩

/-- A step of the writing. -/
theorem TwoA.next {w wr : World} {a b k : Nat} {A L S : List UInt8} (h : TwoA w wr a b A (fil L S k)) (hL : L.length = 16) (hS : S.length = 16) (hk : k < 16) (x : UInt8) (hx : L.getD k 0 = x) : TwoA w (wr.setCell ⟨b, k, none⟩ (.int .u8 (x.toNat : Nat))) a b A (fil L S (k + 1)) := by
  rw [← fil_set hL hS hk x hx]
  exact h.put k x
theorem Three.next {w wr : World} {a b c k : Nat} {A B L S : List UInt8} (h : Three w wr a b c A B (fil L S k)) (hL : L.length = 16) (hS : S.length = 16) (hk : k < 16) (x : UInt8) (hx : L.getD k 0 = x) : Three w (wr.setCell ⟨c, k, none⟩ (.int .u8 (x.toNat : Nat))) a b c A B (fil L S (k + 1)) := by
  rw [← fil_set hL hS hk x hx]
  exact h.put k x
theorem fil_here {L S : List UInt8} {k : Nat} (hL : L.length = 16) (hS : S.length = 16) (hk : k < 16) : k < (fil L S k).length := by rw [fil_length hL hS (by omega)]; exact hk
theorem set_set_fil {L S : List UInt8} {k : Nat} (hL : L.length = 16) (hS : S.length = 16) (hk : k < 16) (x y : UInt8) (hy : L.getD k 0 = y) : ((fil L S k).set k x).set k y = fil L S (k + 1) := by
  rw [List.set_set, fil_set hL hS hk y hy]

theorem turn_sw (s : List UInt8) (c r : Nat) (hc : c < 4) (hr : r < 4) : (Ae.turned (Ae.swapped s)).getD (4 * c + r) 0 = Ae.sw (s.getD (4 * ((c + r) % 4) + r) 0) := by
  rw [Ae.turned, Ae.mk16_at _ _ (by omega), show ((4 * c + r) / 4 + (4 * c + r) % 4) % 4 * 4 + (4 * c + r) % 4 = 4 * ((c + r) % 4) + r by omega, Ae.swapped, Ae.mk16_at _ _ (by omega)]
theorem mixA_at (t : List UInt8) (c r : Nat) (hc : c < 4) (hr : r < 4) : (Ae.mixed t).getD (4 * c + r) 0 = Ae.tw (t.getD (4 * c + r) 0) ^^^ Ae.th (t.getD (4 * c + (r + 1) % 4) 0) ^^^ t.getD (4 * c + (r + 2) % 4) 0 ^^^ t.getD (4 * c + (r + 3) % 4) 0 := by
  rw [Ae.mixed, Ae.mk16_at _ _ (by omega), show (4 * c + r) / 4 = c by omega, show (4 * c + r) % 4 = r by omega]
  rfl
theorem plusA_at (a k : List UInt8) (j : Nat) (hj : j < 16) : (Ae.plus a k).getD j 0 = a.getD j 0 ^^^ k.getD j 0 := Ae.mk16_at _ j hj
theorem keyA_at (E : List UInt8) (i j : Nat) (hj : j < 16) (h : 16 * i + j < E.length) : (Ae.key16 E i).getD j 0 = E[16 * i + j] := by
  rw [Ae.key16, List.getD_eq_getElem?_getD, List.getElem?_take, if_pos hj, List.getElem?_drop, List.getElem?_eq_getElem h]
  rfl
set_option maxRecDepth 100000 in
theorem refT2 (x : UInt8) (W : World) : Calls Tryd.prog 56 #[.int .u8 (x.toNat : Nat), .int .u8 2] W fun e w' => e = .returned (.int .u8 ((Ae.tw x).toNat : Nat)) ∧ w' = W := by
  have := refTimes_any x 2 W
  rw [Ae.tm_two] at this
  exact this.mono fun _ _ ⟨h, g⟩ => ⟨h, g.symm⟩
set_option maxRecDepth 100000 in
theorem refT3 (x : UInt8) (W : World) : Calls Tryd.prog 56 #[.int .u8 (x.toNat : Nat), .int .u8 3] W fun e w' => e = .returned (.int .u8 ((Ae.th x).toNat : Nat)) ∧ w' = W := by
  have := refTimes_any x 3 W
  rw [Ae.tm_three] at this
  exact this.mono fun _ _ ⟨h, g⟩ => ⟨h, g.symm⟩

set_option maxRecDepth 100000 in
theorem refEncrypt_no (k b : List UInt8) (v : Value) (w : World) (h : ¬ (k.length = 16 ∧ b.length = 16)) :
    Calls Tryd.prog 58 #[v, .string ⟨⟨k⟩⟩, .string ⟨⟨b⟩⟩] w fun e w' => e = .returned (.string ⟨⟨[]⟩⟩) ∧ w = w' := by
  by_cases hk : k.length = 16
  · have hb : b.length ≠ 16 := fun e => h ⟨hk, e⟩
    have e1 : ((k.length : Int) != 16) = false := by simp [hk]
    have e2 : (k.length != 16) = false := by simp [hk]
    have e3 : ((b.length : Int) != 16) = true := by simp; omega
    have e4 : (b.length != 16) = true := by simpa using hb
    clear h hk hb
    go_enter Tryd.func58, Tryd.ntmps58
    go_wp2
    go_ret
    exact ⟨rfl, rfl⟩
  · have e1 : ((k.length : Int) != 16) = true := by simp; omega
    have e2 : (k.length != 16) = true := by simpa using hk
    clear h hk
    go_enter Tryd.func58, Tryd.ntmps58
    go_wp2
    go_ret
    exact ⟨rfl, rfl⟩
end Go.Proofs.YtdjehpbkkbahcaaDoor

/- The reference's Encrypt. -/

namespace Go.Proofs.YtdjehpbkkbahcaaDoor
open Go.RowKit

theorem wrapN (z : Int) (n : Nat) (h : z = n) (hn : n < 100000) : IntKind.i64.wrap z = (n : Int) := by
  subst h
  exact IntWalk.i64_in _ (by omega)
theorem tmodN (a : Nat) : (a : Int).tmod 4 = ((a % 4 : Nat) : Int) := (Int.ofNat_tmod _ 4).symm
theorem lt16 {p : Nat} (h : p < 16) : (p : Int) < 16 := by omega
/-- Places of a column, as ints. -/
theorem mix_idx (c r : Nat) (hc : c < 4) (hr : r < 4) : ∃ p f a1 a2 a3 m1 m2 m3 p1 p2 p3 : Nat,
    (p = 4 * c + r ∧ p1 = 4 * c + (r + 1) % 4 ∧ p2 = 4 * c + (r + 2) % 4 ∧ p3 = 4 * c + (r + 3) % 4) ∧ (p < 16 ∧ p1 < 16 ∧ p2 < 16 ∧ p3 < 16) ∧
    (IntKind.i64.wrap (4 * (c : Int)) = (f : Int) ∧ IntKind.i64.wrap ((f : Int) + (r : Int)) = (p : Int)) ∧
    (IntKind.i64.wrap ((r : Int) + 1) = (a1 : Int) ∧ IntKind.i64.wrap ((r : Int) + 2) = (a2 : Int) ∧ IntKind.i64.wrap ((r : Int) + 3) = (a3 : Int)) ∧
    ((a1 : Int).tmod 4 = (m1 : Int) ∧ (a2 : Int).tmod 4 = (m2 : Int) ∧ (a3 : Int).tmod 4 = (m3 : Int)) ∧
    (IntKind.i64.wrap ((f : Int) + (m1 : Int)) = (p1 : Int) ∧ IntKind.i64.wrap ((f : Int) + (m2 : Int)) = (p2 : Int) ∧ IntKind.i64.wrap ((f : Int) + (m3 : Int)) = (p3 : Int)) := by
  refine ⟨4 * c + r, 4 * c, r + 1, r + 2, r + 3, (r + 1) % 4, (r + 2) % 4, (r + 3) % 4, 4 * c + (r + 1) % 4, 4 * c + (r + 2) % 4, 4 * c + (r + 3) % 4, ⟨rfl, rfl, rfl, rfl⟩, ⟨by omega, by omega, by omega, by omega⟩, ⟨?_, ?_⟩, ⟨?_, ?_, ?_⟩, ⟨tmodN _, tmodN _, tmodN _⟩, ⟨?_, ?_, ?_⟩⟩
  · exact wrapN _ _ (by omega) (by omega)
  · exact wrapN _ _ (by omega) (by omega)
  · exact wrapN _ _ (by omega) (by omega)
  · exact wrapN _ _ (by omega) (by omega)
  · exact wrapN _ _ (by omega) (by omega)
  · exact wrapN _ _ (by omega) (by omega)
  · exact wrapN _ _ (by omega) (by omega)
  · exact wrapN _ _ (by omega) (by omega)
theorem last_idx (i j : Nat) (hi : i ≤ 10) (hj : j < 16) : ∃ f q : Nat, q = 16 * i + j ∧ q < 176 ∧ IntKind.i64.wrap (16 * (i : Int)) = (f : Int) ∧ IntKind.i64.wrap ((f : Int) + (j : Int)) = (q : Int) := by
  refine ⟨16 * i, 16 * i + j, rfl, by omega, ?_, ?_⟩
  · exact wrapN _ _ (by omega) (by omega)
  · exact wrapN _ _ (by omega) (by omega)
theorem getElem_same (E : List UInt8) {a b : Nat} (h : a = b) (ha : a < E.length) (hb : b < E.length) : E[a] = E[b] := by subst h; rfl
theorem col16 {c r : Nat} (hc : c < 4) (hr : r < 4) : 4 * c + r < 16 ∧ 4 * ((c + r) % 4) + r < 16 := by omega

set_option maxRecDepth 100000 in
set_option maxHeartbeats 4000000 in
theorem refEncrypt_yes (k b : List UInt8) (gt cap : Nat) (w : World) (hk : k.length = 16) (hb : b.length = 16) (ht : TabS w gt) :
    Calls Tryd.prog 58 #[.slice (some ⟨gt, 0, none⟩) 256 cap, .string ⟨⟨k⟩⟩, .string ⟨⟨b⟩⟩] w fun e w' => e = .returned (.string ⟨⟨Ae.enc k b⟩⟩) ∧ Below w.heap.size w w' := by
  have e1 : ((k.length : Int) != 16) = false := by simp [hk]
  have e2 : (k.length != 16) = false := by simp [hk]
  have e3 : ((b.length : Int) != 16) = false := by simp [hb]
  have e4 : (b.length != 16) = false := by simp [hb]
  have HX := Lib.hid (refExpand_yes k gt cap w hk ht)
  have HL := Lib.hid (Ae.ex_length k hk)
  have HE : Hid (Ae.enc k b = Ae.St (Ae.ex k) b 10) := Lib.hid rfl
  have HT := Lib.hid ht
  have HB := Lib.hid hb
  generalize Ae.enc k b = RES at *
  generalize Ae.ex k = E at *
  have HSL := Lib.hid fun n => Ae.St_length E b n
  have HS0 : Hid (Ae.St E b 0 = Ae.plus b (Ae.key16 E 0)) := Lib.hid rfl
  have HSN : Hid (∀ n, Ae.St E b (n + 1) = Ae.plus (Ae.rest (Ae.St E b n) (n + 1)) (Ae.key16 E (n + 1))) := Lib.hid fun _ => rfl
  generalize Ae.St E b = S at *
  have hmk := make_any 16 (by decide)
  simp only [Int.cast_ofNat_Int] at hmk
  have HZ : Hid ((List.replicate 16 (0 : UInt8)).length = 16) := Lib.hid List.length_replicate
  clear hk hb ht
  generalize List.replicate 16 (0 : UInt8) = Z at *
  go_enter Tryd.func58, Tryd.ntmps58
  go_wp2_with fail
  refine HX.out.mono ?_
  rintro _ w1 ⟨rfl, hb1⟩
  clear HX e1 e2 e3 e4
  have hs1 := hb1.size
  have HST : Hid (Below w.heap.size w (w1.alloc (.cells (bcells Z) 5)) ∧ Row (w1.alloc (.cells (bcells Z) 5)) w1.heap.size (fil (S 0) Z 0)) := Lib.hid ⟨hb1.alloc hs1 _, by rw [fil_zero]; exact Row.new _ _⟩
  obtain ⟨gs, hgs⟩ : ∃ g, g = w1.heap.size := ⟨_, rfl⟩
  have hgw : w.heap.size ≤ gs := by omega
  have HGS := Lib.hid hgs
  clear hgs hb1 hs1
  go_wp2
  rw [← HGS.out] at HST ⊢
  clear HGS
  go_loopw [9] (fun i wr => ∃ p : Nat, p ≤ 16 ∧ i = .int .i64 (p : Nat) ∧ Hid (Below w.heap.size w wr ∧ Row wr gs (fil (S 0) Z p))) (fun i _ => 16 - (intOf i).toNat)
  case atStart => exact ⟨0, by omega, rfl, HST⟩
  case round =>
    obtain ⟨p, hp, rfl, HA⟩ := hrel
    clear HST
    by_cases hlt : p < 16
    · have hpb : p < b.length := by rw [HB.out]; exact hlt
      have hpE : p < E.length := by rw [HL.out]; omega
      have g0 := byte_at b p hpb
      have g1 := byte_at E p hpE
      obtain ⟨x, hx⟩ : ∃ x, b[p] = x := ⟨_, rfl⟩
      obtain ⟨y, hy⟩ : ∃ y, E[p] = y := ⟨_, rfl⟩
      rw [hx] at g0
      rw [hy] at g1
      obtain ⟨hbw, hrow⟩ := HA.out
      have hval : (S 0).getD p 0 = x ^^^ y := by
        have hk0 := keyA_at E 0 p hlt (by rw [HL.out]; omega)
        rw [HS0.out, plusA_at _ _ p hlt, hk0, getD_get b p hpb, hx]
        congr 1
        rw [← hy]
        congr 1
        omega
      obtain ⟨z, hz⟩ : ∃ z, (fil (S 0) Z p).getD p 0 = z := ⟨_, rfl⟩
      have hcz : wr.drew.cell? ⟨gs, p, none⟩ = some (.int .u8 (z.toNat : Nat)) := Row.get (w := wr) hrow p (fil_here (HSL.out 0) HZ.out hlt) z hz
      have hfz : wr.drew.frozen? ⟨gs, p, none⟩ = false := Row.free (w := wr) hrow p
      have HN : Hid (Below w.heap.size w (wr.drew.setCell ⟨gs, p, none⟩ (.int .u8 ((x ^^^ y).toNat : Nat))) ∧ Row (wr.drew.setCell ⟨gs, p, none⟩ (.int .u8 ((x ^^^ y).toNat : Nat))) gs (fil (S 0) Z (p + 1))) := by
        refine ⟨hbw.drew.setCell hgw _, ?_⟩
        rw [← fil_set (HSL.out 0) HZ.out hlt (x ^^^ y) hval]
        exact Row.put (w := wr.drew) hrow p _
      have hv := xor_byte x y
      have z0 : (p : Int) < 16 := by omega
      have z1 : (p : Int) < b.length := by omega
      have z2 : (p : Int) < E.length := by omega
      clear hx hy hval hz hbw hrow HA hmk
      go_wp2_with fail
      refine wp_region_still_tail 9 (by kernel_rfl) (by kernel_rfl) ?_
      change wpStill _ _ (World.drew _) (fun a' => wpList _ _ _ _ a' (World.drew _)) _ _
      generalize wr.drew = w9 at *
      simp only [List.take_succ_cons, List.take_zero, List.drop_succ_cons, List.drop_zero]
      repeat still_step
      refine wpStill_nil ?_
      go_wp2
      go_roundw
      case rel => exact ⟨p + 1, by omega, by go_num, HN⟩
      case measure => simp [intOf]; omega
    · obtain rfl : p = 16 := by omega
      have HA2 : Hid (Below w.heap.size w wr ∧ Row wr gs (S 0)) := by
        have h := HA.out
        rw [fil_all (HSL.out 0) HZ.out] at h
        exact h
      clear HA HS0
      go_wp2
      go_loopw [10] (fun i wr => ∃ n : Nat, n ≤ 10 ∧ i = .int .i64 (n + 1 : Nat) ∧ Hid (Below w.heap.size w wr ∧ Row wr gs (S n))) (fun i _ => 12 - (intOf i).toNat)
      case atStart => exact ⟨0, by omega, rfl, HA2⟩
      case round =>
        obtain ⟨n, hn, rfl, HR⟩ := hrel
        clear HA2
        by_cases hlt : n < 10
        · obtain ⟨s, hs⟩ : ∃ s, S n = s := ⟨_, rfl⟩
          obtain ⟨s', hs'⟩ : ∃ s', S (n + 1) = s' := ⟨_, rfl⟩
          obtain ⟨i, hi⟩ : ∃ i, i = n + 1 := ⟨_, rfl⟩
          have HSs := Lib.hid (HSL.out n)
          have HSs' := Lib.hid (HSL.out (n + 1))
          have HNX := Lib.hid (HSN.out n)
          have HS' := Lib.hid hs'
          rw [hs] at HR HSs HNX
          rw [hs'] at HSs' HNX
          rw [← hi] at HNX ⊢
          have HI := Lib.hid hi
          have hi10 : i ≤ 10 := by omega
          have hi10' : (i : Int) ≤ 10 := by omega
          obtain ⟨T, hT⟩ : ∃ T, Ae.turned (Ae.swapped s) = T := ⟨_, rfl⟩
          have HTL : Hid (T.length = 16) := by rw [Hid, ← hT]; exact Ae.turned_length _
          have HTS : Hid (∀ c r, c < 4 → r < 4 → T.getD (4 * c + r) 0 = Ae.sw (s.getD (4 * ((c + r) % 4) + r) 0)) := by rw [Hid, ← hT]; exact turn_sw s
          have HTT := Lib.hid hT
          obtain ⟨hbw, hrow⟩ := HR.out
          have hrl := hrow.lt
          obtain ⟨g1, hg1⟩ : ∃ g, g = wr.heap.size := ⟨_, rfl⟩
          have HTW : Hid (TwoA w (wr.alloc (.cells (bcells Z) 5)) gs g1 s (fil T Z (4 * 0))) := Lib.hid ⟨hbw.alloc hbw.size _, hgw, by have := hbw.size; omega, by omega, hrow.alloc _, by rw [Nat.mul_zero, fil_zero, hg1]; exact Row.new _ _⟩
          have HG1 := Lib.hid hg1
          clear hs hs' hi hT hg1 hbw hrow HR hrl
          go_wp2
          rw [← HG1.out]
          clear HG1
          go_loopw [12] (fun i wj => ∃ c : Nat, c ≤ 4 ∧ i = .int .i64 (c : Nat) ∧ Hid (TwoA w wj gs g1 s (fil T Z (4 * c)))) (fun i _ => 4 - (intOf i).toNat)
          case atStart => exact ⟨0, by omega, rfl, HTW⟩
          case round =>
            obtain ⟨c, hc, rfl, HTC⟩ := hrel
            clear HTW
            by_cases hc4 : c < 4
            · have hc4' : (c : Int) < 4 := by omega
              go_wp2
              go_loopw [13] (fun i wj => ∃ r : Nat, r ≤ 4 ∧ i = .int .i64 (r : Nat) ∧ Hid (TwoA w wj gs g1 s (fil T Z (4 * c + r)))) (fun i _ => 4 - (intOf i).toNat)
              case atStart => exact ⟨0, by omega, rfl, HTC⟩
              case round =>
                obtain ⟨r, hr, rfl, HTR⟩ := hrel
                clear HTC
                by_cases hr4 : r < 4
                · obtain ⟨x, hx⟩ : ∃ x, s.getD (4 * ((c + r) % 4) + r) 0 = x := ⟨_, rfl⟩
                  have t0 := HTR.out
                  have cx := t0.ra.get (4 * ((c + r) % 4) + r) (by rw [HSs.out]; exact (col16 hc4 hr4).2) x hx
                  have cy := (HT.out.below HT.out.1 t0.below t0.below.size).2 x
                  obtain ⟨z, hz⟩ : ∃ z, (fil T Z (4 * c + r)).getD (4 * c + r) 0 = z := ⟨_, rfl⟩
                  have cz := t0.rb.get (4 * c + r) (fil_here HTL.out HZ.out (col16 hc4 hr4).1) z hz
                  have fz := t0.rb.free (4 * c + r)
                  have HN := Lib.hid (t0.next HTL.out HZ.out (col16 hc4 hr4).1 (Ae.sw x) (by rw [HTS.out c r hc4 hr4, hx]))
                  generalize Ae.sw x = y at *
                  have x8 : (x.toNat : Int) < 256 := by have := UInt8.toNat_lt x; omega
                  clear hx hz t0 HTR hmk
                  go_wp2
                  go_roundw
                  case rel => exact ⟨r + 1, by omega, by go_num, HN⟩
                  case measure => simp [intOf]; omega
                · obtain rfl : r = 4 := by omega
                  go_wp2
                  go_roundw
                  case rel => exact ⟨c + 1, by omega, by go_num, HTR⟩
                  case measure => simp [intOf]; omega
            · obtain rfl : c = 4 := by omega
              obtain ⟨U, hU⟩ : ∃ U, Ae.rest s i = U := ⟨_, rfl⟩
              rw [hU] at HNX
              have HUL : Hid (U.length = 16) := by rw [Hid, ← hU]; exact Ae.rest_length _ _
              have HUM : Hid (i < 10 → ∀ c r, c < 4 → r < 4 → U.getD (4 * c + r) 0 = Ae.tw (T.getD (4 * c + r) 0) ^^^ Ae.th (T.getD (4 * c + (r + 1) % 4) 0) ^^^ T.getD (4 * c + (r + 2) % 4) 0 ^^^ T.getD (4 * c + (r + 3) % 4) 0) := by
                intro hl c r hc hr
                rw [← hU, Ae.rest, if_pos hl, HTT.out]
                exact mixA_at T c r hc hr
              have HUT : Hid (¬ i < 10 → U = T) := by
                intro hl
                rw [← hU, Ae.rest, if_neg hl, HTT.out]
              have t0 := HTC.out
              rw [show 4 * 4 = 16 from rfl, fil_all HTL.out HZ.out] at t0
              have hrs := t0.ra.lt
              have hr1 := t0.rb.lt
              obtain ⟨g2, hg2⟩ : ∃ g, g = wr.heap.size := ⟨_, rfl⟩
              have HTH : Hid (Three w (wr.alloc (.cells (bcells Z) 5)) gs g1 g2 s T (fil U Z (4 * 0))) := Lib.hid ⟨t0.below.alloc t0.below.size _, t0.la, t0.lb, by have := t0.below.size; omega, by omega, by omega, t0.ra.alloc _, t0.rb.alloc _, by rw [Nat.mul_zero, fil_zero, hg2]; exact Row.new _ _⟩
              have HG2 := Lib.hid hg2
              clear t0 hrs hr1 hg2 hU HTC HTT HTS
              go_wp2
              rw [← HG2.out]
              clear HG2
              go_loopw [15] (fun i wj => ∃ c : Nat, c ≤ 4 ∧ i = .int .i64 (c : Nat) ∧ Hid (Three w wj gs g1 g2 s T (fil U Z (4 * c)))) (fun i _ => 4 - (intOf i).toNat)
              case atStart => exact ⟨0, by omega, rfl, HTH⟩
              case round =>
                obtain ⟨c, hc, rfl, HTC⟩ := hrel
                clear HTH
                by_cases hc4 : c < 4
                · have hc4' : (c : Int) < 4 := by omega
                  go_wp2
                  go_loopw [16] (fun i wj => ∃ r : Nat, r ≤ 4 ∧ i = .int .i64 (r : Nat) ∧ Hid (Three w wj gs g1 g2 s T (fil U Z (4 * c + r)))) (fun i _ => 4 - (intOf i).toNat)
                  case atStart => exact ⟨0, by omega, rfl, HTC⟩
                  case round =>
                    obtain ⟨r, hr, rfl, HTR⟩ := hrel
                    clear HTC
                    by_cases hr4 : r < 4
                    · obtain ⟨x, hx⟩ : ∃ x, T.getD (4 * c + r) 0 = x := ⟨_, rfl⟩
                      have t0 := HTR.out
                      have cx := t0.rb.get (4 * c + r) (by rw [HTL.out]; exact (col16 hc4 hr4).1) x hx
                      obtain ⟨z, hz⟩ : ∃ z, (fil U Z (4 * c + r)).getD (4 * c + r) 0 = z := ⟨_, rfl⟩
                      have cz := t0.rc.get (4 * c + r) (fil_here HUL.out HZ.out (col16 hc4 hr4).1) z hz
                      have fz := t0.rc.free (4 * c + r)
                      by_cases hl : i < 10
                      · have hl' : (i : Int) < 10 := by omega
                        obtain ⟨x1, hx1⟩ : ∃ x, T.getD (4 * c + (r + 1) % 4) 0 = x := ⟨_, rfl⟩
                        obtain ⟨x2, hx2⟩ : ∃ x, T.getD (4 * c + (r + 2) % 4) 0 = x := ⟨_, rfl⟩
                        obtain ⟨x3, hx3⟩ : ∃ x, T.getD (4 * c + (r + 3) % 4) 0 = x := ⟨_, rfl⟩
                        have hval := HUM.out hl c r hc4 hr4
                        rw [hx, hx1, hx2, hx3] at hval
                        have hv := xor4_byte (Ae.tw x) (Ae.th x1) x2 x3
                        rw [← hval] at hv
                        obtain ⟨y, hy⟩ : ∃ y, U.getD (4 * c + r) 0 = y := ⟨_, rfl⟩
                        rw [hy] at hv
                        have C2 := Lib.hid fun W => refT2 x W
                        have C3 := Lib.hid fun W => refT3 x1 W
                        generalize Ae.tw x = tx at *
                        generalize Ae.th x1 = tx1 at *
                        obtain ⟨p, f, a1, a2, a3, m1, m2, m3, p1, p2, p3, ⟨hp, hp1, hp2, hp3⟩, ⟨l0, l1, l2, l3⟩, ⟨w0, w1'⟩, ⟨v1, v2, v3⟩, ⟨o1, o2, o3⟩, ⟨u1, u2, u3⟩⟩ := mix_idx c r hc4 hr4
                        rw [← hp] at cx cz fz
                        have t1 := (t0.put p x).drew
                        have k0 := t1.rb.get p (by rw [HTL.out]; exact l0) x (by rw [hp]; exact hx)
                        have k1 := t1.rb.get p1 (by rw [HTL.out]; exact l1) x1 (by rw [hp1]; exact hx1)
                        have k2 := t1.rb.get p2 (by rw [HTL.out]; exact l2) x2 (by rw [hp2]; exact hx2)
                        have k3 := t1.rb.get p3 (by rw [HTL.out]; exact l3) x3 (by rw [hp3]; exact hx3)
                        obtain ⟨z2, hz2⟩ : ∃ z, ((fil U Z (4 * c + r)).set p x).getD p 0 = z := ⟨_, rfl⟩
                        have k4 := t1.rc.get p (by rw [List.length_set, fil_length HUL.out HZ.out (Nat.le_of_lt (col16 hc4 hr4).1)]; exact l0) z2 hz2
                        have k5 := t1.rc.free p
                        have HN : Hid (Three w ((wr.setCell ⟨g2, p, none⟩ (.int .u8 (x.toNat : Nat))).drew.setCell ⟨g2, p, none⟩ (.int .u8 (y.toNat : Nat))) gs g1 g2 s T (fil U Z (4 * c + (r + 1)))) := by
                          have h := t1.put p y
                          rw [show (fil U Z (4 * c + r)).set p x = (fil U Z (4 * c + r)).set (4 * c + r) x by rw [hp], show ((fil U Z (4 * c + r)).set (4 * c + r) x).set p y = ((fil U Z (4 * c + r)).set (4 * c + r) x).set (4 * c + r) y by rw [hp], set_set_fil HUL.out HZ.out (col16 hc4 hr4).1 x y hy] at h
                          exact h
                        have b0 := lt16 l0
                        have b1 := lt16 l1
                        have b2 := lt16 l2
                        have b3 := lt16 l3
                        obtain ⟨w9, hw9⟩ : ∃ w9, (wr.setCell ⟨g2, p, none⟩ (.int .u8 (x.toNat : Nat))).drew = w9 := ⟨_, rfl⟩
                        rw [hw9] at k0 k1 k2 k3 k4 k5 HN
                        have HW9 := Lib.hid hw9
                        clear hx hx1 hx2 hx3 hz hz2 hy hval t0 t1 hw9 hp hp1 hp2 hp3 HTR HUM HUT hmk
                        go_wp2_with fail
                        refine wp_region_still_tail 44 (by kernel_rfl) (by kernel_rfl) ?_
                        change wpStill _ _ (World.drew _) (fun a' => wpList _ _ _ _ a' (World.drew _)) _ _
                        simp only [List.take_succ_cons, List.take_zero, List.drop_succ_cons, List.drop_zero]
                        rw [HW9.out]
                        clear HW9 cx cz fz
                        repeat still_step
                        still_call (C2.out _)
                        repeat still_step
                        still_call (C3.out _)
                        repeat still_step
                        refine wpStill_nil ?_
                        clear k0 k1 k2 k3 v1 v2 v3 o1 o2 o3 u1 u2 u3 w0 w1' b1 b2 b3 hv C2 C3
                        go_wp2
                        go_roundw
                        case rel => first | exact ⟨r + 1, by omega, by go_num, HN⟩ | exact ⟨_, _, _, _, _, _, _, _, _, _, _, _, _, _, _, _, _, _, _, _, _, _, _, _, _, _, _, _, _, _, _, _, _, _, _, _, _, _, _, _, _, _, _, _, _, _, _, _, _, _, _, _, _, _, _, _, _, _, _, _, _, _, _, _, _, ⟨r + 1, by omega, by go_num, HN⟩, rfl⟩
                        case measure => simp [intOf]; omega
                      · have hl' : ¬ (i : Int) < 10 := by omega
                        have HN := Lib.hid (t0.next HUL.out HZ.out (col16 hc4 hr4).1 x (by rw [HUT.out hl]; exact hx))
                        clear hx hz t0 HTR HUM HUT hmk
                        go_wp2
                        go_roundw
                        case rel => exact ⟨r + 1, by omega, by go_num, HN⟩
                        case measure => simp [intOf]; omega
                    · obtain rfl : r = 4 := by omega
                      go_wp2
                      go_roundw
                      case rel => exact ⟨c + 1, by omega, by go_num, HTR⟩
                      case measure => simp [intOf]; omega
                · obtain rfl : c = 4 := by omega
                  have t0 := HTC.out
                  rw [show 4 * 4 = 16 from rfl, fil_all HUL.out HZ.out] at t0
                  have HTF : Hid (TwoA w wr g2 gs U (fil s' s 0)) := Lib.hid ⟨t0.below, t0.lc, t0.la, t0.ac.symm, t0.rc, by rw [fil_zero]; exact t0.ra⟩
                  clear t0 HTC HUM HUT
                  go_wp2
                  go_loopw [17] (fun x wj => ∃ j : Nat, j ≤ 16 ∧ x = .int .i64 (j : Nat) ∧ Hid (TwoA w wj g2 gs U (fil s' s j))) (fun x _ => 16 - (intOf x).toNat)
                  case atStart => exact ⟨0, by omega, rfl, HTF⟩
                  case round =>
                    obtain ⟨j, hj, rfl, HTJ⟩ := hrel
                    clear HTF
                    by_cases hj16 : j < 16
                    · obtain ⟨x, hx⟩ : ∃ x, U.getD j 0 = x := ⟨_, rfl⟩
                      obtain ⟨f, q, hq, hqE, y1, y2⟩ := last_idx i j hi10 hj16
                      have hqL : q < E.length := by rw [HL.out]; exact hqE
                      have gy := byte_at E q hqL
                      obtain ⟨y, hy⟩ : ∃ y, E[q] = y := ⟨_, rfl⟩
                      rw [hy] at gy
                      have hval : s'.getD j 0 = x ^^^ y := by
                        have hq2 : 16 * i + j < E.length := by rw [← hq]; exact hqL
                        have hk0 := keyA_at E i j hj16 hq2
                        rw [HNX.out, plusA_at _ _ j hj16, hx, hk0, ← hy]
                        refine congrArg (x ^^^ ·) ?_
                        exact getElem_same E hq.symm _ _
                      have t0 := HTJ.out.drew
                      have cx := t0.ra.get j (by rw [HUL.out]; exact hj16) x hx
                      obtain ⟨z, hz⟩ : ∃ z, (fil s' s j).getD j 0 = z := ⟨_, rfl⟩
                      have cz := t0.rb.get j (fil_here HSs'.out HSs.out hj16) z hz
                      have fz := t0.rb.free j
                      have HN := Lib.hid (t0.next HSs'.out HSs.out hj16 (x ^^^ y) hval)
                      have hv := xor_byte x y
                      have b0 := lt16 hj16
                      have b1 : (q : Int) < E.length := by omega
                      clear hx hy hval hz t0 HTJ hmk hq hqE
                      go_wp2_with fail
                      refine wp_region_still_tail 13 (by kernel_rfl) (by kernel_rfl) ?_
                      change wpStill _ _ (World.drew _) (fun a' => wpList _ _ _ _ a' (World.drew _)) _ _
                      generalize wr.drew = w9 at *
                      simp only [List.take_succ_cons, List.take_zero, List.drop_succ_cons, List.drop_zero]
                      repeat still_step
                      refine wpStill_nil ?_
                      clear y1 y2
                      go_wp2
                      go_roundw
                      case rel => first | exact ⟨j + 1, by omega, by go_num, HN⟩ | exact ⟨_, _, _, _, _, _, _, _, _, _, _, _, _, _, _, _, _, _, _, ⟨j + 1, by omega, by go_num, HN⟩, rfl⟩
                      case measure => simp [intOf]; omega
                    · obtain rfl : j = 16 := by omega
                      have t0 := HTJ.out
                      rw [fil_all HSs'.out HSs.out] at t0
                      have HEND : Hid (Below w.heap.size w wr ∧ Row wr gs (S (n + 1))) := by
                        rw [Hid, HS'.out]
                        exact ⟨t0.below, t0.rb⟩
                      clear t0 HTJ hmk
                      go_wp2
                      go_roundw
                      case rel => first | exact ⟨n + 1, by omega, by have := HI.out; go_num, HEND⟩ | exact ⟨_, _, _, _, _, _, _, _, _, _, _, _, _, _, _, _, _, _, _, _, _, _, _, _, _, _, _, _, _, _, _, _, _, _, _, _, _, _, _, _, _, _, _, _, _, _, _, _, _, _, _, _, _, _, _, _, _, _, _, _, _, _, _, _, _, _, _, _, _, _, _, _, _, _, _, _, _, _, _, _, _, _, _, _, _, _, _, _, _, _, _, _, _, _, _, _, _, _, _, _, _, _, _, _, _, _, _, _, _, _, _, _, _, _, _, _, _, _, _, _, _, _, _, _, _, _, _, ⟨n + 1, by omega, by have := HI.out; go_num, HEND⟩, rfl⟩
                      case measure => have := HI.out; simp [intOf]; omega
        · obtain rfl : n = 10 := by omega
          obtain ⟨hbw, hrow⟩ := HR.out
          have hcv := conv_any wr gs 16 (S 10) 5 (0, 0) _ hrow (fun j hj => bcells_at _ j hj)
          rw [HSL.out 10] at hcv
          clear HR hmk
          go_wp2
          go_ret
          exact ⟨by rw [HE.out]; rfl, hbw⟩
end Go.Proofs.YtdjehpbkkbahcaaDoor

/- AesEncrypts' walk. -/

namespace Go.Proofs.YtdjehpbkkbahcaaDoor
open Go.RowKit

set_option maxRecDepth 100000 in
theorem refEncrypt_any (k b : List UInt8) (gt cap : Nat) (w : World) (ht : TabS w gt) :
    Calls Tryd.prog 58 #[.slice (some ⟨gt, 0, none⟩) 256 cap, .string ⟨⟨k⟩⟩, .string ⟨⟨b⟩⟩] w fun e w' => e = .returned (.string ⟨⟨encA k b⟩⟩) ∧ Below w.heap.size w w' := by
  by_cases h : k.length = 16 ∧ b.length = 16
  · rw [encA, if_pos h]
    exact refEncrypt_yes k b gt cap w h.1 h.2 ht
  · rw [encA, if_neg h]
    exact (refEncrypt_no k b _ w h).mono fun _ _ ⟨he, hw⟩ => ⟨he, hw ▸ Below.refl _ _⟩
set_option maxRecDepth 100000 in
theorem refExpand_any (k : List UInt8) (gt cap : Nat) (w : World) (ht : TabS w gt) :
    Calls Tryd.prog 66 #[.slice (some ⟨gt, 0, none⟩) 256 cap, .string ⟨⟨k⟩⟩] w fun e w' => e = .returned (.string ⟨⟨exA k⟩⟩) ∧ Below w.heap.size w w' := by
  by_cases h : k.length = 16
  · rw [exA, if_pos h]
    exact refExpand_yes k gt cap w h ht
  · rw [exA, if_neg h]
    exact (refExpand_no k _ w h).mono fun _ _ ⟨he, hw⟩ => ⟨he, hw ▸ Below.refl _ _⟩

end Go.Proofs.YtdjehpbkkbahcaaDoor

