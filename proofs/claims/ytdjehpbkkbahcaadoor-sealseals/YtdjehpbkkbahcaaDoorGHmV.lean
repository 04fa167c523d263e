/- The document's answer: number. -/
import Derived.Test.YtdjehpbkkbahcaaDoorGDeW
import Derived.Test.YtdjehpbkkbahcaaDoorGHmW
import Derived.Test.YtdjehpbkkbahcaaDoorGShaVb
namespace Go.Proofs.YtdjehpbkkbahcaaDoor
open Go.RowKit

/-- The eight bytes when k of them, from the end, are written. -/
def fl (u k : Nat) : List UInt8 := List.replicate (8 - k) 0 ++ (De.num u).drop (8 - k)
theorem fl_set (u k : Nat) (hk : k < 8) : (fl u k).set (7 - k) (Sh.byt (u / 2 ^ (8 * k))) = fl u (k + 1) := by
  rcases k with _ | _ | _ | _ | _ | _ | _ | _ | k
  all_goals first | rfl | omega
theorem fl_length (u k : Nat) (hk : k ≤ 8) : (fl u k).length = 8 := by
  rw [fl, List.length_append, List.length_replicate, List.length_drop, De.num_length]
  omega
theorem fl_end (u : Nat) : fl u 8 = De.num u := rfl
theorem fl_start (u : Nat) : fl u 0 = List.replicate 8 0 := rfl

set_option maxRecDepth 100000 in
set_option maxHeartbeats 1000000 in
theorem refNumber_any (n : Int) (w : World) :
    Calls Tryd.prog 45 #[.int .i64 n] w fun e w' => e = .returned (.string ⟨⟨De.num (De.un n)⟩⟩) ∧ Below w.heap.size w w' := by
  have hmk := make_full 8 (by omega) w
  simp only [Int.cast_ofNat_Int] at hmk
  have hu : IntKind.u64.wrap n = ((De.un n : Nat) : Int) := by rw [IntKind.wrap_u64, De.un_cast]
  have HLT := Lib.hid (De.un_lt n)
  generalize De.un n = u at *
  have HR0 : Row (w.alloc (.cells (bcells (List.replicate 8 0)) 5)) w.heap.size (fl u 0) := Row.new _ _
  have hb0 : Below w.heap.size w (w.alloc (.cells (bcells (List.replicate 8 0)) 5)) := (Below.refl _ _).alloc (Nat.le_refl _) _
  generalize w.alloc (.cells (bcells (List.replicate 8 0)) 5) = W0 at *
  obtain ⟨z, hz⟩ : ∃ z, z = w.heap.size := ⟨_, rfl⟩
  rw [← hz] at hmk HR0 hb0 ⊢
  have HZ := Lib.hid hz
  clear hz
  go_enter Tryd.func45, Tryd.ntmps45
  go_wp2
  go_loopw [4, 5] (fun vx vi wr => ∃ (k x : Nat) (i : Int), k ≤ 8 ∧ Hid (i = 7 - (k : Nat)) ∧ Hid (x = u / 2 ^ (8 * k)) ∧ vx = .int .u64 (x : Nat) ∧ vi = .int .i64 i ∧ Row wr z (fl u k) ∧ Below z w wr) (fun _ i _ => (intOf i + 1).toNat)
  case atStart => exact ⟨0, u, 7, by omega, rfl, by rw [Hid]; simp, rfl, rfl, HR0, hb0⟩
  case round =>
    obtain ⟨k, x, i, hk, HI, HX, rfl, rfl, HR, hb⟩ := hrel
    by_cases hlt : k < 8
    · have h0 : 0 ≤ i := by have := HI.out; omega
      have h1 : i ≤ 7 := by have := HI.out; omega
      obtain ⟨j, rfl⟩ := Int.eq_ofNat_of_zero_le h0
      have HJ : Hid (j = 7 - k) := by have := HI.out; rw [Hid]; omega
      have hv : (x : Int) % 256 = ((Sh.byt x).toNat : Nat) := by rw [Sh.byt, UInt8.toNat_ofNat']; omega
      have HS : Hid ((fl u k).set j (Sh.byt x) = fl u (k + 1)) := by rw [Hid, HJ.out, HX.out]; exact fl_set u k hlt
      have HX2 : Hid (x / 256 = u / 2 ^ (8 * (k + 1))) := by
        rw [Hid, HX.out, Nat.div_div_eq_div_mul, show 8 * (k + 1) = 8 * k + 8 from rfl, Nat.pow_add]
      have hxl : x < 18446744073709551616 := by
        rw [HX.out]
        exact Nat.lt_of_le_of_lt (Nat.div_le_self _ _) HLT.out
      have hput := HR.put j (Sh.byt x)
      have hfree := HR.free j
      have hget := HR.get j (by rw [fl_length u k hk]; omega) _ rfl
      have hj8 : (j : Int) < 8 := by omega
      generalize Sh.byt x = d at *
      generalize (fl u k).getD j 0 = d0 at *
      generalize fl u k = l at *
      go_wp2
      go_roundw
      case rel => exact ⟨k + 1, x / 256, (j : Int) - 1, by omega, by have := HI.out; rw [Hid]; omega, HX2, by go_num, by go_num, by rw [← HS.out]; exact hput, hb.setCell (p := ⟨z, j, none⟩) (Nat.le_refl _) _⟩
      case measure => simp [intOf]
    · obtain rfl : k = 8 := by omega
      have h0 : i < 0 := by have := HI.out; omega
      have hcv := conv_any wr z 8 (De.num u) 5 (0, 0) _ HR (fun j hj => bcells_at _ j hj)
      rw [De.num_length] at hcv
      obtain ⟨L, HL⟩ : ∃ L, Hid (De.num u = L) := ⟨_, rfl⟩
      rw [HL.out] at hcv
      go_wp2
      go_ret
      exact ⟨by rw [HL.out]; rfl, hb⟩
end Go.Proofs.YtdjehpbkkbahcaaDoor

/- The document's answers of layer 3: New, Sum, Xor, Key. -/

namespace Go.Proofs.YtdjehpbkkbahcaaDoor
open Go.RowKit

/-- What New answers: the keys in memory, and the first state. -/
def NewPost (ts : List UInt8) (w : World) (e : Ending) (w' : World) : Prop := ∃ vk, e = .returned (.agg #[vk, .string ⟨⟨ts⟩⟩]) ∧ Ints w' vk Sh.KK ∧ Below w.heap.size w w'

theorem ints_set {w : World} {g cap g0 i : Nat} {x : Value} {l : List Nat} (h : Ints w (.slice (some ⟨g, 0, none⟩) l.length cap) l) (hne : g ≠ g0) : Ints (w.setCell ⟨g0, i, none⟩ x) (.slice (some ⟨g, 0, none⟩) l.length cap) l := by
  obtain ⟨g', cap', hv, hg, hc⟩ := h
  simp only [Value.slice.injEq, Option.some.injEq, Addr.mk.injEq, and_true, true_and] at hv
  obtain ⟨rfl, rfl⟩ := hv
  exact ⟨g, cap, rfl, by simpa [World.setCell] using hg, fun j hj => by
    rw [World.cell?_setCell_other]
    · exact hc j hj
    · intro e
      exact hne (congrArg Addr.block e).symm⟩

set_option maxRecDepth 100000 in
theorem New_by (ts : List UInt8) (w : World) (HS : Hid (∀ w, Calls Tryd.prog 36 #[] w fun e w' => e = .returned (.string ⟨⟨ts⟩⟩) ∧ Below w.heap.size w w')) : Calls Tryd.prog 19 #[] w (NewPost ts w) := by
  go_enter Tryd.func19, Tryd.ntmps19
  go_wp2_with fail
  refine (Keys_any _).mono ?_
  rintro _ w1 ⟨vk, rfl, HK, hb1⟩
  have hz1 : w.heap.size < w1.heap.size := by have := hb1.size; simp at this; omega
  go_wp2_with fail
  refine (HS.out w1).mono ?_
  rintro _ w2 ⟨rfl, hb2⟩
  have hz2 : w.heap.size < w2.heap.size := Nat.lt_of_lt_of_le hz1 hb2.size
  have hrow : w2.heap[w.heap.size]? = some (.cells #[.slice none 0 0, .string ⟨#[]⟩] 25 (0, 0)) := (hb2.block _ hz1).trans ((hb1.block _ (by simp)).trans (heap_alloc_new _ _))
  have HK2 := HK.below hb2
  have b2 : Below w.heap.size w w2 := ((Below.refl _ _).alloc (Nat.le_refl _) _).trans ((hb1.trans (hb2.mono hb1.size)).mono (by simp))
  obtain ⟨g, cap, rfl, hg, hcc⟩ := id HK2
  have hne : g ≠ w.heap.size := by
    intro e
    have h0 := hcc 0 (by decide)
    rw [e, cell_of_row _ _ _ _ _ _ hrow] at h0
    cases h0
  have c0 : w2.cell? ⟨w.heap.size, 0, none⟩ = some (.slice none 0 0) := cell_of_row _ _ _ _ _ _ hrow
  have c1 : w2.cell? ⟨w.heap.size, 1, none⟩ = some (.string ⟨#[]⟩) := cell_of_row _ _ _ _ _ _ hrow
  have f0 := frozen_of_row _ _ 0 _ _ hrow
  have f1 := frozen_of_row _ _ 1 _ _ hrow
  have HK3 := Lib.hid (ints_set (i := 1) (x := .string ⟨⟨ts⟩⟩) (ints_set (i := 0) (x := .slice (some ⟨g, 0, none⟩) Sh.KK.length cap) HK2 hne) hne)
  clear HK HK2 hcc hb1 hb2 hrow
  generalize Sh.KK.length = n64 at *
  go_wp2
  exact bodyPost_ret (v := .agg #[.slice (some ⟨g, 0, none⟩) n64 cap, .string ⟨⟨ts⟩⟩]) (by simp [results, Tryd.results19, go_sem, c0, c1]) rfl ⟨_, rfl, HK3.out, (b2.setCell (Nat.le_refl _) _).setCell (Nat.le_refl _) _⟩

set_option maxRecDepth 100000 in
theorem New_any (w : World) : Calls Tryd.prog 19 #[] w (NewPost (Sh.txt Sh.start) w) := New_by _ w (Lib.hid fun w => refStart_any w)

set_option maxRecDepth 100000 in
theorem RSum_by (g cap n : Nat) (ts s sm : List UInt8) (w : World) (HB : Hid (∀ w', Below w.heap.size w w' → Calls Tryd.prog 59 #[.slice (some ⟨g, 0, none⟩) n cap, .string ⟨⟨ts⟩⟩, .string ⟨⟨s⟩⟩] w' fun e w2 => e = .returned (.string ⟨⟨sm⟩⟩) ∧ Below w'.heap.size w' w2)) :
    Calls Tryd.prog 42 #[.agg #[.slice (some ⟨g, 0, none⟩) n cap, .string ⟨⟨ts⟩⟩], .string ⟨⟨s⟩⟩] w fun e w' => e = .returned (.string ⟨⟨sm⟩⟩) ∧ Below w.heap.size w w' := by
  go_enter Tryd.func42, Tryd.ntmps42
  go_wp2_with fail
  refine (HB.out _ ((Below.refl _ _).alloc (Nat.le_refl _) _)).mono ?_
  rintro _ w1 ⟨rfl, hb1⟩
  have b1 : Below w.heap.size w w1 := ((Below.refl _ _).alloc (Nat.le_refl _) _).trans (hb1.mono (by simp))
  clear hb1 HB
  go_wp2
  go_ret
  exact ⟨rfl, b1⟩

/-- The keys as they lie in memory. -/
def KeysAt (w : World) (g cap : Nat) : Prop := Ints w (.slice (some ⟨g, 0, none⟩) 64 cap) Sh.KK
theorem KeysAt.below {w w' : World} {g cap : Nat} (h : KeysAt w g cap) (hb : Below w.heap.size w w') : KeysAt w' g cap := Ints.below h hb

set_option maxRecDepth 100000 in
theorem RSum_any (g cap : Nat) (s : List UInt8) (w : World) (HK : KeysAt w g cap) (hs : s.length ≤ 5000) :
    Calls Tryd.prog 42 #[.agg #[.slice (some ⟨g, 0, none⟩) 64 cap, .string ⟨⟨Sh.txt Sh.start⟩⟩], .string ⟨⟨s⟩⟩] w fun e w' => e = .returned (.string ⟨⟨Sh.sum s⟩⟩) ∧ Below w.heap.size w w' :=
  RSum_by g cap 64 _ s _ w (Lib.hid fun _ hb => refSumBy_any _ s _ (Ints.below HK hb) hs)

set_option maxRecDepth 100000 in
theorem Xor_any (s : List UInt8) (x : UInt8) (w : World) (hs : s.length ≤ 1000000) :
    Calls Tryd.prog 43 #[.string ⟨⟨s⟩⟩, .int .u8 (x.toNat : Nat)] w fun e w' => e = .returned (.string ⟨⟨Hm.xr x s⟩⟩) ∧ Below w.heap.size w w' := by
  have hmk := make_any s.length hs
  have HLX := Lib.hid (Hm.xr_length x s)
  have HAT := Lib.hid (xr_at x s)
  have hx : x.toNat < 256 := UInt8.toNat_lt _
  generalize Hm.xr x s = L at *
  go_enter Tryd.func43, Tryd.ntmps43
  go_wp2
  go_loopw [6] (fun i wr => ∃ k : Nat, k ≤ s.length ∧ i = .int .i64 (k : Nat) ∧ Below w.heap.size w wr ∧ Hid (wr.heap[w.heap.size]? = some (.cells (bcells (L.take k ++ List.replicate (s.length - k) 0)) 5 (0, 0)))) (fun i _ => s.length - (intOf i).toNat)
  case atStart => exact ⟨0, by omega, rfl, (Below.refl _ _).alloc (Nat.le_refl _) _, heap_alloc_new _ _⟩
  case round =>
    obtain ⟨k, hk, rfl, hb, HC1⟩ := hrel
    by_cases hlt : k < s.length
    · have hcell := brow_cell HC1.out HLX.out hlt
      have hfro := frozen_of_row _ _ k _ _ HC1.out
      have hby := byte_at s k hlt
      have hc : s[k].toNat < 256 := UInt8.toNat_lt _
      have hv : bits BinOp.xor IntKind.u8 (s[k].toNat : Int) (x.toNat : Int) = ((L.getD k 0).toNat : Nat) := by rw [HAT.out k hlt, u8_xor_nat _ _ hc hx, UInt8.toNat_xor]
      have HV := Lib.hid hv
      clear hmk hv
      go_wp2
      rw [HV.out]
      go_roundw
      case rel => exact ⟨k + 1, by omega, by go_num, hb.setCell (Nat.le_refl _) _, brow_set HC1.out HLX.out hlt⟩
      case measure => simp [intOf]; omega
    · obtain rfl : k = s.length := by omega
      have hcr : wr.heap[w.heap.size]? = some (.cells (bcells L) 5 (0, 0)) := by
        have h := HC1.out
        rw [List.take_of_length_le (by rw [HLX.out]; omega), Nat.sub_self, List.replicate_zero, List.append_nil] at h
        exact h
      have hcv := conv_any wr w.heap.size s.length L 5 (0, 0) _ hcr (fun j hj => bcells_at L j hj)
      rw [HLX.out] at hcv
      clear hmk hcr
      go_wp2
      go_ret
      exact ⟨rfl, hb⟩
set_option maxRecDepth 100000 in
theorem Xor_54 (s : List UInt8) (w : World) (hs : s.length ≤ 1000000) : Calls Tryd.prog 43 #[.string ⟨⟨s⟩⟩, .int .u8 54] w fun e w' => e = .returned (.string ⟨⟨Hm.xr 54 s⟩⟩) ∧ Below w.heap.size w w' := Xor_any s 54 w hs
set_option maxRecDepth 100000 in
theorem Xor_92 (s : List UInt8) (w : World) (hs : s.length ≤ 1000000) : Calls Tryd.prog 43 #[.string ⟨⟨s⟩⟩, .int .u8 92] w fun e w' => e = .returned (.string ⟨⟨Hm.xr 92 s⟩⟩) ∧ Below w.heap.size w w' := Xor_any s 92 w hs

theorem rep_snoc (c : List UInt8) (n : Nat) : c ++ List.replicate n 0 ++ [0] = c ++ List.replicate (n + 1) 0 := by
  rw [List.append_assoc, ← List.replicate_succ']

set_option maxRecDepth 100000 in
theorem RKey_short (va : Value) (k : List UInt8) (ts : List UInt8) (g cap : Nat) (w : World) (h : k.length ≤ 64) (hva : va = .agg #[.slice (some ⟨g, 0, none⟩) 64 cap, .string ⟨⟨ts⟩⟩]) :
    Calls Tryd.prog 41 #[va, .string ⟨⟨k⟩⟩] w fun e w' => e = .returned (.string ⟨⟨k ++ List.replicate (64 - k.length) 0⟩⟩) ∧ Below w.heap.size w w' := by
  subst hva
  go_enter Tryd.func41, Tryd.ntmps41
  go_wp2
  go_loopw [1] (fun v wr => ∃ n : Nat, k.length + n ≤ 64 ∧ v = .string ⟨⟨k ++ List.replicate n 0⟩⟩ ∧ Below w.heap.size w wr) (fun v _ => 64 - (match v with | .string b => b.size | _ => 0))
  case atStart => exact ⟨0, by omega, by rw [List.replicate_zero, List.append_nil], (Below.refl _ _).alloc (Nat.le_refl _) _⟩
  case round =>
    obtain ⟨n, hn, rfl, hb⟩ := hrel
    have hln : (k ++ List.replicate n (0 : UInt8)).length = k.length + n := by rw [List.length_append, List.length_replicate]
    have HLN := Lib.hid hln
    have HSN := Lib.hid (rep_snoc k n)
    have hap : ByteArray.mk ⟨k ++ List.replicate n 0⟩ ++ ByteArray.mk #[0] = ⟨⟨k ++ List.replicate n 0 ++ [0]⟩⟩ := app_str _ _
    by_cases hlt : k.length + n < 64
    · have hl2 : (k ++ List.replicate n (0 : UInt8)).length < 64 := by omega
      clear hln
      generalize k ++ List.replicate n (0 : UInt8) = c at *
      go_wp2
      go_roundw
      case rel => exact ⟨n + 1, by omega, by rw [HSN.out], hb⟩
      case measure =>
        show 64 - (c ++ [0]).length < 64 - c.length
        rw [List.length_append, List.length_singleton]
        omega
    · obtain rfl : n = 64 - k.length := by omega
      have hl2 : ¬ (k ++ List.replicate (64 - k.length) (0 : UInt8)).length < 64 := by omega
      clear hln
      generalize hcE : k ++ List.replicate (64 - k.length) (0 : UInt8) = c at *
      have HCE := Lib.hid hcE
      clear hcE
      go_wp2
      go_ret
      exact ⟨by rw [HCE.out]; rfl, hb⟩

set_option maxRecDepth 100000 in
theorem RKey_long (k c : List UInt8) (ts : List UInt8) (g cap : Nat) (w : World) (h : 64 < k.length) (hc : c.length ≤ 64)
    (HB : Hid (∀ w', Below w.heap.size w w' → Calls Tryd.prog 42 #[.agg #[.slice (some ⟨g, 0, none⟩) 64 cap, .string ⟨⟨ts⟩⟩], .string ⟨⟨k⟩⟩] w' fun e w2 => e = .returned (.string ⟨⟨c⟩⟩) ∧ Below w'.heap.size w' w2)) :
    Calls Tryd.prog 41 #[.agg #[.slice (some ⟨g, 0, none⟩) 64 cap, .string ⟨⟨ts⟩⟩], .string ⟨⟨k⟩⟩] w fun e w' => e = .returned (.string ⟨⟨c ++ List.replicate (64 - c.length) 0⟩⟩) ∧ Below w.heap.size w w' := by
  go_enter Tryd.func41, Tryd.ntmps41
  go_wp2_with fail
  refine (HB.out _ ((Below.refl _ _).alloc (Nat.le_refl _) _)).mono ?_
  rintro _ w1 ⟨rfl, hb1⟩
  have b1 : Below w.heap.size w w1 := ((Below.refl _ _).alloc (Nat.le_refl _) _).trans (hb1.mono (by simp))
  clear hb1 HB
  go_wp2_with fail
  go_loopw [1] (fun v wr => ∃ n : Nat, c.length + n ≤ 64 ∧ v = .string ⟨⟨c ++ List.replicate n 0⟩⟩ ∧ Below w.heap.size w wr) (fun v _ => 64 - (match v with | .string b => b.size | _ => 0))
  case atStart => exact ⟨0, by omega, by rw [List.replicate_zero, List.append_nil], b1⟩
  case round =>
    obtain ⟨n, hn, rfl, hb⟩ := hrel
    have hln : (c ++ List.replicate n (0 : UInt8)).length = c.length + n := by rw [List.length_append, List.length_replicate]
    have HLN := Lib.hid hln
    have HSN := Lib.hid (rep_snoc c n)
    have hap : ByteArray.mk ⟨c ++ List.replicate n 0⟩ ++ ByteArray.mk #[0] = ⟨⟨c ++ List.replicate n 0 ++ [0]⟩⟩ := app_str _ _
    by_cases hlt : c.length + n < 64
    · have hl2 : (c ++ List.replicate n (0 : UInt8)).length < 64 := by omega
      clear hln
      generalize c ++ List.replicate n (0 : UInt8) = d at *
      go_wp2
      go_roundw
      case rel => exact ⟨n + 1, by omega, by rw [HSN.out], hb⟩
      case measure =>
        show 64 - (d ++ [0]).length < 64 - d.length
        rw [List.length_append, List.length_singleton]
        omega
    · obtain rfl : n = 64 - c.length := by omega
      have hl2 : ¬ (c ++ List.replicate (64 - c.length) (0 : UInt8)).length < 64 := by omega
      clear hln
      generalize hcE : c ++ List.replicate (64 - c.length) (0 : UInt8) = d at *
      have HCE := Lib.hid hcE
      clear hcE
      go_wp2
      go_ret
      exact ⟨by rw [HCE.out]; rfl, hb⟩

set_option maxRecDepth 100000 in
theorem RKey_any (k : List UInt8) (g cap : Nat) (w : World) (HK : KeysAt w g cap) (hk : k.length ≤ 5000) :
    Calls Tryd.prog 41 #[.agg #[.slice (some ⟨g, 0, none⟩) 64 cap, .string ⟨⟨Sh.txt Sh.start⟩⟩], .string ⟨⟨k⟩⟩] w fun e w' => e = .returned (.string ⟨⟨Hm.key k⟩⟩) ∧ Below w.heap.size w w' := by
  by_cases h : k.length ≤ 64
  · rw [Hm.key, Hm.cut_short h]
    exact RKey_short _ k _ g cap w h rfl
  · rw [Hm.key, Hm.cut_long (by omega)]
    exact RKey_long k _ _ g cap w (by omega) (by rw [Hm.sum_length]; decide) (Lib.hid fun _ hb => RSum_any g cap k _ (HK.below hb) hk)
end Go.Proofs.YtdjehpbkkbahcaaDoor

/- The document's Mac. -/

namespace Go.Proofs.YtdjehpbkkbahcaaDoor
open Go.RowKit

/-- A variable of two cells. -/
def Two (w : World) (g : Nat) (a b : Value) : Prop := w.cell? ⟨g, 0, none⟩ = some a ∧ w.cell? ⟨g, 1, none⟩ = some b
theorem twoB {W w : World} {g : Nat} {a b : Value} (hb : Below W.heap.size W w) (hz : g < W.heap.size) (h : Two W g a b) : Two w g a b :=
  ⟨(hb.cell (p := ⟨g, 0, none⟩) hz).trans h.1, (hb.cell (p := ⟨g, 1, none⟩) hz).trans h.2⟩
theorem KeysAt.drew {w : World} {g cap : Nat} (h : KeysAt w g cap) : KeysAt w.drew g cap := h

set_option maxRecDepth 100000 in
set_option maxHeartbeats 1000000 in
theorem RMac_by (k s q x1 x2 sm mc ts : List UInt8) (g cap : Nat) (w : World) (HK : KeysAt w g cap) (hl1 : x1.length ≤ 64) (hl2 : x2.length ≤ 64) (hl3 : sm.length ≤ 32) (hs : s.length ≤ 4000)
    (HKEY : Hid (∀ w, KeysAt w g cap → Calls Tryd.prog 41 #[.agg #[.slice (some ⟨g, 0, none⟩) 64 cap, .string ⟨⟨ts⟩⟩], .string ⟨⟨k⟩⟩] w fun e w' => e = .returned (.string ⟨⟨q⟩⟩) ∧ Below w.heap.size w w'))
    (HX1 : Hid (∀ w, Calls Tryd.prog 43 #[.string ⟨⟨q⟩⟩, .int .u8 54] w fun e w' => e = .returned (.string ⟨⟨x1⟩⟩) ∧ Below w.heap.size w w'))
    (HX2 : Hid (∀ w, Calls Tryd.prog 43 #[.string ⟨⟨q⟩⟩, .int .u8 92] w fun e w' => e = .returned (.string ⟨⟨x2⟩⟩) ∧ Below w.heap.size w w'))
    (HS1 : Hid (∀ w, KeysAt w g cap → Calls Tryd.prog 42 #[.agg #[.slice (some ⟨g, 0, none⟩) 64 cap, .string ⟨⟨ts⟩⟩], .string ⟨⟨x1 ++ s⟩⟩] w fun e w' => e = .returned (.string ⟨⟨sm⟩⟩) ∧ Below w.heap.size w w'))
    (HS2 : Hid (∀ w, KeysAt w g cap → Calls Tryd.prog 42 #[.agg #[.slice (some ⟨g, 0, none⟩) 64 cap, .string ⟨⟨ts⟩⟩], .string ⟨⟨x2 ++ sm⟩⟩] w fun e w' => e = .returned (.string ⟨⟨mc⟩⟩) ∧ Below w.heap.size w w')) :
    Calls Tryd.prog 25 #[.agg #[.slice (some ⟨g, 0, none⟩) 64 cap, .string ⟨⟨ts⟩⟩], .string ⟨⟨k⟩⟩, .string ⟨⟨s⟩⟩] w fun e w' => e = .returned (.string ⟨⟨mc⟩⟩) ∧ Below w.heap.size w w' := by
  have b0 : Below w.heap.size w (w.alloc (.cells #[.slice (some ⟨g, 0, none⟩) 64 cap, .string ⟨⟨ts⟩⟩] 25)) := (Below.refl _ _).alloc (Nat.le_refl _) _
  have K0 : Two (w.alloc (.cells #[.slice (some ⟨g, 0, none⟩) 64 cap, .string ⟨⟨ts⟩⟩] 25)) w.heap.size (.slice (some ⟨g, 0, none⟩) 64 cap) (.string ⟨⟨ts⟩⟩) :=
    ⟨cell_of_row _ _ _ _ _ _ (heap_alloc_new _ _), cell_of_row _ _ _ _ _ _ (heap_alloc_new _ _)⟩
  have hap1 : ByteArray.mk ⟨x1⟩ ++ ByteArray.mk ⟨s⟩ = ⟨⟨x1 ++ s⟩⟩ := app_str _ _
  have hap2 : ByteArray.mk ⟨x2⟩ ++ ByteArray.mk ⟨sm⟩ = ⟨⟨x2 ++ sm⟩⟩ := app_str _ _
  have hw1 : ¬ 9223372036854775807 < x1.length + s.length := by omega
  have hw2 : ¬ 9223372036854775807 < x2.length + sm.length := by omega
  go_enter Tryd.func25, Tryd.ntmps25
  go_wp2_with fail
  refine (HKEY.out _ (HK.below b0)).mono ?_
  rintro _ w1 ⟨rfl, hb1⟩
  have K1 := twoB hb1 (by simp) K0
  have hz1 : w.heap.size < w1.heap.size := by have := hb1.size; simp at this; omega
  have b1 : Below w.heap.size w w1 := b0.trans (hb1.mono b0.size)
  have HK1 := HK.below b1
  have q0 := K1.1
  have q1 := K1.2
  clear hb1 b0 K0 HKEY
  go_wp2_with fail
  go_region_held3 (fun w' => w'.cell? ⟨w.heap.size, 0, none⟩ = some (.slice (some ⟨g, 0, none⟩) 64 cap) ∧ w'.cell? ⟨w.heap.size, 1, none⟩ = some (.string ⟨⟨ts⟩⟩)) (first | (exact K5) | (exact K4) | (exact K3) | (exact K2) | go_keep)
    (first | (go_at_call 43; (with_reducible refine (HX2.out _).mono ?_); rintro _ w2 ⟨rfl, hb2⟩; have K2 := twoB hb2 hz1 K1; have hz2 : w.heap.size < w2.heap.size := Nat.lt_of_lt_of_le hz1 hb2.size; have N2 : KeysAt w2 g cap := KeysAt.below (by first | exact HK1 | exact HK1.drew) hb2) | (go_at_call 43; (with_reducible refine (HX1.out _).mono ?_); rintro _ w3 ⟨rfl, hb3⟩; have K3 := twoB hb3 hz2 K2; have hz3 : w.heap.size < w3.heap.size := Nat.lt_of_lt_of_le hz2 hb3.size; have N3 : KeysAt w3 g cap := KeysAt.below (by first | exact N2 | exact N2.drew) hb3) | (go_at_call 42; (with_reducible refine (HS1.out _ (by first | exact N3 | exact N3.drew)).mono ?_); rintro _ w4 ⟨rfl, hb4⟩; have K4 := twoB hb4 hz3 K3; have hz4 : w.heap.size < w4.heap.size := Nat.lt_of_lt_of_le hz3 hb4.size; have N4 : KeysAt w4 g cap := KeysAt.below (by first | exact N3 | exact N3.drew) hb4) | (go_at_call 42; (with_reducible refine (HS2.out _ (by first | exact N4 | exact N4.drew)).mono ?_); rintro _ w5 ⟨rfl, hb5⟩; have K5 := twoB hb5 hz4 K4))
  have b2 : Below w.heap.size w w2 := b1.trans ((undrew hb2).mono b1.size)
  have b3 := b2.trans (hb3.mono b2.size)
  have b4 := b3.trans (hb4.mono b3.size)
  have b5 := b4.trans (hb5.mono b4.size)
  clear hb2 hb3 hb4 hb5 b1 b2 b3 b4 K1 K2 K3 K4 K5 N2 N3 N4 HX1 HX2 HS1 HS2 q0 q1
  go_wp2
  go_ret
  exact ⟨rfl, b5⟩

set_option maxRecDepth 100000 in
theorem RMac_any (k s : List UInt8) (g cap : Nat) (w : World) (HK : KeysAt w g cap) (hk : k.length ≤ 4000) (hs : s.length ≤ 4000) :
    Calls Tryd.prog 25 #[.agg #[.slice (some ⟨g, 0, none⟩) 64 cap, .string ⟨⟨Sh.txt Sh.start⟩⟩], .string ⟨⟨k⟩⟩, .string ⟨⟨s⟩⟩] w fun e w' => e = .returned (.string ⟨⟨Hm.mac k s⟩⟩) ∧ Below w.heap.size w w' := by
  have hk64 := Hm.key_length k
  have hx : ∀ x, (Hm.xr x (Hm.key k)).length ≤ 64 := fun x => by rw [Hm.xr_length, hk64]; exact Nat.le_refl _
  have hx1 := hx 54
  have hx2 := hx 92
  have hsm : (Sh.sum (Hm.xr 54 (Hm.key k) ++ s)).length ≤ 32 := by rw [Hm.sum_length]; exact Nat.le_refl _
  exact RMac_by k s (Hm.key k) _ _ _ _ _ g cap w HK hx1 hx2 hsm hs (Lib.hid fun w h => RKey_any k g cap w h (by omega)) (Lib.hid fun w => Xor_54 _ w (by omega)) (Lib.hid fun w => Xor_92 _ w (by omega))
    (Lib.hid fun w h => RSum_any g cap _ w h (by rw [List.length_append]; omega)) (Lib.hid fun w h => RSum_any g cap _ w h (by rw [List.length_append]; omega))
end Go.Proofs.YtdjehpbkkbahcaaDoor

/- The document's answer: Key, Cipher, Sum, Long, Session. -/

namespace Go.Proofs.YtdjehpbkkbahcaaDoor
open Go.RowKit

/-- What the document's Mac answers. -/
abbrev RMacIs (ts k s m : List UInt8) : Prop := ∀ g cap w, KeysAt w g cap → Calls Tryd.prog 25 #[.agg #[.slice (some ⟨g, 0, none⟩) 64 cap, .string ⟨⟨ts⟩⟩], .string ⟨⟨k⟩⟩, .string ⟨⟨s⟩⟩] w fun e w' => e = .returned (.string ⟨⟨m⟩⟩) ∧ Below w.heap.size w w'

set_option maxRecDepth 100000 in
set_option maxHeartbeats 1000000 in
theorem rKey_by (ts b l m : List UInt8) (n : Int) (g cap : Nat) (w : World) (HK : KeysAt w g cap) (hl : l.length ≤ 3000) (HM : Hid (RMacIs ts b (De.txt l n) m)) :
    Calls Tryd.prog 28 #[.agg #[.slice (some ⟨g, 0, none⟩) 64 cap, .string ⟨⟨ts⟩⟩], .string ⟨⟨b⟩⟩, .int .i64 n, .string ⟨⟨l⟩⟩] w fun e w' => e = .returned (.string ⟨⟨m⟩⟩) ∧ Below w.heap.size w w' := by
  have HN := Lib.hid fun W => refNumber_any n W
  have hap0 : ByteArray.mk ⟨l⟩ ++ ByteArray.mk #[0] = ⟨⟨De.lab l⟩⟩ := str_app l [0]
  have hap : ByteArray.mk ⟨De.lab l⟩ ++ ByteArray.mk ⟨De.num (De.un n)⟩ = ⟨⟨De.txt l n⟩⟩ := str_app _ _
  have hw0 : ¬ 9223372036854775807 < l.length + 1 := by omega
  have hw : ¬ 9223372036854775807 < (De.lab l).length + (De.num (De.un n)).length := by rw [De.lab_length, De.num_length]; omega
  generalize De.txt l n = t at *
  generalize De.lab l = x at *
  generalize De.num (De.un n) = y at *
  obtain ⟨w1, hw1⟩ : ∃ w1, w1 = w.alloc (.cells #[.slice (some ⟨g, 0, none⟩) 64 cap, .string ⟨⟨ts⟩⟩] 25) := ⟨_, rfl⟩
  have b1 : Below w.heap.size w w1 := by rw [hw1]; exact (Below.refl _ _).alloc (Nat.le_refl _) _
  have K1 : Two w1 w.heap.size (.slice (some ⟨g, 0, none⟩) 64 cap) (.string ⟨⟨ts⟩⟩) := by
    rw [hw1]
    exact ⟨cell_of_row _ _ _ _ _ _ (heap_alloc_new _ _), cell_of_row _ _ _ _ _ _ (heap_alloc_new _ _)⟩
  have hz1 : w.heap.size < w1.heap.size := by rw [hw1]; simp
  have HK1 := HK.below b1
  have q0 := K1.1
  have q1 := K1.2
  go_enter Tryd.func28, Tryd.ntmps28
  go_wp2_with fail
  rw [← hw1]
  clear hw1
  go_region_held3 (fun w' => w'.cell? ⟨w.heap.size, 0, none⟩ = some (.slice (some ⟨g, 0, none⟩) 64 cap) ∧ w'.cell? ⟨w.heap.size, 1, none⟩ = some (.string ⟨⟨ts⟩⟩)) (first | (exact K3) | (exact K2) | go_keep)
    (first | (go_at_call 45; (with_reducible refine (HN.out _).mono ?_); rintro _ w2 ⟨rfl, hb2⟩; have K2 := twoB hb2 hz1 K1; have hz2 : w.heap.size < w2.heap.size := Nat.lt_of_lt_of_le hz1 hb2.size; have N2 : KeysAt w2 g cap := KeysAt.below (by first | exact HK1 | exact HK1.drew) hb2) | (go_at_call 25; (with_reducible refine (HM.out _ _ _ (by first | exact N2 | exact N2.drew)).mono ?_); rintro _ w3 ⟨rfl, hb3⟩; have K3 := twoB hb3 hz2 K2))
  have b2 : Below w.heap.size w w2 := b1.trans ((undrew hb2).mono b1.size)
  have b3 := b2.trans (hb3.mono b2.size)
  clear hb2 hb3 b1 b2 K1 K2 K3 N2 HN HM q0 q1
  go_wp2
  go_ret
  exact ⟨rfl, b3⟩

/-- What the document's Key answers. -/
abbrev RKeyIs (ts b : List UInt8) (n : Int) (l m : List UInt8) : Prop := ∀ g cap w, KeysAt w g cap → Calls Tryd.prog 28 #[.agg #[.slice (some ⟨g, 0, none⟩) 64 cap, .string ⟨⟨ts⟩⟩], .string ⟨⟨b⟩⟩, .int .i64 n, .string ⟨⟨l⟩⟩] w fun e w' => e = .returned (.string ⟨⟨m⟩⟩) ∧ Below w.heap.size w w'

set_option maxRecDepth 100000 in
theorem rCipher_by (ts b m : List UInt8) (n : Int) (g cap : Nat) (w : World) (HK : KeysAt w g cap) (hm : m.length = 32) (HR : Hid (RKeyIs ts b n [99, 105, 112, 104, 101, 114] m)) :
    Calls Tryd.prog 24 #[.agg #[.slice (some ⟨g, 0, none⟩) 64 cap, .string ⟨⟨ts⟩⟩], .string ⟨⟨b⟩⟩, .int .i64 n] w fun e w' => e = .returned (.string ⟨⟨m.take 16⟩⟩) ∧ Below w.heap.size w w' := by
  have b0 : Below w.heap.size w (w.alloc (.cells #[.slice (some ⟨g, 0, none⟩) 64 cap, .string ⟨⟨ts⟩⟩] 25)) := (Below.refl _ _).alloc (Nat.le_refl _) _
  have hc : (ByteArray.mk ⟨m⟩).extract 0 16 = ⟨⟨m.take 16⟩⟩ := by rw [cut_str, List.drop_zero]
  have h1 : 16 ≤ (m.length : Int) := by omega
  have h2 : 16 ≤ m.length := by omega
  generalize m.take 16 = q at *
  clear hm
  go_enter Tryd.func24, Tryd.ntmps24
  go_wp2_with fail
  refine (HR.out _ _ _ (HK.below b0)).mono ?_
  rintro _ w1 ⟨rfl, hb1⟩
  have b1 := b0.trans (hb1.mono b0.size)
  clear HR hb1
  go_wp2
  go_ret
  exact ⟨rfl, b1⟩

set_option maxRecDepth 100000 in
theorem rSum_by (ts b m : List UInt8) (n : Int) (g cap : Nat) (w : World) (HK : KeysAt w g cap) (HR : Hid (RKeyIs ts b n [115, 117, 109] m)) :
    Calls Tryd.prog 26 #[.agg #[.slice (some ⟨g, 0, none⟩) 64 cap, .string ⟨⟨ts⟩⟩], .string ⟨⟨b⟩⟩, .int .i64 n] w fun e w' => e = .returned (.string ⟨⟨m⟩⟩) ∧ Below w.heap.size w w' := by
  have b0 : Below w.heap.size w (w.alloc (.cells #[.slice (some ⟨g, 0, none⟩) 64 cap, .string ⟨⟨ts⟩⟩] 25)) := (Below.refl _ _).alloc (Nat.le_refl _) _
  go_enter Tryd.func26, Tryd.ntmps26
  go_wp2_with fail
  refine (HR.out _ _ _ (HK.below b0)).mono ?_
  rintro _ w1 ⟨rfl, hb1⟩
  have b1 := b0.trans (hb1.mono b0.size)
  clear HR hb1
  go_wp2
  go_ret
  exact ⟨rfl, b1⟩

theorem rmacIs (k s : List UInt8) (hk : k.length ≤ 4000) (hs : s.length ≤ 4000) : RMacIs (Sh.txt Sh.start) k s (Hm.mac k s) := fun g cap w h => RMac_any k s g cap w h hk hs
theorem rkeyIs (b l : List UInt8) (n : Int) (hb : b.length ≤ 4000) (hl : l.length ≤ 3000) : RKeyIs (Sh.txt Sh.start) b n l (De.key b n l) := fun g cap w h =>
  rKey_by _ b l _ n g cap w h hl (Lib.hid (rmacIs b _ hb (by rw [De.txt_length]; omega)))
end Go.Proofs.YtdjehpbkkbahcaaDoor

