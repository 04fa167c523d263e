/- The document's answers of layer 3: New, Sum, Xor, Key. -/
import Derived.Test.YtihgglplbanegaaDoorHmW4
import Derived.Test.YtihgglplbanegaaDoorShaV11
namespace Go.Proofs.YtihgglplbanegaaDoor
open Go.RowKit

/-- What New answers: the keys in memory, and the first state. -/
def NewPost (ts : List UInt8) (w : World) (e : Ending) (w' : World) : Prop := ∃ vk, e = .returned (.agg #[vk, .string ⟨⟨ts⟩⟩]) ∧ Ints w' vk Sh.KK ∧ Below w.heap.size w w'

theorem ints_set {w : World} {g cap g0 i : Nat} {x : Value} {l : List Nat} (h : Ints w (.slice (some ⟨g, 0, none⟩) l.length cap) l) (hne : g ≠ g0) : Ints (w.setCell ⟨g0, i, none⟩ x) (.slice (some ⟨g, 0, none⟩) l.length cap) l := by
  obtain ⟨g', cap', hv, hg, hc⟩ := h
  simp only [Value.slice.injEq, Option.some.injEq, Addr.mk.injEq, and_true, true_and] at hv
  obtain ⟨rfl, rfl⟩ := hv
  exact ⟨g, cap, rfl, by simpa [World.setCell] using hg, fun j hj => by
    rw [World.cell?_setCell_other]
    · exact hc j hj
    · intro e
      exact hne (congrArg Addr.block e).symm⟩

set_option maxRecDepth 100000 in
theorem New_by (ts : List UInt8) (w : World) (HS : Hid (∀ w, Calls Tryd.prog 21 #[] w fun e w' => e = .returned (.string ⟨⟨ts⟩⟩) ∧ Below w.heap.size w w')) : Calls Tryd.prog 7 #[] w (NewPost ts w) := by
  go_enter Tryd.func7, Tryd.ntmps7
  go_wp2_with fail
  refine (Keys_any _).mono ?_
  rintro _ w1 ⟨vk, rfl, HK, hb1⟩
  have hz1 : w.heap.size < w1.heap.size := by have := hb1.size; simp at this; omega
  go_wp2_with fail
  refine (HS.out w1).mono ?_
  rintro _ w2 ⟨rfl, hb2⟩
  have hz2 : w.heap.size < w2.heap.size := Nat.lt_of_lt_of_le hz1 hb2.size
  have hrow : w2.heap[w.heap.size]? = some (.cells #[.slice none 0 0, .string ⟨#[]⟩] 25 (0, 0)) := (hb2.block _ hz1).trans ((hb1.block _ (by simp)).trans (heap_alloc_new _ _))
  have HK2 := HK.below hb2
  have b2 : Below w.heap.size w w2 := ((Below.refl _ _).alloc (Nat.le_refl _) _).trans ((hb1.trans (hb2.mono hb1.size)).mono (by simp))
  obtain ⟨g, cap, rfl, hg, hcc⟩ := id HK2
  have hne : g ≠ w.heap.size := by
    intro e
    have h0 := hcc 0 (by decide)
    rw [e, cell_of_row _ _ _ _ _ _ hrow] at h0
    cases h0
  have c0 : w2.cell? ⟨w.heap.size, 0, none⟩ = some (.slice none 0 0) := cell_of_row _ _ _ _ _ _ hrow
  have c1 : w2.cell? ⟨w.heap.size, 1, none⟩ = some (.string ⟨#[]⟩) := cell_of_row _ _ _ _ _ _ hrow
  have f0 := frozen_of_row _ _ 0 _ _ hrow
  have f1 := frozen_of_row _ _ 1 _ _ hrow
  have HK3 := Lib.hid (ints_set (i := 1) (x := .string ⟨⟨ts⟩⟩) (ints_set (i := 0) (x := .slice (some ⟨g, 0, none⟩) Sh.KK.length cap) HK2 hne) hne)
  clear HK HK2 hcc hb1 hb2 hrow
  generalize Sh.KK.length = n64 at *
  go_wp2
  exact bodyPost_ret (v := .agg #[.slice (some ⟨g, 0, none⟩) n64 cap, .string ⟨⟨ts⟩⟩]) (by simp [results, Tryd.results7, go_sem, c0, c1]) rfl ⟨_, rfl, HK3.out, (b2.setCell (Nat.le_refl _) _).setCell (Nat.le_refl _) _⟩

theorem New_any (w : World) : Calls Tryd.prog 7 #[] w (NewPost (Sh.txt Sh.start) w) := New_by _ w (Lib.hid fun w => refStart_any w)

set_option maxRecDepth 100000 in
theorem RSum_by (g cap n : Nat) (ts s sm : List UInt8) (w : World) (HB : Hid (∀ w', Below w.heap.size w w' → Calls Tryd.prog 44 #[.slice (some ⟨g, 0, none⟩) n cap, .string ⟨⟨ts⟩⟩, .string ⟨⟨s⟩⟩] w' fun e w2 => e = .returned (.string ⟨⟨sm⟩⟩) ∧ Below w'.heap.size w' w2)) :
    Calls Tryd.prog 34 #[.agg #[.slice (some ⟨g, 0, none⟩) n cap, .string ⟨⟨ts⟩⟩], .string ⟨⟨s⟩⟩] w fun e w' => e = .returned (.string ⟨⟨sm⟩⟩) ∧ Below w.heap.size w w' := by
  go_enter Tryd.func34, Tryd.ntmps34
  go_wp2_with fail
  refine (HB.out _ ((Below.refl _ _).alloc (Nat.le_refl _) _)).mono ?_
  rintro _ w1 ⟨rfl, hb1⟩
  have b1 : Below w.heap.size w w1 := ((Below.refl _ _).alloc (Nat.le_refl _) _).trans (hb1.mono (by simp))
  clear hb1 HB
  go_wp2
  go_ret
  exact ⟨rfl, b1⟩

/-- The keys as they lie in memory. -/
def KeysAt (w : World) (g cap : Nat) : Prop := Ints w (.slice (some ⟨g, 0, none⟩) 64 cap) Sh.KK
theorem KeysAt.below {w w' : World} {g cap : Nat} (h : KeysAt w g cap) (hb : Below w.heap.size w w') : KeysAt w' g cap := Ints.below h hb

theorem RSum_any (g cap : Nat) (s : List UInt8) (w : World) (HK : KeysAt w g cap) (hs : s.length ≤ 5000) :
    Calls Tryd.prog 34 #[.agg #[.slice (some ⟨g, 0, none⟩) 64 cap, .string ⟨⟨Sh.txt Sh.start⟩⟩], .string ⟨⟨s⟩⟩] w fun e w' => e = .returned (.string ⟨⟨Sh.sum s⟩⟩) ∧ Below w.heap.size w w' :=
  RSum_by g cap 64 _ s _ w (Lib.hid fun _ hb => refSumBy_any _ s _ (Ints.below HK hb) hs)

set_option maxRecDepth 100000 in
theorem Xor_any (s : List UInt8) (x : UInt8) (w : World) (hs : s.length ≤ 1000000) :
    Calls Tryd.prog 35 #[.string ⟨⟨s⟩⟩, .int .u8 (x.toNat : Nat)] w fun e w' => e = .returned (.string ⟨⟨Hm.xr x s⟩⟩) ∧ Below w.heap.size w w' := by
  have hmk := make_any s.length hs
  have HLX := Lib.hid (Hm.xr_length x s)
  have HAT := Lib.hid (xr_at x s)
  have hx : x.toNat < 256 := UInt8.toNat_lt _
  generalize Hm.xr x s = L at *
  go_enter Tryd.func35, Tryd.ntmps35
  go_wp2
  go_loopw [6] (fun i wr => ∃ k : Nat, k ≤ s.length ∧ i = .int .i64 (k : Nat) ∧ Below w.heap.size w wr ∧ Hid (wr.heap[w.heap.size]? = some (.cells (bcells (L.take k ++ List.replicate (s.length - k) 0)) 5 (0, 0)))) (fun i _ => s.length - (intOf i).toNat)
  case atStart => exact ⟨0, by omega, rfl, (Below.refl _ _).alloc (Nat.le_refl _) _, heap_alloc_new _ _⟩
  case round =>
    obtain ⟨k, hk, rfl, hb, HC1⟩ := hrel
    by_cases hlt : k < s.length
    · have hcell := brow_cell HC1.out HLX.out hlt
      have hfro := frozen_of_row _ _ k _ _ HC1.out
      have hby := byte_at s k hlt
      have hc : s[k].toNat < 256 := UInt8.toNat_lt _
      have hv : bits BinOp.xor IntKind.u8 (s[k].toNat : Int) (x.toNat : Int) = ((L.getD k 0).toNat : Nat) := by rw [HAT.out k hlt, u8_xor_nat _ _ hc hx, UInt8.toNat_xor]
      have HV := Lib.hid hv
      clear hmk hv
      go_wp2
      rw [HV.out]
      go_roundw
      case rel => exact ⟨k + 1, by omega, by go_num, hb.setCell (Nat.le_refl _) _, brow_set HC1.out HLX.out hlt⟩
      case measure => simp [intOf]; omega
    · obtain rfl : k = s.length := by omega
      have hcr : wr.heap[w.heap.size]? = some (.cells (bcells L) 5 (0, 0)) := by
        have h := HC1.out
        rw [List.take_of_length_le (by rw [HLX.out]; omega), Nat.sub_self, List.replicate_zero, List.append_nil] at h
        exact h
      have hcv := conv_any wr w.heap.size s.length L 5 (0, 0) _ hcr (fun j hj => bcells_at L j hj)
      rw [HLX.out] at hcv
      clear hmk hcr
      go_wp2
      go_ret
      exact ⟨rfl, hb⟩
theorem Xor_54 (s : List UInt8) (w : World) (hs : s.length ≤ 1000000) : Calls Tryd.prog 35 #[.string ⟨⟨s⟩⟩, .int .u8 54] w fun e w' => e = .returned (.string ⟨⟨Hm.xr 54 s⟩⟩) ∧ Below w.heap.size w w' := Xor_any s 54 w hs
theorem Xor_92 (s : List UInt8) (w : World) (hs : s.length ≤ 1000000) : Calls Tryd.prog 35 #[.string ⟨⟨s⟩⟩, .int .u8 92] w fun e w' => e = .returned (.string ⟨⟨Hm.xr 92 s⟩⟩) ∧ Below w.heap.size w w' := Xor_any s 92 w hs

theorem rep_snoc (c : List UInt8) (n : Nat) : c ++ List.replicate n 0 ++ [0] = c ++ List.replicate (n + 1) 0 := by
  rw [List.append_assoc, ← List.replicate_succ']

set_option maxRecDepth 100000 in
theorem RKey_short (va : Value) (k : List UInt8) (ts : List UInt8) (g cap : Nat) (w : World) (h : k.length ≤ 64) (hva : va = .agg #[.slice (some ⟨g, 0, none⟩) 64 cap, .string ⟨⟨ts⟩⟩]) :
    Calls Tryd.prog 33 #[va, .string ⟨⟨k⟩⟩] w fun e w' => e = .returned (.string ⟨⟨k ++ List.replicate (64 - k.length) 0⟩⟩) ∧ Below w.heap.size w w' := by
  subst hva
  go_enter Tryd.func33, Tryd.ntmps33
  go_wp2
  go_loopw [1] (fun v wr => ∃ n : Nat, k.length + n ≤ 64 ∧ v = .string ⟨⟨k ++ List.replicate n 0⟩⟩ ∧ Below w.heap.size w wr) (fun v _ => 64 - (match v with | .string b => b.size | _ => 0))
  case atStart => exact ⟨0, by omega, by rw [List.replicate_zero, List.append_nil], (Below.refl _ _).alloc (Nat.le_refl _) _⟩
  case round =>
    obtain ⟨n, hn, rfl, hb⟩ := hrel
    have hln : (k ++ List.replicate n (0 : UInt8)).length = k.length + n := by rw [List.length_append, List.length_replicate]
    have HLN := Lib.hid hln
    have HSN := Lib.hid (rep_snoc k n)
    have hap : ByteArray.mk ⟨k ++ List.replicate n 0⟩ ++ ByteArray.mk #[0] = ⟨⟨k ++ List.replicate n 0 ++ [0]⟩⟩ := app_str _ _
    by_cases hlt : k.length + n < 64
    · have hl2 : (k ++ List.replicate n (0 : UInt8)).length < 64 := by omega
      clear hln
      generalize k ++ List.replicate n (0 : UInt8) = c at *
      go_wp2
      go_roundw
      case rel => exact ⟨n + 1, by omega, by rw [HSN.out], hb⟩
      case measure =>
        show 64 - (c ++ [0]).length < 64 - c.length
        rw [List.length_append, List.length_singleton]
        omega
    · obtain rfl : n = 64 - k.length := by omega
      have hl2 : ¬ (k ++ List.replicate (64 - k.length) (0 : UInt8)).length < 64 := by omega
      clear hln
      generalize hcE : k ++ List.replicate (64 - k.length) (0 : UInt8) = c at *
      have HCE := Lib.hid hcE
      clear hcE
      go_wp2
      go_ret
      exact ⟨by rw [HCE.out]; rfl, hb⟩

set_option maxRecDepth 100000 in
theorem RKey_long (k c : List UInt8) (ts : List UInt8) (g cap : Nat) (w : World) (h : 64 < k.length) (hc : c.length ≤ 64)
    (HB : Hid (∀ w', Below w.heap.size w w' → Calls Tryd.prog 34 #[.agg #[.slice (some ⟨g, 0, none⟩) 64 cap, .string ⟨⟨ts⟩⟩], .string ⟨⟨k⟩⟩] w' fun e w2 => e = .returned (.string ⟨⟨c⟩⟩) ∧ Below w'.heap.size w' w2)) :
    Calls Tryd.prog 33 #[.agg #[.slice (some ⟨g, 0, none⟩) 64 cap, .string ⟨⟨ts⟩⟩], .string ⟨⟨k⟩⟩] w fun e w' => e = .returned (.string ⟨⟨c ++ List.replicate (64 - c.length) 0⟩⟩) ∧ Below w.heap.size w w' := by
  go_enter Tryd.func33, Tryd.ntmps33
  go_wp2_with fail
  refine (HB.out _ ((Below.refl _ _).alloc (Nat.le_refl _) _)).mono ?_
  rintro _ w1 ⟨rfl, hb1⟩
  have b1 : Below w.heap.size w w1 := ((Below.refl _ _).alloc (Nat.le_refl _) _).trans (hb1.mono (by simp))
  clear hb1 HB
  go_wp2_with fail
  go_loopw [1] (fun v wr => ∃ n : Nat, c.length + n ≤ 64 ∧ v = .string ⟨⟨c ++ List.replicate n 0⟩⟩ ∧ Below w.heap.size w wr) (fun v _ => 64 - (match v with | .string b => b.size | _ => 0))
  case atStart => exact ⟨0, by omega, by rw [List.replicate_zero, List.append_nil], b1⟩
  case round =>
    obtain ⟨n, hn, rfl, hb⟩ := hrel
    have hln : (c ++ List.replicate n (0 : UInt8)).length = c.length + n := by rw [List.length_append, List.length_replicate]
    have HLN := Lib.hid hln
    have HSN := Lib.hid (rep_snoc c n)
    have hap : ByteArray.mk ⟨c ++ List.replicate n 0⟩ ++ ByteArray.mk #[0] = ⟨⟨c ++ List.replicate n 0 ++ [0]⟩⟩ := app_str _ _
    by_cases hlt : c.length + n < 64
    · have hl2 : (c ++ List.replicate n (0 : UInt8)).length < 64 := by omega
      clear hln
      generalize c ++ List.replicate n (0 : UInt8) = d at *
      go_wp2
      go_roundw
      case rel => exact ⟨n + 1, by omega, by rw [HSN.out], hb⟩
      case measure =>
        show 64 - (d ++ [0]).length < 64 - d.length
        rw [List.length_append, List.length_singleton]
        omega
    · obtain rfl : n = 64 - c.length := by omega
      have hl2 : ¬ (c ++ List.replicate (64 - c.length) (0 : UInt8)).length < 64 := by omega
      clear hln
      generalize hcE : c ++ List.replicate (64 - c.length) (0 : UInt8) = d at *
      have HCE := Lib.hid hcE
      clear hcE
      go_wp2
      go_ret
      exact ⟨by rw [HCE.out]; rfl, hb⟩

theorem RKey_any (k : List UInt8) (g cap : Nat) (w : World) (HK : KeysAt w g cap) (hk : k.length ≤ 5000) :
    Calls Tryd.prog 33 #[.agg #[.slice (some ⟨g, 0, none⟩) 64 cap, .string ⟨⟨Sh.txt Sh.start⟩⟩], .string ⟨⟨k⟩⟩] w fun e w' => e = .returned (.string ⟨⟨Hm.key k⟩⟩) ∧ Below w.heap.size w w' := by
  by_cases h : k.length ≤ 64
  · rw [Hm.key, Hm.cut_short h]
    exact RKey_short _ k _ g cap w h rfl
  · rw [Hm.key, Hm.cut_long (by omega)]
    exact RKey_long k _ _ g cap w (by omega) (by rw [Hm.sum_length]; decide) (Lib.hid fun _ hb => RSum_any g cap k _ (HK.below hb) hk)
end Go.Proofs.YtihgglplbanegaaDoor
