/- HmacSums' walk. -/
import Derived.Test.YtbkcdpeojlcklaaDoorHmW5
namespace Go.Proofs.YtbkcdpeojlcklaaDoor
open Go.RowKit

set_option maxRecDepth 100000 in
theorem hmacSums_no (k s : List UInt8) (w : World) (HT : Tabs w) (h : 1000 < k.length ∨ 1000 < s.length) :
    Calls Tryd.prog 6 #[.string ⟨⟨k⟩⟩, .string ⟨⟨s⟩⟩] w fun e w' => e = .returned (.bool true) ∧ Below w.heap.size w w' := by
  by_cases h1 : 1000 < k.length
  · clear h
    go_enter Tryd.func6, Tryd.ntmps6
    go_wp2_with fail
    refine (works_any w HT).mono ?_
    rintro _ w1 ⟨rfl, b1⟩
    go_wp2
    all_goals go_ret
    all_goals exact ⟨rfl, b1⟩
  · have g1 : k.length ≤ 1000 := by omega
    have h2 : 1000 < s.length := by omega
    clear h h1
    go_enter Tryd.func6, Tryd.ntmps6
    go_wp2_with fail
    refine (works_any w HT).mono ?_
    rintro _ w1 ⟨rfl, b1⟩
    go_wp2
    all_goals go_ret
    all_goals exact ⟨rfl, b1⟩

theorem xr_snoc (x : UInt8) (s : List UInt8) (k : Nat) (h : k < s.length) : Hm.xr x (s.take (k + 1)) = Hm.xr x (s.take k) ++ [s[k] ^^^ x] := by
  rw [take_snoc s k h]
  simp only [Hm.xr, List.map_append, List.map_cons, List.map_nil]
theorem conv1 (W : World) (b : UInt8) : (convert 30 9 (.slice (some ⟨W.heap.size, 0, none⟩) 1 1)).run Tryd.prog (W.alloc (.cells #[.int .u8 (b.toNat : Nat)] 5)) = .ok (.string ⟨⟨[b]⟩⟩) (W.alloc (.cells #[.int .u8 (b.toNat : Nat)] 5)) :=
  conv_any _ W.heap.size 1 [b] 5 (0, 0) _ (heap_alloc_new _ _) (fun j hj => bcells_at [b] j hj)

set_option maxRecDepth 100000 in
set_option maxHeartbeats 2000000 in
theorem hmacSums_yes (k s : List UInt8) (w : World) (HT : Tabs w) (h1 : k.length ≤ 1000) (h2 : s.length ≤ 1000) :
    Calls Tryd.prog 6 #[.string ⟨⟨k⟩⟩, .string ⟨⟨s⟩⟩] w fun e w' => e = .returned (.bool true) ∧ Below w.heap.size w w' := by
  have HK := Lib.hid fun W HT => Key_any k W HT (by omega)
  have HM := Lib.hid fun W HT => Mac_any k s W HT (by omega) (by omega)
  have HE : Hid (Hm.mac k s = Sh.sum (Hm.xr 92 (Hm.key k) ++ Sh.sum (Hm.xr 54 (Hm.key k) ++ s))) := Lib.hid rfl
  have hlk : (Hm.key k).length = 64 := Hm.key_length k
  have HLK := Lib.hid hlk
  have e1 : (((Hm.key k).length : Int) == 64) = true := by rw [hlk]; rfl
  have hql : (Hm.key k).length ≤ 64 := by rw [hlk]; exact Nat.le_refl _
  generalize Hm.key k = q at *
  generalize Hm.mac k s = mc at *
  clear hlk
  go_enter Tryd.func6, Tryd.ntmps6
  go_wp2_with fail
  refine (works_any w HT).mono ?_
  rintro _ w1 ⟨rfl, b1⟩
  go_wp2_with fail
  refine (HK.out w1 (HT.below b1)).mono ?_
  rintro _ w2 ⟨rfl, hb2⟩
  have b2 := b1.trans (hb2.mono b1.size)
  clear hb2 b1
  go_wp2_with fail
  go_loopw [7, 8, 9] (fun vi vo i wr => ∃ n : Nat, n ≤ q.length ∧ i = .int .i64 (n : Nat) ∧ vi = .string ⟨⟨Hm.xr 54 (q.take n)⟩⟩ ∧ vo = .string ⟨⟨Hm.xr 92 (q.take n)⟩⟩ ∧ Below w.heap.size w wr) (fun _ _ i _ => q.length - (intOf i).toNat)
  case atStart => exact ⟨0, by omega, rfl, rfl, rfl, b2⟩
  case round =>
    obtain ⟨n, hn, rfl, rfl, rfl, hb⟩ := hrel
    clear b2
    by_cases hlt : n < q.length
    · have hby := byte_at q n hlt
      have HX1 := Lib.hid (xr_snoc 54 q n hlt)
      have HX2 := Lib.hid (xr_snoc 92 q n hlt)
      have hl1 : (Hm.xr 54 (q.take n)).length ≤ 64 := by rw [Hm.xr_length]; simp; omega
      have hl2 : (Hm.xr 92 (q.take n)).length ≤ 64 := by rw [Hm.xr_length]; simp; omega
      have hc : q[n].toNat < 256 := UInt8.toNat_lt _
      have hv1 : bits BinOp.xor IntKind.u8 (q[n].toNat : Int) 54 = ((q[n] ^^^ 54).toNat : Nat) := by
        rw [UInt8.toNat_xor, show (54 : Int) = ((54 : Nat) : Int) from rfl, u8_xor_nat _ _ hc (by decide)]
        rfl
      have hv2 : bits BinOp.xor IntKind.u8 (q[n].toNat : Int) 92 = ((q[n] ^^^ 92).toNat : Nat) := by
        rw [UInt8.toNat_xor, show (92 : Int) = ((92 : Nat) : Int) from rfl, u8_xor_nat _ _ hc (by decide)]
        rfl
      generalize q[n] ^^^ 54 = y1 at *
      generalize q[n] ^^^ 92 = y2 at *
      generalize Hm.xr 54 (q.take n) = z1 at *
      generalize Hm.xr 92 (q.take n) = z2 at *
      have hcv1 := fun W => conv1 W y1
      have hcv2 : ∀ (W : World) (o : Obj), (convert 30 9 (.slice (some ⟨W.heap.size + 1, 0, none⟩) 1 1)).run Tryd.prog ((W.alloc o).alloc (.cells #[.int .u8 (y2.toNat : Nat)] 5)) = .ok (.string ⟨⟨[y2]⟩⟩) ((W.alloc o).alloc (.cells #[.int .u8 (y2.toNat : Nat)] 5)) := fun W o => by
        have := conv1 (W.alloc o) y2
        simpa using this
      have hap1 : ByteArray.mk ⟨z1⟩ ++ ByteArray.mk ⟨[y1]⟩ = ⟨⟨z1 ++ [y1]⟩⟩ := app_str _ _
      have hap2 : ByteArray.mk ⟨z2⟩ ++ ByteArray.mk ⟨[y2]⟩ = ⟨⟨z2 ++ [y2]⟩⟩ := app_str _ _
      go_wp2
      go_roundw
      case rel => exact ⟨n + 1, by omega, by go_num, by rw [HX1.out], by rw [HX2.out], (hb.alloc hb.size _).alloc (Nat.le_trans hb.size (by simp)) _⟩
      case measure => simp [intOf]; omega
    · obtain rfl : n = q.length := by omega
      rw [List.take_of_length_le (Nat.le_refl _)]
      have hl1 : (Hm.xr 54 q).length ≤ 64 := by rw [Hm.xr_length]; exact hql
      have hl2 : (Hm.xr 92 q).length ≤ 64 := by rw [Hm.xr_length]; exact hql
      have hap1 : ByteArray.mk ⟨Hm.xr 54 q⟩ ++ ByteArray.mk ⟨s⟩ = ⟨⟨Hm.xr 54 q ++ s⟩⟩ := app_str _ _
      have hls : (Sh.sum (Hm.xr 54 q ++ s)).length = 32 := Hm.sum_length _
      have HS := Lib.hid fun W HT => Sum_any (Hm.xr 54 q ++ s) W HT (by rw [List.length_append]; omega)
      have HS2 := Lib.hid fun W HT => Sum_any (Hm.xr 92 q ++ Sh.sum (Hm.xr 54 q ++ s)) W HT (by rw [List.length_append]; omega)
      rw [← HE.out] at HS2
      have hlm : (Sh.sum (Hm.xr 54 q ++ s)).length ≤ 32 := by omega
      clear hls
      generalize Sh.sum (Hm.xr 54 q ++ s) = sm at *
      generalize Hm.xr 54 q = z1 at *
      generalize Hm.xr 92 q = z2 at *
      have hap2 : ByteArray.mk ⟨z2⟩ ++ ByteArray.mk ⟨sm⟩ = ⟨⟨z2 ++ sm⟩⟩ := app_str _ _
      go_wp2_with fail
      refine (HM.out wr (HT.below hb)).mono ?_
      rintro _ w3 ⟨rfl, hb3⟩
      have b3 := hb.trans (hb3.mono hb.size)
      clear hb3 hb
      go_wp2_with fail
      refine (HS.out w3 (HT.below b3)).mono ?_
      rintro _ w4 ⟨rfl, hb4⟩
      have b4 := b3.trans (hb4.mono b3.size)
      clear hb4 b3
      go_wp2_with fail
      refine (HS2.out w4 (HT.below b4)).mono ?_
      rintro _ w5 ⟨rfl, hb5⟩
      have b5 := b4.trans (hb5.mono b4.size)
      clear hb5 b4
      go_wp2
      go_ret
      exact ⟨rfl, b5⟩

theorem hmacSums_walk (k s : List UInt8) (w : World) (HT : Tabs w) :
    Calls Tryd.prog 6 #[.string ⟨⟨k⟩⟩, .string ⟨⟨s⟩⟩] w fun e w' => e = .returned (.bool true) ∧ Below w.heap.size w w' := by
  by_cases h : 1000 < k.length ∨ 1000 < s.length
  · exact hmacSums_no k s w HT h
  · exact hmacSums_yes k s w HT (by omega) (by omega)
end Go.Proofs.YtbkcdpeojlcklaaDoor
