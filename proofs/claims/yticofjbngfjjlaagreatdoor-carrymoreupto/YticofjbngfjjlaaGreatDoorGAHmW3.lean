/- hmac.Key. -/
import Derived.Test.YticofjbngfjjlaaGreatDoorGAShaW3
import Derived.Test.YticofjbngfjjlaaGreatDoorGAShaW7
import Derived.Lib.BufferWrite
import Derived.Lib.SlBuf
import Derived.Shelf.Strconv.AppendIntPublic10
import Derived.Test.YticofjbngfjjlaaGreatDoorProg
import Derived.Test.YticofjbngfjjlaaGreatDoorGATmPure
import Derived.Lib.AppendStr
import Derived.Maps.AppendAt
import Derived.OwnWalk
import Derived.Test.YticofjbngfjjlaaGreatDoorRows
import Derived.RegionTactic
import Derived.OrdersIn
namespace Go.Proofs.YticofjbngfjjlaaGreatDoor
open Go.RowKit

theorem info5s : (Tryz.prog.info? 5).map (·.size) = some 1 := by kernel_rfl

theorem byteCells_eq (l : List UInt8) : Lib.byteCells l = bvals l := rfl

set_option maxRecDepth 100000 in
/-- copy(block[:], key). -/
theorem run_copyK (w : World) (ty t : TypeId) (g : Nat) (s : List UInt8) (hs : s.length ≤ 64) (h : w.heap[g]? = some (.cells (bcells (List.replicate 64 0)) t (0, 0))) :
    (Builtin.copy_ #[31, 9] ty #[.slice (some ⟨g, 0, none⟩) 64 64, .string ⟨⟨s⟩⟩]).run Tryz.prog w = .ok (goInt s.length) (w.setRow g (bcells (s ++ List.replicate (64 - s.length) 0))) := by
  have hz : (ByteArray.mk ⟨s⟩).size = s.length := rfl
  have hr := Lib.run_copy_row_string (P := Tryz.prog) w 31 9 ty 5 g 0 64 64 ⟨⟨s⟩⟩ _ t Tryz.underlying31 info5s h (by rw [hz]; exact hs) (by rw [hz]; simp [bcells]; omega)
  rw [hr, hz]
  congr 2
  apply Array.toList_inj.1
  simp only [bcells, List.map_append, List.map_replicate, List.take_zero, List.nil_append, Nat.zero_add, List.drop_replicate, Lib.byteCells]

/-- A block of 64 noughts with a text copied over its beginning. -/
theorem laidK (w : World) (ty t : TypeId) (s : List UInt8) (hs : s.length ≤ 64) :
    ∃ W, (Builtin.copy_ #[31, 9] ty #[.slice (some ⟨w.heap.size, 0, none⟩) 64 64, .string ⟨⟨s⟩⟩]).run Tryz.prog (w.alloc (.cells (bcells (List.replicate 64 0)) t)) = .ok (goInt s.length) W ∧
      W.heap[w.heap.size]? = some (.cells (bcells (s ++ List.replicate (64 - s.length) 0)) t (0, 0)) ∧ Below w.heap.size w W :=
  ⟨_, run_copyK _ ty t w.heap.size s hs (heap_alloc_new _ _), setRow_heap _ _ _ _ _ _ (heap_alloc_new _ _), below_setRow' ((Below.refl _ _).alloc (Nat.le_refl _) _) (Nat.le_refl _) _⟩

set_option maxRecDepth 100000 in
theorem Key_short (k : List UInt8) (w : World) (h : k.length ≤ 64) :
    Calls Tryz.prog 92 #[.string ⟨⟨k⟩⟩] w fun e w' => e = .returned (.string ⟨⟨k ++ List.replicate (64 - k.length) 0⟩⟩) ∧ Below w.heap.size w w' := by
  obtain ⟨W, hr, hw, hb⟩ := laidK w 3 130 k h
  have HL : Hid ((k ++ List.replicate (64 - k.length) 0).length = 64) := by rw [Hid, List.length_append, List.length_replicate]; omega
  generalize k ++ List.replicate (64 - k.length) 0 = L at *
  have hcv := conv_any W w.heap.size 64 L 130 (0, 0) _ hw (fun j hj => bcells_at L j hj)
  rw [HL.out] at hcv
  have HR := Lib.hid hr
  clear hr hw
  go_enter Tryz.func92, Tryz.ntmps92
  go_wp2_with (refine Lib.wpList_copy_run _ rfl (.tmp 9) (.tmp 10) 31 9 rfl _ _ rfl rfl HR.out ?_)
  go_ret
  exact ⟨rfl, hb⟩

set_option maxRecDepth 100000 in
theorem Key_long (k : List UInt8) (w : World) (HT : Tabs w) (hk : k.length ≤ 100000) (h : 64 < k.length) :
    Calls Tryz.prog 92 #[.string ⟨⟨k⟩⟩] w fun e w' => e = .returned (.string ⟨⟨Sh.sum k ++ List.replicate (64 - (Sh.sum k).length) 0⟩⟩) ∧ Below w.heap.size w w' := by
  have HS := Lib.hid fun W HT => Sum_any k W HT hk
  have hc : (Sh.sum k).length ≤ 64 := by rw [Hm.sum_length]; decide
  generalize Sh.sum k = c at *
  go_enter Tryz.func92, Tryz.ntmps92
  go_wp2_with fail
  refine (HS.out w HT).mono ?_
  rintro _ w1 ⟨rfl, hb1⟩
  obtain ⟨W, hr, hw, hb⟩ := laidK w1 3 130 c hc
  have HL : Hid ((c ++ List.replicate (64 - c.length) 0).length = 64) := by rw [Hid, List.length_append, List.length_replicate]; omega
  generalize hLE : c ++ List.replicate (64 - c.length) 0 = L at *
  have HLE := Lib.hid hLE
  clear hLE
  have hcv := conv_any W w1.heap.size 64 L 130 (0, 0) _ hw (fun j hj => bcells_at L j hj)
  rw [HL.out] at hcv
  have HR := Lib.hid hr
  have b := hb1.trans (hb.mono hb1.size)
  clear hr hw hb1 hb HS
  go_wp2_with (refine Lib.wpList_copy_run _ rfl (.tmp 9) (.tmp 10) 31 9 rfl _ _ rfl rfl HR.out ?_)
  go_ret
  exact ⟨by rw [HLE.out]; rfl, b⟩

theorem Key_any (k : List UInt8) (w : World) (HT : Tabs w) (hk : k.length ≤ 100000) :
    Calls Tryz.prog 92 #[.string ⟨⟨k⟩⟩] w fun e w' => e = .returned (.string ⟨⟨Hm.key k⟩⟩) ∧ Below w.heap.size w w' := by
  by_cases h : k.length ≤ 64
  · rw [Hm.key, Hm.cut_short h]
    exact Key_short k w h
  · rw [Hm.key, Hm.cut_long (by omega)]
    exact Key_long k w HT hk (by omega)
end Go.Proofs.YticofjbngfjjlaaGreatDoor

/- hmac.Mac. -/

namespace Go.Proofs.YticofjbngfjjlaaGreatDoor
open Go.RowKit

theorem xor_app (x : UInt8) (k s : List UInt8) : ByteArray.mk ⟨Hm.xr x k⟩ ++ ByteArray.mk ⟨s⟩ = ⟨⟨Hm.xr x k ++ s⟩⟩ := app_str _ _

set_option maxRecDepth 100000 in
theorem Mac_any (k s : List UInt8) (w : World) (HT : Tabs w) (hk : k.length ≤ 10000) (hs : s.length ≤ 10000) :
    Calls Tryz.prog 53 #[.string ⟨⟨k⟩⟩, .string ⟨⟨s⟩⟩] w fun e w' => e = .returned (.string ⟨⟨Hm.mac k s⟩⟩) ∧ Below w.heap.size w w' := by
  have HE : Hid (Hm.mac k s = Sh.sum (Hm.xr 92 (Hm.key k) ++ Sh.sum (Hm.xr 54 (Hm.key k) ++ s))) := Lib.hid rfl
  have HKL := Lib.hid (Hm.key_length k)
  have HKA := Lib.hid (Key_any k w HT (by omega))
  generalize Hm.key k = q at *
  go_enter Tryz.func53, Tryz.ntmps53
  go_wp2_with fail
  refine HKA.out.mono ?_
  rintro _ w1 ⟨rfl, hb1⟩
  clear HKA
  have hq : q.length ≤ 64 := by rw [HKL.out]; exact Nat.le_refl _
  go_wp2_with fail
  refine (with_any 54 w1).mono ?_
  rintro _ w2 ⟨rfl, hw2⟩
  have hb2 : Below w.heap.size w w2 := by rw [← hw2]; exact hb1.alloc hb1.size _
  have hc2 : w2.cell? ⟨w1.heap.size, 0, none⟩ = some (.int .u8 ((54 : UInt8).toNat : Nat)) := by rw [← hw2]; exact boxed8 54 w1
  have HC2 := Lib.hid hc2
  clear hw2 hc2 hb1
  go_wp2_with fail
  refine (changed_any q 54 _ w2 (by omega) HC2.out).mono ?_
  rintro _ w3 ⟨rfl, hb3⟩
  have b3 := hb2.trans (hb3.mono hb2.size)
  have hl1 : (Hm.xr 54 q).length ≤ 64 := by rw [Hm.xr_length]; exact hq
  have hap1 := xor_app 54 q s
  generalize Hm.xr 54 q = x1 at *
  clear hb3 hb2 HC2
  go_wp2_with fail
  refine (Sum_any (x1 ++ s) w3 (HT.below b3) (by rw [List.length_append]; omega)).mono ?_
  rintro _ w4 ⟨rfl, hb4⟩
  have b4 := b3.trans (hb4.mono b3.size)
  have hls : (Sh.sum (x1 ++ s)).length ≤ 32 := by rw [Hm.sum_length]; exact Nat.le_refl _
  generalize Sh.sum (x1 ++ s) = sm at *
  clear hb4 b3 hap1 hl1
  go_wp2_with fail
  refine (with_any 92 w4).mono ?_
  rintro _ w5 ⟨rfl, hw5⟩
  have b5 : Below w.heap.size w w5 := by rw [← hw5]; exact b4.alloc b4.size _
  have hc5 : w5.cell? ⟨w4.heap.size, 0, none⟩ = some (.int .u8 ((92 : UInt8).toNat : Nat)) := by rw [← hw5]; exact boxed8 92 w4
  have HC5 := Lib.hid hc5
  clear hw5 hc5 b4
  go_wp2_with fail
  refine (changed_any q 92 _ w5 (by omega) HC5.out).mono ?_
  rintro _ w6 ⟨rfl, hb6⟩
  have b6 := b5.trans (hb6.mono b5.size)
  have hl2 : (Hm.xr 92 q).length ≤ 64 := by rw [Hm.xr_length]; exact hq
  have hap2 := xor_app 92 q sm
  generalize Hm.xr 92 q = x2 at *
  clear hb6 b5 HC5
  go_wp2_with fail
  refine (Sum_any (x2 ++ sm) w6 (HT.below b6) (by rw [List.length_append]; omega)).mono ?_
  rintro _ w7 ⟨rfl, hb7⟩
  have b7 := b6.trans (hb7.mono b6.size)
  generalize Sh.sum (x2 ++ sm) = m at *
  clear hb7 b6 hap2 hl2
  go_wp2
  go_ret
  exact ⟨by rw [HE.out]; rfl, b7⟩

theorem Mac_jefe (w : World) (HT : Tabs w) :
    Calls Tryz.prog 53 #[.string ⟨#[74, 101, 102, 101]⟩, .string ⟨#[119, 104, 97, 116, 32, 100, 111, 32, 121, 97, 32, 119, 97, 110, 116, 32, 102, 111, 114, 32, 110, 111, 116, 104, 105, 110, 103, 63]⟩] w fun e w' => e = .returned (.string ⟨#[91, 220, 193, 70, 191, 96, 117, 78, 106, 4, 36, 38, 8, 149, 117, 199, 90, 0, 63, 8, 157, 39, 57, 131, 157, 236, 88, 185, 100, 236, 56, 67]⟩) ∧ Below w.heap.size w w' := by
  have h := Mac_any [74, 101, 102, 101] [119, 104, 97, 116, 32, 100, 111, 32, 121, 97, 32, 119, 97, 110, 116, 32, 102, 111, 114, 32, 110, 111, 116, 104, 105, 110, 103, 63] w HT (by decide) (by decide)
  rw [Hm.mac_jefe] at h
  exact h
end Go.Proofs.YticofjbngfjjlaaGreatDoor

/- The calls at any argument; works. -/

namespace Go.Proofs.YticofjbngfjjlaaGreatDoor
open Go.RowKit

theorem macIs (k s : List UInt8) (hk : k.length ≤ 10000) (hs : s.length ≤ 10000) : MacIs k s (Hm.mac k s) := fun w h => Mac_any k s w h hk hs
theorem keyIs (b l : List UInt8) (n : Int) (hb : b.length ≤ 10000) (hl : l.length ≤ 5000) : KeyIs b n l (De.key b n l) := fun w h =>
  dKey_by b l _ n w h hl (Lib.hid (macIs b _ hb (by rw [De.txt_length]; omega)))
theorem dCipher_any (b : List UInt8) (n : Int) (w : World) (HT : Tabs w) (hb : b.length ≤ 10000) :
    Calls Tryz.prog 163 #[.string ⟨⟨b⟩⟩, .int .i64 n] w fun e w' => e = .returned (.string ⟨⟨(De.key b n [99, 105, 112, 104, 101, 114]).take 16⟩⟩) ∧ Below w.heap.size w w' :=
  dCipher_by b _ n w HT (De.key_length _ _ _) (Lib.hid (keyIs b _ n hb (by decide)))
theorem dSum_any (b : List UInt8) (n : Int) (w : World) (HT : Tabs w) (hb : b.length ≤ 10000) :
    Calls Tryz.prog 164 #[.string ⟨⟨b⟩⟩, .int .i64 n] w fun e w' => e = .returned (.string ⟨⟨De.key b n [115, 117, 109]⟩⟩) ∧ Below w.heap.size w w' :=
  dSum_by b _ n w HT (Lib.hid (keyIs b _ n hb (by decide)))
theorem dLong_any (a k : List UInt8) (n : Int) (w : World) (HT : Tabs w) (ha : a.length ≤ 5000) (hk : k.length ≤ 10000) :
    Calls Tryz.prog 23 #[.string ⟨⟨a⟩⟩, .int .i64 n, .string ⟨⟨k⟩⟩] w fun e w' => e = .returned (.string ⟨⟨Hm.mac k (De.txt [108, 111, 110, 103] n ++ a)⟩⟩) ∧ Below w.heap.size w w' :=
  dLong_by a k _ n w HT ha (Lib.hid (macIs k _ hk (by rw [List.length_append, De.txt_length]; simp; omega)))
theorem dSession_any (k : List UInt8) (n : Int) (w : World) (HT : Tabs w) (hk : k.length ≤ 10000) :
    Calls Tryz.prog 24 #[.int .i64 n, .string ⟨⟨k⟩⟩] w fun e w' => e = .returned (.string ⟨⟨Hm.mac k (De.txt [115, 101, 115, 115, 105, 111, 110] n)⟩⟩) ∧ Below w.heap.size w w' :=
  dSession_by k _ n w HT (Lib.hid (macIs k _ hk (by rw [De.txt_length]; decide)))

end Go.Proofs.YticofjbngfjjlaaGreatDoor

/- strconv.AppendInt: which functions and types of the program it and its callees are. -/

namespace Go.Proofs.YticofjbngfjjlaaGreatDoor
open Go.Shelf
def laysAI_ren : Go.Shelf.Ren := ⟨fun | 176 => 204 | 249 => 210 | 288 => 217 | 283 => 222 | 284 => 223 | 285 => 224 | 286 => 225 | 129 => 228 | 317 => 227 | 318 => 229 | 319 => 230 | 320 => 231 | 337 => 232 | 338 => 233 | n => n, fun | 37 => 31 | 2 => 2 | 3 => 3 | 53 => 117 | 4 => 4 | 9 => 9 | 171 => 213 | 0 => 0 | 173 => 216 | 212 => 219 | 51 => 131 | 5 => 5 | 20 => 20 | 213 => 220 | 46 => 174 | 232 => 223 | 233 => 130 | n => n, fun | 17 => 2 | 18 => 3 | 19 => 4 | n => n⟩
theorem laysAI : Go.Proofs.LaysM.n176 Tryz.prog laysAI_ren := {
  mixed := by kernel_rfl
  f129 := Tryz.func228.trans (congrArg some (by kernel_rfl))
  f176 := Tryz.func204.trans (congrArg some (by kernel_rfl))
  f249 := Tryz.func210.trans (congrArg some (by kernel_rfl))
  f283 := Tryz.func222.trans (congrArg some (by kernel_rfl))
  f284 := Tryz.func223.trans (congrArg some (by kernel_rfl))
  f285 := Tryz.func224.trans (congrArg some (by kernel_rfl))
  f286 := Tryz.func225.trans (congrArg some (by kernel_rfl))
  f288 := Tryz.func217.trans (congrArg some (by kernel_rfl))
  f317 := Tryz.func227.trans (congrArg some (by kernel_rfl))
  f318 := Tryz.func229.trans (congrArg some (by kernel_rfl))
  f319 := Tryz.func230.trans (congrArg some (by kernel_rfl))
  f320 := Tryz.func231.trans (congrArg some (by kernel_rfl))
  f337 := Tryz.func232.trans (congrArg some (by kernel_rfl))
  f338 := Tryz.func233.trans (congrArg some (by kernel_rfl))
  t0 := Tryz.underlying0
  a0 := Tryz.isAgg0
  z0 := Tryz.sizeOf0
  v0 := Tryz.zeroValue0
  t2 := Tryz.underlying2
  a2 := Tryz.isAgg2
  z2 := Tryz.sizeOf2
  v2 := Tryz.zeroValue2
  t3 := Tryz.underlying3
  a3 := Tryz.isAgg3
  z3 := Tryz.sizeOf3
  v3 := Tryz.zeroValue3
  t4 := Tryz.underlying4
  a4 := Tryz.isAgg4
  z4 := Tryz.sizeOf4
  v4 := Tryz.zeroValue4
  t5 := Tryz.underlying5
  a5 := Tryz.isAgg5
  z5 := Tryz.sizeOf5
  v5 := Tryz.zeroValue5
  t9 := Tryz.underlying9
  a9 := Tryz.isAgg9
  z9 := Tryz.sizeOf9
  v9 := Tryz.zeroValue9
  t20 := Tryz.underlying20
  a20 := Tryz.isAgg20
  z20 := Tryz.sizeOf20
  v20 := Tryz.zeroValue20
  t37 := Tryz.underlying31
  a37 := Tryz.isAgg31
  z37 := Tryz.sizeOf31
  v37 := Tryz.zeroValue31
  t46 := Tryz.underlying174
  a46 := Tryz.isAgg174
  z46 := Tryz.sizeOf174
  v46 := Tryz.zeroValue174
  t51 := Tryz.underlying131
  a51 := Tryz.isAgg131
  z51 := Tryz.sizeOf131
  v51 := Tryz.zeroValue131
  t53 := Tryz.underlying117
  a53 := Tryz.isAgg117
  z53 := Tryz.sizeOf117
  v53 := Tryz.zeroValue117
  t171 := Tryz.underlying213
  a171 := Tryz.isAgg213
  z171 := Tryz.sizeOf213
  v171 := Tryz.zeroValue213
  t173 := Tryz.underlying216
  a173 := Tryz.isAgg216
  z173 := Tryz.sizeOf216
  v173 := Tryz.zeroValue216
  t212 := Tryz.underlying219
  a212 := Tryz.isAgg219
  z212 := Tryz.sizeOf219
  v212 := Tryz.zeroValue219
  t213 := Tryz.underlying220
  a213 := Tryz.isAgg220
  z213 := Tryz.sizeOf220
  t232 := Tryz.underlying223
  a232 := Tryz.isAgg223
  z232 := Tryz.sizeOf223
  v232 := Tryz.zeroValue223
  t233 := Tryz.underlying130
  a233 := Tryz.isAgg130
  z233 := Tryz.sizeOf130
  v233 := Tryz.zeroValue130
  g17 := by kernel_rfl
  g18 := by kernel_rfl
  g19 := by kernel_rfl
  i0 := by kernel_rfl
  i2 := by kernel_rfl
  i3 := by kernel_rfl
  i4 := by kernel_rfl
  i5 := by kernel_rfl
  i9 := by kernel_rfl
  i20 := by kernel_rfl
  i37 := by kernel_rfl
  i46 := by kernel_rfl
  i51 := by kernel_rfl
  i53 := by kernel_rfl
  i171 := by kernel_rfl
  i173 := by kernel_rfl
  i212 := by kernel_rfl
  i232 := by kernel_rfl
  i233 := by kernel_rfl
  m17 := by kernel_rfl
  m18 := by kernel_rfl
  m19 := by kernel_rfl }
end Go.Proofs.YticofjbngfjjlaaGreatDoor

/- A buffer of bytes that grows; strconv.AppendInt onto it, with all else left alone. -/

namespace Go.Proofs.YticofjbngfjjlaaGreatDoor.Te
open Go.RowKit Go.Sort
open Tt

/-- Nothing but the value v's own row has changed; v' lies there, or in a new block. -/
structure Grw (w : World) (v : Value) (w' : World) (v' : Value) : Prop where
  grown : w.grownBy w' v.ownBlock
  lies : v'.ownBlock = v.ownBlock ∨ ∀ k, v'.ownBlock = some k → w.heap.size ≤ k
theorem Grw.refl (w : World) (v : Value) : Grw w v w v := ⟨⟨rfl, rfl, rfl, Nat.le_refl _, fun _ _ _ => rfl⟩, .inl rfl⟩
theorem Grw.trans {w w1 w2 : World} {v v1 v2 : Value} (h : Grw w v w1 v1) (k : Grw w1 v1 w2 v2) : Grw w v w2 v2 := by
  have hs := h.grown.size
  refine ⟨⟨k.grown.os.trans h.grown.os, k.grown.tape.trans h.grown.tape, k.grown.output.trans h.grown.output, Nat.le_trans hs k.grown.size, fun b hb hne => ?_⟩, ?_⟩
  · refine (k.grown.block b (by omega) fun e => ?_).trans (h.grown.block b hb hne)
    rcases h.lies with h' | h'
    · exact hne (e.trans h')
    · have := h' b e.symm; omega
  · rcases k.lies with k' | k'
    · rcases h.lies with h' | h'
      · exact .inl (k'.trans h')
      · exact .inr fun b hb => h' b (k' ▸ hb)
    · exact .inr fun b hb => Nat.le_trans hs (k' b hb)
theorem Grw.below {w w' : World} {v : Value} (h : Below w.heap.size w w') : Grw w v w' v :=
  ⟨⟨h.os, h.tape, h.output, h.size, fun k hk _ => h.block k hk⟩, .inl rfl⟩
theorem Grw.alloc (w : World) (v : Value) (o : Obj) : Grw w v (w.alloc o) v := .below ((Below.refl _ _).alloc (Nat.le_refl _) _)
/-- A block that is not the buffer's is kept, and is not the new one's either. -/
theorem Grw.keep {w w' : World} {v v' : Value} (h : Grw w v w' v') {b : Nat} {o : Obj} (hb : w.heap[b]? = some o) (hne : some b ≠ v.ownBlock) : w'.heap[b]? = some o ∧ some b ≠ v'.ownBlock := by
  have hlt := (Array.getElem?_eq_some_iff.1 hb).1
  refine ⟨(h.grown.block b hlt hne).trans hb, fun e => ?_⟩
  rcases h.lies with h' | h'
  · exact hne (e.trans h')
  · have := h' b e.symm; omega

/-- The value v is a buffer of the bytes l, from block B on. -/
def Buf (B : Nat) (w : World) (v : Value) (l : List UInt8) : Prop := w.ownsRow B 5 1 v l.length (Lib.byteCells l) ∧ B ≤ w.heap.size
theorem Buf.nil (w : World) (B : Nat) (h : B ≤ w.heap.size) : Buf B w (.slice none 0 0) [] := ⟨World.ownsRow_nil _ _ _ _, h⟩
theorem Buf.bel {B : Nat} {w w' : World} {v : Value} {l : List UInt8} (h : Buf B w v l) (hb : Below w.heap.size w w') : Buf B w' v l := by
  refine ⟨h.1.kept (row := none) ⟨hb.os, hb.tape, hb.output, hb.size, fun k hk _ => hb.block k hk⟩ ?_, Nat.le_trans h.2 hb.size⟩
  cases hv : v.ownBlock with
  | none => exact .inl rfl
  | some k => exact .inr (by simp)
theorem Buf.low {B : Nat} {w w' : World} {v v' : Value} {l : List UInt8} (h : Buf B w v l) (hg : Grw w v w' v') : Below B w w' :=
  (Below.refl B w).grown hg.grown h.2 (fun k hk => (h.1.lt k hk).1)
theorem Buf.own {B : Nat} {w : World} {v : Value} {l : List UInt8} (h : Buf B w v l) {b : Nat} {c : Array Value} {t : TypeId} {fr : Nat × Nat} (hb : w.heap[b]? = some (.cells c t fr)) (ht : t ≠ 5) : some b ≠ v.ownBlock := by
  intro e
  rcases h.1.2 with ⟨h', _⟩ | ⟨g, cap, cur, h', _, hg, _⟩
  · rw [h'] at e; simp [Value.ownBlock] at e
  · rw [h'] at e
    obtain rfl : b = g := by simpa [Value.ownBlock] using e
    rw [hb] at hg
    simp at hg
    exact ht hg.2.1
theorem Buf.old {B : Nat} {w : World} {v : Value} {l : List UInt8} (h : Buf B w v l) {b : Nat} (hb : w.heap.size ≤ b) : some b ≠ v.ownBlock := by
  intro e
  have := (h.1.lt b e.symm).2
  omega
theorem Buf.form {B : Nat} {w : World} {v : Value} {l : List UInt8} (h : Buf B w v l) : ∃ A c, v = .slice A l.length c := by
  rcases h.1.2 with ⟨h', h0⟩ | ⟨g, cap, cur, h', _⟩
  · exact ⟨none, 0, by rw [h', h0]⟩
  · exact ⟨_, _, h'⟩

theorem info5 : (Tryz.prog.info? 5).map (fun i => (i.zero, i.size, i.bytes)) = some (some (.int .u8 0), 1, 1) := by kernel_rfl
theorem bcell_one (l : List UInt8) : ∀ u ∈ Lib.byteCells l, u.oneCell' = true := by
  intro u hu
  simp only [Lib.byteCells, List.mem_map] at hu
  obtain ⟨b, _, rfl⟩ := hu
  rfl

/-- append(v, bytes..) of a slice that lies in its own block h. -/
theorem run_app {B : Nat} {w : World} {v : Value} {l : List UInt8} (h : Buf B w v l) (m : List UInt8) (a : Addr) (c : Nat) (hm : ∀ j u, (Lib.byteCells m)[j]? = some u → w.cell? (a.add j) = some u) (hl : l.length + m.length ≤ 1000000000000) :
    ∃ v' w', (Builtin.append_ #[31, 31] 31 #[v, .slice (some a) m.length c]).run Tryz.prog w = .ok v' w' ∧ Buf B w' v' (l ++ m) ∧ Grw w v w' v' := by
  obtain ⟨i, hi, hz, hs, hb⟩ := info_parts info5
  obtain ⟨v', w', hr, ho, hg, -, hat⟩ := run_append_own_at (P := Tryz.prog) w B 31 31 5 i (.int .u8 0) 1 1 Tryz.underlying31 hi hz hs hb rfl (by decide) v l.length _ h.1 a m.length c (Lib.byteCells m) (by rw [Lib.byteCells_length, Nat.mul_one]) hm (bcell_one m) (by unfold maxLen; omega) (by omega) h.2
  refine ⟨v', w', hr, ⟨by rw [List.length_append, Lib.byteCells_append]; exact ho, Nat.le_trans h.2 hg.size⟩, hg, ?_⟩
  rcases hat with h1 | h1
  · exact .inl h1
  · exact .inr fun k hk => by rw [h1] at hk; cases hk; exact Nat.le_refl _
/-- append(v, text..). -/
theorem run_appS {B : Nat} {w : World} {v : Value} {l : List UInt8} (h : Buf B w v l) (s : List UInt8) (hl : l.length + s.length ≤ 1000000000000) :
    ∃ v' w', (Builtin.append_ #[31, 9] 31 #[v, .string ⟨⟨s⟩⟩]).run Tryz.prog w = .ok v' w' ∧ Buf B w' v' (l ++ s) ∧ Grw w v w' v' := by
  obtain ⟨i, hi, hz, hs, hb⟩ := info_parts info5
  have hsz : (⟨⟨s⟩⟩ : ByteArray).size = s.length := rfl
  obtain ⟨v', w', hr, ho, hg, hnil⟩ := Lib.run_append_own_string (P := Tryz.prog) w B 31 9 31 5 i Tryz.underlying31 Tryz.underlying9 hi hz hs hb v l.length _ h.1 ⟨⟨s⟩⟩ (by rw [hsz]; unfold maxLen; omega) (by rw [hsz]; omega) h.2
  rw [hsz] at ho hnil
  refine ⟨v', w', hr, ⟨by rw [List.length_append, Lib.byteCells_append]; exact ho, Nat.le_trans h.2 hg.size⟩, hg, ?_⟩
  rcases h.1.2 with ⟨rfl, h0⟩ | ⟨g, cap, cur, rfl, hbg, hgc, hnc, hcm, hcs, htake⟩
  · by_cases hm : s.length = 0
    · rw [hnil.2 ⟨rfl, hm⟩]; exact .inl rfl
    · have hr2 := run_append_nil_string (P := Tryz.prog) w 31 9 31 5 i (.int .u8 0) Tryz.underlying31 Tryz.underlying9 hi hz ⟨⟨s⟩⟩ (by rw [hsz]; omega) (by rw [hsz]; omega) (by rw [hb, hsz]; omega)
      rw [hr2] at hr
      injection hr with e1 e2
      subst e1
      exact .inr fun k hk => by cases hk; exact Nat.le_refl _
  · by_cases hroom : l.length + s.length ≤ cap
    · have hr2 := Lib.run_append_room_string (P := Tryz.prog) w 31 9 31 5 i Tryz.underlying31 Tryz.underlying9 hi hs g l.length cap cur hgc ⟨⟨s⟩⟩ hroom (by rw [hcs, hsz, Nat.mul_one]; exact hroom)
      rw [hr2] at hr
      injection hr with e1 e2
      subst e1
      exact .inl rfl
    · have hr2 := Lib.run_append_grow_string (P := Tryz.prog) w 31 9 31 5 i (.int .u8 0) Tryz.underlying31 Tryz.underlying9 hi hz ⟨g, 0, none⟩ l.length cap (Lib.byteCells l) (by rw [hs, Lib.byteCells_length, Nat.mul_one]) (h.1.cells (g := g) rfl) ⟨⟨s⟩⟩ (by rw [hsz]; omega) (by rw [hsz]; omega) (by rw [hb, hsz]; exact growslice_fits (by omega) (by omega))
      rw [hr2] at hr
      injection hr with e1 e2
      subst e1
      exact .inr fun k hk => by cases hk; exact Nat.le_refl _

section
variable {P : Program} {ops : Array Oper} {rest : List Oper} {o : Oper} {a : Act} {Q : Exit → Act → World → Prop} {K : Act → World → Prop} {E : Prop}
theorem wp_append_run (w : World) (s x : Operand) (t u : TypeId) (ho : o.op = .call { callee := .builtin .append, args := #[s, x], argTypes := #[t, u] }) (v y : Value) (hs : a.eval s = v) (hx : a.eval x = y) {v' : Value} {w' : World}
    (hr : (Builtin.append_ #[t, u] o.type #[v, y]).run P w = .ok v' w') (h : K (a.put o.dst v') w') : o.wp P a w K Q := by
  unfold Oper.wp execOp
  simp only [ho, resolve, invoke, builtin, Sem.run_bind, Sem.run_pure, Result.andThen_ok, List.map_toArray, List.map_cons, List.map_nil, hs, hx, hr]
  exact h
theorem wpList_append_run (w : World) (hgd : o.guard = none) (s x : Operand) (t u : TypeId) (ho : o.op = .call { callee := .builtin .append, args := #[s, x], argTypes := #[t, u] }) (v y : Value) (hs : a.eval s = v) (hx : a.eval x = y) {v' : Value} {w' : World}
    (hr : (Builtin.append_ #[t, u] o.type #[v, y]).run P w = .ok v' w') (h : wpList P ops Q rest (a.put o.dst v') w') : wpList P ops Q (o :: rest) a w :=
  wpList_plain hgd fun _ hK => wp_append_run w s x t u ho v y hs hx hr (hK _ _ h)
theorem op_append_run (w : World) (hg : o.guard = none) (s x : Operand) (t u : TypeId) (ho : o.op = .call { callee := .builtin .append, args := #[s, x], argTypes := #[t, u] }) (v y : Value) (hs : a.eval s = v) (hx : a.eval x = y) {v' : Value} {w' : World}
    (hr : (Builtin.append_ #[t, u] o.type #[v, y]).run P w = .ok v' w') (h : K (a.put o.dst v') w') : if Region.wanted o (yielded ops a.tmps) = true then o.wp P a w K Q else E := by
  have hw : Region.wanted o (yielded ops a.tmps) = true := by simp [Region.wanted, hg]
  rw [if_pos hw]
  exact wp_append_run w s x t u ho v y hs hx hr h
end

/-- A new block of one byte. -/
theorem cell_byte (w : World) (c : UInt8) : ∀ j u, (Lib.byteCells [c])[j]? = some u → (w.alloc (.cells #[.int .u8 (c.toNat : Nat)] 5)).cell? ((⟨w.heap.size, 0, none⟩ : Addr).add j) = some u := by
  intro j u hj
  rw [Addr.add_lit, Nat.zero_add, cell_of_row _ _ _ _ _ _ (heap_alloc_new w _)]
  simpa [Lib.byteCells] using hj
theorem cell_byte' {w : World} {h : Nat} {c : UInt8} (hb : w.heap[h]? = some (.cells #[.int .u8 (c.toNat : Nat)] 5 (0, 0))) : ∀ j u, (Lib.byteCells [c])[j]? = some u → w.cell? ((⟨h, 0, none⟩ : Addr).add j) = some u := by
  intro j u hj
  rw [Addr.add_lit, Nat.zero_add, cell_of_row _ _ _ _ _ _ hb]
  simpa [Lib.byteCells] using hj

abbrev TabB (B : Nat) (w : World) : Prop := Lib.TabBelow Tryz.prog B w "internal/strconv.uint64pow10" .u64 Lib.pow10Tab

set_option maxHeartbeats 1000000 in
set_option maxRecDepth 100000 in
theorem appUsmall_any (B u : Nat) (hu : u < 100) (v : Value) (l : List UInt8) (w : World) (h : Buf B w v l) (hl : l.length ≤ 999999999900) :
    Calls Tryz.prog 217 #[v, .int .u64 (u : Nat), .int .i64 10] w fun e w' => ∃ v', e = .returned v' ∧ Buf B w' v' (l ++ Lib.decDigits u) ∧ Grw w v w' v' := by
  have hlen : (Lib.decDigits u).length ≤ 20 := by
    rw [Lib.decDigits_length]
    by_cases h10 : u < 10
    · rw [Lib.nDigits_small h10]; omega
    · rw [Lib.nDigits_big h10, Lib.nDigits_small (show u / 10 < 10 by omega)]; omega
  obtain ⟨v', w', hr, hB, hG⟩ := run_appS h (Lib.decDigits u) (by omega)
  have HS := Lib.hid (Any.internal_strconv_small (P := Tryz.prog) (ρ := laysAI_ren) { laysAI with } u hu w)
  have hui : (u : Int) < 100 := by omega
  have HB := Lib.hid hB
  have HG := Lib.hid hG
  have HR := Lib.hid hr
  clear hB hG h hr
  generalize Lib.decDigits u = ds at *
  go_enter Tryz.func217, Tryz.ntmps217
  go_wp2_with fail
  refine HS.out.mono ?_
  rintro _ _ ⟨rfl, rfl⟩
  go_wp2_with (at_builtin; refine wpList_append_run _ rfl (.tmp 13) (.tmp 16) 31 9 rfl _ _ rfl rfl HR.out ?_)
  go_ret
  exact ⟨_, rfl, HB.out, HG.out⟩

set_option maxHeartbeats 2000000 in
set_option maxRecDepth 100000 in
theorem appUbig_any (B u : Nat) (hu : 100 ≤ u) (hu64 : u < 18446744073709551616) (v : Value) (l : List UInt8) (w : World) (h : Buf B w v l) (hl : l.length ≤ 999999999900) (htab : Lib.TabIs Tryz.prog w "internal/strconv.uint64pow10" .u64 Lib.pow10Tab) :
    Calls Tryz.prog 217 #[v, .int .u64 (u : Nat), .int .i64 10] w fun e w' => ∃ v', e = .returned v' ∧ Buf B w' v' (l ++ Lib.decDigits u) ∧ Grw w v w' v' := by
  have hu1 : 1 ≤ u := by omega
  have hnd20 : Lib.nDigits u ≤ 20 := by have := Lib.numDigits_eq u hu1 hu64; split at this <;> omega
  have hdl := Lib.decDigits_length u
  have hal : Tryz.prog.arrayLen 213 = 24 := by simp [Program.arrayLen, Tryz.underlying213]
  have HF := Lib.hid (Any.internal_strconv_formatBase10 (P := Tryz.prog) (ρ := laysAI_ren) { laysAI with } w.heap.size 0 24 u (Array.replicate (Lib.nDigits u) 0) (w.alloc (.cells Lib.zeros24 213)) (Lib.holds_zero0 w 213 (Lib.nDigits u) (by omega)) (by rw [Array.size_replicate]; exact Lib.lt_pow_nDigits u) hu64 (by rw [Array.size_replicate]; omega))
  have HND := Lib.hid (Any.internal_strconv_numDigits (P := Tryz.prog) (ρ := laysAI_ren) { laysAI with } u hu1 hu64 (w.alloc (.cells Lib.zeros24 213)) (Lib.tabIs_alloc htab _))
  have HH := Lib.hid (Lib.holds_zero0 w 213 (Lib.nDigits u) (by omega))
  have hsl : ∀ W, (Instr.sliceAt 213 (.pointer (some ⟨w.heap.size, 0, none⟩)) none (some (.int .i64 (Lib.nDigits u : Int))) none).run Tryz.prog W = .ok (.slice (some ⟨w.heap.size, 0, none⟩) (Lib.nDigits u) 24) W := fun W => by
    rw [run_sliceAt_array_h W 213 ⟨w.heap.size, 0, none⟩ (by simp [Program.arrayLen, Program.elem, Tryz.underlying213]) .i64 (Lib.nDigits u : Int) (by omega) (by rw [hal]; omega)]
    go_simp
  have hui : ¬ (u : Int) < 100 := by omega
  clear hal htab
  go_enter Tryz.func217, Tryz.ntmps217
  go_wp2_with fail
  refine HND.out.mono ?_
  rintro _ _ ⟨rfl, rfl⟩
  go_wp2_with fail
  have hf := HF.out
  rw [Array.size_replicate] at hf
  refine hf.mono ?_
  rintro _ _ ⟨rfl, k, v1, dk, rfl, hF⟩
  obtain ⟨os, eo⟩ := Lib.fin_at w (.cells Lib.zeros24 213) dk k 0
  have hcells : ∀ j u', (Lib.byteCells (Lib.decDigits u))[j]? = some u' → ((putRow (fun (b : UInt8) => Value.int .u8 (b.toNat : Int)) (w.alloc (.cells Lib.zeros24 213)) w.heap.size 0 dk).drewN k).cell? ((⟨w.heap.size, 0, none⟩ : Addr).add j) = some u' := by
    intro j u' hj
    have hjl : j < (Lib.decDigits u).length := by
      have := (List.getElem?_eq_some_iff.1 hj).1
      rwa [Lib.byteCells_length] at this
    have hj2 : u' = Value.int .u8 ((Lib.decDigits u)[j].toNat : Int) := by
      rw [Lib.byteCells, List.getElem?_map, List.getElem?_eq_getElem hjl] at hj
      simpa using hj.symm
    rw [hj2, Lib.row_is_numeral hF j hjl, Lib.add_plain, World.cell?_drewN]
    exact cell?_putRow (fun (b : UInt8) => Value.int .u8 (b.toNat : Int)) _ w.heap.size 0 _ dk HH.out (by rw [hF.size, Array.size_replicate]) j (by rw [hF.size, ← hdl]; exact hjl)
  have hbel : Below w.heap.size w ((putRow (fun (b : UInt8) => Value.int .u8 (b.toNat : Int)) (w.alloc (.cells Lib.zeros24 213)) w.heap.size 0 dk).drewN k) := by rw [eo]; exact Lib.below_grow w.heap.size w (Nat.le_refl _) k os
  generalize (putRow (fun (b : UInt8) => Value.int .u8 (b.toNat : Int)) (w.alloc (.cells Lib.zeros24 213)) w.heap.size 0 dk).drewN k = W2 at hcells hbel ⊢
  obtain ⟨v', w', hr, hB, hG⟩ := run_app (h.bel hbel) (Lib.decDigits u) ⟨w.heap.size, 0, none⟩ 24 hcells (by omega)
  rw [hdl] at hr
  have HR := Lib.hid hr
  have HB := Lib.hid hB
  have HG := Lib.hid ((Grw.below hbel).trans hG)
  clear eo hcells hbel hr hB hG hF hf
  go_wp2_with (at_builtin; refine wpList_append_run _ rfl (.tmp 24) (.tmp 26) 31 31 rfl _ _ rfl rfl HR.out ?_)
  go_ret
  exact ⟨_, rfl, HB.out, HG.out⟩

set_option maxHeartbeats 2000000 in
set_option maxRecDepth 100000 in
theorem appInt_any (B : Nat) (i : Int) (hi : InR i) (v : Value) (l : List UInt8) (w : World) (h : Buf B w v l) (hl : l.length ≤ 999999999800) (htab : TabB B w) :
    Calls Tryz.prog 210 #[v, .int .i64 i, .int .i64 10] w fun e w' => ∃ v', e = .returned v' ∧ Buf B w' v' (l ++ Lib.itoa i) ∧ Grw w v w' v' := by
  have hU : ∀ (u : Nat) (v : Value) (l : List UInt8) (W : World), u < 18446744073709551616 → Buf B W v l → l.length ≤ 999999999900 → Lib.TabIs Tryz.prog W "internal/strconv.uint64pow10" .u64 Lib.pow10Tab → Calls Tryz.prog 217 #[v, .int .u64 (u : Nat), .int .i64 10] W fun e w' => ∃ v', e = .returned v' ∧ Buf B w' v' (l ++ Lib.decDigits u) ∧ Grw W v w' v' := by
    intro u v l W h1 h2 h3 h4
    by_cases hu : u < 100
    · exact appUsmall_any B u hu v l W h2 h3
    · exact appUbig_any B u (by omega) h1 v l W h2 h3 h4
  have HU := Lib.hid hU
  clear hU
  by_cases hneg : i < 0
  · obtain ⟨u, rfl⟩ : ∃ u : Nat, i = -(u : Int) := ⟨i.natAbs, by omega⟩
    obtain ⟨hi0, hi1⟩ := hi
    have hwr : IntKind.u64.wrap (-IntKind.u64.wrap (-(u : Int))) = (u : Int) := by rw [IntKind.wrap_u64, IntKind.wrap_u64]; omega
    rw [Lib.itoa_neg u (by omega)]
    have hb1 : Below w.heap.size w (w.alloc (.cells #[.int .u8 45] 5)) := (Below.refl _ _).alloc (Nat.le_refl _) _
    obtain ⟨v', w', hr, hB, hG⟩ := run_app (h.bel hb1) [45] ⟨w.heap.size, 0, none⟩ 1 (cell_byte w 45) (by simp; omega)
    have hG2 := (Grw.alloc w v (.cells #[.int .u8 45] 5)).trans hG
    have HC := Lib.hid (HU.out u v' (l ++ [45]) w' (by omega) hB (by simp; omega) (htab w' (h.low hG2)))
    have HR := Lib.hid hr
    have HG := Lib.hid hG2
    clear hr hB hG hG2 hb1 h htab HU
    generalize Lib.decDigits u = ds at *
    go_enter Tryz.func210, Tryz.ntmps210
    go_wp2_with (at_builtin; refine wpList_append_run _ rfl (.tmp 12) (.tmp 13) 31 31 rfl _ _ rfl rfl HR.out ?_)
    refine HC.out.mono ?_
    rintro _ w2 ⟨v2, rfl, hB2, hG2⟩
    have HB2 := Lib.hid hB2
    have HG2 := Lib.hid (HG.out.trans hG2)
    clear hB2 hG2 HC
    go_wp2
    go_ret
    exact ⟨v2, rfl, by have := HB2.out; rwa [List.append_assoc] at this, HG2.out⟩
  · obtain ⟨u, rfl⟩ : ∃ u : Nat, i = u := ⟨i.toNat, by omega⟩
    obtain ⟨hi0, hi1⟩ := hi
    rw [Lib.itoa_nonneg]
    have HC := Lib.hid (HU.out u v l w (by omega) h (by omega) htab.here)
    have hwr : IntKind.u64.wrap (u : Int) = (u : Int) := by rw [IntKind.wrap_u64]; omega
    clear h htab HU
    generalize Lib.decDigits u = ds at *
    go_enter Tryz.func210, Tryz.ntmps210
    go_wp2_with fail
    refine HC.out.mono ?_
    rintro _ w2 ⟨v2, rfl, hB2, hG2⟩
    have HB2 := Lib.hid hB2
    have HG2 := Lib.hid hG2
    clear hB2 hG2 HC
    go_wp2
    go_ret
    exact ⟨v2, rfl, HB2.out, HG2.out⟩

set_option maxHeartbeats 400000 in
set_option maxRecDepth 100000 in
theorem appIntP_any (B : Nat) (i : Int) (hi : InR i) (v : Value) (l : List UInt8) (w : World) (h : Buf B w v l) (hl : l.length ≤ 999999999800) (htab : TabB B w) :
    Calls Tryz.prog 204 #[v, .int .i64 i, .int .i64 10] w fun e w' => ∃ v', e = .returned v' ∧ Buf B w' v' (l ++ Lib.itoa i) ∧ Grw w v w' v' := by
  have HC := Lib.hid (appInt_any B i hi v l w h hl htab)
  clear h htab hi
  go_enter Tryz.func204, Tryz.ntmps204
  go_wp2_with fail
  refine HC.out.mono ?_
  rintro _ w2 ⟨v2, rfl, hB2, hG2⟩
  have HB2 := Lib.hid hB2
  have HG2 := Lib.hid hG2
  clear hB2 hG2 HC
  go_wp2
  go_ret
  exact ⟨v2, rfl, HB2.out, HG2.out⟩

set_option maxHeartbeats 400000 in
set_option maxRecDepth 100000 in
theorem number_any (B : Nat) (i : Int) (hi : InR i) (v : Value) (l : List UInt8) (w : World) (h : Buf B w v l) (hl : l.length ≤ 999999999800) (htab : TabB B w) :
    Calls Tryz.prog 191 #[v, .int .i64 i] w fun e w' => ∃ v', e = .returned v' ∧ Buf B w' v' (l ++ Lib.itoa i) ∧ Grw w v w' v' := by
  have HC := Lib.hid (appIntP_any B i hi v l w h hl htab)
  clear h htab hi
  go_enter Tryz.func191, Tryz.ntmps191
  go_wp2_with fail
  refine HC.out.mono ?_
  rintro _ w2 ⟨v2, rfl, hB2, hG2⟩
  have HB2 := Lib.hid hB2
  have HG2 := Lib.hid hG2
  clear hB2 hG2 HC
  go_wp2
  go_ret
  exact ⟨v2, rfl, HB2.out, HG2.out⟩
end Go.Proofs.YticofjbngfjjlaaGreatDoor.Te

/- A region in whatever order, by what holds when some of its operations have come up. -/

namespace Go.Proofs.YticofjbngfjjlaaGreatDoor.Te


theorem count_set : ∀ (l : List Bool) (i : Nat), l[i]? = some false → (l.set i true).countP (!·) + 1 = l.countP (!·)
  | [], i, h => by simp at h
  | b :: l, 0, h => by
    obtain rfl : b = false := by simpa using h
    simp
  | b :: l, i + 1, h => by
    have ih := count_set l i (by simpa using h)
    rw [List.set_cons_succ, List.countP_cons, List.countP_cons]
    omega
theorem count_zero : ∀ (l : List Bool), l.countP (!·) = 0 → ∀ i, i < l.length → l[i]? = some true
  | [], _, i, h => by simp at h
  | b :: l, hc, i, h => by
    rw [List.countP_cons] at hc
    cases i with
    | zero =>
      cases b
      · simp at hc
      · rfl
    | succ i => exact count_zero l (by omega) i (by simpa using h)

section
variable {P : Program} {ops : Array Oper} {Q : Exit → Act → World → Prop}

theorem mem_ready {listed : Array Bool} {i : Nat} : i ∈ Region.ready .any ops listed ↔ ∃ o, ops[i]? = some o ∧ listed.getD i true = false ∧ ∀ e ∈ o.after, Region.binds .any e = true → listed.getD e.on false = true := by
  simp only [Region.ready, List.mem_filter, List.mem_range, Bool.and_eq_true, Bool.not_eq_true']
  constructor
  · rintro ⟨h1, h2, h3⟩
    rw [Array.getElem?_eq_getElem h1, Option.map_some, Option.getD_some, Array.all_eq_true'] at h3
    refine ⟨_, Array.getElem?_eq_getElem h1, h2, fun e he hb => ?_⟩
    have := h3 e he
    rw [hb] at this
    simpa using this
  · rintro ⟨o, h1, h2, h3⟩
    refine ⟨(Array.getElem?_eq_some_iff.1 h1).1, h2, ?_⟩
    rw [h1, Option.map_some, Option.getD_some, Array.all_eq_true']
    intro e he
    cases hb : Region.binds .any e
    · rfl
    · rw [h3 e he hb]; rfl

theorem wpAny_inv (I : (Nat → Bool) → Act → World → Prop) (hdep : ∀ (i : Nat) (o : Oper), ops[i]? = some o → ∀ e ∈ o.after, Region.binds .any e = true → e.on < i)
    (hop : ∀ L a w i o, I L a w → ops[i]? = some o → L i = false → (∀ e ∈ o.after, Region.binds .any e = true → L e.on = true) → wpOp P ops Q i (I (fun j => if j = i then true else L j)) a w)
    (hdone : ∀ L a w, I L a w → (∀ i, i < ops.size → L i = true) → Q .normal a w) :
    ∀ (fuel : Nat) (listed : Array Bool) (a : Act) (w : World), listed.size = ops.size → listed.toList.countP (!·) ≤ fuel → I (fun j => listed.getD j false) a w → wpAny P .any ops Q fuel listed a w := by
  have hall : ∀ (listed : Array Bool), listed.size = ops.size → Region.ready .any ops listed = [] → ∀ i, i < ops.size → listed.getD i false = true := by
    intro listed hs hr i
    induction i using Nat.strongRecOn with
    | _ i ih =>
      intro hi
      have hg : listed.getD i false = listed.getD i true := by simp [Array.getD, hs, hi]
      cases hc : listed.getD i true with
      | true => rw [hg, hc]
      | false =>
        have : i ∈ Region.ready .any ops listed := mem_ready.2 ⟨_, Array.getElem?_eq_getElem hi, hc, fun e he hb => ih e.on (hdep i _ (Array.getElem?_eq_getElem hi) e he hb) (Nat.lt_trans (hdep i _ (Array.getElem?_eq_getElem hi) e he hb) hi)⟩
        rw [hr] at this
        cases this
  intro fuel
  induction fuel with
  | zero =>
    intro listed a w hs hc hI
    have hz : Region.ready .any ops listed = [] := by
      apply List.eq_nil_iff_forall_not_mem.2
      intro i hi
      obtain ⟨o, ho, hf, _⟩ := mem_ready.1 hi
      have hlt : i < listed.size := by rw [hs]; exact (Array.getElem?_eq_some_iff.1 ho).1
      have := count_zero listed.toList (by omega) i (by simpa using hlt)
      simp [Array.getD, hlt] at hf this
      rw [hf] at this
      cases this
    exact ⟨hz, hdone _ _ _ hI (hall listed hs hz)⟩
  | succ fuel ih =>
    intro listed a w hs hc hI
    refine ⟨fun hz => hdone _ _ _ hI (hall listed hs hz), fun i hi => ?_⟩
    obtain ⟨o, ho, hf, hd⟩ := mem_ready.1 hi
    have hlt : i < listed.size := by rw [hs]; exact (Array.getElem?_eq_some_iff.1 ho).1
    have hgi : listed.toList[i]? = some false := by
      simp [Array.getD, hlt] at hf
      simp [hlt, hf]
    refine wpOp_mono (fun a' w' hI' => ih _ a' w' (by simpa using hs) ?_ ?_) (hop _ a w i o hI ho (by simp [Array.getD, hlt] at hf ⊢; exact hf) hd)
    · have := count_set listed.toList i hgi
      rw [Array.toList_setIfInBounds]
      omega
    · refine cast (congrArg (fun L => I L a' w') (funext fun j => ?_)) hI'
      by_cases hj : j = i
      · subst hj
        simp [Array.getD, hlt]
      · rw [if_neg hj]
        have e : (listed.setIfInBounds i true)[j]? = listed[j]? := Array.getElem?_setIfInBounds_ne (fun h => hj h.symm)
        rw [Array.getD_eq_getD_getElem?, Array.getD_eq_getD_getElem?, e]

/-- Each operation waits for earlier ones alone. -/
def depsB (ops : Array Oper) : Bool := (List.range ops.size).all fun i => match ops[i]? with | some o => o.after.all fun e => !Region.binds .any e || decide (e.on < i) | none => true
theorem depsB_spec (h : depsB ops = true) (i : Nat) (o : Oper) (ho : ops[i]? = some o) (e : Edge) (he : e ∈ o.after) (hb : Region.binds .any e = true) : e.on < i := by
  have h1 := List.all_eq_true.1 h i (List.mem_range.2 (Array.getElem?_eq_some_iff.1 ho).1)
  rw [ho] at h1
  have h2 := (Array.all_eq_true'.1 h1) e he
  rw [hb] at h2
  simpa using h2
/-- What is so at the beginning, and goes on with each operation that may come up, is so at the end. -/
theorem wp_region_inv {id : Nat} {a : Act} {w : World} (hm : P.follows .mixedOrders = true) (I : (Nat → Bool) → Act → World → Prop) (hdep : depsB ops = true)
    (h0 : I (fun _ => false) a w.drew)
    (hop : ∀ L a w i o, I L a w → ops[i]? = some o → L i = false → (∀ e ∈ o.after, Region.binds .any e = true → L e.on = true) → wpOp P ops Q i (I (fun j => if j = i then true else L j)) a w)
    (hdone : ∀ L a w, I L a w → (∀ i, i < ops.size → L i = true) → Q .normal a w) : (Code.region id ops true).wp P Q a w := by
  refine wp_region_any hm (wpAny_inv I (depsB_spec hdep) hop hdone _ _ _ _ (by simp) ?_ ?_)
  · rw [Array.toList_replicate]
    exact Nat.le_trans (List.countP_le_length) (by simp)
  · refine cast (congrArg (fun L => I L a w.drew) (funext fun j => ?_)) h0
    simp [Array.getD]
variable {F : Fence} {n : Nat}
theorem wpAnyIn_inv (I : (Nat → Bool) → Act → World → Prop) (hdep : ∀ (i : Nat) (o : Oper), ops[i]? = some o → ∀ e ∈ o.after, Region.binds .any e = true → e.on < i)
    (hop : ∀ L a w i o, I L a w → ops[i]? = some o → L i = false → (∀ e ∈ o.after, Region.binds .any e = true → L e.on = true) → wpOpIn F n P ops Q i (I (fun j => if j = i then true else L j)) a w)
    (hdone : ∀ L a w, I L a w → (∀ i, i < ops.size → L i = true) → Q .normal a w) :
    ∀ (fuel : Nat) (listed : Array Bool) (a : Act) (w : World), listed.size = ops.size → listed.toList.countP (!·) ≤ fuel → I (fun j => listed.getD j false) a w → wpAnyIn F n P .any ops Q fuel listed a w := by
  have hall : ∀ (listed : Array Bool), listed.size = ops.size → Region.ready .any ops listed = [] → ∀ i, i < ops.size → listed.getD i false = true := by
    intro listed hs hr i
    induction i using Nat.strongRecOn with
    | _ i ih =>
      intro hi
      have hg : listed.getD i false = listed.getD i true := by simp [Array.getD, hs, hi]
      cases hc : listed.getD i true with
      | true => rw [hg, hc]
      | false =>
        have : i ∈ Region.ready .any ops listed := mem_ready.2 ⟨_, Array.getElem?_eq_getElem hi, hc, fun e he hb => ih e.on (hdep i _ (Array.getElem?_eq_getElem hi) e he hb) (Nat.lt_trans (hdep i _ (Array.getElem?_eq_getElem hi) e he hb) hi)⟩
        rw [hr] at this
        cases this
  intro fuel
  induction fuel with
  | zero =>
    intro listed a w hs hc hI
    have hz : Region.ready .any ops listed = [] := by
      apply List.eq_nil_iff_forall_not_mem.2
      intro i hi
      obtain ⟨o, ho, hf, _⟩ := mem_ready.1 hi
      have hlt : i < listed.size := by rw [hs]; exact (Array.getElem?_eq_some_iff.1 ho).1
      have := count_zero listed.toList (by omega) i (by simpa using hlt)
      simp [Array.getD, hlt] at hf this
      rw [hf] at this
      cases this
    exact ⟨hz, hdone _ _ _ hI (hall listed hs hz)⟩
  | succ fuel ih =>
    intro listed a w hs hc hI
    refine ⟨fun hz => hdone _ _ _ hI (hall listed hs hz), fun i hi => ?_⟩
    obtain ⟨o, ho, hf, hd⟩ := mem_ready.1 hi
    have hlt : i < listed.size := by rw [hs]; exact (Array.getElem?_eq_some_iff.1 ho).1
    have hgi : listed.toList[i]? = some false := by
      simp [Array.getD, hlt] at hf
      simp [hlt, hf]
    refine wpOpIn_mono (fun a' w' hI' => ih _ a' w' (by simpa using hs) ?_ ?_) (hop _ a w i o hI ho (by simp [Array.getD, hlt] at hf ⊢; exact hf) hd)
    · have := count_set listed.toList i hgi
      rw [Array.toList_setIfInBounds]
      omega
    · refine cast (congrArg (fun L => I L a' w') (funext fun j => ?_)) hI'
      by_cases hj : j = i
      · subst hj
        simp [Array.getD, hlt]
      · rw [if_neg hj]
        have e : (listed.setIfInBounds i true)[j]? = listed[j]? := Array.getElem?_setIfInBounds_ne (fun h => hj h.symm)
        rw [Array.getD_eq_getD_getElem?, Array.getD_eq_getD_getElem?, e]

/-- What is so at the beginning, and goes on with each operation that may come up, is so at the end. -/
theorem wpIn_region_inv {id : Nat} {a : Act} {w : World} (hm : P.follows .mixedOrders = true) (I : (Nat → Bool) → Act → World → Prop) (hdep : depsB ops = true)
    (h0 : I (fun _ => false) a w.drew)
    (hop : ∀ L a w i o, I L a w → ops[i]? = some o → L i = false → (∀ e ∈ o.after, Region.binds .any e = true → L e.on = true) → wpOpIn F n P ops Q i (I (fun j => if j = i then true else L j)) a w)
    (hdone : ∀ L a w, I L a w → (∀ i, i < ops.size → L i = true) → Q .normal a w) : (Code.region id ops true).wpIn F n P Q a w := by
  refine wpIn_region_any hm (wpAnyIn_inv I (depsB_spec hdep) hop hdone _ _ _ _ (by simp) ?_ ?_)
  · rw [Array.toList_replicate]
    exact Nat.le_trans (List.countP_le_length) (by simp)
  · refine cast (congrArg (fun L => I L a w.drew) (funext fun j => ?_)) h0
    simp [Array.getD]
end
end Go.Proofs.YticofjbngfjjlaaGreatDoor.Te

