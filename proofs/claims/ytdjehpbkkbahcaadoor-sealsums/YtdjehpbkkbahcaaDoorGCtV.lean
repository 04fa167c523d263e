/- A region in whatever order, by what holds when some of its operations have come up. -/
import Derived.Test.YtdjehpbkkbahcaaDoorGShaWa
import Derived.RegionTactic
import Derived.Test.YtdjehpbkkbahcaaDoorGCtW
import Derived.Test.YtdjehpbkkbahcaaDoorGAeVb
namespace Go.Proofs.YtdjehpbkkbahcaaDoor
open Go.RowKit

theorem count_set : ∀ (l : List Bool) (i : Nat), l[i]? = some false → (l.set i true).countP (!·) + 1 = l.countP (!·)
  | [], i, h => by simp at h
  | b :: l, 0, h => by
    obtain rfl : b = false := by simpa using h
    simp
  | b :: l, i + 1, h => by
    have ih := count_set l i (by simpa using h)
    rw [List.set_cons_succ, List.countP_cons, List.countP_cons]
    omega
theorem count_zero : ∀ (l : List Bool), l.countP (!·) = 0 → ∀ i, i < l.length → l[i]? = some true
  | [], _, i, h => by simp at h
  | b :: l, hc, i, h => by
    rw [List.countP_cons] at hc
    cases i with
    | zero =>
      cases b
      · simp at hc
      · rfl
    | succ i => exact count_zero l (by omega) i (by simpa using h)

section
variable {P : Program} {ops : Array Oper} {Q : Exit → Act → World → Prop}

theorem mem_ready {listed : Array Bool} {i : Nat} : i ∈ Region.ready .any ops listed ↔ ∃ o, ops[i]? = some o ∧ listed.getD i true = false ∧ ∀ e ∈ o.after, Region.binds .any e = true → listed.getD e.on false = true := by
  simp only [Region.ready, List.mem_filter, List.mem_range, Bool.and_eq_true, Bool.not_eq_true']
  constructor
  · rintro ⟨h1, h2, h3⟩
    rw [Array.getElem?_eq_getElem h1, Option.map_some, Option.getD_some, Array.all_eq_true'] at h3
    refine ⟨_, Array.getElem?_eq_getElem h1, h2, fun e he hb => ?_⟩
    have := h3 e he
    rw [hb] at this
    simpa using this
  · rintro ⟨o, h1, h2, h3⟩
    refine ⟨(Array.getElem?_eq_some_iff.1 h1).1, h2, ?_⟩
    rw [h1, Option.map_some, Option.getD_some, Array.all_eq_true']
    intro e he
    cases hb : Region.binds .any e
    · rfl
    · rw [h3 e he hb]; rfl

theorem wpAny_inv (I : (Nat → Bool) → Act → World → Prop) (hdep : ∀ (i : Nat) (o : Oper), ops[i]? = some o → ∀ e ∈ o.after, e.on < i)
    (hop : ∀ L a w i o, I L a w → ops[i]? = some o → L i = false → (∀ e ∈ o.after, Region.binds .any e = true → L e.on = true) → wpOp P ops Q i (I (fun j => if j = i then true else L j)) a w)
    (hdone : ∀ L a w, I L a w → (∀ i, i < ops.size → L i = true) → Q .normal a w) :
    ∀ (fuel : Nat) (listed : Array Bool) (a : Act) (w : World), listed.size = ops.size → listed.toList.countP (!·) ≤ fuel → I (fun j => listed.getD j false) a w → wpAny P .any ops Q fuel listed a w := by
  have hall : ∀ (listed : Array Bool), listed.size = ops.size → Region.ready .any ops listed = [] → ∀ i, i < ops.size → listed.getD i false = true := by
    intro listed hs hr i
    induction i using Nat.strongRecOn with
    | _ i ih =>
      intro hi
      have hg : listed.getD i false = listed.getD i true := by simp [Array.getD, hs, hi]
      cases hc : listed.getD i true with
      | true => rw [hg, hc]
      | false =>
        have : i ∈ Region.ready .any ops listed := mem_ready.2 ⟨_, Array.getElem?_eq_getElem hi, hc, fun e he _ => ih e.on (hdep i _ (Array.getElem?_eq_getElem hi) e he) (Nat.lt_trans (hdep i _ (Array.getElem?_eq_getElem hi) e he) hi)⟩
        rw [hr] at this
        cases this
  intro fuel
  induction fuel with
  | zero =>
    intro listed a w hs hc hI
    have hz : Region.ready .any ops listed = [] := by
      apply List.eq_nil_iff_forall_not_mem.2
      intro i hi
      obtain ⟨o, ho, hf, _⟩ := mem_ready.1 hi
      have hlt : i < listed.size := by rw [hs]; exact (Array.getElem?_eq_some_iff.1 ho).1
      have := count_zero listed.toList (by omega) i (by simpa using hlt)
      simp [Array.getD, hlt] at hf this
      rw [hf] at this
      cases this
    exact ⟨hz, hdone _ _ _ hI (hall listed hs hz)⟩
  | succ fuel ih =>
    intro listed a w hs hc hI
    refine ⟨fun hz => hdone _ _ _ hI (hall listed hs hz), fun i hi => ?_⟩
    obtain ⟨o, ho, hf, hd⟩ := mem_ready.1 hi
    have hlt : i < listed.size := by rw [hs]; exact (Array.getElem?_eq_some_iff.1 ho).1
    have hgi : listed.toList[i]? = some false := by
      simp [Array.getD, hlt] at hf
      simp [hlt, hf]
    refine wpOp_mono (fun a' w' hI' => ih _ a' w' (by simpa using hs) ?_ ?_) (hop _ a w i o hI ho (by simp [Array.getD, hlt] at hf ⊢; exact hf) hd)
    · have := count_set listed.toList i hgi
      rw [Array.toList_setIfInBounds]
      omega
    · refine cast (congrArg (fun L => I L a' w') (funext fun j => ?_)) hI'
      by_cases hj : j = i
      · subst hj
        simp [Array.getD, hlt]
      · rw [if_neg hj]
        have e : (listed.setIfInBounds i true)[j]? = listed[j]? := Array.getElem?_setIfInBounds_ne (fun h => hj h.symm)
        rw [Array.getD_eq_getD_getElem?, Array.getD_eq_getD_getElem?, e]

/-- Each operation waits for earlier ones alone. -/
def depsB (ops : Array Oper) : Bool := (List.range ops.size).all fun i => match ops[i]? with | some o => o.after.all fun e => decide (e.on < i) | none => true
theorem depsB_spec (h : depsB ops = true) (i : Nat) (o : Oper) (ho : ops[i]? = some o) (e : Edge) (he : e ∈ o.after) : e.on < i := by
  have h1 := List.all_eq_true.1 h i (List.mem_range.2 (Array.getElem?_eq_some_iff.1 ho).1)
  rw [ho] at h1
  simpa using (Array.all_eq_true'.1 h1) e he
/-- What is so at the beginning, and goes on with each operation that may come up, is so at the end. -/
theorem wp_region_inv {id : Nat} {a : Act} {w : World} (hm : P.follows .mixedOrders = true) (I : (Nat → Bool) → Act → World → Prop) (hdep : depsB ops = true)
    (h0 : I (fun _ => false) a w.drew)
    (hop : ∀ L a w i o, I L a w → ops[i]? = some o → L i = false → (∀ e ∈ o.after, Region.binds .any e = true → L e.on = true) → wpOp P ops Q i (I (fun j => if j = i then true else L j)) a w)
    (hdone : ∀ L a w, I L a w → (∀ i, i < ops.size → L i = true) → Q .normal a w) : (Code.region id ops true).wp P Q a w := by
  refine wp_region_any hm (wpAny_inv I (depsB_spec hdep) hop hdone _ _ _ _ (by simp) ?_ ?_)
  · rw [Array.toList_replicate]
    exact Nat.le_trans (List.countP_le_length) (by simp)
  · refine cast (congrArg (fun L => I L a w.drew) (funext fun j => ?_)) h0
    simp [Array.getD]
end
end Go.Proofs.YtdjehpbkkbahcaaDoor

/- works. -/

namespace Go.Proofs.YtdjehpbkkbahcaaDoor
open Go.RowKit

/-- A new row of these bytes. -/
def RowAt (w : World) (v : Value) (n : Nat) (z : List UInt8) : Prop := ∃ g, v = .slice (some ⟨g, 0, none⟩) n n ∧ Row w g z
theorem RowAt.below {w w' : World} {v : Value} {n : Nat} {z : List UInt8} (h : RowAt w v n z) (hb : Below w.heap.size w w') : RowAt w' v n z := by
  obtain ⟨g, hv, hr⟩ := h
  exact ⟨g, hv, (hb.block g hr.lt).trans hr⟩
theorem RowAt.alloc {w : World} {v : Value} {n : Nat} {z : List UInt8} (h : RowAt w v n z) (o : Obj) : RowAt (w.alloc o) v n z := h.below ((Below.refl _ _).alloc (Nat.le_refl _) _)
theorem RowAt.new (w : World) (n : Nat) (z : List UInt8) : RowAt (w.alloc (.cells (bcells z) 5)) (.slice (some ⟨w.heap.size, 0, none⟩) n n) n z := ⟨_, rfl, Row.new _ _⟩
set_option maxRecDepth 100000 in
theorem RowAt.conv {w : World} {v : Value} {n : Nat} {z : List UInt8} (h : RowAt w v n z) (hz : z.length = n) : (convert 26 9 v).run Tryd.prog w = .ok (.string ⟨⟨z⟩⟩) w := by
  obtain ⟨g, rfl, hr⟩ := h
  have := conv_any w g n z 5 (0, 0) _ hr (fun j hj => bcells_at z j hj)
  rwa [hz] at this

/-- Where works stands when some of its first operations have come up. -/
def WI (w0 : World) (x y z r : List UInt8) (L : Nat → Bool) (a : Act) (w : World) : Prop :=
  ∃ v1 v2 v3 v4 v5 v6 v7 v8, a = { tmps := #[.bool false, v1, v2, v3, v4, v5, v6, v7, v8, undef, undef, undef, undef, undef, undef, undef, undef, undef, undef, undef, undef], defers := [] } ∧ Below w0.heap.size w0 w ∧
    (L 0 = true → RowAt w v2 16 x) ∧ (L 1 = true → v3 = .string ⟨⟨x⟩⟩) ∧ (L 2 = true → RowAt w v4 12 y) ∧ (L 3 = true → v5 = .string ⟨⟨y⟩⟩) ∧ (L 4 = true → RowAt w v6 20 z) ∧ (L 5 = true → v7 = .string ⟨⟨z⟩⟩) ∧ (L 6 = true → v8 = .string ⟨⟨r⟩⟩) ∧ (L 7 = true → v1 = .string ⟨⟨r⟩⟩)

end Go.Proofs.YtdjehpbkkbahcaaDoor

/- The document's answer: Stream. -/

namespace Go.Proofs.YtdjehpbkkbahcaaDoor
open Go.RowKit

set_option maxRecDepth 100000 in
theorem refStream_no (k o : List UInt8) (v : Value) (n : Int) (w : World) (h : ¬ (k.length = 16 ∧ o.length = 12 ∧ 0 ≤ n ∧ n ≤ 1048576)) :
    Calls Tryd.prog 40 #[v, .string ⟨⟨k⟩⟩, .string ⟨⟨o⟩⟩, .int .i64 n] w fun e w' => e = .returned (.string ⟨⟨[]⟩⟩) ∧ w = w' := by
  by_cases hk : k.length = 16
  · obtain ⟨k1, k2, k3, k4⟩ := len_true hk
    simp only [Int.cast_ofNat_Int] at k1 k3
    by_cases ho : o.length = 12
    · obtain ⟨o1, o2, o3, o4⟩ := len_true ho
      simp only [Int.cast_ofNat_Int] at o1 o3
      by_cases hn : n < 0
      · clear h hk ho
        go_enter Tryd.func40, Tryd.ntmps40
        go_wp2
        go_ret
        exact ⟨rfl, rfl⟩
      · have hm : 1048576 < n := by
          rcases Int.lt_or_le 1048576 n with h1 | h1
          · exact h1
          · exact absurd ⟨hk, ho, by omega, h1⟩ h
        clear h hk ho
        go_enter Tryd.func40, Tryd.ntmps40
        go_wp2
        go_ret
        exact ⟨rfl, rfl⟩
    · obtain ⟨o1, o2, o3, o4⟩ := len_false ho
      simp only [Int.cast_ofNat_Int] at o1 o3
      clear h hk ho
      go_enter Tryd.func40, Tryd.ntmps40
      go_wp2
      go_ret
      exact ⟨rfl, rfl⟩
  · obtain ⟨k1, k2, k3, k4⟩ := len_false hk
    simp only [Int.cast_ofNat_Int] at k1 k3
    clear h hk
    go_enter Tryd.func40, Tryd.ntmps40
    go_wp2
    go_ret
    exact ⟨rfl, rfl⟩

set_option maxRecDepth 100000 in
theorem refEncrypt_blk (k o : List UInt8) (i gt cap : Nat) (w : World) (hk : k.length = 16) (ho : o.length = 12) (ht : TabS w gt) :
    Calls Tryd.prog 58 #[.slice (some ⟨gt, 0, none⟩) 256 cap, .string ⟨⟨k⟩⟩, .string ⟨⟨o ++ Ct.num i⟩⟩] w fun e w' => e = .returned (.string ⟨⟨Ct.blk k o i⟩⟩) ∧ Below w.heap.size w w' :=
  refEncrypt_yes k _ gt cap w hk (by rw [List.length_append, ho, Ct.num_length]) ht

set_option maxRecDepth 100000 in
theorem refStream_yes (k o : List UInt8) (n gt cap : Nat) (w : World) (hk : k.length = 16) (ho : o.length = 12) (hn : n ≤ 1048576) (ht : TabS w gt) :
    Calls Tryd.prog 40 #[.slice (some ⟨gt, 0, none⟩) 256 cap, .string ⟨⟨k⟩⟩, .string ⟨⟨o⟩⟩, .int .i64 (n : Nat)] w fun e w' => e = .returned (.string ⟨⟨Ct.str k o n⟩⟩) ∧ Below w.heap.size w w' := by
  obtain ⟨k1, k2, k3, k4⟩ := len_true hk
  obtain ⟨o1, o2, o3, o4⟩ := len_true ho
  simp only [Int.cast_ofNat_Int] at k1 k3 o1 o3
  have hn0 : ¬ (n : Int) < 0 := by omega
  have hn1 : ¬ (1048576 : Int) < (n : Int) := by omega
  have HE := Lib.hid fun i W hT => refEncrypt_blk k o i gt cap W hk ho hT
  have HT := Lib.hid ht
  clear ht hk
  go_enter Tryd.func40, Tryd.ntmps40
  go_wp2
  go_loopw [9, 10] (fun st i wr => ∃ c : Nat, 16 * c ≤ n + 15 ∧ i = .int .i64 (c : Nat) ∧ st = .string ⟨⟨Ct.blks k o c⟩⟩ ∧ Hid (Below w.heap.size w wr)) (fun _ i _ => n - 16 * (intOf i).toNat)
  case atStart => exact ⟨0, by omega, rfl, rfl, Below.refl _ _⟩
  case round =>
    obtain ⟨c, hc, rfl, rfl, HB⟩ := hrel
    have HL := Lib.hid (Ct.blks_length k o c)
    by_cases hlt : 16 * c < n
    · have HTR : Hid (TabS wr gt) := HT.out.below HT.out.1 HB.out HB.out.size
      have HW := Lib.hid (HE.out c)
      have HS : Hid (Ct.blks k o (c + 1) = Ct.blks k o c ++ Ct.blk k o c) := rfl
      have HBL := Lib.hid (Ct.blk_length k o c)
      have HN : Hid (Ct.num c = [UInt8.ofNat (c / 16777216), UInt8.ofNat (c / 65536), UInt8.ofNat (c / 256), UInt8.ofNat c]) := rfl
      generalize Ct.blks k o c = tp at *
      generalize Ct.blk k o c = x at *
      generalize Ct.num c = nm at *
      have htl : (tp.length : Int) < (n : Int) := by have := HL.out; omega
      have d0 : (c : Int) / 16777216 = ((UInt8.ofNat (c / 16777216)).toNat : Nat) := by rw [UInt8.toNat_ofNat']; omega
      have d1 : (c : Int) / 65536 = ((UInt8.ofNat (c / 65536)).toNat : Nat) := by rw [UInt8.toNat_ofNat']; omega
      have d2 : (c : Int) / 256 = ((UInt8.ofNat (c / 256)).toNat : Nat) := by rw [UInt8.toNat_ofNat']; omega
      have d3 : (c : Int) % 256 = ((UInt8.ofNat c).toNat : Nat) := by rw [UInt8.toNat_ofNat']; omega
      generalize UInt8.ofNat (c / 16777216) = c0 at *
      generalize UInt8.ofNat (c / 65536) = c1 at *
      generalize UInt8.ofNat (c / 256) = c2 at *
      generalize UInt8.ofNat c = c3 at *
      have hcv := conv_four wr c0 c1 c2 c3
      have hap : ByteArray.mk ⟨o⟩ ++ ByteArray.mk ⟨[c0, c1, c2, c3]⟩ = ⟨⟨o ++ nm⟩⟩ := by rw [HN.out]; exact str_app _ _
      have hap2 : ByteArray.mk ⟨tp⟩ ++ ByteArray.mk ⟨x⟩ = ⟨⟨tp ++ x⟩⟩ := str_app _ _
      have hl1 : o.length + 4 ≤ 9223372036854775807 := by omega
      have hl2 : tp.length + x.length ≤ 9223372036854775807 := by have := HL.out; have := HBL.out; omega
      have hl3 : ¬ 9223372036854775807 < tp.length + x.length := by omega
      have hci : (c : Int) ≤ 65536 := by omega
      go_wp2_with fail
      refine (HW.out _ (HTR.out.below HTR.out.1 ((Below.refl _ _).alloc (Nat.le_refl _) _) (by simp))).mono ?_
      rintro _ w2 ⟨rfl, hb2⟩
      have hB2 : Hid (Below w.heap.size w w2) := by
        have h1 := HB.out.alloc HB.out.size (.cells #[.int .u8 (c0.toNat : Nat), .int .u8 (c1.toNat : Nat), .int .u8 (c2.toNat : Nat), .int .u8 (c3.toNat : Nat)] 5)
        exact h1.trans (hb2.mono h1.size)
      clear hb2 hcv d0 d1 d2 d3
      go_wp2
      go_roundw
      case rel => exact ⟨c + 1, by omega, by go_num, by rw [HS.out], hB2⟩
      case measure => simp [intOf]; omega
    · have hst : (Ct.blks k o c).take n = Ct.str k o n := Ct.str_take k o n c (by omega)
      have htl : ¬ ((Ct.blks k o c).length : Int) < (n : Int) := by rw [HL.out]; omega
      have htn : (n : Int) ≤ ((Ct.blks k o c).length : Int) := by omega
      generalize Ct.blks k o c = tp at *
      have hcut : (ByteArray.mk ⟨tp⟩).extract 0 n = ⟨⟨Ct.str k o n⟩⟩ := by rw [cut_str, List.drop_zero, Nat.sub_zero, hst]
      have htz : tp.length ≤ 9223372036854775807 := by have := HL.out; omega
      clear hst
      go_wp2
      go_ret
      exact ⟨rfl, HB.out⟩

set_option maxRecDepth 100000 in
theorem refStream_any (k o : List UInt8) (n : Int) (gt cap : Nat) (w : World) (ht : TabS w gt) :
    Calls Tryd.prog 40 #[.slice (some ⟨gt, 0, none⟩) 256 cap, .string ⟨⟨k⟩⟩, .string ⟨⟨o⟩⟩, .int .i64 n] w fun e w' => e = .returned (.string ⟨⟨Ct.strA k o n⟩⟩) ∧ Below w.heap.size w w' := by
  by_cases h : k.length = 16 ∧ o.length = 12 ∧ 0 ≤ n ∧ n ≤ 1048576
  · obtain ⟨m, rfl⟩ := Int.eq_ofNat_of_zero_le h.2.2.1
    rw [Ct.strA_yes h.1 h.2.1 (by omega)]
    exact refStream_yes k o m gt cap w h.1 h.2.1 (by omega) ht
  · rw [Ct.strA_no h]
    exact (refStream_no k o _ n w h).mono fun _ _ ⟨he, hw⟩ => ⟨he, hw ▸ Below.refl _ _⟩
end Go.Proofs.YtdjehpbkkbahcaaDoor

/- The document's answer: Cipher. CtrCiphers' walk. -/

namespace Go.Proofs.YtdjehpbkkbahcaaDoor
open Go.RowKit

set_option maxRecDepth 100000 in
theorem refCipher_none (k o s : List UInt8) (gt cap : Nat) (w : World) (ht : TabS w gt) (h : (Ct.strA k o (s.length : Int)).length ≠ s.length) :
    Calls Tryd.prog 23 #[.slice (some ⟨gt, 0, none⟩) 256 cap, .string ⟨⟨k⟩⟩, .string ⟨⟨o⟩⟩, .string ⟨⟨s⟩⟩] w fun e w' => e = .returned (.string ⟨⟨[]⟩⟩) ∧ Below w.heap.size w w' := by
  have HS := Lib.hid fun W hT => refStream_any k o (s.length : Int) gt cap W hT
  have HT := Lib.hid ht
  clear ht
  generalize Ct.strA k o (s.length : Int) = t at *
  obtain ⟨t1, t2, t3, t4⟩ := len_false h
  clear h
  go_enter Tryd.func23, Tryd.ntmps23
  go_wp2_with fail
  refine (HS.out w HT.out).mono ?_
  rintro _ w1 ⟨rfl, hb1⟩
  go_wp2
  go_ret
  exact ⟨rfl, hb1⟩

set_option maxRecDepth 100000 in
theorem refCipher_some (k o s : List UInt8) (gt cap : Nat) (w : World) (ht : TabS w gt) (h : (Ct.strA k o (s.length : Int)).length = s.length) :
    Calls Tryd.prog 23 #[.slice (some ⟨gt, 0, none⟩) 256 cap, .string ⟨⟨k⟩⟩, .string ⟨⟨o⟩⟩, .string ⟨⟨s⟩⟩] w fun e w' => e = .returned (.string ⟨⟨Ct.cipA k o s⟩⟩) ∧ Below w.heap.size w w' := by
  have HS := Lib.hid fun W hT => refStream_any k o (s.length : Int) gt cap W hT
  have HT := Lib.hid ht
  have HAT := Lib.hid (cipA_at k o s)
  have HL := Lib.hid ((Ct.cipA_length k o s).trans h)
  have HLE : Hid (s.length ≤ 1048576) := by rw [Hid, ← h]; exact Ct.strA_le k o _
  clear ht
  generalize Ct.strA k o (s.length : Int) = t at *
  generalize Ct.cipA k o s = L at *
  obtain ⟨t1, t2, t3, t4⟩ := len_true h
  have HTS := Lib.hid h
  clear h
  go_enter Tryd.func23, Tryd.ntmps23
  go_wp2_with fail
  refine (HS.out w HT.out).mono ?_
  rintro _ w1 ⟨rfl, hb1⟩
  have hmk := make_full s.length (by have := HLE.out; omega) w1
  have hs1 := hb1.size
  obtain ⟨gs, hgs⟩ : ∃ g, g = w1.heap.size := ⟨_, rfl⟩
  have hgw : w.heap.size ≤ gs := by omega
  have HST : Hid (Below w.heap.size w (w1.alloc (.cells (bcells (List.replicate s.length 0)) 5)) ∧ (w1.alloc (.cells (bcells (List.replicate s.length 0)) 5)).heap[gs]? = some (.cells (bcells (L.take 0 ++ List.replicate (s.length - 0) 0)) 5 (0, 0))) :=
    ⟨hb1.alloc hs1 _, by rw [hgs]; exact heap_alloc_new _ _⟩
  have HGS := Lib.hid hgs
  clear hgs hb1 hs1 HS
  go_wp2
  rw [← HGS.out]
  clear HGS hmk
  go_loopw [11] (fun i wr => ∃ p : Nat, p ≤ s.length ∧ i = .int .i64 (p : Nat) ∧ Hid (Below w.heap.size w wr ∧ wr.heap[gs]? = some (.cells (bcells (L.take p ++ List.replicate (s.length - p) 0)) 5 (0, 0)))) (fun i _ => s.length - (intOf i).toNat)
  case atStart => exact ⟨0, by omega, rfl, HST⟩
  case round =>
    obtain ⟨p, hp, rfl, HA⟩ := hrel
    clear HST
    by_cases hlt : p < s.length
    · have hpt : p < t.length := by rw [HTS.out]; exact hlt
      have g0 := byte_at s p hlt
      have g1 := byte_at t p hpt
      obtain ⟨x, hx⟩ : ∃ x, s[p] = x := ⟨_, rfl⟩
      obtain ⟨y, hy⟩ : ∃ y, t[p] = y := ⟨_, rfl⟩
      rw [hx] at g0
      rw [hy] at g1
      obtain ⟨hbw, hrow⟩ := HA.out
      have hval : L.getD p 0 = x ^^^ y := by rw [HAT.out p hlt hpt, hx, hy]
      have hcz : wr.drew.cell? ⟨gs, p, none⟩ = some (.int .u8 (0 : Nat)) := brow_cell (wr := wr) hrow HL.out hlt
      have hfz : wr.drew.frozen? ⟨gs, p, none⟩ = false := frozen_of_row wr _ p _ _ hrow
      have HN : Hid (Below w.heap.size w (wr.drew.setCell ⟨gs, p, none⟩ (.int .u8 ((x ^^^ y).toNat : Nat))) ∧ (wr.drew.setCell ⟨gs, p, none⟩ (.int .u8 ((x ^^^ y).toNat : Nat))).heap[gs]? = some (.cells (bcells (L.take (p + 1) ++ List.replicate (s.length - (p + 1)) 0)) 5 (0, 0))) := by
        refine ⟨hbw.drew.setCell hgw _, ?_⟩
        rw [← hval]
        exact brow_set (wr := wr.drew) hrow HL.out hlt
      have hv := xor_byte x y
      have z0 : (p : Int) < t.length := by omega
      have z1 : (p : Int) < s.length := by omega
      have z2 : (p : Int) < 1048576 := by have := HLE.out; omega
      clear hx hy hval hbw hrow HA
      go_wp2_with fail
      refine wp_region_still_tail 10 (by kernel_rfl) (by kernel_rfl) ?_
      change wpStill _ _ (World.drew _) (fun a' => wpList _ _ _ _ a' (World.drew _)) _ _
      generalize wr.drew = w9 at *
      simp only [List.take_succ_cons, List.take_zero, List.drop_succ_cons, List.drop_zero]
      repeat still_step
      refine wpStill_nil ?_
      go_wp2
      go_roundw
      case rel => exact ⟨p + 1, by omega, by go_num, HN⟩
      case measure => simp [intOf]; omega
    · obtain rfl : p = s.length := by omega
      obtain ⟨hbw, hrow⟩ := HA.out
      rw [List.take_of_length_le (by rw [HL.out]; omega), Nat.sub_self, List.replicate_zero, List.append_nil] at hrow
      have hcv := conv_any wr gs s.length L 5 (0, 0) _ hrow (fun j hj => bcells_at L j hj)
      rw [HL.out] at hcv
      clear hrow HA
      go_wp2
      go_ret
      exact ⟨rfl, hbw⟩

set_option maxRecDepth 100000 in
theorem refCipher_any (k o s : List UInt8) (gt cap : Nat) (w : World) (ht : TabS w gt) :
    Calls Tryd.prog 23 #[.slice (some ⟨gt, 0, none⟩) 256 cap, .string ⟨⟨k⟩⟩, .string ⟨⟨o⟩⟩, .string ⟨⟨s⟩⟩] w fun e w' => e = .returned (.string ⟨⟨Ct.cipA k o s⟩⟩) ∧ Below w.heap.size w w' := by
  by_cases h : (Ct.strA k o (s.length : Int)).length = s.length
  · exact refCipher_some k o s gt cap w ht h
  · have he : Ct.cipA k o s = [] := by
      rcases Ct.strA_len k o s.length with h1 | h1
      · exact absurd h1 h
      · rw [Ct.cipA, h1]; simp [Ct.xr]
    rw [he]
    exact refCipher_none k o s gt cap w ht h

end Go.Proofs.YtdjehpbkkbahcaaDoor

