/- noughts, Pad. -/
import Derived.Test.YtdjehpbkkbahcaaDoorShaW4
import Derived.Lib.AppendZerosOnto
namespace Go.Proofs.YtdjehpbkkbahcaaDoor
open Go.RowKit

theorem ret_i64 {a b : Int} (h : a = b) : Ending.returned (.int .i64 a) = .returned (.int .i64 b) := by rw [h]

set_option maxRecDepth 100000 in
theorem noughts_any (n : Nat) (w : World) (hn : n ≤ 9223372036854775807) :
    Calls Tryd.prog 61 #[.int .i64 n] w fun e w' => e = .returned (.int .i64 (Sh.noughts n : Nat)) ∧ w = w' := by
  have HN : Hid ((64 - ((n : Int) % 64 + 1 + 8) % 64) % 64 = ((Sh.noughts n : Nat) : Int)) := by rw [Hid, Sh.noughts]; omega
  go_enter Tryd.func61, Tryd.ntmps61
  go_wp2
  go_ret
  refine ⟨ret_i64 ?_, rfl⟩
  rw [← HN.out]

/-- Bytes as values. -/
def bvals (l : List UInt8) : List Value := l.map fun b => Value.int .u8 (b.toNat : Nat)
theorem bvals_length (l : List UInt8) : (bvals l).length = l.length := by simp [bvals]
def OwnB (w : World) (base : Nat) (v : Value) (l : List UInt8) : Prop := w.ownsRow base 5 1 v l.length (bvals l)

theorem OwnB.form {w : World} {base : Nat} {v : Value} {l : List UInt8} (h : OwnB w base v l) (hl : 0 < l.length) :
    ∃ g cap cur, v = .slice (some ⟨g, 0, none⟩) l.length cap ∧ base ≤ g ∧ w.heap[g]? = some (.cells cur 5 (0, 0)) ∧ ∀ j, j < l.length → cur[j]? = some (.int .u8 ((l.getD j 0).toNat : Nat)) := by
  rcases h.2 with ⟨_, h0⟩ | ⟨g, cap, cur, hv, hb, hg, _, _, _, ht⟩
  · omega
  · refine ⟨g, cap, cur, hv, hb, hg, fun j hj => ?_⟩
    have h1 : (cur.toList.take (l.length * 1))[j]? = (bvals l)[j]? := by rw [ht]
    rw [List.getElem?_take, if_pos (by omega)] at h1
    simpa [bvals, hj, List.getD_eq_getElem?_getD] using h1

theorem zeros_eq (n : Nat) : (Builtin.zeroCells #[Value.int .u8 0] n).toList = bvals (List.replicate n 0) := by
  simp only [Builtin.zeroCells, bvals, List.map_replicate, List.size_toArray, List.length_singleton, Array.toList_map, Nat.mod_one, Nat.mul_one]
  apply List.ext_getElem
  · simp
  · intro i h1 h2
    simp

/-- append([]byte{x}, make([]byte, k)...). -/
theorem run_zeros (w : World) (ty : TypeId) (x : UInt8) (k : Nat) (hk : k ≤ 64) :
    ∃ v' w', (Builtin.append_ #[26, 3] ty #[.slice (some ⟨w.heap.size, 0, none⟩) 1 1, .int .i64 (k : Int)]).run Tryd.prog (w.alloc (.cells #[.int .u8 (x.toNat : Nat)] 5)) = .ok v' w' ∧
      OwnB w' w.heap.size v' (x :: List.replicate k 0) ∧ Below w.heap.size w w' := by
  obtain ⟨i, hi, he⟩ := Option.map_eq_some_iff.1 info5
  simp only [Prod.mk.injEq] at he
  obtain ⟨hz, hs, hb⟩ := he
  have hg := heap_alloc_new w (.cells #[.int .u8 (x.toNat : Nat)] 5)
  by_cases h0 : k = 0
  · subst h0
    refine ⟨.slice (some ⟨w.heap.size, 0, none⟩) 1 1, w.alloc (.cells #[.int .u8 (x.toNat : Nat)] 5), ?_, ?_, (Below.refl _ _).alloc (Nat.le_refl _) _⟩
    · have hw0 : IntKind.i64.wrap 0 = 0 := by rfl
      simp [hw0, Builtin.append_, run_underlying Tryd.underlying26, run_underlying Tryd.underlying3, sizeOf, typeInfo, hi, asInt, asIntOf, storeCells]
    · exact ⟨by simp [bvals], .inr ⟨w.heap.size, 1, _, rfl, Nat.le_refl _, hg, Nat.le_refl _, by decide, rfl, rfl⟩⟩
  · have hold : (Builtin.firstCells i.size 1 (.slice (some ⟨w.heap.size, 0, none⟩) 1 1)).run Tryd.prog (w.alloc (.cells #[.int .u8 (x.toNat : Nat)] 5)).drew = .ok [Value.int .u8 (x.toNat : Nat)].toArray (w.alloc (.cells #[.int .u8 (x.toNat : Nat)] 5)).drew := by
      rw [hs]
      exact run_loadCells_list (P := Tryd.prog) _ ⟨w.heap.size, 0, none⟩ [Value.int .u8 (x.toNat : Nat)] (fun j v hv => by
        rw [Addr.add_lit]
        exact (cell_of_row _ _ _ _ _ _ hg).trans (by simpa using hv))
    have hr := Lib.run_append_grow_zeros (P := Tryd.prog) (w.alloc (.cells #[.int .u8 (x.toNat : Nat)] 5)) 26 3 ty 5 i _ .i64 .i64 Tryd.underlying26 Tryd.underlying3 hi hz (some ⟨w.heap.size, 0, none⟩) 1 1 [Value.int .u8 (x.toNat : Nat)] hold k (by omega) (by omega) (by omega) (by omega) (by rw [hb]; omega) (by
      rw [hb, Builtin.nextslicecap, if_pos (show (1 : Nat) < 256 by decide)]
      split
      · omega
      · omega)
    have hge := grownCap_ge (w.alloc (.cells #[.int .u8 (x.toNat : Nat)] 5)) (1 + k) 1 5
    have hle := grownCap_le_maxLen (w.alloc (.cells #[.int .u8 (x.toNat : Nat)] 5)) (1 + k) 1 5 (by simp only [maxLen]; omega)
    generalize grownCap (w.alloc (.cells #[.int .u8 (x.toNat : Nat)] 5)) (1 + k) 1 5 = cap at *
    have hsz : (Value.int .u8 0).cells.size = 1 := rfl
    refine ⟨_, _, hr, ⟨by simp [bvals], .inr ⟨(w.alloc (.cells #[.int .u8 (x.toNat : Nat)] 5)).drew.heap.size, cap, _, ?_, ?_, heap_alloc_new _ _, ?_, hle, ?_, ?_⟩⟩, ?_⟩
    · rw [List.length_cons, List.length_replicate, Nat.add_comm k 1]; rfl
    · show w.heap.size ≤ (w.alloc (.cells #[.int .u8 (x.toNat : Nat)] 5)).heap.size
      simp
    · rw [List.length_cons, List.length_replicate]; omega
    · simp only [Array.size_append, size_zeroCells, hsz, List.size_toArray, List.length_singleton]
      omega
    · simp only [Array.toList_append, List.length_cons, List.length_replicate, Nat.mul_one]
      show ([Value.int .u8 (x.toNat : Nat)] ++ (Builtin.zeroCells #[Value.int .u8 0] k).toList ++ _).take (k + 1) = _
      rw [zeros_eq]
      have : ([Value.int .u8 (x.toNat : Nat)] ++ bvals (List.replicate k 0)).length = k + 1 := by simp [bvals]
      rw [List.take_append_of_le_length (by rw [this]; exact Nat.le_refl _), List.take_of_length_le (by rw [this]; exact Nat.le_refl _)]
      rfl
    · exact (((Below.refl _ _).alloc (Nat.le_refl _) _).drew).alloc (by show w.heap.size ≤ (w.alloc (.cells #[.int .u8 (x.toNat : Nat)] 5)).heap.size; simp) _

set_option maxRecDepth 100000 in
theorem pad_neg (n : Int) (w : World) (hn : n < 0) :
    Calls Tryd.prog 50 #[.int .i64 n] w fun e w' => e = .returned (.string ⟨⟨[]⟩⟩) ∧ w = w' := by
  go_enter Tryd.func50, Tryd.ntmps50
  go_wp2
  go_ret
  exact ⟨rfl, rfl⟩

theorem cnt_snoc (n k : Nat) (hk : k < 8) : (Sh.cnt n).take (k + 1) = (Sh.cnt n).take k ++ [Sh.byt (8 * n % 18446744073709551616 / 2 ^ (8 * (7 - k)))] := by
  have hl : (Sh.cnt n).length = 8 := by simp [Sh.cnt]
  rw [List.take_succ_eq_append_getElem (by omega)]
  simp [Sh.cnt]

theorem wpList_appB (wr : World) {ops : Array Oper} {rest : List Oper} {o : Oper} {a : Act} {Q : Exit → Act → World → Prop} (hgd : o.guard = none) (s x : Operand)
    (ho : o.op = .call { callee := .builtin .append, args := #[s, x], argTypes := #[26, 26] }) (base : Nat) (v : Value) (l : List UInt8) (c : UInt8) (hs : a.eval s = v) (hx : a.eval x = .slice (some ⟨wr.heap.size, 0, none⟩) 1 1)
    (hown : OwnB wr base v l) (hl : l.length ≤ 1000000) (hbase : base ≤ wr.heap.size)
    (h : ∀ v' w', OwnB w' base v' (l ++ [c]) → Below base wr w' → wpList Tryd.prog ops Q rest (a.put o.dst v') w') :
    wpList Tryd.prog ops Q (o :: rest) a (wr.alloc (.cells #[.int .u8 (c.toNat : Nat)] 5)) := by
  obtain ⟨i, hi, he⟩ := Option.map_eq_some_iff.1 info5
  simp only [Prod.mk.injEq] at he
  obtain ⟨hz, hsz, hb⟩ := he
  have hg := heap_alloc_new wr (.cells #[.int .u8 (c.toNat : Nat)] 5)
  have hown' : (wr.alloc (.cells #[.int .u8 (c.toNat : Nat)] 5)).ownsRow base 5 1 v l.length (bvals l) := World.ownsRow.alloc hown _
  have hlt := World.ownsRow.lt hown
  refine wpList_append_own _ hgd s x 26 ho base 5 i (.int .u8 0) 1 1 Tryd.underlying26 hi hz hsz hb rfl (by decide) v l.length (bvals l) hs hown' ⟨wr.heap.size, 0, none⟩ 1 1 [.int .u8 (c.toNat : Nat)] hx rfl (fun j u hu => ?_) (fun u hu => ?_) (by simp only [maxLen]; omega) (by omega) (by simp; omega) fun v' w' h1 h2 _ => h v' w' ?_ ?_
  · rw [Addr.add_lit]
    exact (cell_of_row _ _ _ _ _ _ hg).trans (by simpa using hu)
  · simp only [List.mem_singleton] at hu
    subst hu
    rfl
  · unfold OwnB
    rw [List.length_append, List.length_singleton]
    have : bvals (l ++ [c]) = bvals l ++ [.int .u8 (c.toNat : Nat)] := by simp [bvals]
    rw [this]
    exact h1
  · exact Below.grown ((Below.refl _ _).alloc hbase _) h2 (by simp; omega) (fun k hk => (hlt k hk).1)

set_option maxRecDepth 100000 in
theorem pad_any (n : Nat) (w : World) (hn : n ≤ 9223372036854775807) :
    Calls Tryd.prog 50 #[.int .i64 n] w fun e w' => e = .returned (.string ⟨⟨Sh.pad n⟩⟩) ∧ Below w.heap.size w w' := by
  go_enter Tryd.func50, Tryd.ntmps50
  go_wp2_with fail
  refine (noughts_any n _ hn).mono ?_
  rintro _ w' ⟨rfl, rfl⟩
  have hz : Sh.noughts n ≤ 64 := by unfold Sh.noughts; omega
  obtain ⟨v, w1, hr, HO, hb⟩ := run_zeros w 26 128 (Sh.noughts n) hz
  go_wp2_with (at_builtin; refine Lib.wpList_append_run _ rfl (.tmp 8) (.tmp 10) 26 3 rfl _ _ rfl rfl v w1 hr ?_)
  have hc : IntKind.u64.wrap (8 * (n : Int)) = ((8 * n % 18446744073709551616 : Nat) : Int) := by rw [IntKind.wrap_u64]; omega
  have HP : Hid (Sh.pad n = (128 :: List.replicate (Sh.noughts n) 0) ++ (Sh.cnt n).take 8) := by rw [Hid, List.take_of_length_le (by simp [Sh.cnt])]; rfl
  have HCS := Lib.hid (cnt_snoc n)
  have hlc : ∀ k, ((128 :: List.replicate (Sh.noughts n) 0) ++ (Sh.cnt n).take k).length ≤ 100 := by
    intro k
    simp [Sh.cnt]
    omega
  have HLC := Lib.hid hlc
  clear hlc hr
  rw [hc]
  clear hc
  generalize 8 * n % 18446744073709551616 = c at *
  generalize Sh.noughts n = z at *
  generalize Sh.cnt n = L at *
  go_loopw [3, 15] (fun v i wr => ∃ k : Nat, k ≤ 8 ∧ i = .int .i64 k ∧ OwnB wr w.heap.size v ((128 :: List.replicate z 0) ++ L.take k) ∧ Below w.heap.size w wr) (fun _ i _ => 8 - (intOf i).toNat)
  case atStart => exact ⟨0, by omega, rfl, by simpa using HO, hb⟩
  case round =>
    obtain ⟨k, hk, rfl, HO1, hb1⟩ := hrel
    clear HO hb
    by_cases hlt : k < 8
    · have hv : (c : Int) / 2 ^ (8 * (7 - k)) % 256 = ((Sh.byt (c / 2 ^ (8 * (7 - k)))).toNat : Nat) := by
        rw [Sh.byt, UInt8.toNat_ofNat']
        simp
      have HS := Lib.hid (HCS.out k hlt)
      have HL1 := Lib.hid (HLC.out k)
      generalize Sh.byt (c / 2 ^ (8 * (7 - k))) = d at *
      have hz1 := hb1.size
      go_wp2_with (at_builtin; refine wpList_appB wr rfl (.tmp 18) (.tmp 25) rfl w.heap.size _ _ d rfl rfl HO1 (by have := HL1.out; omega) (by omega) ?_)
      intro v2 w2 HO2 hb2
      go_wp2
      go_roundw
      case rel => exact ⟨k + 1, by omega, by go_num, by rw [HS.out]; simpa using HO2, hb1.trans hb2⟩
      case measure => simp [intOf]; omega
    · obtain rfl : k = 8 := by omega
      have HL1 := Lib.hid (HLC.out 8)
      rw [← HP.out] at HO1 HL1
      have hpos : 0 < (Sh.pad n).length := by rw [HP.out]; simp
      generalize hpl : Sh.pad n = l at *
      have HPL := Lib.hid hpl
      clear hpl HP HCS HLC
      obtain ⟨g, cap, cur, rfl, hgb, hcur, hcs⟩ := HO1.form hpos
      have hcv := conv_any wr g cap l 5 (0, 0) cur hcur hcs
      clear hcs hcur
      go_wp2
      go_ret
      exact ⟨by rw [HPL.out]; rfl, hb1⟩
end Go.Proofs.YtdjehpbkkbahcaaDoor
