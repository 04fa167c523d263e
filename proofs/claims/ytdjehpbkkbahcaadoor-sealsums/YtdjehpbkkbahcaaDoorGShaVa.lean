/- The document's answer: turn. -/
import Derived.Test.YtdjehpbkkbahcaaDoorGShaWb
import Derived.Test.YtdjehpbkkbahcaaDoorGShaPureR
namespace Go.Proofs.YtdjehpbkkbahcaaDoor
open Go.RowKit

theorem wrap_nat (n : Nat) (h : n ≤ 9223372036854775807) : wrap64 (n : Int) = n := by unfold wrap64; omega

set_option maxRecDepth 100000 in
theorem turn_any (x k : Nat) (ki : Int) (w : World) (hx : x < 4294967296) (hki : ki = k) (h1 : 1 ≤ k) (h2 : k ≤ 31) :
    Calls Tryd.prog 78 #[.int .i64 x, .int .i64 ki] w fun e w' => e = .returned (.int .i64 (Sh.rot x k : Nat)) ∧ ∃ n, w' = w.drewN n := by
  subst hki
  have hr := Sh.rot_lt hx (show k ≤ 32 by omega)
  have hpos : 0 < 2 ^ k := Nat.two_pow_pos k
  have hple : 2 ^ k ≤ 2 ^ 31 := Nat.pow_le_pow_right (by decide) h2
  have hdiv : 4294967296 / 2 ^ k = 2 ^ (32 - k) := by
    rw [← Sh.pow_split k (by omega), Nat.mul_div_cancel_left _ hpos]
  have hw : wrap64 ((2 : Int) ^ k) = ((2 ^ k : Nat) : Int) := by
    have : ((2 : Int) ^ k) = ((2 ^ k : Nat) : Int) := by simp
    rw [this]
    unfold wrap64
    omega
  have HR : Hid (Sh.rot x k = x / 2 ^ k + x % 2 ^ k * (4294967296 / 2 ^ k)) := by rw [Hid, hdiv]; rfl
  have hb : x % 2 ^ k * (4294967296 / 2 ^ k) < 4294967296 := Nat.lt_of_le_of_lt (Nat.le_add_left _ _) (HR.out ▸ hr)
  have hq : (4294967296 : Int).tdiv ((2 ^ k : Nat) : Int) = ((4294967296 / 2 ^ k : Nat) : Int) := (Int.ofNat_tdiv 4294967296 (2 ^ k)).symm
  have ha : (x : Int).tdiv ((2 ^ k : Nat) : Int) = ((x / 2 ^ k : Nat) : Int) := (Int.ofNat_tdiv x (2 ^ k)).symm
  have hm : (x : Int).tmod ((2 ^ k : Nat) : Int) = ((x % 2 ^ k : Nat) : Int) := (Int.ofNat_tmod x (2 ^ k)).symm
  have hal : x / 2 ^ k < 4294967296 := by have := Nat.div_le_self x (2 ^ k); omega
  have hql : 4294967296 / 2 ^ k ≤ 4294967296 := Nat.div_le_self _ _
  have E1 : Hid (wrap64 (((x % 2 ^ k : Nat) : Int) * ((4294967296 / 2 ^ k : Nat) : Int)) = ((x % 2 ^ k * (4294967296 / 2 ^ k) : Nat) : Int)) := by
    rw [Hid, ← Int.natCast_mul]
    exact wrap_nat _ (Nat.le_trans (Nat.le_of_lt hb) (by decide))
  have E2 : Hid (wrap64 (((x / 2 ^ k : Nat) : Int) + ((x % 2 ^ k * (4294967296 / 2 ^ k) : Nat) : Int)) = ((Sh.rot x k : Nat) : Int)) := by
    rw [Hid, HR.out, ← Int.natCast_add, ← HR.out]
    exact wrap_nat _ (Nat.le_trans (Nat.le_of_lt hr) (by decide))
  go_enter Tryd.func78, Tryd.ntmps78
  go_wp2_with fail
  rw [hw]
  have hp0 : ¬ ((2 ^ k : Nat) : Int) = 0 := by omega
  clear hw HR hdiv
  generalize x % 2 ^ k * (4294967296 / 2 ^ k) = bq at *
  generalize x % 2 ^ k = b at *
  generalize x / 2 ^ k = a at *
  generalize 4294967296 / 2 ^ k = q at *
  generalize 2 ^ k = p at *
  go_quiet (fail)
  go_wp2
  go_ret
  refine ⟨ret_i64 (?_ : wrap64 (↑a + wrap64 (↑b * ↑q)) = _), _, rfl⟩
  rw [E1.out, E2.out]
end Go.Proofs.YtdjehpbkkbahcaaDoor

/- The document's answer: rows of numbers; words. -/

namespace Go.Proofs.YtdjehpbkkbahcaaDoor
open Go.RowKit

/-- Numbers as values. -/
def ivals (l : List Nat) : List Value := l.map fun n => Value.int .i64 (n : Nat)
def OwnI (w : World) (base : Nat) (v : Value) (l : List Nat) : Prop := w.ownsRow base 3 1 v l.length (ivals l)
/-- A row of numbers in memory. -/
def Ints (w : World) (v : Value) (l : List Nat) : Prop :=
  ∃ g cap, v = .slice (some ⟨g, 0, none⟩) l.length cap ∧ g < w.heap.size ∧ ∀ i, i < l.length → w.cell? ⟨g, i, none⟩ = some (.int .i64 (l.getD i 0 : Nat))
theorem Ints.below {w w' : World} {v : Value} {l : List Nat} (h : Ints w v l) (hb : Below w.heap.size w w') : Ints w' v l := by
  obtain ⟨g, cap, hv, hg, hc⟩ := h
  exact ⟨g, cap, hv, Nat.lt_of_lt_of_le hg hb.size, fun i hi => (hb.cell (p := ⟨g, i, none⟩) hg).trans (hc i hi)⟩
theorem Ints.drew {w : World} {v : Value} {l : List Nat} (h : Ints w v l) : Ints w.drew v l := h
theorem OwnI.ints {w : World} {base : Nat} {v : Value} {l : List Nat} (h : OwnI w base v l) (hl : 0 < l.length) : Ints w v l := by
  rcases h.2 with ⟨_, h0⟩ | ⟨g, cap, cur, hv, _, hg, _, _, _, ht⟩
  · omega
  · refine ⟨g, cap, hv, (Array.getElem?_eq_some_iff.1 hg).1, fun j hj => ?_⟩
    have h1 : (cur.toList.take (l.length * 1))[j]? = (ivals l)[j]? := by rw [ht]
    rw [List.getElem?_take, if_pos (by omega)] at h1
    rw [cell_of_row _ _ _ _ _ _ hg]
    simpa [ivals, hj, List.getD_eq_getElem?_getD] using h1
theorem OwnI.below {w w' : World} {base : Nat} {v : Value} {l : List Nat} (h : OwnI w base v l) (hb : Below w.heap.size w w') : OwnI w' base v l := by
  refine ⟨h.1, ?_⟩
  rcases h.2 with hn | ⟨g, cap, cur, hv, hbg, hg, rest⟩
  · exact .inl hn
  · exact .inr ⟨g, cap, cur, hv, hbg, (hb.block g (Array.getElem?_eq_some_iff.1 hg).1).trans hg, rest⟩
theorem OwnI.nil (w : World) (base : Nat) : OwnI w base (.slice none 0 0) [] := ⟨rfl, .inl ⟨rfl, rfl⟩⟩
theorem info3 : (Tryd.prog.info? 3).map (fun i => (i.zero, i.size, i.bytes)) = some (some (.int .i64 0), 1, 8) := by kernel_rfl

theorem wpList_appI (wr : World) {ops : Array Oper} {rest : List Oper} {o : Oper} {a : Act} {Q : Exit → Act → World → Prop} (hgd : o.guard = none) (s x : Operand)
    (ho : o.op = .call { callee := .builtin .append, args := #[s, x], argTypes := #[23, 23] }) (base : Nat) (v : Value) (l : List Nat) (c : Nat) (hs : a.eval s = v) (hx : a.eval x = .slice (some ⟨wr.heap.size, 0, none⟩) 1 1)
    (hown : OwnI wr base v l) (hl : l.length ≤ 1000000) (hbase : base ≤ wr.heap.size)
    (h : ∀ v' w', OwnI w' base v' (l ++ [c]) → Below base wr w' → wpList Tryd.prog ops Q rest (a.put o.dst v') w') :
    wpList Tryd.prog ops Q (o :: rest) a (wr.alloc (.cells #[.int .i64 (c : Nat)] 3)) := by
  obtain ⟨i, hi, he⟩ := Option.map_eq_some_iff.1 info3
  simp only [Prod.mk.injEq] at he
  obtain ⟨hz, hsz, hb⟩ := he
  have hg := heap_alloc_new wr (.cells #[.int .i64 (c : Nat)] 3)
  have hown' : (wr.alloc (.cells #[.int .i64 (c : Nat)] 3)).ownsRow base 3 1 v l.length (ivals l) := World.ownsRow.alloc hown _
  have hlt := World.ownsRow.lt hown
  refine wpList_append_own _ hgd s x 23 ho base 3 i (.int .i64 0) 1 8 Tryd.underlying23 hi hz hsz hb rfl (by decide) v l.length (ivals l) hs hown' ⟨wr.heap.size, 0, none⟩ 1 1 [.int .i64 (c : Nat)] hx rfl (fun j u hu => ?_) (fun u hu => ?_) (by simp only [maxLen]; omega) (by omega) (by simp; omega) fun v' w' h1 h2 _ => h v' w' ?_ ?_
  · rw [Addr.add_lit]
    exact (cell_of_row _ _ _ _ _ _ hg).trans (by simpa using hu)
  · simp only [List.mem_singleton] at hu
    subst hu
    rfl
  · unfold OwnI
    rw [List.length_append, List.length_singleton]
    have : ivals (l ++ [c]) = ivals l ++ [.int .i64 (c : Nat)] := by simp [ivals]
    rw [this]
    exact h1
  · exact Below.grown ((Below.refl _ _).alloc hbase _) h2 (by simp; omega) (fun k hk => (hlt k hk).1)

theorem step_appI (W : World) {ops : Array Oper} {o : Oper} {a : Act} {K : Act → World → Prop} {Q : Exit → Act → World → Prop} {E : Prop} (hgd : o.guard = none) (s x : Operand)
    (ho : o.op = .call { callee := .builtin .append, args := #[s, x], argTypes := #[23, 23] }) (base : Nat) (v : Value) (l : List Nat) (c B : Nat) (ci : Int) (hci : Hid (ci = (c : Nat))) (hs : a.eval s = v) (hx : a.eval x = .slice (some ⟨B, 0, none⟩) 1 1)
    (hB : W.heap[B]? = some (.cells #[.int .i64 ci] 3 (0, 0))) (hown : OwnI W base v l) (hl : l.length ≤ 1000000) (hbase : base ≤ W.heap.size)
    (h : ∀ v' w', OwnI w' base v' (l ++ [c]) → Below base W w' → K (a.put o.dst v') w') :
    if Region.wanted o (yielded ops a.tmps) = true then Oper.wp Tryd.prog o a W K Q else E := by
  obtain rfl := hci.out
  have hw : Region.wanted o (yielded ops a.tmps) = true := by simp [Region.wanted, hgd]
  rw [if_pos hw]
  obtain ⟨i, hi, he⟩ := Option.map_eq_some_iff.1 info3
  simp only [Prod.mk.injEq] at he
  obtain ⟨hz, hsz, hb⟩ := he
  have hlt := World.ownsRow.lt hown
  refine wp_append_own _ s x 23 ho base 3 i (.int .i64 0) 1 8 Tryd.underlying23 hi hz hsz hb rfl (by decide) v l.length (ivals l) hs hown ⟨B, 0, none⟩ 1 1 [.int .i64 (c : Nat)] hx rfl (fun j u hu => ?_) (fun u hu => ?_) (by simp only [maxLen]; omega) (by omega) hbase fun v' w' h1 h2 _ => h v' w' ?_ ?_
  · rw [Addr.add_lit]
    exact (cell_of_row _ _ _ _ _ _ hB).trans (by simpa using hu)
  · simp only [List.mem_singleton] at hu
    subst hu
    rfl
  · unfold OwnI
    rw [List.length_append, List.length_singleton]
    have : ivals (l ++ [c]) = ivals l ++ [.int .i64 (c : Nat)] := by simp [ivals]
    rw [this]
    exact h1
  · exact Below.grown (Below.refl _ _) h2 hbase (fun k hk => (hlt k hk).1)
theorem OwnI.alloc {w : World} {base : Nat} {v : Value} {l : List Nat} (h : OwnI w base v l) (o : Obj) : OwnI (w.alloc o) base v l := World.ownsRow.alloc h o
theorem OwnI.drew {w : World} {base : Nat} {v : Value} {l : List Nat} (h : OwnI w base v l) : OwnI w.drew base v l := h

/-- The words of a text. -/
def wl (s : List UInt8) (n : Nat) : List Nat := (List.range n).map fun k => Sh.word (s.drop (4 * k))
theorem wl_succ (s : List UInt8) (n : Nat) : wl s (n + 1) = wl s n ++ [Sh.word (s.drop (4 * n))] := by simp [wl, List.range_succ]
theorem wl_length (s : List UInt8) (n : Nat) : (wl s n).length = n := by simp [wl]
theorem word_four (s : List UInt8) (i : Nat) (h : i + 4 ≤ s.length) : Sh.word (s.drop i) = ((s[i]'(by omega)).toNat * 256 + (s[i + 1]'(by omega)).toNat) * 65536 + ((s[i + 2]'(by omega)).toNat * 256 + (s[i + 3]'(by omega)).toNat) := by
  have e : (s.drop i).take 4 = [s[i]'(by omega), s[i + 1]'(by omega), s[i + 2]'(by omega), s[i + 3]'(by omega)] := by
    rw [List.drop_eq_getElem_cons (by omega), List.drop_eq_getElem_cons (by omega), List.drop_eq_getElem_cons (by omega), List.drop_eq_getElem_cons (by omega)]
    rfl
  rw [Sh.word, e]
  simp only [Sh.num, List.foldl_cons, List.foldl_nil]
  omega

set_option maxRecDepth 100000 in
set_option maxHeartbeats 4000000 in
theorem words_any (s : List UInt8) (n : Nat) (w : World) (hs : s.length = 4 * n) (hn : n ≤ 1000) :
    Calls Tryd.prog 77 #[.string ⟨⟨s⟩⟩] w fun e w' => ∃ v, e = .returned v ∧ OwnI w' w.heap.size v (wl s n) ∧ Below w.heap.size w w' := by
  have HS := Lib.hid hs
  have hs1 : s.length ≤ 4000 := by omega
  clear hs
  go_enter Tryd.func77, Tryd.ntmps77
  go_wp2
  go_loopw [3, 4] (fun v i wr => ∃ k : Nat, k ≤ n ∧ i = .int .i64 ((4 * k : Nat) : Int) ∧ OwnI wr w.heap.size v (wl s k) ∧ Below w.heap.size w wr) (fun _ i _ => s.length - (intOf i).toNat)
  case atStart => exact ⟨0, by omega, rfl, OwnI.nil _ _, Below.refl _ _⟩
  case round =>
    obtain ⟨k, hk, rfl, HO, hb⟩ := hrel
    have hs := HS.out
    by_cases hlt : k < n
    · have HWS := Lib.hid (wl_succ s k)
      have HLK : Hid ((wl s k).length ≤ 1000000) := by rw [Hid, wl_length]; omega
      obtain ⟨i, hi⟩ : ∃ i : Nat, i = 4 * k := ⟨_, rfl⟩
      have hi4 : i + 4 ≤ s.length := by omega
      have HI := Lib.hid hi
      rw [← hi] at HWS ⊢
      clear hi hs
      have HW := Lib.hid (word_four s i hi4)
      have hb0 := byte_at s i (by omega)
      have hb1 := byte_at s (i + 1) (by omega)
      have hb2 := byte_at s (i + 2) (by omega)
      have hb3 := byte_at s (i + 3) (by omega)
      have l0 : (s[i]'(by omega)).toNat < 256 := UInt8.toNat_lt _
      have l1 : (s[i + 1]'(by omega)).toNat < 256 := UInt8.toNat_lt _
      have l2 : (s[i + 2]'(by omega)).toNat < 256 := UInt8.toNat_lt _
      have l3 : (s[i + 3]'(by omega)).toNat < 256 := UInt8.toNat_lt _
      generalize s[i]'(by omega) = c0 at *
      generalize s[i + 1]'(by omega) = c1 at *
      generalize s[i + 2]'(by omega) = c2 at *
      generalize s[i + 3]'(by omega) = c3 at *
      have f1 : IntKind.i64.wrap ((i : Int) + 1) = (i : Int) + 1 := IntWalk.i64_in _ (by omega)
      have f2 : IntKind.i64.wrap ((i : Int) + 2) = (i : Int) + 2 := IntWalk.i64_in _ (by omega)
      have f3 : IntKind.i64.wrap ((i : Int) + 3) = (i : Int) + 3 := IntWalk.i64_in _ (by omega)
      have n1 : ((i : Int) + 1).toNat = i + 1 := by omega
      have n2 : ((i : Int) + 2).toNat = i + 2 := by omega
      have n3 : ((i : Int) + 3).toNat = i + 3 := by omega
      have HCI : Hid (IntKind.i64.wrap (IntKind.i64.wrap (IntKind.i64.wrap (IntKind.i64.wrap (IntKind.i64.wrap (c0.toNat : Int) * 16777216) + IntKind.i64.wrap (IntKind.i64.wrap (c1.toNat : Int) * 65536)) + IntKind.i64.wrap (IntKind.i64.wrap (c2.toNat : Int) * 256)) + IntKind.i64.wrap (c3.toNat : Int)) = ((Sh.word (s.drop i) : Nat) : Int)) := by
        have w0 : IntKind.i64.wrap (c0.toNat : Int) = (c0.toNat : Int) := IntWalk.i64_in _ (by omega)
        have w1 : IntKind.i64.wrap (c1.toNat : Int) = (c1.toNat : Int) := IntWalk.i64_in _ (by omega)
        have w2 : IntKind.i64.wrap (c2.toNat : Int) = (c2.toNat : Int) := IntWalk.i64_in _ (by omega)
        have w3 : IntKind.i64.wrap (c3.toNat : Int) = (c3.toNat : Int) := IntWalk.i64_in _ (by omega)
        rw [Hid, w0, w1, w2, w3, IntWalk.i64_in ((c0.toNat : Int) * 16777216) (by omega), IntWalk.i64_in ((c1.toNat : Int) * 65536) (by omega), IntWalk.i64_in ((c2.toNat : Int) * 256) (by omega), IntWalk.i64_in ((c0.toNat : Int) * 16777216 + (c1.toNat : Int) * 65536) (by omega), IntWalk.i64_in ((c0.toNat : Int) * 16777216 + (c1.toNat : Int) * 65536 + (c2.toNat : Int) * 256) (by omega), IntWalk.i64_in _ (by omega), HW.out]
        omega
      clear HW l0 l1 l2 l3
      go_wp2_with fail
      have hzw := hb.size
      have q0 : i < s.length := by omega
      have q1 : i + 1 < s.length := by omega
      have q2 : i + 2 < s.length := by omega
      have q3 : i + 3 < s.length := by omega
      have r1 : (i : Int) + 1 < (s.length : Int) := by omega
      have r2 : (i : Int) + 2 < (s.length : Int) := by omega
      have r3 : (i : Int) + 3 < (s.length : Int) := by omega
      have z1 : (0 : Int) ≤ (i : Int) + 1 := by omega
      have z2 : (0 : Int) ≤ (i : Int) + 2 := by omega
      have z3 : (0 : Int) ≤ (i : Int) + 3 := by omega
      refine wp_region_held_drew (S := fun _ => True) (by kernel_rfl) trivial (fun hHeld => ?_)
      refine wpAnyH_take (i := 0) (oi := { dst := some 12, op := Op.move (Operand.tmp 3), type := 23, pos := "ref.go:99", after := #[], guard := none }) (v := ?_) rfl (by kernel_rfl) (by kernel_rfl) (by kernel_rfl) (fun _ _ _ h => h) (Or.inl ⟨by rfl, ?_⟩) hHeld ?_
      rotate_left
      · intro W0 hSw
        go_simp <;> with_reducible rfl
      simp only [Act.put, List.setIfInBounds_toArray, List.set_cons_zero, List.set_cons_succ]
      refine wpAnyH_take (i := 1) (oi := { dst := some 13, op := Op.move (Operand.tmp 0), type := 9, pos := "ref.go:99", after := #[], guard := none }) (v := ?_) rfl (by kernel_rfl) (by kernel_rfl) (by kernel_rfl) (fun _ _ _ h => h) (Or.inl ⟨by rfl, ?_⟩) hHeld ?_
      rotate_left
      · intro W0 hSw
        go_simp <;> with_reducible rfl
      simp only [Act.put, List.setIfInBounds_toArray, List.set_cons_zero, List.set_cons_succ]
      refine wpAnyH_take (i := 2) (oi := { dst := some 14, op := Op.move (Operand.tmp 4), type := 3, pos := "ref.go:99", after := #[], guard := none }) (v := ?_) rfl (by kernel_rfl) (by kernel_rfl) (by kernel_rfl) (fun _ _ _ h => h) (Or.inl ⟨by rfl, ?_⟩) hHeld ?_
      rotate_left
      · intro W0 hSw
        go_simp <;> with_reducible rfl
      simp only [Act.put, List.setIfInBounds_toArray, List.set_cons_zero, List.set_cons_succ]
      refine wpAnyH_take (i := 3) (oi := { dst := some 15, op := Op.index 9 (Operand.tmp 13) (Operand.tmp 14), type := 5, pos := "ref.go:99", after := #[{ on := 1, ground := Ground.data }, { on := 2, ground := Ground.data }], guard := none }) (v := ?_) rfl (by kernel_rfl) (by kernel_rfl) (by kernel_rfl) (fun _ _ _ h => h) (Or.inl ⟨by rfl, ?_⟩) hHeld ?_
      rotate_left
      · intro W0 hSw
        go_simp <;> with_reducible rfl
      simp only [Act.put, List.setIfInBounds_toArray, List.set_cons_zero, List.set_cons_succ]
      refine wpAnyH_take (i := 4) (oi := { dst := some 16, op := Op.convert 5 3 (Operand.tmp 15), type := 3, pos := "ref.go:99", after := #[{ on := 3, ground := Ground.data }], guard := none }) (v := ?_) rfl (by kernel_rfl) (by kernel_rfl) (by kernel_rfl) (fun _ _ _ h => h) (Or.inl ⟨by rfl, ?_⟩) hHeld ?_
      rotate_left
      · intro W0 hSw
        go_simp <;> with_reducible rfl
      simp only [Act.put, List.setIfInBounds_toArray, List.set_cons_zero, List.set_cons_succ]
      refine wpAnyH_take (i := 5) (oi := { dst := some 17, op := Op.binOp BinOp.mul 3 (Operand.tmp 16) (Operand.const (Value.int IntKind.i64 16777216)) 3, type := 3, pos := "ref.go:99", after := #[{ on := 4, ground := Ground.data }], guard := none }) (v := ?_) rfl (by kernel_rfl) (by kernel_rfl) (by kernel_rfl) (fun _ _ _ h => h) (Or.inl ⟨by rfl, ?_⟩) hHeld ?_
      rotate_left
      · intro W0 hSw
        go_simp <;> with_reducible rfl
      simp only [Act.put, List.setIfInBounds_toArray, List.set_cons_zero, List.set_cons_succ]
      refine wpAnyH_take (i := 6) (oi := { dst := some 18, op := Op.move (Operand.tmp 0), type := 9, pos := "ref.go:99", after := #[], guard := none }) (v := ?_) rfl (by kernel_rfl) (by kernel_rfl) (by kernel_rfl) (fun _ _ _ h => h) (Or.inl ⟨by rfl, ?_⟩) hHeld ?_
      rotate_left
      · intro W0 hSw
        go_simp <;> with_reducible rfl
      simp only [Act.put, List.setIfInBounds_toArray, List.set_cons_zero, List.set_cons_succ]
      refine wpAnyH_take (i := 7) (oi := { dst := some 19, op := Op.move (Operand.tmp 4), type := 3, pos := "ref.go:99", after := #[], guard := none }) (v := ?_) rfl (by kernel_rfl) (by kernel_rfl) (by kernel_rfl) (fun _ _ _ h => h) (Or.inl ⟨by rfl, ?_⟩) hHeld ?_
      rotate_left
      · intro W0 hSw
        go_simp <;> with_reducible rfl
      simp only [Act.put, List.setIfInBounds_toArray, List.set_cons_zero, List.set_cons_succ]
      refine wpAnyH_take (i := 8) (oi := { dst := some 20, op := Op.binOp BinOp.add 3 (Operand.tmp 19) (Operand.const (Value.int IntKind.i64 1)) 3, type := 3, pos := "ref.go:99", after := #[{ on := 7, ground := Ground.data }], guard := none }) (v := ?_) rfl (by kernel_rfl) (by kernel_rfl) (by kernel_rfl) (fun _ _ _ h => h) (Or.inl ⟨by rfl, ?_⟩) hHeld ?_
      rotate_left
      · intro W0 hSw
        go_simp <;> with_reducible rfl
      simp only [Act.put, List.setIfInBounds_toArray, List.set_cons_zero, List.set_cons_succ]
      refine wpAnyH_take (i := 9) (oi := { dst := some 21, op := Op.index 9 (Operand.tmp 18) (Operand.tmp 20), type := 5, pos := "ref.go:99", after := #[{ on := 6, ground := Ground.data }, { on := 8, ground := Ground.data }], guard := none }) (v := ?_) rfl (by kernel_rfl) (by kernel_rfl) (by kernel_rfl) (fun _ _ _ h => h) (Or.inl ⟨by rfl, ?_⟩) hHeld ?_
      rotate_left
      · intro W0 hSw
        go_simp <;> with_reducible rfl
      simp only [Act.put, List.setIfInBounds_toArray, List.set_cons_zero, List.set_cons_succ]
      refine wpAnyH_take (i := 10) (oi := { dst := some 22, op := Op.convert 5 3 (Operand.tmp 21), type := 3, pos := "ref.go:99", after := #[{ on := 9, ground := Ground.data }], guard := none }) (v := ?_) rfl (by kernel_rfl) (by kernel_rfl) (by kernel_rfl) (fun _ _ _ h => h) (Or.inl ⟨by rfl, ?_⟩) hHeld ?_
      rotate_left
      · intro W0 hSw
        go_simp <;> with_reducible rfl
      simp only [Act.put, List.setIfInBounds_toArray, List.set_cons_zero, List.set_cons_succ]
      refine wpAnyH_take (i := 11) (oi := { dst := some 23, op := Op.binOp BinOp.mul 3 (Operand.tmp 22) (Operand.const (Value.int IntKind.i64 65536)) 3, type := 3, pos := "ref.go:99", after := #[{ on := 10, ground := Ground.data }], guard := none }) (v := ?_) rfl (by kernel_rfl) (by kernel_rfl) (by kernel_rfl) (fun _ _ _ h => h) (Or.inl ⟨by rfl, ?_⟩) hHeld ?_
      rotate_left
      · intro W0 hSw
        go_simp <;> with_reducible rfl
      simp only [Act.put, List.setIfInBounds_toArray, List.set_cons_zero, List.set_cons_succ]
      refine wpAnyH_take (i := 12) (oi := { dst := some 24, op := Op.binOp BinOp.add 3 (Operand.tmp 17) (Operand.tmp 23) 3, type := 3, pos := "ref.go:99", after := #[{ on := 5, ground := Ground.data }, { on := 11, ground := Ground.data }], guard := none }) (v := ?_) rfl (by kernel_rfl) (by kernel_rfl) (by kernel_rfl) (fun _ _ _ h => h) (Or.inl ⟨by rfl, ?_⟩) hHeld ?_
      rotate_left
      · intro W0 hSw
        go_simp <;> with_reducible rfl
      simp only [Act.put, List.setIfInBounds_toArray, List.set_cons_zero, List.set_cons_succ]
      refine wpAnyH_take (i := 13) (oi := { dst := some 25, op := Op.move (Operand.tmp 0), type := 9, pos := "ref.go:99", after := #[], guard := none }) (v := ?_) rfl (by kernel_rfl) (by kernel_rfl) (by kernel_rfl) (fun _ _ _ h => h) (Or.inl ⟨by rfl, ?_⟩) hHeld ?_
      rotate_left
      · intro W0 hSw
        go_simp <;> with_reducible rfl
      simp only [Act.put, List.setIfInBounds_toArray, List.set_cons_zero, List.set_cons_succ]
      refine wpAnyH_take (i := 14) (oi := { dst := some 26, op := Op.move (Operand.tmp 4), type := 3, pos := "ref.go:99", after := #[], guard := none }) (v := ?_) rfl (by kernel_rfl) (by kernel_rfl) (by kernel_rfl) (fun _ _ _ h => h) (Or.inl ⟨by rfl, ?_⟩) hHeld ?_
      rotate_left
      · intro W0 hSw
        go_simp <;> with_reducible rfl
      simp only [Act.put, List.setIfInBounds_toArray, List.set_cons_zero, List.set_cons_succ]
      refine wpAnyH_take (i := 15) (oi := { dst := some 27, op := Op.binOp BinOp.add 3 (Operand.tmp 26) (Operand.const (Value.int IntKind.i64 2)) 3, type := 3, pos := "ref.go:99", after := #[{ on := 14, ground := Ground.data }], guard := none }) (v := ?_) rfl (by kernel_rfl) (by kernel_rfl) (by kernel_rfl) (fun _ _ _ h => h) (Or.inl ⟨by rfl, ?_⟩) hHeld ?_
      rotate_left
      · intro W0 hSw
        go_simp <;> with_reducible rfl
      simp only [Act.put, List.setIfInBounds_toArray, List.set_cons_zero, List.set_cons_succ]
      refine wpAnyH_take (i := 16) (oi := { dst := some 28, op := Op.index 9 (Operand.tmp 25) (Operand.tmp 27), type := 5, pos := "ref.go:99", after := #[{ on := 13, ground := Ground.data }, { on := 15, ground := Ground.data }], guard := none }) (v := ?_) rfl (by kernel_rfl) (by kernel_rfl) (by kernel_rfl) (fun _ _ _ h => h) (Or.inl ⟨by rfl, ?_⟩) hHeld ?_
      rotate_left
      · intro W0 hSw
        go_simp <;> with_reducible rfl
      simp only [Act.put, List.setIfInBounds_toArray, List.set_cons_zero, List.set_cons_succ]
      refine wpAnyH_take (i := 17) (oi := { dst := some 29, op := Op.convert 5 3 (Operand.tmp 28), type := 3, pos := "ref.go:99", after := #[{ on := 16, ground := Ground.data }], guard := none }) (v := ?_) rfl (by kernel_rfl) (by kernel_rfl) (by kernel_rfl) (fun _ _ _ h => h) (Or.inl ⟨by rfl, ?_⟩) hHeld ?_
      rotate_left
      · intro W0 hSw
        go_simp <;> with_reducible rfl
      simp only [Act.put, List.setIfInBounds_toArray, List.set_cons_zero, List.set_cons_succ]
      refine wpAnyH_take (i := 18) (oi := { dst := some 30, op := Op.binOp BinOp.mul 3 (Operand.tmp 29) (Operand.const (Value.int IntKind.i64 256)) 3, type := 3, pos := "ref.go:99", after := #[{ on := 17, ground := Ground.data }], guard := none }) (v := ?_) rfl (by kernel_rfl) (by kernel_rfl) (by kernel_rfl) (fun _ _ _ h => h) (Or.inl ⟨by rfl, ?_⟩) hHeld ?_
      rotate_left
      · intro W0 hSw
        go_simp <;> with_reducible rfl
      simp only [Act.put, List.setIfInBounds_toArray, List.set_cons_zero, List.set_cons_succ]
      refine wpAnyH_take (i := 19) (oi := { dst := some 31, op := Op.binOp BinOp.add 3 (Operand.tmp 24) (Operand.tmp 30) 3, type := 3, pos := "ref.go:99", after := #[{ on := 12, ground := Ground.data }, { on := 18, ground := Ground.data }], guard := none }) (v := ?_) rfl (by kernel_rfl) (by kernel_rfl) (by kernel_rfl) (fun _ _ _ h => h) (Or.inl ⟨by rfl, ?_⟩) hHeld ?_
      rotate_left
      · intro W0 hSw
        go_simp <;> with_reducible rfl
      simp only [Act.put, List.setIfInBounds_toArray, List.set_cons_zero, List.set_cons_succ]
      refine wpAnyH_take (i := 20) (oi := { dst := some 32, op := Op.move (Operand.tmp 0), type := 9, pos := "ref.go:99", after := #[], guard := none }) (v := ?_) rfl (by kernel_rfl) (by kernel_rfl) (by kernel_rfl) (fun _ _ _ h => h) (Or.inl ⟨by rfl, ?_⟩) hHeld ?_
      rotate_left
      · intro W0 hSw
        go_simp <;> with_reducible rfl
      simp only [Act.put, List.setIfInBounds_toArray, List.set_cons_zero, List.set_cons_succ]
      refine wpAnyH_take (i := 21) (oi := { dst := some 33, op := Op.move (Operand.tmp 4), type := 3, pos := "ref.go:99", after := #[], guard := none }) (v := ?_) rfl (by kernel_rfl) (by kernel_rfl) (by kernel_rfl) (fun _ _ _ h => h) (Or.inl ⟨by rfl, ?_⟩) hHeld ?_
      rotate_left
      · intro W0 hSw
        go_simp <;> with_reducible rfl
      simp only [Act.put, List.setIfInBounds_toArray, List.set_cons_zero, List.set_cons_succ]
      refine wpAnyH_take (i := 22) (oi := { dst := some 34, op := Op.binOp BinOp.add 3 (Operand.tmp 33) (Operand.const (Value.int IntKind.i64 3)) 3, type := 3, pos := "ref.go:99", after := #[{ on := 21, ground := Ground.data }], guard := none }) (v := ?_) rfl (by kernel_rfl) (by kernel_rfl) (by kernel_rfl) (fun _ _ _ h => h) (Or.inl ⟨by rfl, ?_⟩) hHeld ?_
      rotate_left
      · intro W0 hSw
        go_simp <;> with_reducible rfl
      simp only [Act.put, List.setIfInBounds_toArray, List.set_cons_zero, List.set_cons_succ]
      refine wpAnyH_take (i := 23) (oi := { dst := some 35, op := Op.index 9 (Operand.tmp 32) (Operand.tmp 34), type := 5, pos := "ref.go:99", after := #[{ on := 20, ground := Ground.data }, { on := 22, ground := Ground.data }], guard := none }) (v := ?_) rfl (by kernel_rfl) (by kernel_rfl) (by kernel_rfl) (fun _ _ _ h => h) (Or.inl ⟨by rfl, ?_⟩) hHeld ?_
      rotate_left
      · intro W0 hSw
        go_simp <;> with_reducible rfl
      simp only [Act.put, List.setIfInBounds_toArray, List.set_cons_zero, List.set_cons_succ]
      refine wpAnyH_take (i := 24) (oi := { dst := some 36, op := Op.convert 5 3 (Operand.tmp 35), type := 3, pos := "ref.go:99", after := #[{ on := 23, ground := Ground.data }], guard := none }) (v := ?_) rfl (by kernel_rfl) (by kernel_rfl) (by kernel_rfl) (fun _ _ _ h => h) (Or.inl ⟨by rfl, ?_⟩) hHeld ?_
      rotate_left
      · intro W0 hSw
        go_simp <;> with_reducible rfl
      simp only [Act.put, List.setIfInBounds_toArray, List.set_cons_zero, List.set_cons_succ]
      refine wpAnyH_take (i := 25) (oi := { dst := some 37, op := Op.binOp BinOp.add 3 (Operand.tmp 31) (Operand.tmp 36) 3, type := 3, pos := "ref.go:99", after := #[{ on := 19, ground := Ground.data }, { on := 24, ground := Ground.data }], guard := none }) (v := ?_) rfl (by kernel_rfl) (by kernel_rfl) (by kernel_rfl) (fun _ _ _ h => h) (Or.inl ⟨by rfl, ?_⟩) hHeld ?_
      rotate_left
      · intro W0 hSw
        go_simp <;> with_reducible rfl
      simp only [Act.put, List.setIfInBounds_toArray, List.set_cons_zero, List.set_cons_succ]
      refine wpAnyH_ready (rs := [26]) (by kernel_rfl) (by simp) ?_
      refine AllReadyH.cons (o := { dst := some 38, op := Op.buildSlice 23 1 #[(0, Operand.tmp 37)], type := 23, pos := "ref.go:99", after := #[{ on := 25, ground := Ground.data }], guard := none }) rfl (fun K hK => ?_) AllReadyH.nil
      go_simp
      refine hK.out _ _ trivial (fun hHeld => ?_)
      clear hK K
      try simp only [Act.put, List.setIfInBounds_toArray, List.set_cons_zero, List.set_cons_succ]
      refine wpAnyH_ready (rs := [27]) (by kernel_rfl) (by simp) ?_
      refine AllReadyH.cons (o := { dst := some 39, op := Op.call { callee := Callee.builtin Builtin.append, args := #[Operand.tmp 12, Operand.tmp 38], argTypes := #[23, 23] }, type := 23, pos := "ref.go:99", after := #[{ on := 0, ground := Ground.data }, { on := 26, ground := Ground.data }], guard := none }) rfl (fun K hK => ?_) AllReadyH.nil
      refine step_appI _ (by rfl) (.tmp 12) (.tmp 38) (by rfl) w.heap.size u3 (wl s k) (Sh.word (s.drop i)) wr.heap.size _ HCI (by rfl) (by rfl) (heap_alloc_new wr _) ((HO.alloc _).drew) HLK.out (by simp; omega) ?_
      intro v2 w2 HO2 hb2
      refine hK.out _ _ trivial (fun hHeld => ?_)
      clear hK K
      try simp only [Act.put, List.setIfInBounds_toArray, List.set_cons_zero, List.set_cons_succ]
      refine wpAnyH_take (i := 28) (oi := { dst := some 3, op := Op.assign (Operand.tmp 39), type := 23, pos := "ref.go:99", after := #[{ on := 27, ground := Ground.data }, { on := 27, ground := Ground.chain }, { on := 0, ground := Ground.phase }, { on := 1, ground := Ground.phase }, { on := 2, ground := Ground.phase }, { on := 3, ground := Ground.phase }, { on := 4, ground := Ground.phase }, { on := 5, ground := Ground.phase }, { on := 6, ground := Ground.phase }, { on := 7, ground := Ground.phase }, { on := 8, ground := Ground.phase }, { on := 9, ground := Ground.phase }, { on := 10, ground := Ground.phase }, { on := 11, ground := Ground.phase }, { on := 12, ground := Ground.phase }, { on := 13, ground := Ground.phase }, { on := 14, ground := Ground.phase }, { on := 15, ground := Ground.phase }, { on := 16, ground := Ground.phase }, { on := 17, ground := Ground.phase }, { on := 18, ground := Ground.phase }, { on := 19, ground := Ground.phase }, { on := 20, ground := Ground.phase }, { on := 21, ground := Ground.phase }, { on := 22, ground := Ground.phase }, { on := 23, ground := Ground.phase }, { on := 24, ground := Ground.phase }, { on := 25, ground := Ground.phase }, { on := 26, ground := Ground.phase }, { on := 27, ground := Ground.phase }], guard := none }) (v := ?_) rfl (by kernel_rfl) (by kernel_rfl) (by kernel_rfl) (fun _ _ _ h => h) (Or.inl ⟨by rfl, ?_⟩) hHeld ?_
      rotate_left
      · intro W0 hSw
        go_simp <;> with_reducible rfl
      simp only [Act.put, List.setIfInBounds_toArray, List.set_cons_zero, List.set_cons_succ]
      refine wpAnyH_done (by kernel_rfl) ?_ _
      have b2 : Below w.heap.size w w2 := hb.trans ((((Below.refl _ _).alloc (Nat.le_refl _) _).drew.mono hzw).trans hb2)
      go_wp2
      go_roundw
      case rel => exact ⟨k + 1, by omega, by have := HI.out; go_num, by rw [HWS.out]; exact HO2, b2⟩
      case measure => simp [intOf]; omega
    · obtain rfl : k = n := by omega
      clear hs
      have hs2 : 4 * k + 3 ≥ s.length := by have := HS.out; omega
      go_wp2
      go_ret
      exact ⟨_, rfl, HO, hb⟩
end Go.Proofs.YtdjehpbkkbahcaaDoor

/- The document's answer: bytes. -/

namespace Go.Proofs.YtdjehpbkkbahcaaDoor
open Go.RowKit

theorem byte_of (y : Nat) : IntKind.u8.wrap (y : Int) = ((Sh.byt y).toNat : Nat) := by
  rw [IntKind.wrap_u8', Sh.byt, UInt8.toNat_ofNat']
  omega
theorem byt_mod (y : Nat) : Sh.byt (y % 256) = Sh.byt y := by
  apply UInt8.toNat_inj.1
  rw [Sh.byt, Sh.byt, UInt8.toNat_ofNat', UInt8.toNat_ofNat']
  omega

theorem conv4 (W : World) (c0 c1 c2 c3 : UInt8) : (convert 26 9 (.slice (some ⟨W.heap.size, 0, none⟩) 4 4)).run Tryd.prog (W.alloc (.cells #[.int .u8 (c0.toNat : Nat), .int .u8 (c1.toNat : Nat), .int .u8 (c2.toNat : Nat), .int .u8 (c3.toNat : Nat)] 5)).drew = .ok (.string ⟨⟨[c0, c1, c2, c3]⟩⟩) (W.alloc (.cells #[.int .u8 (c0.toNat : Nat), .int .u8 (c1.toNat : Nat), .int .u8 (c2.toNat : Nat), .int .u8 (c3.toNat : Nat)] 5)).drew :=
  conv_any _ _ 4 [c0, c1, c2, c3] 5 (0, 0) _ (heap_alloc_new W _) (fun j hj => bcells_at [c0, c1, c2, c3] j hj)

def bl (l : List Nat) : List UInt8 := l.flatMap Sh.wb

set_option maxRecDepth 100000 in
set_option maxHeartbeats 2000000 in
theorem bytes_any (v : Value) (l : List Nat) (w : World) (HL : Ints w v l) (HX : Hid (∀ x ∈ l, x < 4294967296)) (hl : l.length ≤ 1000) :
    Calls Tryd.prog 55 #[v] w fun e w' => e = .returned (.string ⟨⟨bl l⟩⟩) ∧ Below w.heap.size w w' := by
  obtain ⟨g, cap, rfl, hg, hc⟩ := HL
  have HC := Lib.hid hc
  clear hc
  go_enter Tryd.func55, Tryd.ntmps55
  go_wp2
  go_loopw [3, 4] (fun st i wr => ∃ k : Nat, k ≤ l.length ∧ i = .int .i64 (k : Nat) ∧ st = .string ⟨⟨bl (l.take k)⟩⟩ ∧ Below w.heap.size w wr) (fun _ i _ => l.length - (intOf i).toNat)
  case atStart => exact ⟨0, by omega, rfl, rfl, Below.refl _ _⟩
  case round =>
    obtain ⟨k, hk, rfl, rfl, hb⟩ := hrel
    by_cases hlt : k < l.length
    · have hcell := (hb.cell (p := ⟨g, k, none⟩) hg).trans (HC.out k hlt)
      have HT : Hid (bl (l.take (k + 1)) = bl (l.take k) ++ [Sh.byt (l.getD k 0 / 16777216), Sh.byt (l.getD k 0 / 65536), Sh.byt (l.getD k 0 / 256), Sh.byt (l.getD k 0)]) := by
        have e : l.take (k + 1) = l.take k ++ [l[k]] := List.take_succ_eq_append_getElem hlt
        rw [Hid, e, List.getD_eq_getElem?_getD, List.getElem?_eq_getElem hlt]
        rw [bl, bl, List.flatMap_append]
        rfl
      have HLT : Hid ((bl (l.take k)).length ≤ 4000) := by
        rw [Hid, bl, List.length_flatMap]
        have : ((l.take k).map fun a => (Sh.wb a).length) = List.replicate k 4 := by
          apply List.ext_getElem
          · simp; omega
          · intro i h1 h2; simp [Sh.wb]
        rw [this]
        simp
        omega
      generalize bl (l.take k) = tp at *
      have hx := Sh.getD_lt HX.out k
      generalize l.getD k 0 = x at *
      have d0 : IntKind.u8.wrap (IntKind.i64.wrap ((x : Int) / 16777216)) = ((Sh.byt (x / 16777216)).toNat : Nat) := by rw [IntWalk.i64_in _ (by omega)]; exact byte_of _
      have d1 : IntKind.u8.wrap ((IntKind.i64.wrap ((x : Int) / 65536)).tmod 256) = ((Sh.byt (x / 65536)).toNat : Nat) := by rw [IntWalk.i64_in _ (by omega)]; exact (byte_of (x / 65536 % 256)).trans (by rw [byt_mod])
      have d2 : IntKind.u8.wrap ((IntKind.i64.wrap ((x : Int) / 256)).tmod 256) = ((Sh.byt (x / 256)).toNat : Nat) := by rw [IntWalk.i64_in _ (by omega)]; exact (byte_of (x / 256 % 256)).trans (by rw [byt_mod])
      have d3 : IntKind.u8.wrap ((x : Int).tmod 256) = ((Sh.byt x).toNat : Nat) := (byte_of (x % 256)).trans (by rw [byt_mod])
      clear hx
      generalize Sh.byt (x / 16777216) = c0 at *
      generalize Sh.byt (x / 65536) = c1 at *
      generalize Sh.byt (x / 256) = c2 at *
      generalize Sh.byt x = c3 at *
      have hcv := conv4 wr c0 c1 c2 c3
      have hap : ByteArray.mk ⟨tp⟩ ++ ByteArray.mk ⟨[c0, c1, c2, c3]⟩ = ⟨⟨tp ++ [c0, c1, c2, c3]⟩⟩ := app_str _ _
      have hl1 : tp.length + 4 ≤ 9223372036854775807 := by have := HLT.out; omega
      have hl2 : ¬ 9223372036854775807 < tp.length + 4 := by omega
      have hgz : g < wr.heap.size := Nat.lt_of_lt_of_le hg hb.size
      have hki : (k : Int) < (l.length : Int) := by omega
      go_wp2_with fail
      have hS1 : ∀ o : Obj, (wr.alloc o).drew.cell? ⟨g, k, none⟩ = some (.int .i64 (x : Nat)) := fun o => (World.cell?_of_block (w := wr) (a := ⟨g, k, none⟩) (Below.heap_alloc wr o g hgz)).trans hcell
      refine wp_region_held_drew (S := fun w' => w'.cell? ⟨g, k, none⟩ = some (.int .i64 (x : Nat))) (by kernel_rfl) hcell (fun hHeld => ?_)
      refine wpAnyH_take (i := 0) (oi := { dst := some 11, op := Op.move (Operand.tmp 3), type := 9, pos := "ref.go:90", after := #[], guard := none }) (v := ?_) rfl (by kernel_rfl) (by kernel_rfl) (by kernel_rfl) (fun _ _ _ h => h) (Or.inl ⟨by rfl, ?_⟩) hHeld ?_
      rotate_left
      · intro W0 hSw
        (try dsimp only at hSw)
        go_simp <;> with_reducible rfl
      simp only [Act.put, List.setIfInBounds_toArray, List.set_cons_zero, List.set_cons_succ]
      refine wpAnyH_take (i := 1) (oi := { dst := some 12, op := Op.move (Operand.tmp 0), type := 23, pos := "ref.go:90", after := #[], guard := none }) (v := ?_) rfl (by kernel_rfl) (by kernel_rfl) (by kernel_rfl) (fun _ _ _ h => h) (Or.inl ⟨by rfl, ?_⟩) hHeld ?_
      rotate_left
      · intro W0 hSw
        (try dsimp only at hSw)
        go_simp <;> with_reducible rfl
      simp only [Act.put, List.setIfInBounds_toArray, List.set_cons_zero, List.set_cons_succ]
      refine wpAnyH_take (i := 2) (oi := { dst := some 13, op := Op.move (Operand.tmp 4), type := 3, pos := "ref.go:90", after := #[], guard := none }) (v := ?_) rfl (by kernel_rfl) (by kernel_rfl) (by kernel_rfl) (fun _ _ _ h => h) (Or.inl ⟨by rfl, ?_⟩) hHeld ?_
      rotate_left
      · intro W0 hSw
        (try dsimp only at hSw)
        go_simp <;> with_reducible rfl
      simp only [Act.put, List.setIfInBounds_toArray, List.set_cons_zero, List.set_cons_succ]
      refine wpAnyH_take (i := 3) (oi := { dst := some 14, op := Op.indexAddr 23 (Operand.tmp 12) (Operand.tmp 13), type := 0, pos := "ref.go:90", after := #[{ on := 1, ground := Ground.data }, { on := 2, ground := Ground.data }], guard := none }) (v := ?_) rfl (by kernel_rfl) (by kernel_rfl) (by kernel_rfl) (fun _ _ _ h => h) (Or.inl ⟨by rfl, ?_⟩) hHeld ?_
      rotate_left
      · intro W0 hSw
        (try dsimp only at hSw)
        go_simp <;> with_reducible rfl
      simp only [Act.put, List.setIfInBounds_toArray, List.set_cons_zero, List.set_cons_succ]
      refine wpAnyH_take (i := 4) (oi := { dst := some 15, op := Op.load 3 (Operand.tmp 14), type := 3, pos := "ref.go:90", after := #[{ on := 3, ground := Ground.data }], guard := none }) (v := ?_) rfl (by kernel_rfl) (by kernel_rfl) (by kernel_rfl) (fun _ _ _ h => h) (Or.inl ⟨by rfl, ?_⟩) hHeld ?_
      rotate_left
      · intro W0 hSw
        (try dsimp only at hSw)
        go_simp <;> with_reducible rfl
      simp only [Act.put, List.setIfInBounds_toArray, List.set_cons_zero, List.set_cons_succ]
      refine wpAnyH_take (i := 5) (oi := { dst := some 16, op := Op.binOp BinOp.quo 3 (Operand.tmp 15) (Operand.const (Value.int IntKind.i64 16777216)) 3, type := 3, pos := "ref.go:90", after := #[{ on := 4, ground := Ground.data }], guard := none }) (v := ?_) rfl (by kernel_rfl) (by kernel_rfl) (by kernel_rfl) (fun _ _ _ h => h) (Or.inl ⟨by rfl, ?_⟩) hHeld ?_
      rotate_left
      · intro W0 hSw
        (try dsimp only at hSw)
        go_simp <;> with_reducible rfl
      simp only [Act.put, List.setIfInBounds_toArray, List.set_cons_zero, List.set_cons_succ]
      refine wpAnyH_take (i := 6) (oi := { dst := some 17, op := Op.convert 3 5 (Operand.tmp 16), type := 5, pos := "ref.go:90", after := #[{ on := 5, ground := Ground.data }], guard := none }) (v := ?_) rfl (by kernel_rfl) (by kernel_rfl) (by kernel_rfl) (fun _ _ _ h => h) (Or.inl ⟨by rfl, ?_⟩) hHeld ?_
      rotate_left
      · intro W0 hSw
        (try dsimp only at hSw)
        go_simp <;> with_reducible rfl
      simp only [Act.put, List.setIfInBounds_toArray, List.set_cons_zero, List.set_cons_succ]
      refine wpAnyH_take (i := 7) (oi := { dst := some 18, op := Op.move (Operand.tmp 0), type := 23, pos := "ref.go:90", after := #[], guard := none }) (v := ?_) rfl (by kernel_rfl) (by kernel_rfl) (by kernel_rfl) (fun _ _ _ h => h) (Or.inl ⟨by rfl, ?_⟩) hHeld ?_
      rotate_left
      · intro W0 hSw
        (try dsimp only at hSw)
        go_simp <;> with_reducible rfl
      simp only [Act.put, List.setIfInBounds_toArray, List.set_cons_zero, List.set_cons_succ]
      refine wpAnyH_take (i := 8) (oi := { dst := some 19, op := Op.move (Operand.tmp 4), type := 3, pos := "ref.go:90", after := #[], guard := none }) (v := ?_) rfl (by kernel_rfl) (by kernel_rfl) (by kernel_rfl) (fun _ _ _ h => h) (Or.inl ⟨by rfl, ?_⟩) hHeld ?_
      rotate_left
      · intro W0 hSw
        (try dsimp only at hSw)
        go_simp <;> with_reducible rfl
      simp only [Act.put, List.setIfInBounds_toArray, List.set_cons_zero, List.set_cons_succ]
      refine wpAnyH_take (i := 9) (oi := { dst := some 20, op := Op.indexAddr 23 (Operand.tmp 18) (Operand.tmp 19), type := 0, pos := "ref.go:90", after := #[{ on := 7, ground := Ground.data }, { on := 8, ground := Ground.data }], guard := none }) (v := ?_) rfl (by kernel_rfl) (by kernel_rfl) (by kernel_rfl) (fun _ _ _ h => h) (Or.inl ⟨by rfl, ?_⟩) hHeld ?_
      rotate_left
      · intro W0 hSw
        (try dsimp only at hSw)
        go_simp <;> with_reducible rfl
      simp only [Act.put, List.setIfInBounds_toArray, List.set_cons_zero, List.set_cons_succ]
      refine wpAnyH_take (i := 10) (oi := { dst := some 21, op := Op.load 3 (Operand.tmp 20), type := 3, pos := "ref.go:90", after := #[{ on := 9, ground := Ground.data }], guard := none }) (v := ?_) rfl (by kernel_rfl) (by kernel_rfl) (by kernel_rfl) (fun _ _ _ h => h) (Or.inl ⟨by rfl, ?_⟩) hHeld ?_
      rotate_left
      · intro W0 hSw
        (try dsimp only at hSw)
        go_simp <;> with_reducible rfl
      simp only [Act.put, List.setIfInBounds_toArray, List.set_cons_zero, List.set_cons_succ]
      refine wpAnyH_take (i := 11) (oi := { dst := some 22, op := Op.binOp BinOp.quo 3 (Operand.tmp 21) (Operand.const (Value.int IntKind.i64 65536)) 3, type := 3, pos := "ref.go:90", after := #[{ on := 10, ground := Ground.data }], guard := none }) (v := ?_) rfl (by kernel_rfl) (by kernel_rfl) (by kernel_rfl) (fun _ _ _ h => h) (Or.inl ⟨by rfl, ?_⟩) hHeld ?_
      rotate_left
      · intro W0 hSw
        (try dsimp only at hSw)
        go_simp <;> with_reducible rfl
      simp only [Act.put, List.setIfInBounds_toArray, List.set_cons_zero, List.set_cons_succ]
      refine wpAnyH_take (i := 12) (oi := { dst := some 23, op := Op.binOp BinOp.rem 3 (Operand.tmp 22) (Operand.const (Value.int IntKind.i64 256)) 3, type := 3, pos := "ref.go:90", after := #[{ on := 11, ground := Ground.data }], guard := none }) (v := ?_) rfl (by kernel_rfl) (by kernel_rfl) (by kernel_rfl) (fun _ _ _ h => h) (Or.inl ⟨by rfl, ?_⟩) hHeld ?_
      rotate_left
      · intro W0 hSw
        (try dsimp only at hSw)
        go_simp <;> with_reducible rfl
      simp only [Act.put, List.setIfInBounds_toArray, List.set_cons_zero, List.set_cons_succ]
      refine wpAnyH_take (i := 13) (oi := { dst := some 24, op := Op.convert 3 5 (Operand.tmp 23), type := 5, pos := "ref.go:90", after := #[{ on := 12, ground := Ground.data }], guard := none }) (v := ?_) rfl (by kernel_rfl) (by kernel_rfl) (by kernel_rfl) (fun _ _ _ h => h) (Or.inl ⟨by rfl, ?_⟩) hHeld ?_
      rotate_left
      · intro W0 hSw
        (try dsimp only at hSw)
        go_simp <;> with_reducible rfl
      simp only [Act.put, List.setIfInBounds_toArray, List.set_cons_zero, List.set_cons_succ]
      refine wpAnyH_take (i := 14) (oi := { dst := some 25, op := Op.move (Operand.tmp 0), type := 23, pos := "ref.go:90", after := #[], guard := none }) (v := ?_) rfl (by kernel_rfl) (by kernel_rfl) (by kernel_rfl) (fun _ _ _ h => h) (Or.inl ⟨by rfl, ?_⟩) hHeld ?_
      rotate_left
      · intro W0 hSw
        (try dsimp only at hSw)
        go_simp <;> with_reducible rfl
      simp only [Act.put, List.setIfInBounds_toArray, List.set_cons_zero, List.set_cons_succ]
      refine wpAnyH_take (i := 15) (oi := { dst := some 26, op := Op.move (Operand.tmp 4), type := 3, pos := "ref.go:90", after := #[], guard := none }) (v := ?_) rfl (by kernel_rfl) (by kernel_rfl) (by kernel_rfl) (fun _ _ _ h => h) (Or.inl ⟨by rfl, ?_⟩) hHeld ?_
      rotate_left
      · intro W0 hSw
        (try dsimp only at hSw)
        go_simp <;> with_reducible rfl
      simp only [Act.put, List.setIfInBounds_toArray, List.set_cons_zero, List.set_cons_succ]
      refine wpAnyH_take (i := 16) (oi := { dst := some 27, op := Op.indexAddr 23 (Operand.tmp 25) (Operand.tmp 26), type := 0, pos := "ref.go:90", after := #[{ on := 14, ground := Ground.data }, { on := 15, ground := Ground.data }], guard := none }) (v := ?_) rfl (by kernel_rfl) (by kernel_rfl) (by kernel_rfl) (fun _ _ _ h => h) (Or.inl ⟨by rfl, ?_⟩) hHeld ?_
      rotate_left
      · intro W0 hSw
        (try dsimp only at hSw)
        go_simp <;> with_reducible rfl
      simp only [Act.put, List.setIfInBounds_toArray, List.set_cons_zero, List.set_cons_succ]
      refine wpAnyH_take (i := 17) (oi := { dst := some 28, op := Op.load 3 (Operand.tmp 27), type := 3, pos := "ref.go:90", after := #[{ on := 16, ground := Ground.data }], guard := none }) (v := ?_) rfl (by kernel_rfl) (by kernel_rfl) (by kernel_rfl) (fun _ _ _ h => h) (Or.inl ⟨by rfl, ?_⟩) hHeld ?_
      rotate_left
      · intro W0 hSw
        (try dsimp only at hSw)
        go_simp <;> with_reducible rfl
      simp only [Act.put, List.setIfInBounds_toArray, List.set_cons_zero, List.set_cons_succ]
      refine wpAnyH_take (i := 18) (oi := { dst := some 29, op := Op.binOp BinOp.quo 3 (Operand.tmp 28) (Operand.const (Value.int IntKind.i64 256)) 3, type := 3, pos := "ref.go:90", after := #[{ on := 17, ground := Ground.data }], guard := none }) (v := ?_) rfl (by kernel_rfl) (by kernel_rfl) (by kernel_rfl) (fun _ _ _ h => h) (Or.inl ⟨by rfl, ?_⟩) hHeld ?_
      rotate_left
      · intro W0 hSw
        (try dsimp only at hSw)
        go_simp <;> with_reducible rfl
      simp only [Act.put, List.setIfInBounds_toArray, List.set_cons_zero, List.set_cons_succ]
      refine wpAnyH_take (i := 19) (oi := { dst := some 30, op := Op.binOp BinOp.rem 3 (Operand.tmp 29) (Operand.const (Value.int IntKind.i64 256)) 3, type := 3, pos := "ref.go:90", after := #[{ on := 18, ground := Ground.data }], guard := none }) (v := ?_) rfl (by kernel_rfl) (by kernel_rfl) (by kernel_rfl) (fun _ _ _ h => h) (Or.inl ⟨by rfl, ?_⟩) hHeld ?_
      rotate_left
      · intro W0 hSw
        (try dsimp only at hSw)
        go_simp <;> with_reducible rfl
      simp only [Act.put, List.setIfInBounds_toArray, List.set_cons_zero, List.set_cons_succ]
      refine wpAnyH_take (i := 20) (oi := { dst := some 31, op := Op.convert 3 5 (Operand.tmp 30), type := 5, pos := "ref.go:90", after := #[{ on := 19, ground := Ground.data }], guard := none }) (v := ?_) rfl (by kernel_rfl) (by kernel_rfl) (by kernel_rfl) (fun _ _ _ h => h) (Or.inl ⟨by rfl, ?_⟩) hHeld ?_
      rotate_left
      · intro W0 hSw
        (try dsimp only at hSw)
        go_simp <;> with_reducible rfl
      simp only [Act.put, List.setIfInBounds_toArray, List.set_cons_zero, List.set_cons_succ]
      refine wpAnyH_take (i := 21) (oi := { dst := some 32, op := Op.move (Operand.tmp 0), type := 23, pos := "ref.go:90", after := #[], guard := none }) (v := ?_) rfl (by kernel_rfl) (by kernel_rfl) (by kernel_rfl) (fun _ _ _ h => h) (Or.inl ⟨by rfl, ?_⟩) hHeld ?_
      rotate_left
      · intro W0 hSw
        (try dsimp only at hSw)
        go_simp <;> with_reducible rfl
      simp only [Act.put, List.setIfInBounds_toArray, List.set_cons_zero, List.set_cons_succ]
      refine wpAnyH_take (i := 22) (oi := { dst := some 33, op := Op.move (Operand.tmp 4), type := 3, pos := "ref.go:90", after := #[], guard := none }) (v := ?_) rfl (by kernel_rfl) (by kernel_rfl) (by kernel_rfl) (fun _ _ _ h => h) (Or.inl ⟨by rfl, ?_⟩) hHeld ?_
      rotate_left
      · intro W0 hSw
        (try dsimp only at hSw)
        go_simp <;> with_reducible rfl
      simp only [Act.put, List.setIfInBounds_toArray, List.set_cons_zero, List.set_cons_succ]
      refine wpAnyH_take (i := 23) (oi := { dst := some 34, op := Op.indexAddr 23 (Operand.tmp 32) (Operand.tmp 33), type := 0, pos := "ref.go:90", after := #[{ on := 21, ground := Ground.data }, { on := 22, ground := Ground.data }], guard := none }) (v := ?_) rfl (by kernel_rfl) (by kernel_rfl) (by kernel_rfl) (fun _ _ _ h => h) (Or.inl ⟨by rfl, ?_⟩) hHeld ?_
      rotate_left
      · intro W0 hSw
        (try dsimp only at hSw)
        go_simp <;> with_reducible rfl
      simp only [Act.put, List.setIfInBounds_toArray, List.set_cons_zero, List.set_cons_succ]
      refine wpAnyH_take (i := 24) (oi := { dst := some 35, op := Op.load 3 (Operand.tmp 34), type := 3, pos := "ref.go:90", after := #[{ on := 23, ground := Ground.data }], guard := none }) (v := ?_) rfl (by kernel_rfl) (by kernel_rfl) (by kernel_rfl) (fun _ _ _ h => h) (Or.inl ⟨by rfl, ?_⟩) hHeld ?_
      rotate_left
      · intro W0 hSw
        (try dsimp only at hSw)
        go_simp <;> with_reducible rfl
      simp only [Act.put, List.setIfInBounds_toArray, List.set_cons_zero, List.set_cons_succ]
      refine wpAnyH_take (i := 25) (oi := { dst := some 36, op := Op.binOp BinOp.rem 3 (Operand.tmp 35) (Operand.const (Value.int IntKind.i64 256)) 3, type := 3, pos := "ref.go:90", after := #[{ on := 24, ground := Ground.data }], guard := none }) (v := ?_) rfl (by kernel_rfl) (by kernel_rfl) (by kernel_rfl) (fun _ _ _ h => h) (Or.inl ⟨by rfl, ?_⟩) hHeld ?_
      rotate_left
      · intro W0 hSw
        (try dsimp only at hSw)
        go_simp <;> with_reducible rfl
      simp only [Act.put, List.setIfInBounds_toArray, List.set_cons_zero, List.set_cons_succ]
      refine wpAnyH_take (i := 26) (oi := { dst := some 37, op := Op.convert 3 5 (Operand.tmp 36), type := 5, pos := "ref.go:90", after := #[{ on := 25, ground := Ground.data }], guard := none }) (v := ?_) rfl (by kernel_rfl) (by kernel_rfl) (by kernel_rfl) (fun _ _ _ h => h) (Or.inl ⟨by rfl, ?_⟩) hHeld ?_
      rotate_left
      · intro W0 hSw
        (try dsimp only at hSw)
        go_simp <;> with_reducible rfl
      simp only [Act.put, List.setIfInBounds_toArray, List.set_cons_zero, List.set_cons_succ]
      refine wpAnyH_ready (rs := [27]) (by kernel_rfl) (by simp) ?_
      refine AllReadyH.cons (o := { dst := some 38, op := Op.buildSlice 26 4 #[(0, Operand.tmp 17), (1, Operand.tmp 24), (2, Operand.tmp 31), (3, Operand.tmp 37)], type := 26, pos := "ref.go:90", after := #[{ on := 6, ground := Ground.data }, { on := 13, ground := Ground.data }, { on := 20, ground := Ground.data }, { on := 26, ground := Ground.data }], guard := none }) rfl (fun K hK => ?_) AllReadyH.nil
      go_simp
      refine hK.out _ _ (hS1 _) (fun hHeld => ?_)
      clear hK K
      try simp only [Act.put, List.setIfInBounds_toArray, List.set_cons_zero, List.set_cons_succ]
      refine wpAnyH_ready (rs := [28]) (by kernel_rfl) (by simp) ?_
      refine AllReadyH.cons (o := { dst := some 39, op := Op.convert 26 9 (Operand.tmp 38), type := 9, pos := "ref.go:90", after := #[{ on := 27, ground := Ground.data }], guard := none }) rfl (fun K hK => ?_) AllReadyH.nil
      go_simp
      refine hK.out _ _ (hS1 _) (fun hHeld => ?_)
      clear hK K
      try simp only [Act.put, List.setIfInBounds_toArray, List.set_cons_zero, List.set_cons_succ]
      refine wpAnyH_take (i := 29) (oi := { dst := some 40, op := Op.binOp BinOp.add 9 (Operand.tmp 11) (Operand.tmp 39) 9, type := 9, pos := "ref.go:90", after := #[{ on := 0, ground := Ground.data }, { on := 28, ground := Ground.data }], guard := none }) (v := ?_) rfl (by kernel_rfl) (by kernel_rfl) (by kernel_rfl) (fun _ _ _ h => h) (Or.inl ⟨by rfl, ?_⟩) hHeld ?_
      rotate_left
      · intro W0 hSw
        (try dsimp only at hSw)
        go_simp <;> with_reducible rfl
      simp only [Act.put, List.setIfInBounds_toArray, List.set_cons_zero, List.set_cons_succ]
      refine wpAnyH_take (i := 30) (oi := { dst := some 3, op := Op.assign (Operand.tmp 40), type := 9, pos := "ref.go:90", after := #[{ on := 29, ground := Ground.data }, { on := 0, ground := Ground.phase }, { on := 1, ground := Ground.phase }, { on := 2, ground := Ground.phase }, { on := 3, ground := Ground.phase }, { on := 4, ground := Ground.phase }, { on := 5, ground := Ground.phase }, { on := 6, ground := Ground.phase }, { on := 7, ground := Ground.phase }, { on := 8, ground := Ground.phase }, { on := 9, ground := Ground.phase }, { on := 10, ground := Ground.phase }, { on := 11, ground := Ground.phase }, { on := 12, ground := Ground.phase }, { on := 13, ground := Ground.phase }, { on := 14, ground := Ground.phase }, { on := 15, ground := Ground.phase }, { on := 16, ground := Ground.phase }, { on := 17, ground := Ground.phase }, { on := 18, ground := Ground.phase }, { on := 19, ground := Ground.phase }, { on := 20, ground := Ground.phase }, { on := 21, ground := Ground.phase }, { on := 22, ground := Ground.phase }, { on := 23, ground := Ground.phase }, { on := 24, ground := Ground.phase }, { on := 25, ground := Ground.phase }, { on := 26, ground := Ground.phase }, { on := 27, ground := Ground.phase }, { on := 28, ground := Ground.phase }, { on := 29, ground := Ground.phase }], guard := none }) (v := ?_) rfl (by kernel_rfl) (by kernel_rfl) (by kernel_rfl) (fun _ _ _ h => h) (Or.inl ⟨by rfl, ?_⟩) hHeld ?_
      rotate_left
      · intro W0 hSw
        (try dsimp only at hSw)
        go_simp <;> with_reducible rfl
      simp only [Act.put, List.setIfInBounds_toArray, List.set_cons_zero, List.set_cons_succ]
      refine wpAnyH_done (by kernel_rfl) ?_ _
      have b2 : Below w.heap.size w (wr.alloc (.cells #[.int .u8 (c0.toNat : Nat), .int .u8 (c1.toNat : Nat), .int .u8 (c2.toNat : Nat), .int .u8 (c3.toNat : Nat)] 5)).drew := (hb.alloc hb.size _).drew
      clear hcv hS1 hap d0 d1 d2 d3 hHeld
      go_wp2
      go_roundw
      case rel => exact ⟨k + 1, by omega, by go_num, by rw [HT.out], b2⟩
      case measure => simp [intOf]; omega
    · obtain rfl : k = l.length := by omega
      rw [List.take_of_length_le (Nat.le_refl _)]
      go_wp2
      go_ret
      exact ⟨rfl, hb⟩
end Go.Proofs.YtdjehpbkkbahcaaDoor

/- The document's answer: digits, above, Pad. -/

namespace Go.Proofs.YtdjehpbkkbahcaaDoor
open Go.RowKit

set_option maxRecDepth 100000 in
theorem digits_any (n : Nat) (w : World) (hn : n ≤ 4611686018427387904) :
    Calls Tryd.prog 62 #[.int .i64 n] w fun e w' => ∃ v, e = .returned v ∧ Ints w' v (Sh.dg n) ∧ Below w.heap.size w w' := by
  go_enter Tryd.func62, Tryd.ntmps62
  go_wp2
  go_ret
  refine ⟨_, rfl, ⟨w.heap.size, 3, rfl, by simp, fun i hi => ?_⟩, (Below.refl _ _).alloc (Nat.le_refl _) _⟩
  rw [cell_of_row _ _ _ _ _ _ (heap_alloc_new w _)]
  match i, hi with
  | 0, _ => rfl
  | 1, _ => rfl
  | 2, _ => rfl
  | k + 3, h => exact absurd h (by simp [Sh.dg])

set_option maxRecDepth 100000 in
theorem above_any (va vb : Value) (a b : List Nat) (w : World) (HA : Ints w va a) (HB : Ints w vb b) (ha : a.length ≤ 100) (hb : b.length ≤ a.length) :
    Calls Tryd.prog 64 #[va, vb] w fun e w' => e = .returned (.bool (Sh.above a b)) ∧ w = w' := by
  obtain ⟨g, cap, rfl, hg, hc⟩ := HA
  obtain ⟨g2, cap2, rfl, hg2, hc2⟩ := HB
  have HC := Lib.hid hc
  have HC2 := Lib.hid hc2
  clear hc hc2 hg hg2
  have HM : Hid (Sh.above a b = Sh.abv a b a.length) := by rw [Hid, Sh.above, Nat.max_eq_left hb]
  have hbi : (b.length : Int) ≤ (a.length : Int) := by omega
  go_enter Tryd.func64, Tryd.ntmps64
  go_wp2_with fail
  go_loop [5] (fun i => ∃ m : Nat, m ≤ a.length ∧ i = .int .i64 ((m : Int) - 1) ∧ Hid (Sh.above a b = Sh.abv a b m)) (fun i => (intOf i + 1).toNat)
  case atStart => exact ⟨a.length, Nat.le_refl _, rfl, HM⟩
  case round =>
    obtain ⟨m, hm, rfl, HE⟩ := hrel
    cases m with
    | zero =>
      have HF : Hid (Sh.above a b = false) := HE
      simp only [Int.natCast_zero, Int.zero_sub]
      go_wp2
      go_ret
      exact ⟨by rw [HF.out]; rfl, rfl⟩
    | succ m =>
      have hx := HC.out m (by omega)
      have HE2 : Hid (Sh.above a b = if a.getD m 0 = b.getD m 0 then Sh.abv a b m else decide (b.getD m 0 < a.getD m 0)) := by rw [Hid, HE.out, Sh.abv]
      clear HE
      have hml : m < a.length := by omega
      rw [show (((m + 1 : Nat) : Int) - 1) = (m : Int) by omega]
      by_cases hmb : m < b.length
      · have hy := HC2.out m hmb
        generalize a.getD m 0 = x at *
        generalize b.getD m 0 = y at *
        by_cases hxy : x = y
        · have e1 : ((x : Int) != (y : Int)) = false := by rw [hxy]; simp
          have HE3 : Hid (Sh.above a b = Sh.abv a b m) := by rw [Hid, HE2.out, if_pos hxy]
          clear HE2 hxy
          go_wp2
          go_round
          case rel => exact ⟨m, by omega, rfl, HE3⟩
          case measure => simp [intOf]
        · have e1 : ((x : Int) != (y : Int)) = true := by rw [bne_iff_ne]; omega
          have HE3 : Hid (Sh.above a b = decide (y < x)) := by rw [Hid, HE2.out, if_neg hxy]
          clear HE2 hxy
          go_wp2
          go_ret
          exact ⟨by rw [HE3.out]; simp, rfl⟩
      · have hy : b.getD m 0 = 0 := by rw [List.getD_eq_getElem?_getD, List.getElem?_eq_none (by omega)]; rfl
        rw [hy] at HE2
        clear hy
        generalize a.getD m 0 = x at *
        by_cases hxy : x = 0
        · have e1 : ((x : Int) != 0) = false := by rw [hxy]; rfl
          have HE3 : Hid (Sh.above a b = Sh.abv a b m) := by rw [Hid, HE2.out, if_pos hxy]
          clear HE2 hxy
          go_wp2
          go_round
          case rel => exact ⟨m, by omega, rfl, HE3⟩
          case measure => simp [intOf]
        · have e1 : ((x : Int) != 0) = true := by rw [bne_iff_ne]; omega
          have HE3 : Hid (Sh.above a b = decide (0 < x)) := by rw [Hid, HE2.out, if_neg hxy]
          clear HE2 hxy
          go_wp2
          go_ret
          exact ⟨by rw [HE3.out]; simp, rfl⟩

set_option maxRecDepth 100000 in
theorem refPad_neg (n : Int) (w : World) (hn : n < 0) :
    Calls Tryd.prog 67 #[.int .i64 n] w fun e w' => e = .returned (.string ⟨⟨[]⟩⟩) ∧ w = w' := by
  go_enter Tryd.func67, Tryd.ntmps67
  go_wp2
  go_ret
  exact ⟨rfl, rfl⟩
end Go.Proofs.YtdjehpbkkbahcaaDoor

/- The document's answer: times. -/

namespace Go.Proofs.YtdjehpbkkbahcaaDoor
open Go.RowKit

theorem tin_length (b : List Nat) (i x : Nat) (out : List Nat) (k : Nat) : (Sh.tin b i x out k).1.length = out.length := by
  induction k with
  | zero => rfl
  | succ k ih => rw [Sh.tin]; simp [ih]
theorem tou_length (a b : List Nat) (i : Nat) : (Sh.tou a b i).length = a.length + b.length := by
  induction i with
  | zero => simp [Sh.tou]
  | succ i ih => rw [Sh.tou]; simp [tin_length, ih]
theorem getD_16 {l : List Nat} (h : ∀ x ∈ l, x < 65536) (i : Nat) : l.getD i 0 < 65536 := by
  rw [List.getD_eq_getElem?_getD]
  cases hq : l[i]? with
  | none => decide
  | some x => exact h x (List.mem_of_getElem? hq)
theorem mem_set {l : List Nat} {i v : Nat} (h : ∀ x ∈ l, x < 65536) (hv : v < 65536) : ∀ x ∈ l.set i v, x < 65536 := by
  intro x hx
  rcases List.mem_or_eq_of_mem_set hx with h1 | h1
  · exact h x h1
  · omega
theorem sum_16 {o x y c : Nat} (ho : o < 65536) (hx : x < 65536) (hy : y < 65536) (hc : c < 65536) : o + x * y + c < 4294967296 := by
  have h : x * y ≤ 65535 * 65535 := Nat.mul_le_mul (by omega) (by omega)
  omega
theorem tin_16 (b : List Nat) (i x : Nat) (out : List Nat) (hb : ∀ x ∈ b, x < 65536) (hx : x < 65536) (ho : ∀ x ∈ out, x < 65536) (k : Nat) :
    (∀ y ∈ (Sh.tin b i x out k).1, y < 65536) ∧ (Sh.tin b i x out k).2 < 65536 := by
  induction k with
  | zero => exact ⟨ho, by show 0 < 65536; decide⟩
  | succ k ih =>
    have h := sum_16 (getD_16 ih.1 (i + k)) hx (getD_16 hb k) ih.2
    rw [Sh.tin]
    exact ⟨mem_set ih.1 (by omega), by show _ / 65536 < 65536; omega⟩
theorem tou_16 (a b : List Nat) (ha : ∀ x ∈ a, x < 65536) (hb : ∀ x ∈ b, x < 65536) (i : Nat) : ∀ y ∈ Sh.tou a b i, y < 65536 := by
  induction i with
  | zero => intro y hy; rw [Sh.tou] at hy; have := List.eq_of_mem_replicate hy; omega
  | succ i ih =>
    have h := tin_16 b i (a.getD i 0) (Sh.tou a b i) hb (getD_16 ha i) ih b.length
    rw [Sh.tou]
    exact mem_set h.1 h.2

def icells (l : List Nat) : Array Value := (ivals l).toArray
theorem icells_at (l : List Nat) (i : Nat) (h : i < l.length) : (icells l)[i]? = some (.int .i64 (l.getD i 0 : Nat)) := by
  simp [icells, ivals, List.getD_eq_getElem?_getD, h]
theorem icells_set (l : List Nat) (i x : Nat) : (icells l).setIfInBounds i (.int .i64 (x : Nat)) = icells (l.set i x) := by
  apply Array.toList_inj.1
  simp [icells, ivals, List.map_set]
theorem imade_zero (n : Nat) : madeCells #[Value.int .i64 0] n = icells (List.replicate n 0) := by
  apply Array.toList_inj.1
  simp only [madeCells, icells, ivals, List.map_replicate, List.size_toArray, List.length_singleton, Array.toList_map, Nat.mod_one]
  apply List.ext_getElem
  · simp
  · intro i h1 h2
    simp
theorem imake_any (n : Nat) (ni : Int) (hni : ni = n) (h : n ≤ 1000000) (W : World) : (Instr.makeSlice 23 (.int .i64 ni) (.int .i64 ni)).run Tryd.prog W = .ok (.slice (some ⟨W.heap.size, 0, none⟩) n n) (W.alloc (.cells (icells (List.replicate n 0)) 3)) := by
  subst hni
  obtain ⟨i, hi, he⟩ := Option.map_eq_some_iff.1 info3
  simp only [Prod.mk.injEq] at he
  obtain ⟨hz, hs, hb⟩ := he
  have hr := run_make (P := Tryd.prog) W 23 3 i _ Tryd.underlying23 hi hz .i64 .i64 n n (by omega) (by omega) (by rw [hb]; omega) (by omega)
  rw [hr, hs, Int.toNat_natCast, Nat.mul_one]
  show _ = Result.ok _ (W.alloc (.cells _ _))
  rw [← imade_zero]
  rfl
theorem irow_set {wr : World} {g k : Nat} {L : List Nat} (x : Nat) (h : wr.heap[g]? = some (.cells (icells L) 3 (0, 0))) :
    (wr.setCell ⟨g, k, none⟩ (.int .i64 (x : Nat))).heap[g]? = some (.cells (icells (L.set k x)) 3 (0, 0)) := by
  rw [heap_setCell_same _ _ _ _ _ _ h, icells_set]
theorem irow_cell {wr : World} {g k : Nat} {L : List Nat} (h : wr.heap[g]? = some (.cells (icells L) 3 (0, 0))) (hk : k < L.length) :
    wr.cell? ⟨g, k, none⟩ = some (.int .i64 (L.getD k 0 : Nat)) := by
  rw [cell_of_row _ _ _ _ _ _ h, icells_at _ _ hk]

set_option maxRecDepth 100000 in
set_option maxHeartbeats 2000000 in
theorem times_any (va vb : Value) (a b : List Nat) (w : World) (HA : Ints w va a) (HB : Ints w vb b) (hla : a.length ≤ 100) (hlb : b.length ≤ 100) (H16 : Hid (∀ x ∈ a, x < 65536)) (H16b : Hid (∀ x ∈ b, x < 65536)) :
    Calls Tryd.prog 63 #[va, vb] w fun e w' => ∃ v, e = .returned v ∧ Ints w' v (Sh.tm a b) ∧ Below w.heap.size w w' := by
  obtain ⟨g, cap, rfl, hg, hc⟩ := HA
  obtain ⟨g2, cap2, rfl, hg2, hc2⟩ := HB
  have HC := Lib.hid hc
  have HC2 := Lib.hid hc2
  clear hc hc2
  have hmk := imake_any (a.length + b.length) ((a.length : Int) + (b.length : Int)) (by omega) (by omega)
  go_enter Tryd.func63, Tryd.ntmps63
  go_wp2
  clear hmk
  go_loopw [6, 7, 8, 9] (fun i _ _ _ wr => ∃ k : Nat, k ≤ a.length ∧ i = .int .i64 (k : Nat) ∧ Below w.heap.size w wr ∧ w.heap.size < wr.heap.size ∧ Hid (wr.heap[w.heap.size]? = some (.cells (icells (Sh.tou a b k)) 3 (0, 0)))) (fun i _ _ _ _ => a.length - (intOf i).toNat)
  case atStart => exact ⟨0, by omega, rfl, (Below.refl _ _).alloc (Nat.le_refl _) _, by simp, heap_alloc_new _ _⟩
  case round =>
    obtain ⟨i, hi, rfl, hb, hz, HO⟩ := hrel
    by_cases hlt : i < a.length
    · have ha := (hb.cell (p := ⟨g, i, none⟩) hg).trans (HC.out i hlt)
      have HSU : Hid (Sh.tou a b (i + 1) = (Sh.tin b i (a.getD i 0) (Sh.tou a b i) b.length).1.set (i + b.length) (Sh.tin b i (a.getD i 0) (Sh.tou a b i) b.length).2) := by rw [Hid, Sh.tou]
      have hx := getD_16 H16.out i
      have HTL := Lib.hid (tou_length a b i)
      have HT16 := Lib.hid (tou_16 a b H16.out H16b.out i)
      generalize hxx : a.getD i 0 = x at *
      generalize Sh.tou a b i = out at *
      go_wp2_with fail
      go_loopw [7, 8, 9] (fun c kk _ wr => ∃ k : Nat, k ≤ b.length ∧ kk = .int .i64 (k : Nat) ∧ c = .int .i64 ((Sh.tin b i x out k).2 : Nat) ∧ Below w.heap.size w wr ∧ w.heap.size < wr.heap.size ∧ Hid (wr.heap[w.heap.size]? = some (.cells (icells (Sh.tin b i x out k).1) 3 (0, 0)))) (fun _ kk _ _ => b.length - (intOf kk).toNat)
      case atStart => exact ⟨0, by omega, rfl, rfl, hb, hz, HO⟩
      case round =>
        obtain ⟨k, hk, rfl, rfl, hb, hz, HO⟩ := hrel
        have T16 := tin_16 b i x out H16b.out hx HT16.out k
        have HTK := Lib.hid ((tin_length b i x out k).trans HTL.out)
        by_cases hkl : k < b.length
        · have hy := (hb.cell (p := ⟨g2, k, none⟩) hg2).trans (HC2.out k hkl)
          have ha := (hb.cell (p := ⟨g, i, none⟩) hg).trans (HC.out i hlt)
          have HSS : Hid (Sh.tin b i x out (k + 1) = ((Sh.tin b i x out k).1.set (i + k) (((Sh.tin b i x out k).1.getD (i + k) 0 + x * b.getD k 0 + (Sh.tin b i x out k).2) % 65536), ((Sh.tin b i x out k).1.getD (i + k) 0 + x * b.getD k 0 + (Sh.tin b i x out k).2) / 65536)) := by rw [Hid, Sh.tin]
          have hy16 := getD_16 H16b.out k
          have hcell := irow_cell HO.out (k := i + k) (by rw [HTK.out]; omega)
          have hfro := frozen_of_row _ _ (i + k) _ _ HO.out
          have ho16 := getD_16 T16.1 (i + k)
          have hc16 := T16.2
          generalize hT : Sh.tin b i x out k = T at *
          clear hT
          obtain ⟨T1, T2⟩ := T
          simp only at HSS HO hcell ho16 hc16 HTK
          generalize hyy : b.getD k 0 = y at *
          generalize T1.getD (i + k) 0 = o at *
          rw [hxx] at ha
          have hsum := sum_16 ho16 hx hy16 hc16
          generalize hxy : x * y = xy at *
          have e1 : IntKind.i64.wrap ((x : Int) * (y : Int)) = (xy : Int) := by
            rw [← hxy, ← Int.natCast_mul]
            exact IntWalk.i64_in _ (by rw [hxy]; omega)
          have e2 : IntKind.i64.wrap ((o : Int) + (xy : Int)) = (o : Int) + (xy : Int) := IntWalk.i64_in _ (by omega)
          have e3 : IntKind.i64.wrap ((o : Int) + (xy : Int) + (T2 : Int)) = ((o + xy + T2 : Nat) : Int) := by rw [IntWalk.i64_in _ (by omega)]; omega
          have e0 : IntKind.i64.wrap ((i : Int) + (k : Int)) = (i : Int) + (k : Int) := IntWalk.i64_in _ (by omega)
          have t0 : ((i : Int) + (k : Int)).toNat = i + k := by omega
          have z0 : (0 : Int) ≤ (i : Int) + (k : Int) := by omega
          have z1 : (i : Int) + (k : Int) < (a.length : Int) + (b.length : Int) := by omega
          have z2 : i + k < a.length + b.length := by omega
          have z3 : (i : Int) < (a.length : Int) := by omega
          have z4 : (k : Int) < (b.length : Int) := by omega
          generalize o + xy + T2 = n at *
          clear hxy hyy
          go_wp2_with fail
          go_quiet (fail)
          have HO2 : Hid ((wr.drewN nq).heap[w.heap.size]? = some (.cells (icells T1) 3 (0, 0))) := HO
          have hcell2 : (wr.drewN nq).cell? ⟨w.heap.size, i + k, none⟩ = some (.int .i64 (o : Nat)) := hcell
          have hfro2 : (wr.drewN nq).frozen? ⟨w.heap.size, i + k, none⟩ = false := hfro
          have hb2 : Below w.heap.size w (wr.drewN nq) := ⟨hb.os, hb.tape, hb.output, hb.size, hb.block⟩
          have hz2 : w.heap.size < (wr.drewN nq).heap.size := hz
          generalize wr.drewN nq = w2 at *
          clear hcell hfro HO hb hz e0 e1 e2 e3 t0 ha hy
          have HS1 : Hid ((w2.setCell ⟨w.heap.size, i + k, none⟩ (.int .i64 ((n : Int) % 65536))).heap[w.heap.size]? = some (.cells (icells (T1.set (i + k) (n % 65536))) 3 (0, 0))) := irow_set (n % 65536) HO2.out
          go_wp2
          go_roundw
          case rel => exact ⟨k + 1, by omega, by go_num, by rw [HSS.out]; rfl, hb2.setCell (Nat.le_refl _) _, by simp [World.setCell]; omega, by rw [HSS.out]; exact HS1⟩
          case measure => simp [intOf]; omega
        · obtain rfl : k = b.length := by omega
          have hcell := irow_cell HO.out (k := i + b.length) (by rw [HTK.out]; omega)
          have hfro := frozen_of_row _ _ (i + b.length) _ _ HO.out
          generalize Sh.tin b i x out b.length = T at *
          obtain ⟨T1, T2⟩ := T
          simp only at HSU HO hcell
          have z2 : i + b.length < a.length + b.length := by omega
          have z1 : (i : Int) + (b.length : Int) < (a.length : Int) + (b.length : Int) := by omega
          go_wp2
          go_roundw
          case rel => exact ⟨i + 1, by omega, by go_num, hb.setCell (Nat.le_refl _) _, by simp [World.setCell]; omega, by rw [HSU.out]; exact irow_set T2 HO.out⟩
          case measure => simp [intOf]; omega
    · obtain rfl : i = a.length := by omega
      have HTL := Lib.hid (tou_length a b a.length)
      have HFI : Ints wr (.slice (some ⟨w.heap.size, 0, none⟩) (a.length + b.length) (a.length + b.length)) (Sh.tm a b) :=
        ⟨w.heap.size, a.length + b.length, by rw [Sh.tm, HTL.out], hz, fun j hj => irow_cell HO.out hj⟩
      go_wp2
      go_ret
      exact ⟨_, rfl, HFI, hb⟩
end Go.Proofs.YtdjehpbkkbahcaaDoor

/- The document's answer: root. -/

namespace Go.Proofs.YtdjehpbkkbahcaaDoor
open Go.RowKit

set_option maxRecDepth 100000 in
set_option maxHeartbeats 2000000 in
theorem root_cube (p : Nat) (w : World) :
    Calls Tryd.prog 53 #[.int .i64 p, .bool true] w fun e w' => e = .returned (.int .i64 (Sh.root p true : Nat)) ∧ Below w.heap.size w w' := by
  have HR : Hid (Sh.root p true = Sh.rg p true 38 0 % 4294967296) := Lib.hid rfl
  have HW0 : Ints ((w.alloc (.cells #[.int .i64 0, .int .i64 0, .int .i64 0, .int .i64 0, .int .i64 (p : Nat)] 3)).alloc (.cells #[.int .i64 0, .int .i64 0, .int .i64 0, .int .i64 0, .int .i64 0, .int .i64 0, .int .i64 (p : Nat)] 3)) (.slice (some ⟨w.heap.size + 1, 0, none⟩) 7 7) (Sh.want p true) := by
    refine ⟨w.heap.size + 1, 7, rfl, by simp, fun i hi => ?_⟩
    rw [cell_of_row _ _ _ _ _ _ (heap_alloc2_new _ _ _)]
    match i, hi with
    | 0, _ => rfl
    | 1, _ => rfl
    | 2, _ => rfl
    | 3, _ => rfl
    | 4, _ => rfl
    | 5, _ => rfl
    | 6, _ => rfl
    | k + 7, h => exact absurd h (by simp [Sh.want])
  have hb0 : Below w.heap.size w ((w.alloc (.cells #[.int .i64 0, .int .i64 0, .int .i64 0, .int .i64 0, .int .i64 (p : Nat)] 3)).alloc (.cells #[.int .i64 0, .int .i64 0, .int .i64 0, .int .i64 0, .int .i64 0, .int .i64 0, .int .i64 (p : Nat)] 3)) := ((Below.refl _ _).alloc (Nat.le_refl _) _).alloc (by simp) _
  go_enter Tryd.func53, Tryd.ntmps53
  go_wp2_with fail
  generalize (w.alloc (.cells #[.int .i64 0, .int .i64 0, .int .i64 0, .int .i64 0, .int .i64 (p : Nat)] 3)).alloc (.cells #[.int .i64 0, .int .i64 0, .int .i64 0, .int .i64 0, .int .i64 0, .int .i64 0, .int .i64 (p : Nat)] 3) = wx at *
  go_loopw [6, 7, 8, 9] (fun nv bv _ _ wr => ∃ j n : Nat, j ≤ 38 ∧ nv = .int .i64 (n : Nat) ∧ bv = .int .i64 ((2 ^ j / 2 : Nat) : Int) ∧ Hid (Sh.rg p true j n = Sh.rg p true 38 0) ∧ n + 2 ^ j ≤ 274877906944 ∧ Ints wr (.slice (some ⟨w.heap.size + 1, 0, none⟩) 7 7) (Sh.want p true) ∧ Below w.heap.size w wr) (fun _ bv _ _ _ => (intOf bv).toNat)
  case atStart => exact ⟨38, 0, by omega, rfl, rfl, Lib.hid rfl, by decide, HW0, hb0⟩
  case round =>
    obtain ⟨j, n, hj, rfl, rfl, HG, hn, HW, hb⟩ := hrel
    clear HW0 hb0
    cases j with
    | zero =>
      have HG2 : Hid (Sh.rg p true 38 0 = n) := Lib.hid HG.out.symm
      rw [show ((2 ^ 0 / 2 : Nat) : Int) = 0 by rfl]
      have hn2 : n ≤ 274877906944 := by omega
      go_wp2
      go_ret
      exact ⟨by rw [HR.out, HG2.out]; rfl, hb⟩
    | succ j =>
      have HG2 : Hid (Sh.rg p true 38 0 = Sh.rg p true j (if Sh.above (Sh.pw (Sh.dg (n + 2 ^ j)) true) (Sh.want p true) then n else n + 2 ^ j)) := by rw [Hid, ← HG.out, Sh.rg]
      have e2 : 2 ^ (j + 1) / 2 = 2 ^ j := by rw [Nat.pow_succ]; omega
      rw [e2]
      rw [Nat.pow_succ] at hn
      have hB1 : 0 < 2 ^ j := Nat.two_pow_pos j
      have HB2 : Hid (((2 ^ j : Nat) : Int) / 2 = ((2 ^ j / 2 : Nat) : Int)) := Lib.hid rfl
      have HB3 : Hid (2 ^ j / 2 < 2 ^ j) := by rw [Hid]; omega
      clear e2 HG
      generalize hBB : 2 ^ j = B at *
      have HBB := Lib.hid hBB
      clear hBB
      have HD16 : Hid (∀ x ∈ Sh.dg (n + B), x < 65536) := by
        intro x hx
        simp [Sh.dg] at hx
        omega
      have HM16 : Hid (∀ x ∈ Sh.tm (Sh.dg (n + B)) (Sh.dg (n + B)), x < 65536) := tou_16 _ _ HD16.out HD16.out _
      have HPW : Hid (Sh.pw (Sh.dg (n + B)) true = (Sh.tm (Sh.tm (Sh.dg (n + B)) (Sh.dg (n + B))) (Sh.dg (n + B)))) := Lib.hid rfl
      rw [HPW.out] at HG2
      go_wp2_with fail
      rw [show ((n : Int) + (B : Int)) = ((n + B : Nat) : Int) by omega]
      refine (digits_any (n + B) wr (by omega)).mono ?_
      rintro _ w1 ⟨vd, rfl, HD, hb1⟩
      go_wp2_with fail
      refine (times_any vd vd (Sh.dg (n + B)) (Sh.dg (n + B)) w1 HD HD (by simp [Sh.dg]) (by simp [Sh.dg]) HD16 HD16).mono ?_
      rintro _ w2 ⟨vm, rfl, HM, hb2⟩
      go_wp2_with fail
      refine (times_any vm vd (Sh.tm (Sh.dg (n + B)) (Sh.dg (n + B))) (Sh.dg (n + B)) w2 HM (HD.below hb2) (by rw [Sh.tm, tou_length]; simp [Sh.dg]) (by simp [Sh.dg]) HM16 HD16).mono ?_
      rintro _ w3 ⟨vm, rfl, HM, hb3⟩
      go_wp2_with fail
      refine (above_any vm _ (Sh.tm (Sh.tm (Sh.dg (n + B)) (Sh.dg (n + B))) (Sh.dg (n + B))) (Sh.want p true) w3 HM (((HW.below hb1).below hb2).below hb3) (by rw [Sh.tm, tou_length, Sh.tm, tou_length]; simp [Sh.dg]) (by rw [Sh.tm, tou_length, Sh.tm, tou_length]; simp [Sh.dg, Sh.want])).mono ?_
      rintro _ w4 ⟨rfl, rfl⟩
      have b1 : Below w.heap.size w w1 := hb.trans (hb1.mono hb.size)
      have b2 : Below w.heap.size w w2 := b1.trans (hb2.mono b1.size)
      have b3 : Below w.heap.size w w3 := (b2.trans (hb3.mono b2.size))
      have HW3 : Ints w3 (.slice (some ⟨w.heap.size + 1, 0, none⟩) 7 7) (Sh.want p true) := ((HW.below hb1).below hb2).below hb3
      clear HM HD hb1 hb2 hb3 b1 b2 HW hb HM16 HD16 HPW
      by_cases hab : Sh.above (Sh.tm (Sh.tm (Sh.dg (n + B)) (Sh.dg (n + B))) (Sh.dg (n + B))) (Sh.want p true) = true
      · have HG3 : Hid (Sh.rg p true 38 0 = Sh.rg p true j n) := by rw [Hid, HG2.out, if_pos hab]
        rw [hab]
        clear HG2 hab
        go_wp2
        rw [HB2.out]
        go_roundw
        case rel => exact ⟨j, n, by omega, rfl, by rw [HBB.out], Lib.hid HG3.out.symm, by rw [HBB.out]; omega, HW3, b3⟩
        case measure => simp [intOf]; have := HB3.out; omega
      · have HG3 : Hid (Sh.rg p true 38 0 = Sh.rg p true j (n + B)) := by rw [Hid, HG2.out, if_neg hab]
        have hab' : Sh.above (Sh.tm (Sh.tm (Sh.dg (n + B)) (Sh.dg (n + B))) (Sh.dg (n + B))) (Sh.want p true) = false := by simpa using hab
        rw [hab']
        clear HG2 hab hab'
        go_wp2
        rw [HB2.out]
        go_roundw
        case rel => exact ⟨j, n + B, by omega, by go_num, by rw [HBB.out], Lib.hid HG3.out.symm, by rw [HBB.out]; omega, HW3, b3⟩
        case measure => simp [intOf]; have := HB3.out; omega

set_option maxRecDepth 100000 in
set_option maxHeartbeats 2000000 in
theorem root_square (p : Nat) (w : World) :
    Calls Tryd.prog 53 #[.int .i64 p, .bool false] w fun e w' => e = .returned (.int .i64 (Sh.root p false : Nat)) ∧ Below w.heap.size w w' := by
  have HR : Hid (Sh.root p false = Sh.rg p false 38 0 % 4294967296) := Lib.hid rfl
  have HW0 : Ints (w.alloc (.cells #[.int .i64 0, .int .i64 0, .int .i64 0, .int .i64 0, .int .i64 (p : Nat)] 3)) (.slice (some ⟨w.heap.size, 0, none⟩) 5 5) (Sh.want p false) := by
    refine ⟨w.heap.size, 5, rfl, by simp, fun i hi => ?_⟩
    rw [cell_of_row _ _ _ _ _ _ (heap_alloc_new _ _)]
    match i, hi with
    | 0, _ => rfl
    | 1, _ => rfl
    | 2, _ => rfl
    | 3, _ => rfl
    | 4, _ => rfl
    | k + 5, h => exact absurd h (by simp [Sh.want])
  have hb0 : Below w.heap.size w (w.alloc (.cells #[.int .i64 0, .int .i64 0, .int .i64 0, .int .i64 0, .int .i64 (p : Nat)] 3)) := (Below.refl _ _).alloc (Nat.le_refl _) _
  go_enter Tryd.func53, Tryd.ntmps53
  go_wp2_with fail
  generalize w.alloc (.cells #[.int .i64 0, .int .i64 0, .int .i64 0, .int .i64 0, .int .i64 (p : Nat)] 3) = wx at *
  go_loopw [6, 7, 8, 9] (fun nv bv _ _ wr => ∃ j n : Nat, j ≤ 38 ∧ nv = .int .i64 (n : Nat) ∧ bv = .int .i64 ((2 ^ j / 2 : Nat) : Int) ∧ Hid (Sh.rg p false j n = Sh.rg p false 38 0) ∧ n + 2 ^ j ≤ 274877906944 ∧ Ints wr (.slice (some ⟨w.heap.size, 0, none⟩) 5 5) (Sh.want p false) ∧ Below w.heap.size w wr) (fun _ bv _ _ _ => (intOf bv).toNat)
  case atStart => exact ⟨38, 0, by omega, rfl, rfl, Lib.hid rfl, by decide, HW0, hb0⟩
  case round =>
    obtain ⟨j, n, hj, rfl, rfl, HG, hn, HW, hb⟩ := hrel
    clear HW0 hb0
    cases j with
    | zero =>
      have HG2 : Hid (Sh.rg p false 38 0 = n) := Lib.hid HG.out.symm
      rw [show ((2 ^ 0 / 2 : Nat) : Int) = 0 by rfl]
      have hn2 : n ≤ 274877906944 := by omega
      go_wp2
      go_ret
      exact ⟨by rw [HR.out, HG2.out]; rfl, hb⟩
    | succ j =>
      have HG2 : Hid (Sh.rg p false 38 0 = Sh.rg p false j (if Sh.above (Sh.pw (Sh.dg (n + 2 ^ j)) false) (Sh.want p false) then n else n + 2 ^ j)) := by rw [Hid, ← HG.out, Sh.rg]
      have e2 : 2 ^ (j + 1) / 2 = 2 ^ j := by rw [Nat.pow_succ]; omega
      rw [e2]
      rw [Nat.pow_succ] at hn
      have hB1 : 0 < 2 ^ j := Nat.two_pow_pos j
      have HB2 : Hid (((2 ^ j : Nat) : Int) / 2 = ((2 ^ j / 2 : Nat) : Int)) := Lib.hid rfl
      have HB3 : Hid (2 ^ j / 2 < 2 ^ j) := by rw [Hid]; omega
      clear e2 HG
      generalize hBB : 2 ^ j = B at *
      have HBB := Lib.hid hBB
      clear hBB
      have HD16 : Hid (∀ x ∈ Sh.dg (n + B), x < 65536) := by
        intro x hx
        simp [Sh.dg] at hx
        omega
      have HM16 : Hid (∀ x ∈ Sh.tm (Sh.dg (n + B)) (Sh.dg (n + B)), x < 65536) := tou_16 _ _ HD16.out HD16.out _
      have HPW : Hid (Sh.pw (Sh.dg (n + B)) false = (Sh.tm (Sh.dg (n + B)) (Sh.dg (n + B)))) := Lib.hid rfl
      rw [HPW.out] at HG2
      go_wp2_with fail
      rw [show ((n : Int) + (B : Int)) = ((n + B : Nat) : Int) by omega]
      refine (digits_any (n + B) wr (by omega)).mono ?_
      rintro _ w1 ⟨vd, rfl, HD, hb1⟩
      go_wp2_with fail
      refine (times_any vd vd (Sh.dg (n + B)) (Sh.dg (n + B)) w1 HD HD (by simp [Sh.dg]) (by simp [Sh.dg]) HD16 HD16).mono ?_
      rintro _ w2 ⟨vm, rfl, HM, hb2⟩
      go_wp2_with fail
      refine (above_any vm _ (Sh.tm (Sh.dg (n + B)) (Sh.dg (n + B))) (Sh.want p false) w2 HM ((HW.below hb1).below hb2) (by rw [Sh.tm, tou_length]; simp [Sh.dg]) (by rw [Sh.tm, tou_length]; simp [Sh.dg, Sh.want])).mono ?_
      rintro _ w4 ⟨rfl, rfl⟩
      have b1 : Below w.heap.size w w1 := hb.trans (hb1.mono hb.size)
      have b2 : Below w.heap.size w w2 := b1.trans (hb2.mono b1.size)
      have b3 : Below w.heap.size w w2 := b2
      have HW3 : Ints w2 (.slice (some ⟨w.heap.size, 0, none⟩) 5 5) (Sh.want p false) := (HW.below hb1).below hb2
      clear HM HD hb1 hb2 b1 HW hb HM16 HD16 HPW
      by_cases hab : Sh.above (Sh.tm (Sh.dg (n + B)) (Sh.dg (n + B))) (Sh.want p false) = true
      · have HG3 : Hid (Sh.rg p false 38 0 = Sh.rg p false j n) := by rw [Hid, HG2.out, if_pos hab]
        rw [hab]
        clear HG2 hab
        go_wp2
        rw [HB2.out]
        go_roundw
        case rel => exact ⟨j, n, by omega, rfl, by rw [HBB.out], Lib.hid HG3.out.symm, by rw [HBB.out]; omega, HW3, b3⟩
        case measure => simp [intOf]; have := HB3.out; omega
      · have HG3 : Hid (Sh.rg p false 38 0 = Sh.rg p false j (n + B)) := by rw [Hid, HG2.out, if_neg hab]
        have hab' : Sh.above (Sh.tm (Sh.dg (n + B)) (Sh.dg (n + B))) (Sh.want p false) = false := by simpa using hab
        rw [hab']
        clear HG2 hab hab'
        go_wp2
        rw [HB2.out]
        go_roundw
        case rel => exact ⟨j, n + B, by omega, by go_num, by rw [HBB.out], Lib.hid HG3.out.symm, by rw [HBB.out]; omega, HW3, b3⟩
        case measure => simp [intOf]; have := HB3.out; omega
end Go.Proofs.YtdjehpbkkbahcaaDoor

/- The document's answer: prime. -/

namespace Go.Proofs.YtdjehpbkkbahcaaDoor
open Go.RowKit

def isP (n : Nat) : Bool := (List.range 20).all fun e => decide (e < 2) || decide (n < e * e) || decide (¬ n % e = 0)
theorem isP_iff (n : Nat) : isP n = true ↔ ∀ e, e < 20 → 2 ≤ e → e * e ≤ n → ¬ n % e = 0 := by
  simp only [isP, List.all_eq_true, List.mem_range, Bool.or_eq_true, decide_eq_true_eq]
  constructor
  · intro h e h1 h2 h3
    rcases h e h1 with (h4 | h4) | h4
    · omega
    · omega
    · exact h4
  · intro h e h1
    by_cases h2 : e < 2
    · exact .inl (.inl h2)
    · by_cases h3 : n < e * e
      · exact .inl (.inr h3)
      · exact .inr (h e h1 (by omega) (by omega))
/-- How many primes are below. -/
def cp : Nat → Nat
  | 0 => 0
  | n + 1 => cp n + if 2 ≤ n ∧ isP n = true then 1 else 0
theorem cp_mono {m n : Nat} (h : m ≤ n) : cp m ≤ cp n := by
  induction n with
  | zero => have : m = 0 := by omega
            subst this; exact Nat.le_refl _
  | succ n ih =>
    by_cases e : m = n + 1
    · subst e; exact Nat.le_refl _
    · have := ih (by omega)
      rw [cp]
      omega
theorem pr_facts : ∀ i, i < 64 → isP (Sh.PR.getD i 0) = true ∧ cp (Sh.PR.getD i 0) = i ∧ 2 ≤ Sh.PR.getD i 0 ∧ Sh.PR.getD i 0 ≤ 311 := by decide +kernel

theorem small_root {d n : Nat} (hn : n ≤ 311) (h : d * d ≤ n) : d < 20 := by
  rcases Nat.lt_or_ge d 20 with h1 | h1
  · exact h1
  · have : 20 * 20 ≤ d * d := Nat.mul_le_mul h1 h1
    omega

set_option maxRecDepth 100000 in
set_option maxHeartbeats 1000000 in
theorem prime_any (i : Nat) (w : World) (hi : i < 64) :
    Calls Tryd.prog 54 #[.int .i64 i] w fun e w' => e = .returned (.int .i64 (Sh.PR.getD i 0 : Nat)) ∧ w = w' := by
  obtain ⟨hp1, hp2, hp3, hp4⟩ := pr_facts i hi
  generalize hP : Sh.PR.getD i 0 = P at *
  have HP := Lib.hid hP
  have HP1 := Lib.hid hp1
  have HP2 := Lib.hid hp2
  clear hP hp1 hp2
  go_enter Tryd.func54, Tryd.ntmps54
  go_wp2_with fail
  go_loop [3, 4, 5, 6] (fun n k _ _ => ∃ m : Nat, 2 ≤ m ∧ m ≤ P ∧ n = .int .i64 (m : Nat) ∧ k = .int .i64 (cp m : Nat)) (fun n _ _ _ => P - (intOf n).toNat)
  case atStart => exact ⟨2, by omega, by omega, rfl, rfl⟩
  case round =>
    obtain ⟨m, hm2, hmP, rfl, rfl⟩ := hrel
    go_wp2_with fail
    go_loop [5, 6] (fun s d => ∃ (b : Bool) (e : Nat), 2 ≤ e ∧ e ≤ 20 ∧ s = .bool b ∧ d = .int .i64 (e : Nat) ∧ Hid (if b = true then (∀ f, 2 ≤ f → f < e → ¬ m % f = 0) else (∃ f, f < 20 ∧ 2 ≤ f ∧ f * f ≤ m ∧ m % f = 0))) (fun _ d => 20 - (intOf d).toNat)
    case atStart => exact ⟨true, 2, by omega, by omega, rfl, rfl, by rw [Hid, if_pos rfl]; intro f h1 h2; omega⟩
    case round =>
      obtain ⟨b, e, he2, he20, rfl, rfl, HB⟩ := hrel
      obtain ⟨ee, hee0⟩ : ∃ ee : Nat, ee = e * e := ⟨_, rfl⟩
      have hmul : (e : Int) * (e : Int) = (ee : Int) := by rw [hee0]; simp
      have hee1 : ee ≤ 400 := by rw [hee0]; exact Nat.mul_le_mul he20 he20
      have HEE := Lib.hid hee0
      clear hee0
      by_cases hee : ee ≤ m
      · have he19 : e < 20 := small_root (by omega) (HEE.out ▸ hee)
        cases b with
        | true =>
          have HB2 := HB.out
          rw [if_pos rfl] at HB2
          have HB3 := Lib.hid HB2
          clear HB2 HB
          have hne : ¬ (e : Int) = 0 := by omega
          by_cases hdv : m % e = 0
          · have e1 : ((m : Int) % (e : Int) != 0) = false := by rw [bne_eq_false_iff_eq, ← Int.natCast_emod, hdv]; rfl
            have HDV := Lib.hid hdv
            clear hdv
            go_wp2
            go_round
            case rel => exact ⟨false, e + 1, by omega, by omega, rfl, by go_num, by rw [Hid, if_neg (by simp)]; exact ⟨e, he19, he2, by rw [← HEE.out]; exact hee, HDV.out⟩⟩
            case measure => simp [intOf]; omega
          · have e1 : ((m : Int) % (e : Int) != 0) = true := by rw [bne_iff_ne, ← Int.natCast_emod]; omega
            have HDV := Lib.hid hdv
            clear hdv
            go_wp2
            go_round
            case rel => exact ⟨true, e + 1, by omega, by omega, rfl, by go_num, by
              rw [Hid, if_pos rfl]
              intro f h1 h2
              by_cases hf : f = e
              · rw [hf]; exact HDV.out
              · exact HB3.out f h1 (by omega)⟩
            case measure => simp [intOf]; omega
        | false =>
          have HB2 := HB.out
          rw [if_neg (by simp)] at HB2
          have hP : isP m = false := by
            rw [Bool.eq_false_iff, ne_eq, isP_iff]
            intro h
            obtain ⟨f, h1, h2, h3, h4⟩ := HB2
            exact h f h1 h2 h3 h4
          have hmP2 : m + 1 ≤ P := by
            rcases Nat.lt_or_ge m P with h | h
            · exact h
            · have : m = P := by omega
              rw [this, HP1.out] at hP
              cases hP
          have HCP : Hid (cp (m + 1) = cp m) := by rw [Hid, cp, hP]; simp
          clear HB2 HB hP
          go_wp2
          go_round
          case rel => exact ⟨m + 1, by omega, hmP2, by go_num, by rw [HCP.out]⟩
          case measure => simp [intOf]; omega
      · cases b with
        | true =>
          have HB2 := HB.out
          rw [if_pos rfl] at HB2
          have hP : isP m = true := by
            rw [isP_iff]
            intro f _ h2 h3
            refine HB2 f h2 ?_
            rcases Nat.lt_or_ge f e with h | h
            · exact h
            · have : e * e ≤ f * f := Nat.mul_le_mul h h
              have := HEE.out
              omega
          have HCP : Hid (cp (m + 1) = cp m + 1) := by rw [Hid, cp, hP, if_pos ⟨hm2, rfl⟩]
          clear HB2 HB hP
          have hcm : cp m ≤ i := by have := cp_mono hmP; have := HP2.out; omega
          by_cases hci : cp m = i
          · have hmP3 : m = P := by
              rcases Nat.lt_or_ge m P with h | h
              · have h1 := cp_mono (show m + 1 ≤ P from h)
                have h2 := HP2.out
                have h3 := HCP.out
                omega
              · omega
            have e1 : ((cp m : Int) == (i : Int)) = true := by rw [hci]; simp
            have HMP := Lib.hid hmP3
            clear hmP3 hci
            go_wp2
            go_ret
            exact ⟨by rw [← HMP.out]; rfl, rfl⟩
          · have e1 : ((cp m : Int) == (i : Int)) = false := by rw [beq_eq_false_iff_ne]; omega
            have hmP2 : m + 1 ≤ P := by
              rcases Nat.lt_or_ge m P with h | h
              · exact h
              · have : m = P := by omega
                rw [this, HP2.out] at hci
                exact absurd rfl hci
            clear hci
            go_wp2
            go_round
            case rel => exact ⟨m + 1, by omega, hmP2, by go_num, by rw [HCP.out]; go_num⟩
            case measure => simp [intOf]; omega
        | false =>
          have HB2 := HB.out
          rw [if_neg (by simp)] at HB2
          have hP : isP m = false := by
            rw [Bool.eq_false_iff, ne_eq, isP_iff]
            intro h
            obtain ⟨f, h1, h2, h3, h4⟩ := HB2
            exact h f h1 h2 h3 h4
          have hmP2 : m + 1 ≤ P := by
            rcases Nat.lt_or_ge m P with h | h
            · exact h
            · have : m = P := by omega
              rw [this, HP1.out] at hP
              cases hP
          have HCP : Hid (cp (m + 1) = cp m) := by rw [Hid, cp, hP]; simp
          clear HB2 HB hP
          go_wp2
          go_round
          case rel => exact ⟨m + 1, by omega, hmP2, by go_num, by rw [HCP.out]⟩
          case measure => simp [intOf]; omega
end Go.Proofs.YtdjehpbkkbahcaaDoor

/- The document's answer: Keys, Start. -/

namespace Go.Proofs.YtdjehpbkkbahcaaDoor
open Go.RowKit

theorem key_at (k : Nat) (hk : k < 64) : Sh.root (Sh.PR.getD k 0) true = Sh.KK.getD k 0 := by
  rw [← Sh.cubes, List.getD_eq_getElem?_getD, List.getD_eq_getElem?_getD, List.getElem?_map, List.getElem?_eq_getElem (show k < Sh.PR.length from hk), Option.map_some, Option.getD_some, Option.getD_some]
theorem sq_at (k : Nat) (hk : k < 8) : Sh.root (Sh.PR.getD k 0) false = Sh.SQ.getD k 0 := by
  have h : (Sh.PR.take 8).getD k 0 = Sh.PR.getD k 0 := by
    rw [List.getD_eq_getElem?_getD, List.getD_eq_getElem?_getD, List.getElem?_take, if_pos hk]
  rw [← h, ← Sh.squares, List.getD_eq_getElem?_getD, List.getD_eq_getElem?_getD, List.getElem?_map, List.getElem?_eq_getElem (show k < (Sh.PR.take 8).length from hk), Option.map_some, Option.getD_some, Option.getD_some]
theorem take_snocN (l : List Nat) (k : Nat) (h : k < l.length) : l.take (k + 1) = l.take k ++ [l.getD k 0] := by
  rw [List.take_succ_eq_append_getElem h, List.getD_eq_getElem?_getD, List.getElem?_eq_getElem h]
  rfl

set_option maxRecDepth 100000 in
set_option maxHeartbeats 1000000 in
theorem Keys_by (L : List Nat) (R Q : Nat → Nat) (w : World) (HLL : Hid (L.length = 64)) (HQ : Hid (∀ (k : Nat) w, k < 64 → Calls Tryd.prog 54 #[.int .i64 k] w fun e w' => e = .returned (.int .i64 (Q k : Nat)) ∧ w = w'))
    (HRT : Hid (∀ (p : Nat) w, Calls Tryd.prog 53 #[.int .i64 (p : Nat), .bool true] w fun e w' => e = .returned (.int .i64 (R p : Nat)) ∧ Below w.heap.size w w')) (HK : Hid (∀ k, k < 64 → R (Q k) = L.getD k 0)) :
    Calls Tryd.prog 35 #[] w fun e w' => ∃ v, e = .returned v ∧ Ints w' v L ∧ Below w.heap.size w w' := by
  go_enter Tryd.func35, Tryd.ntmps35
  go_wp2
  go_loopw [1, 2] (fun v i wr => ∃ k : Nat, k ≤ 64 ∧ i = .int .i64 (k : Nat) ∧ OwnI wr w.heap.size v (L.take k) ∧ Below w.heap.size w wr) (fun _ i _ => 64 - (intOf i).toNat)
  case atStart => exact ⟨0, by omega, rfl, by rw [List.take_zero]; exact OwnI.nil _ _, Below.refl _ _⟩
  case round =>
    obtain ⟨k, hk, rfl, HO, hb⟩ := hrel
    by_cases hlt : k < 64
    · have HS := Lib.hid (take_snocN L k (by rw [HLL.out]; exact hlt))
      have HX := Lib.hid (HK.out k hlt)
      have HLT : Hid ((L.take k).length ≤ 1000000) := by rw [Hid, List.length_take]; omega
      have hzw := hb.size
      go_wp2_with fail
      refine (HQ.out k wr hlt).mono ?_
      rintro _ w1 ⟨rfl, rfl⟩
      go_wp2_with fail
      refine (HRT.out (Q k) wr).mono ?_
      rintro _ w2 ⟨rfl, hb2⟩
      rw [HX.out]
      generalize Q k = pr at *
      generalize L.getD k 0 = x at *
      have HO2 := HO.below hb2
      have b2 := hb.trans (hb2.mono hzw)
      have hz2 := b2.size
      clear HO hb2 hb HX
      go_wp2_with (at_builtin; refine wpList_appI w2 rfl (.tmp 7) (.tmp 11) rfl w.heap.size _ _ x rfl rfl HO2 HLT.out hz2 ?_)
      intro v3 w3 HO3 hb3
      go_wp2
      go_roundw
      case rel => exact ⟨k + 1, by omega, by go_num, by rw [HS.out]; exact HO3, b2.trans hb3⟩
      case measure => simp [intOf]; omega
    · obtain rfl : k = 64 := by omega
      rw [List.take_of_length_le (by rw [HLL.out]; exact Nat.le_refl _)] at HO
      have HI := HO.ints (by rw [HLL.out]; decide)
      go_wp2
      go_ret
      exact ⟨_, rfl, HI, hb⟩
theorem Keys_any (w : World) : Calls Tryd.prog 35 #[] w fun e w' => ∃ v, e = .returned v ∧ Ints w' v Sh.KK ∧ Below w.heap.size w w' :=
  Keys_by Sh.KK (fun p => Sh.root p true) (fun k => Sh.PR.getD k 0) w (Lib.hid (by decide)) (Lib.hid fun k w hk => prime_any k w hk) (Lib.hid fun p w => root_cube p w) (Lib.hid fun k hk => key_at k hk)

set_option maxRecDepth 100000 in
set_option maxHeartbeats 1000000 in
theorem refStart_by (L : List Nat) (R Q : Nat → Nat) (w : World) (HLL : Hid (L.length = 8)) (HQ : Hid (∀ (k : Nat) w, k < 64 → Calls Tryd.prog 54 #[.int .i64 k] w fun e w' => e = .returned (.int .i64 (Q k : Nat)) ∧ w = w'))
    (HRT : Hid (∀ (p : Nat) w, Calls Tryd.prog 53 #[.int .i64 (p : Nat), .bool false] w fun e w' => e = .returned (.int .i64 (R p : Nat)) ∧ Below w.heap.size w w')) (HK : Hid (∀ k, k < 8 → R (Q k) = L.getD k 0)) (HL32 : Hid (∀ x ∈ L, x < 4294967296)) :
    Calls Tryd.prog 36 #[] w fun e w' => e = .returned (.string ⟨⟨bl L⟩⟩) ∧ Below w.heap.size w w' := by
  go_enter Tryd.func36, Tryd.ntmps36
  go_wp2
  go_loopw [1, 2] (fun v i wr => ∃ k : Nat, k ≤ 8 ∧ i = .int .i64 (k : Nat) ∧ OwnI wr w.heap.size v (L.take k) ∧ Below w.heap.size w wr) (fun _ i _ => 8 - (intOf i).toNat)
  case atStart => exact ⟨0, by omega, rfl, by rw [List.take_zero]; exact OwnI.nil _ _, Below.refl _ _⟩
  case round =>
    obtain ⟨k, hk, rfl, HO, hb⟩ := hrel
    by_cases hlt : k < 8
    · have HS := Lib.hid (take_snocN L k (by rw [HLL.out]; exact hlt))
      have HX := Lib.hid (HK.out k hlt)
      have HLT : Hid ((L.take k).length ≤ 1000000) := by rw [Hid, List.length_take]; omega
      have hzw := hb.size
      go_wp2_with fail
      refine (HQ.out k wr (by omega)).mono ?_
      rintro _ w1 ⟨rfl, rfl⟩
      go_wp2_with fail
      refine (HRT.out (Q k) wr).mono ?_
      rintro _ w2 ⟨rfl, hb2⟩
      rw [HX.out]
      generalize Q k = pr at *
      generalize L.getD k 0 = x at *
      have HO2 := HO.below hb2
      have b2 := hb.trans (hb2.mono hzw)
      have hz2 := b2.size
      clear HO hb2 hb HX
      go_wp2_with (at_builtin; refine wpList_appI w2 rfl (.tmp 7) (.tmp 11) rfl w.heap.size _ _ x rfl rfl HO2 HLT.out hz2 ?_)
      intro v3 w3 HO3 hb3
      go_wp2
      go_roundw
      case rel => exact ⟨k + 1, by omega, by go_num, by rw [HS.out]; exact HO3, b2.trans hb3⟩
      case measure => simp [intOf]; omega
    · obtain rfl : k = 8 := by omega
      rw [List.take_of_length_le (by rw [HLL.out]; exact Nat.le_refl _)] at HO
      have HI := HO.ints (by rw [HLL.out]; decide)
      go_wp2_with fail
      refine (bytes_any _ L wr HI HL32 (by rw [HLL.out]; decide)).mono ?_
      rintro _ w2 ⟨rfl, hb2⟩
      have b2 := hb.trans (hb2.mono hb.size)
      clear HI hb2 HO
      go_wp2
      go_ret
      exact ⟨rfl, b2⟩
theorem refStart_any (w : World) : Calls Tryd.prog 36 #[] w fun e w' => e = .returned (.string ⟨⟨Sh.txt Sh.start⟩⟩) ∧ Below w.heap.size w w' :=
  refStart_by Sh.SQ (fun p => Sh.root p false) (fun k => Sh.PR.getD k 0) w (Lib.hid (by decide)) (Lib.hid fun k w hk => prime_any k w hk) (Lib.hid fun p w => root_square p w) (Lib.hid fun k hk => sq_at k hk) (Lib.hid Sh.SQ_lt)
end Go.Proofs.YtdjehpbkkbahcaaDoor

