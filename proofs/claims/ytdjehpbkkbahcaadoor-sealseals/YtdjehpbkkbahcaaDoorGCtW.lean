/- number. -/
import Derived.Test.YtdjehpbkkbahcaaDoorGShaWa
import Derived.Test.YtdjehpbkkbahcaaDoorGPur
import Derived.Test.YtdjehpbkkbahcaaDoorGAeWb
import Derived.RangeFuncBox
import Derived.RangeFuncCalls
import Derived.RangeFuncLeaves
import Derived.Shelf.Abstract
import Derived.OwnWalkIn
import Derived.TacticsInMore
import Derived.LoopNIn
import Derived.LoopIn
import Derived.Stop.RegionWithIn
import Derived.Lib.AppendStr
import Derived.Laws.MakeOwn
import Derived.Sort.CutIn
import Derived.RangeFuncNested
import Derived.StillTailTactics
namespace Go.Proofs.YtdjehpbkkbahcaaDoor
open Go.RowKit

theorem conv_four (W : World) (c0 c1 c2 c3 : UInt8) : (convert 26 9 (.slice (some ⟨W.heap.size, 0, none⟩) 4 4)).run Tryd.prog (W.alloc (.cells #[.int .u8 (c0.toNat : Nat), .int .u8 (c1.toNat : Nat), .int .u8 (c2.toNat : Nat), .int .u8 (c3.toNat : Nat)] 5)) = .ok (.string ⟨⟨[c0, c1, c2, c3]⟩⟩) (W.alloc (.cells #[.int .u8 (c0.toNat : Nat), .int .u8 (c1.toNat : Nat), .int .u8 (c2.toNat : Nat), .int .u8 (c3.toNat : Nat)] 5)) :=
  conv_any _ _ 4 [c0, c1, c2, c3] 5 (0, 0) _ (heap_alloc_new W _) (fun j hj => bcells_at [c0, c1, c2, c3] j hj)

set_option maxRecDepth 100000 in
theorem number_any (n : Nat) (w : World) (hn : n < 4294967296) :
    Calls Tryd.prog 76 #[.int .u32 (n : Nat)] w fun e w' => e = .returned (.string ⟨⟨Ct.num n⟩⟩) ∧ Below w.heap.size w w' := by
  have d0 : (n : Int) / 16777216 = ((UInt8.ofNat (n / 16777216)).toNat : Nat) := by rw [UInt8.toNat_ofNat']; omega
  have d1 : (n : Int) / 65536 % 256 = ((UInt8.ofNat (n / 65536)).toNat : Nat) := by rw [UInt8.toNat_ofNat']; omega
  have d2 : (n : Int) / 256 % 256 = ((UInt8.ofNat (n / 256)).toNat : Nat) := by rw [UInt8.toNat_ofNat']; omega
  have d3 : (n : Int) % 256 = ((UInt8.ofNat n).toNat : Nat) := by rw [UInt8.toNat_ofNat']; omega
  have HN : Hid (Ct.num n = [UInt8.ofNat (n / 16777216), UInt8.ofNat (n / 65536), UInt8.ofNat (n / 256), UInt8.ofNat n]) := rfl
  generalize Ct.num n = L at *
  generalize UInt8.ofNat (n / 16777216) = c0 at *
  generalize UInt8.ofNat (n / 65536) = c1 at *
  generalize UInt8.ofNat (n / 256) = c2 at *
  generalize UInt8.ofNat n = c3 at *
  have hcv := conv_four w c0 c1 c2 c3
  go_enter Tryd.func76, Tryd.ntmps76
  go_wp2
  go_ret
  exact ⟨by rw [HN.out]; rfl, (Below.refl _ _).alloc (Nat.le_refl _) _⟩
end Go.Proofs.YtdjehpbkkbahcaaDoor

/- blocks: a function to range over. -/

namespace Go.Proofs.YtdjehpbkkbahcaaDoor
open Go.RowKit Go.Shelf
attribute [local go_sem] Oper.semAt_some

/-- A block's bytes. -/
abbrev B16 := { l : List UInt8 // l.length = 16 }
def blkS (k o : List UInt8) (i : Nat) : B16 := ⟨Ct.blk k o i, Ct.blk_length k o i⟩
/-- What has been told when so many rounds are over. -/
def told (k o : List UInt8) : Nat → List B16
  | 0 => []
  | c + 1 => told k o c ++ [blkS k o c]
theorem told_length (k o : List UInt8) : ∀ c, (told k o c).length = c
  | 0 => rfl
  | c + 1 => by rw [told, List.length_append, told_length k o c]; rfl
theorem told_pre (k o : List UInt8) (c : Nat) : ∀ d, told k o c <+: told k o (c + d)
  | 0 => ⟨[], by simp⟩
  | d + 1 => by
    obtain ⟨t, ht⟩ := told_pre k o c d
    exact ⟨t ++ [blkS k o (c + d)], by rw [← List.append_assoc, ht]; rfl⟩
/-- All bytes. -/
def flat (l : List B16) : List UInt8 := l.flatMap (·.1)
theorem flat_snoc (l : List B16) (x : B16) : flat (l ++ [x]) = flat l ++ x.1 := by simp [flat]
theorem flat_length : ∀ l : List B16, (flat l).length = 16 * l.length
  | [] => rfl
  | x :: l => by
    have := flat_length l
    have e : flat (x :: l) = x.1 ++ flat l := by simp [flat]
    rw [e, List.length_append, this, x.2, List.length_cons]
    omega
set_option maxRecDepth 100000 in
theorem flat_told (k o : List UInt8) : ∀ c, flat (told k o c) = Ct.blks k o c
  | 0 => rfl
  | c + 1 => by rw [told, flat_snoc, flat_told k o c]; rfl

set_option maxRecDepth 100000 in
theorem Encrypt_blk (k o : List UInt8) (i : Nat) (w : World) (hk : k.length = 16) (ho : o.length = 12) :
    Calls Tryd.prog 75 #[.string ⟨⟨k⟩⟩, .string ⟨⟨o ++ Ct.num i⟩⟩] w fun e w' => e = .returned (.string ⟨⟨Ct.blk k o i⟩⟩) ∧ Below w.heap.size w w' :=
  Encrypt_yes k _ w hk (by rw [List.length_append, ho, Ct.num_length])

theorem undrewn {B : Nat} {a b : World} (h : Below B a.drew b) : Below B a b := ⟨h.os, h.tape, h.output, h.size, h.block⟩
theorem grown_of {a b : World} (h : Below a.heap.size a b) : a.grownBy b none := ⟨h.os, h.tape, h.output, h.size, fun k hk _ => h.block k hk⟩

/-- Two blocks lie as they lay. -/
def Kept2 (a b : Nat) (W W' : World) : Prop := W'.heap[a]? = W.heap[a]? ∧ W'.heap[b]? = W.heap[b]?
theorem Kept2.trans {a b : Nat} {A B C : World} (h : Kept2 a b A B) (k : Kept2 a b B C) : Kept2 a b A C := ⟨k.1.trans h.1, k.2.trans h.2⟩
theorem Kept2.putObj {a b n : Nat} (ha : a < n) (hb : b < n) (W : World) (l : Nat) (o o' : Obj) (hl : n ≤ l) (_ : W.heap[l]? = some o) (_ : o.isCells = false) (_ : o.isWalk = false) : Kept2 a b W (W.putObj l o') :=
  ⟨World.putObj_heap_other (by omega), World.putObj_heap_other (by omega)⟩

set_option maxRecDepth 100000 in
theorem blocks_any (k o : List UInt8) (c : Nat) (w : World) :
    Calls Tryd.prog 65 #[.string ⟨⟨k⟩⟩, .string ⟨⟨o⟩⟩, .int .i64 (c : Nat)] w fun e w' =>
      e = .returned (.func (.func 74) #[] #[.pointer (some ⟨w.heap.size + 2, 0, none⟩), .pointer (some ⟨w.heap.size, 0, none⟩), .pointer (some ⟨w.heap.size + 1, 0, none⟩)]) ∧
      w' = ((w.alloc (.cells #[.string ⟨⟨k⟩⟩] 9)).alloc (.cells #[.string ⟨⟨o⟩⟩] 9)).alloc (.cells #[.int .i64 (c : Nat)] 3) := by
  go_enter Tryd.func65, Tryd.ntmps65
  go_wp2
  go_ret
  exact ⟨rfl, rfl⟩

set_option maxRecDepth 100000 in
set_option maxHeartbeats 1000000 in
theorem blocks1_in (n : Nat) (hn : 1 ≤ n) (l Bc Bk Bo c : Nat) (k o : List UInt8) (hk : k.length = 16) (ho : o.length = 12) (hc : c ≤ 65536) (J Jx : List B16 → World → Prop) (N : Nat) (hJ : AbidesFrom N J)
    (hY : ∀ pre x W, J pre W → pre.length < c → YieldAt Fence.wide (n - 1) Tryd.prog l #[.string ⟨⟨x.1⟩⟩] W fun e W' =>
      (e = .returned (.bool true) ∧ J (pre ++ [x]) W' ∧ Kept2 Bk Bo W W') ∨ (e = .returned (.bool false) ∧ Jx (pre ++ [x]) W'))
    (W : World) (hBc : W.cell? ⟨Bc, 0, none⟩ = some (.int .i64 (c : Nat))) (hBk : Boxed W Bk 9 (.string ⟨⟨k⟩⟩)) (hBo : Boxed W Bo 9 (.string ⟨⟨o⟩⟩)) (h0 : J [] W) :
    CallsIn Fence.wide n Tryd.prog 74 #[.func (.yield l) #[] #[], .pointer (some ⟨Bc, 0, none⟩), .pointer (some ⟨Bk, 0, none⟩), .pointer (some ⟨Bo, 0, none⟩)] W fun e W' => (∃ v, e = .returned v) ∧
      ((∃ ys, ys = told k o c ∧ J ys W') ∨ (∃ pre, pre <+: told k o c ∧ Jx pre W')) := by
  refine callsIn_of_wp Tryd.func74 rfl trivial ?_ rfl
  simp only [Tryd.ntmps74, List.size_toArray, List.length_cons, List.length_nil, Nat.reduceAdd, Nat.reduceSub, Array.replicate_succ, Array.replicate_zero, List.push_toArray, List.append_toArray, List.nil_append, List.cons_append]
  gi_wp2
  gi_loopw [7] (fun i wr => ∃ j : Nat, j ≤ c ∧ i = .int .i64 (j : Nat) ∧ Boxed wr Bk 9 (.string ⟨⟨k⟩⟩) ∧ Boxed wr Bo 9 (.string ⟨⟨o⟩⟩) ∧ J (told k o j) wr) (fun i _ => c - (intOf i).toNat)
  case atStart => exact ⟨0, by omega, rfl, hBk, hBo, h0⟩
  case round =>
    obtain ⟨j, hj, rfl, hwk, hwo, hJs⟩ := hrel
    clear hBc hBk hBo h0
    by_cases hlt : j < c
    · have hck := hwk.cell
      have hco := hwo.cell
      have hlk := hwk.lt
      have hlo := hwo.lt
      have HL := Lib.hid (told_length k o j)
      have HP : Hid (told k o (j + 1) <+: told k o c) := by
        have := told_pre k o (j + 1) (c - (j + 1))
        rwa [show j + 1 + (c - (j + 1)) = c by omega] at this
      have hji : (j : Int) < (c : Int) := by omega
      have hj32 : (j : Int) < 4294967296 := by omega
      have hju : IntKind.u32.wrap (j : Int) = (j : Int) := by rw [IntKind.wrap_u32]; omega
      gi_wp2_with fail
      have HB : Hid (∀ w1, Below wr.drew.heap.size wr.drew w1 → Boxed w1 Bk 9 (.string ⟨⟨k⟩⟩) ∧ Boxed w1 Bo 9 (.string ⟨⟨o⟩⟩)) :=
        fun w1 h => ⟨hwk.kept (grown_of (undrewn h)) (by simp), hwo.kept (grown_of (undrewn h)) (by simp)⟩
      have HY : Hid (∀ w1 w2, Below wr.drew.heap.size wr.drew w1 → Below w1.heap.size w1 w2 → Boxed w2 Bk 9 (.string ⟨⟨k⟩⟩) ∧ Boxed w2 Bo 9 (.string ⟨⟨o⟩⟩) ∧ YieldAt Fence.wide (n - 1) Tryd.prog l #[.string ⟨⟨Ct.blk k o j⟩⟩] w2 fun e W' =>
          ∃ b, e = .returned (.bool b) ∧ ((b = true ∧ J (told k o (j + 1)) W' ∧ Kept2 Bk Bo w2 W') ∨ (b = false ∧ Jx (told k o (j + 1)) W'))) := by
        intro w1 w2 h1 h2
        have h3 := grown_of (a := wr) (b := w2) ((undrewn h1).trans (h2.mono h1.size))
        obtain ⟨fn, tmps, assign, body, hy, hR⟩ := hY (told k o j) (blkS k o j) w2 (hJ _ _ _ none hJs h3 (fun r e => by cases e)) (by rw [HL.out]; exact hlt)
        refine ⟨hwk.kept h3 (by simp), hwo.kept h3 (by simp), fn, tmps, assign, body, hy, hR.mono ?_⟩
        rintro e W' (⟨rfl, a, b⟩ | ⟨rfl, a⟩)
        · exact ⟨true, rfl, .inl ⟨rfl, a, b⟩⟩
        · exact ⟨false, rfl, .inr ⟨rfl, a⟩⟩
      clear hY hJ hJs
      have HN := Lib.hid fun W => number_any j W (by omega)
      have HE := Lib.hid fun W => Encrypt_blk k o j W hk ho
      have hnl := Ct.num_length j
      generalize Ct.num j = nj at *
      generalize Ct.blk k o j = x at *
      have hap : ByteArray.mk ⟨o⟩ ++ ByteArray.mk ⟨nj⟩ = ⟨⟨o ++ nj⟩⟩ := str_app _ _
      have hl1 : o.length + nj.length ≤ 9223372036854775807 := by omega
      have hl2 : ¬ 9223372036854775807 < o.length + nj.length := by omega
      gi_region_with (first
        | (refine ⟨trivial, ?_⟩; gi_at_call 76; refine (callsIn_wide.2 (HN.out _)).mono ?_; rintro _ w1 ⟨rfl, hb1⟩; obtain ⟨hx1, hx2⟩ := HB.out w1 hb1; have hy1 := hx1.cell; have hy2 := hx2.cell)
        | (refine ⟨trivial, ?_⟩; gi_at_call 75; refine (callsIn_wide.2 (HE.out _)).mono ?_; rintro _ w2 ⟨rfl, hb2⟩; obtain ⟨hz1, hz2, fn, tmps, assign, body, hy, hR⟩ := HY.out w1 w2 hb1 hb2)
        | (refine hR.mono ?_; rintro _ w3 ⟨b, rfl, hb3⟩))
      all_goals
        clear hy hR hb1 hb2 hl1 hl2 hap HN HE HY HB hy1 hy2 hx1 hx2 hck hco hwk hwo hnl hk ho
        clear hju hj32 HL hlk hlo
        rename_i K1 a1 K0 a0
        refine a0 _ _ ?_
        change Code.wpIn _ _ _ _ _ { tmps := #[.func (.yield l) #[] #[], .pointer (some ⟨Bc, 0, none⟩), .pointer (some ⟨Bk, 0, none⟩), .pointer (some ⟨Bo, 0, none⟩), undef, .int .i64 (j : Nat), .int .i64 (c : Nat), .int .i64 (j : Nat), .bool true, .int .i64 (j : Nat), .func (.yield l) #[] #[], .string ⟨⟨k⟩⟩, .string ⟨⟨o⟩⟩, .int .i64 (j : Nat), .int .u32 (j : Nat), .string ⟨⟨nj⟩⟩, .string ⟨⟨o ++ nj⟩⟩, .string ⟨⟨x⟩⟩, .bool b, .bool (!b), u20], defers := [] } w3
        rcases hb3 with ⟨rfl, hJ3, hk3⟩ | ⟨rfl, hJx3⟩
        · gi_wp2
          go_roundw
          case rel => exact ⟨j + 1, by omega, by go_num, hk3.1.trans hz1, hk3.2.trans hz2, hJ3⟩
          case measure => simp [intOf]; omega
        · gi_wp2
          refine bodyPost_ret (results_none rfl _ _ _) rfl ?_
          exact ⟨⟨_, rfl⟩, .inr ⟨told k o (j + 1), HP.out, hJx3⟩⟩
    · obtain rfl : j = c := by omega
      gi_wp2
      go_end0
      exact ⟨⟨_, rfl⟩, .inl ⟨told k o j, rfl, hJs⟩⟩

set_option maxRecDepth 100000 in
/-- What blocks hands back tells just the blocks. -/
theorem blocks_stops (n : Nat) (hn : 1 ≤ n) (Bc Bk Bo c : Nat) (k o : List UInt8) (hk : k.length = 16) (ho : o.length = 12) (hc : c ≤ 65536) (w : World)
    (hBc : Boxed w Bc 3 (.int .i64 (c : Nat))) (hBk : Boxed w Bk 9 (.string ⟨⟨k⟩⟩)) (hBo : Boxed w Bo 9 (.string ⟨⟨o⟩⟩)) :
    SeqStopsK Fence.wide n Tryd.prog 74 #[.pointer (some ⟨Bc, 0, none⟩), .pointer (some ⟨Bk, 0, none⟩), .pointer (some ⟨Bo, 0, none⟩)] (fun x : B16 => #[Value.string ⟨⟨x.1⟩⟩]) (Kept2 Bk Bo) (fun ys => ys = told k o c) (fun pre => pre <+: told k o c) c w := fun l J Jx W hW hJ _ hY h0 =>
  blocks1_in n hn l Bc Bk Bo c k o hk ho hc J Jx W.heap.size hJ hY W ((hW.cell (p := ⟨Bc, 0, none⟩) hBc.lt).trans hBc.cell) ((hW.block Bk hBk.lt).trans hBk) ((hW.block Bo hBo.lt).trans hBo) h0
end Go.Proofs.YtdjehpbkkbahcaaDoor

/- Stream. -/

namespace Go.Proofs.YtdjehpbkkbahcaaDoor
open Go.RowKit Go.Shelf
attribute [local go_sem] Oper.semAt_some

set_option maxRecDepth 100000 in
theorem Stream_no (k o : List UInt8) (n : Int) (w : World) (h : ¬ (k.length = 16 ∧ o.length = 12 ∧ 0 ≤ n ∧ n ≤ 1048576)) :
    Calls Tryd.prog 57 #[.string ⟨⟨k⟩⟩, .string ⟨⟨o⟩⟩, .int .i64 n] w fun e w' => e = .returned (.string ⟨⟨[]⟩⟩) ∧ w = w' := by
  by_cases hk : k.length = 16
  · obtain ⟨k1, k2, k3, k4⟩ := len_true hk
    simp only [Int.cast_ofNat_Int] at k1 k3
    by_cases ho : o.length = 12
    · obtain ⟨o1, o2, o3, o4⟩ := len_true ho
      simp only [Int.cast_ofNat_Int] at o1 o3
      by_cases hn : n < 0
      · clear h hk ho
        go_enter Tryd.func57, Tryd.ntmps57
        go_wp2
        go_ret
        exact ⟨rfl, rfl⟩
      · have hm : 1048576 < n := by
          rcases Int.lt_or_le 1048576 n with h1 | h1
          · exact h1
          · exact absurd ⟨hk, ho, by omega, h1⟩ h
        clear h hk ho
        go_enter Tryd.func57, Tryd.ntmps57
        go_wp2
        go_ret
        exact ⟨rfl, rfl⟩
    · obtain ⟨o1, o2, o3, o4⟩ := len_false ho
      simp only [Int.cast_ofNat_Int] at o1 o3
      clear h hk ho
      go_enter Tryd.func57, Tryd.ntmps57
      go_wp2
      go_ret
      exact ⟨rfl, rfl⟩
  · obtain ⟨k1, k2, k3, k4⟩ := len_false hk
    simp only [Int.cast_ofNat_Int] at k1 k3
    clear h hk
    go_enter Tryd.func57, Tryd.ntmps57
    go_wp2
    go_ret
    exact ⟨rfl, rfl⟩


/-- append(v, s...) of a text, inside a fence. -/
theorem wpListIn_appT {F : Fence} {n' : Nat} (w : World) {ops : Array Oper} {rest : List Oper} {oo : Oper} {a : Act} {Q : Exit → Act → World → Prop} (hgd : oo.guard = none) (sl x : Operand)
    (ho : oo.op = .call { callee := .builtin .append, args := #[sl, x], argTypes := #[26, 9] })
    (base : Nat) (v : Value) (L s : List UInt8) (hs : a.eval sl = v) (hown : OwnB w base v L) (hx : a.eval x = .string ⟨⟨s⟩⟩)
    (hl : L.length + s.length ≤ 100000000) (hbase : base ≤ w.heap.size)
    (h : ∀ v' w', OwnB w' base v' (L ++ s) → w.grownBy w' v.ownBlock → (v' = .slice none 0 0 ↔ v = .slice none 0 0 ∧ s = []) → wpListIn F n' Tryd.prog ops Q rest (a.put oo.dst v') w') : wpListIn F n' Tryd.prog ops Q (oo :: rest) a w := by
  obtain ⟨i, hi, he⟩ := Option.map_eq_some_iff.1 info5
  simp only [Prod.mk.injEq] at he
  obtain ⟨hz, hsz, hb⟩ := he
  refine wpListIn_plain hgd fun K hK => ?_
  obtain ⟨v', w', hr, h2, h3, h4⟩ := Lib.run_append_own_string (P := Tryd.prog) w base 26 9 oo.type 5 i Tryd.underlying26 Tryd.underlying9 hi hz hsz hb v L.length (bvals L) hown ⟨⟨s⟩⟩ (by simp only [maxLen]; show L.length + s.length ≤ _; omega) (by show L.length + s.length ≤ _; omega) hbase
  unfold Oper.wpIn
  refine ⟨?_, ?_⟩
  · simp [Oper.about, ho, resolve, Target.leads, Sem.run_pure]
  · rw [Oper.semAt_plain F _ _ (by rw [ho]; intro c hc'; cases hc')]
    simp [execOp, ho, resolve, invoke, builtin, hs, hx, hr, Result.andThen]
    refine hK _ _ (h v' w' ?_ h3 ?_)
    · have e : bvals (L ++ s) = bvals L ++ Lib.strCells ⟨⟨s⟩⟩ := by simp [bvals, Lib.strCells]
      rw [OwnB, e, List.length_append]
      exact h2
    · rw [h4]
      show (_ ∧ s.length = 0) ↔ _
      rw [List.length_eq_zero_iff]

/-- 'out = append(out, s...)': what the walk owes behind the append and the store. -/
theorem boxed_text {W w1 : World} {n₀ B : Nat} {t e : TypeId} {v v' : Value} {k m : Nat} {xs ys : List Value}
    (hv : Boxed W B t v) (hte : t ≠ e) (hrow : W.ownsRow n₀ e 1 v k xs) (hn₀ : n₀ ≤ W.heap.size) (hB : n₀ ≤ B)
    (hown' : w1.ownsRow n₀ e 1 v' m ys) (hgrow : W.grownBy w1 v.ownBlock) :
    Boxed w1 B t v ∧ Boxed (w1.setCell ⟨B, 0, none⟩ v') B t v' ∧ (w1.setCell ⟨B, 0, none⟩ v').ownsRow n₀ e 1 v' m ys ∧ KeepsOthers W (w1.setCell ⟨B, 0, none⟩ v') ∧ Below n₀ W (w1.setCell ⟨B, 0, none⟩ v') := by
  have hv1 : Boxed w1 B t v := hv.kept hgrow (hv.not_row hte hrow)
  refine ⟨hv1, hv1.set v', hown'.kept (grownBy_setCell' w1 B v') (.inr (hv1.not_row hte hown').symm), ?_, ?_⟩
  · refine (KeepsOthers.of_grownBy hgrow fun j o ej hj => ?_).trans (KeepsOthers.setCell _ _ _)
    rcases hrow.2 with ⟨rfl, _⟩ | ⟨g, cap, cur, rfl, _, hgb, _⟩
    · simp [Value.ownBlock] at ej
    · obtain rfl : g = j := by simpa [Value.ownBlock] using ej
      rw [hgb] at hj; cases hj; rfl
  · refine ((Below.refl n₀ W).grown hgrow hn₀ fun j ej => ?_).setCell (p := ⟨B, 0, none⟩) hB v'
    rcases hrow.2 with ⟨rfl, _⟩ | ⟨g, cap, cur, rfl, hb, _, _⟩
    · simp [Value.ownBlock] at ej
    · obtain rfl : g = j := by simpa [Value.ownBlock] using ej
      exact hb
/-- Another box behind both. -/
theorem boxed_aside {W w1 : World} {n₀ B B' : Nat} {t e : TypeId} {v v' u : Value} {k : Nat} {xs : List Value}
    (hu : Boxed W B' t u) (hte : t ≠ e) (hrow : W.ownsRow n₀ e 1 v k xs) (hgrow : W.grownBy w1 v.ownBlock) (hne : B' ≠ B) : Boxed (w1.setCell ⟨B, 0, none⟩ v') B' t u :=
  (hu.kept hgrow (hu.not_row hte hrow)).kept (grownBy_setCell' w1 B v') (by simpa using hne)

set_option maxRecDepth 100000 in
set_option maxHeartbeats 2000000 in
theorem Stream_yes (k o : List UInt8) (n : Nat) (w : World) (hk : k.length = 16) (ho : o.length = 12) (hn : n ≤ 1048576) :
    Calls Tryd.prog 57 #[.string ⟨⟨k⟩⟩, .string ⟨⟨o⟩⟩, .int .i64 (n : Nat)] w fun e w' => e = .returned (.string ⟨⟨Ct.str k o n⟩⟩) ∧ Below w.heap.size w w' := by
  obtain ⟨k1, k2, k3, k4⟩ := len_true hk
  obtain ⟨o1, o2, o3, o4⟩ := len_true ho
  simp only [Int.cast_ofNat_Int] at k1 k3 o1 o3
  have hn0 : ¬ (n : Int) < 0 := by omega
  have hn1 : ¬ (1048576 : Int) < (n : Int) := by omega
  obtain ⟨c, hc⟩ : ∃ c : Nat, c = (n + 15) / 16 := ⟨_, rfl⟩
  have hcl : c ≤ 65536 := by omega
  have e0 : Hid (((n : Int) + 16 - 1) / 16 = (c : Int)) := by rw [Hid]; omega
  obtain ⟨m, hm⟩ : ∃ m : Nat, m = c * 16 := ⟨_, rfl⟩
  have e2 : (c : Int) * 16 = (m : Int) := by omega
  have hmk := make_cap m (by omega) w
  have HC : Hid (c = (n + 15) / 16) := hc
  have HM : Hid (m = c * 16) := hm
  clear hc hm
  refine (callsIn_wide (n := 4)).1 ?_
  refine callsIn_of_wp_marks Tryd.func57 rfl trivial ?_ rfl
  simp only [Tryd.ntmps57, List.size_toArray, List.length_cons, List.length_nil, Nat.reduceAdd, Nat.reduceSub, Array.replicate_succ, Array.replicate_zero, List.push_toArray, List.append_toArray, List.nil_append, List.cons_append]
  gi_upto_region 4 with (fail)
  rw [e0.out]
  have hci : (c : Int) ≤ 65536 := by omega
  gi_wp2_with (refine ⟨trivial, ?_⟩; gi_at_call 65; refine (callsIn_wide.2 (blocks_any k o c _)).mono ?_; rintro _ _ ⟨rfl, rfl⟩)
  obtain ⟨z, hz⟩ : ∃ z, z = w.heap.size := ⟨_, rfl⟩
  rw [← hz]
  have bV : Boxed ((w.alloc (.cells (bcells (List.replicate m 0)) 5)).alloc (.cells #[.slice (some ⟨z, 0, none⟩) 0 m] 26)) (z + 1) 26 (.slice (some ⟨z, 0, none⟩) 0 m) := by
    have := Boxed.new (w.alloc (.cells (bcells (List.replicate m 0)) 5)) 26 (.slice (some ⟨z, 0, none⟩) 0 m)
    rwa [World.size_alloc, ← hz] at this
  have hrow0 : ((w.alloc (.cells (bcells (List.replicate m 0)) 5)).alloc (.cells #[.slice (some ⟨z, 0, none⟩) 0 m] 26)).ownsRow z 5 1 (.slice (some ⟨z, 0, none⟩) 0 m) 0 [] := by
    refine World.ownsRow.alloc ⟨rfl, .inr ⟨z, m, bcells (List.replicate m 0), rfl, Nat.le_refl _, ?_, Nat.zero_le _, ?_, ?_, rfl⟩⟩ _
    · rw [hz]; exact heap_alloc_new _ _
    · simp only [maxLen]; omega
    · simp [bcells]
  have hB0 : Below z w ((w.alloc (.cells (bcells (List.replicate m 0)) 5)).alloc (.cells #[.slice (some ⟨z, 0, none⟩) 0 m] 26)) := by
    rw [hz]
    exact ((Below.refl _ w).alloc (Nat.le_refl _) _).alloc (by simp) _
  have hsz : ((w.alloc (.cells (bcells (List.replicate m 0)) 5)).alloc (.cells #[.slice (some ⟨z, 0, none⟩) 0 m] 26)).heap.size = z + 2 := by simp [hz]
  generalize (w.alloc (.cells (bcells (List.replicate m 0)) 5)).alloc (.cells #[.slice (some ⟨z, 0, none⟩) 0 m] 26) = W1 at *
  have bK : Boxed ((((W1.alloc (.cells #[.string ⟨⟨k⟩⟩] 9)).alloc (.cells #[.string ⟨⟨o⟩⟩] 9)).alloc (.cells #[.int .i64 (c : Nat)] 3))) (z + 2) 9 (.string ⟨⟨k⟩⟩) := by
    have := Boxed.new W1 9 (.string ⟨⟨k⟩⟩)
    rw [hsz] at this
    exact (this.alloc _).alloc _
  have bO : Boxed ((((W1.alloc (.cells #[.string ⟨⟨k⟩⟩] 9)).alloc (.cells #[.string ⟨⟨o⟩⟩] 9)).alloc (.cells #[.int .i64 (c : Nat)] 3))) (z + 3) 9 (.string ⟨⟨o⟩⟩) := by
    have := Boxed.new (W1.alloc (.cells #[.string ⟨⟨k⟩⟩] 9)) 9 (.string ⟨⟨o⟩⟩)
    rw [World.size_alloc, hsz] at this
    exact this.alloc _
  have bC : Boxed ((((W1.alloc (.cells #[.string ⟨⟨k⟩⟩] 9)).alloc (.cells #[.string ⟨⟨o⟩⟩] 9)).alloc (.cells #[.int .i64 (c : Nat)] 3))) (z + 4) 3 (.int .i64 (c : Nat)) := by
    have := Boxed.new ((W1.alloc (.cells #[.string ⟨⟨k⟩⟩] 9)).alloc (.cells #[.string ⟨⟨o⟩⟩] 9)) 3 (.int .i64 (c : Nat))
    rw [World.size_alloc, World.size_alloc, hsz] at this
    exact this
  have bV2 := ((bV.alloc (.cells #[.string ⟨⟨k⟩⟩] 9)).alloc (.cells #[.string ⟨⟨o⟩⟩] 9)).alloc (.cells #[.int .i64 (c : Nat)] 3)
  have hrow2 := ((World.ownsRow.alloc hrow0 (.cells #[.string ⟨⟨k⟩⟩] 9)).alloc (.cells #[.string ⟨⟨o⟩⟩] 9)).alloc (.cells #[.int .i64 (c : Nat)] 3)
  have hB2 := ((hB0.alloc (by omega) (.cells #[.string ⟨⟨k⟩⟩] 9)).alloc (by simp; omega) (.cells #[.string ⟨⟨o⟩⟩] 9)).alloc (by simp; omega) (.cells #[.int .i64 (c : Nat)] 3)
  have hsz2 : (((W1.alloc (.cells #[.string ⟨⟨k⟩⟩] 9)).alloc (.cells #[.string ⟨⟨o⟩⟩] 9)).alloc (.cells #[.int .i64 (c : Nat)] 3)).heap.size = z + 5 := by simp [hsz]
  generalize ((W1.alloc (.cells #[.string ⟨⟨k⟩⟩] 9)).alloc (.cells #[.string ⟨⟨o⟩⟩] 9)).alloc (.cells #[.int .i64 (c : Nat)] 3) = W2 at *
  have HZ : Hid (z = w.heap.size) := hz
  have hzl : z ≤ w.heap.size := by omega
  clear hB0 hrow0 bV hmk hsz hz
  refine wpIn_rangeFunc_ownG rfl (by omega) (gf := 74) (lb := #[.pointer (some ⟨z + 4, 0, none⟩), .pointer (some ⟨z + 2, 0, none⟩), .pointer (some ⟨z + 3, 0, none⟩)]) rfl trivial (enters_of Tryd.func74 (by kernel_rfl) rfl)
    (blocks_stops 3 (by omega) (z + 4) (z + 2) (z + 3) c k o hk ho hcl W2 bC bK bO) Kept2.trans (Kept2.putObj (by omega) (by omega)) (Below.refl _ _) (fun _ => rfl)
    (fun pre W => (∃ v, Boxed W (z + 1) 26 v ∧ W.ownsRow z 5 1 v (flat pre).length (bvals (flat pre)) ∧ v ≠ .slice none 0 0) ∧ (Boxed W (z + 2) 9 (.string ⟨⟨k⟩⟩) ∧ Boxed W (z + 3) 9 (.string ⟨⟨o⟩⟩)) ∧ Below z w W)
    (fun _ _ _ => False)
    (OwnFrom.and (Own.from (holdsRow_own z (z + 1) 26 5 1 (fun pre => (flat pre).length) (fun pre => bvals (flat pre)) (fun _ v => v ≠ .slice none 0 0)) _) (OwnFrom.and (OwnFrom.and (Own.from (boxed_own (z + 2) 9 (fun _ => .string ⟨⟨k⟩⟩)) _) (Own.from (boxed_own (z + 3) 9 (fun _ => .string ⟨⟨o⟩⟩)) _)) (ownFrom_below (by omega) (by omega))))
    (fun _ _ _ _ _ hs _ _ => hs)
    ⟨⟨_, bV2, hrow2, by simp⟩, ⟨bK, bO⟩, hB2⟩
    (fun x => { tmps := #[.string ⟨⟨k⟩⟩, .string ⟨⟨o⟩⟩, .int .i64 (n : Nat), undef, undef, undef, .string ⟨#[]⟩, .int .i64 (c : Nat), .pointer (some ⟨z + 1, 0, none⟩), .string ⟨⟨x.1⟩⟩, .string ⟨⟨k⟩⟩, .int .i64 16, .bool false, .bool false, .string ⟨⟨o⟩⟩, .int .i64 12, .bool false, .bool false, .bool false, .int .i64 (n : Nat), .bool false, .bool false, .bool false, .int .i64 (n : Nat), .bool false, .bool false, .int .i64 (n : Nat), .int .i64 ((n : Int) + 16), .int .i64 ((n : Int) + 16 - 1), .int .i64 (c : Nat), .int .i64 (c : Nat), .int .i64 (m : Nat), .slice (some ⟨z, 0, none⟩) 0 m, .string ⟨⟨k⟩⟩, .string ⟨⟨o⟩⟩, .int .i64 (c : Nat), .func (.func 74) #[] #[.pointer (some ⟨z + 4, 0, none⟩), .pointer (some ⟨z + 2, 0, none⟩), .pointer (some ⟨z + 3, 0, none⟩)], .string ⟨⟨x.1⟩⟩, undef, undef, undef, undef, undef, undef, undef], defers := [] }) ?assign ?body ?done ?stop
  case assign =>
    intro l x W K hK
    gi_wp2
    exact hK
  case body =>
    rintro l pre x W ⟨⟨v, hv, hrow, hnil⟩, ⟨bK1, bO1⟩, hB⟩ hlt
    have hcv := hv.cell
    have hq : (flat pre ++ x.1).length = 16 * pre.length + 16 := by rw [List.length_append, flat_length, x.2]
    have hqs : (flat pre).length + x.1.length ≤ 100000000 := by rw [flat_length, x.2]; omega
    gi_wp2_with (gi_at_builtin; refine wpListIn_appT _ rfl _ _ rfl z v (flat pre) x.1 rfl hrow rfl hqs (by have := hB.size; omega) ?_; intro v' w1 hown' hgrow hnl; obtain ⟨g', cap', cur', hv', _⟩ := own_form hown' (fun h => hnil (hnl.1 h).1); rw [hq] at hv'; subst hv'; clear hnl; obtain ⟨hv1, hv2, hr2, hk2, hb2⟩ := boxed_text hv (by decide) hrow (by have := hB.size; omega) (by omega) hown' hgrow; have hc1 := hv1.cell; have hf1 := hv1.frozen)
    have bK2 := boxed_aside (v' := .slice (some ⟨g', 0, none⟩) (16 * pre.length + 16) cap') bK1 (by decide) hrow hgrow (show z + 2 ≠ z + 1 by omega)
    have bO2 := boxed_aside (v' := .slice (some ⟨g', 0, none⟩) (16 * pre.length + 16) cap') bO1 (by decide) hrow hgrow (show z + 3 ≠ z + 1 by omega)
    exact ⟨hk2.from _, ⟨bK2.trans bK1.symm, bO2.trans bO1.symm⟩, ⟨_, hv2, by rw [flat_snoc]; exact hr2, by simp⟩, ⟨bK2, bO2⟩, hB.trans hb2⟩
  case done =>
    rintro D ys W hD rfl ⟨⟨v, hv, hrow, hnil⟩, _, hB⟩ hK
    have hrow' : OwnB W z v (Ct.blks k o c) := by
      rw [flat_told] at hrow
      exact hrow
    obtain ⟨g, cap, cur, rfl, hg, h1, h2, hcs⟩ := own_form hrow' hnil
    have hbl := Ct.blks_length k o c
    have hcn := HC.out
    have hnc : n ≤ cap := by omega
    have hst := Ct.str_length k o n
    have hcv := conv_any W g cap (Ct.str k o n) 5 (0, 0) cur hg (fun j hj => by
      rw [hcs j (by omega), Ct.str, ← hcn]
      simp only [List.getD_eq_getElem?_getD, List.getElem?_take, if_pos (show j < n by omega)])
    rw [hst] at hcv
    have hcc := hv.cell
    have hnci : (n : Int) ≤ (cap : Int) := by omega
    have hcm : cap ≤ 9223372036854775807 := by simp only [maxLen] at h2; omega
    clear hcs hrow hrow' hnil h1 h2 hcn hbl
    obtain ⟨L, hL⟩ : ∃ L, L = Ct.str k o n := ⟨_, rfl⟩
    rw [← hL] at hcv
    have HL : Hid (L = Ct.str k o n) := hL
    clear hL hst
    gi_wp2
    refine ⟨by simp, .inl ⟨_, _, rfl, run_takeDeferred hK, ?_⟩⟩
    refine ⟨_, results_tmp rfl _ _ _, by rw [← HL.out]; rfl, ?_⟩
    rw [← HZ.out]
    exact hB.trans (belowK_b (w := w) hzl W D _ _ (by have := hB2.size; omega) hK rfl rfl)
  case stop =>
    rintro D c pre W _ _ h _
    exact h.elim

set_option maxRecDepth 100000 in
theorem Stream_any (k o : List UInt8) (n : Int) (w : World) :
    Calls Tryd.prog 57 #[.string ⟨⟨k⟩⟩, .string ⟨⟨o⟩⟩, .int .i64 n] w fun e w' => e = .returned (.string ⟨⟨Ct.strA k o n⟩⟩) ∧ Below w.heap.size w w' := by
  by_cases h : k.length = 16 ∧ o.length = 12 ∧ 0 ≤ n ∧ n ≤ 1048576
  · obtain ⟨m, rfl⟩ := Int.eq_ofNat_of_zero_le h.2.2.1
    rw [Ct.strA_yes h.1 h.2.1 (by omega)]
    exact Stream_yes k o m w h.1 h.2.1 (by omega)
  · rw [Ct.strA_no h]
    exact (Stream_no k o n w h).mono fun _ _ ⟨he, hw⟩ => ⟨he, hw ▸ Below.refl _ _⟩
end Go.Proofs.YtdjehpbkkbahcaaDoor

/- Cipher. -/

namespace Go.Proofs.YtdjehpbkkbahcaaDoor
open Go.RowKit

theorem cipA_at (k o s : List UInt8) (j : Nat) (hs : j < s.length) (ht : j < (Ct.strA k o (s.length : Int)).length) : (Ct.cipA k o s).getD j 0 = s[j] ^^^ (Ct.strA k o (s.length : Int))[j] := by
  rw [Ct.cipA, Ct.xr_getD _ _ _ hs ht, getD_get _ _ hs, getD_get _ _ ht]

set_option maxRecDepth 100000 in
theorem Cipher_any (k o s : List UInt8) (w : World) :
    Calls Tryd.prog 38 #[.string ⟨⟨k⟩⟩, .string ⟨⟨o⟩⟩, .string ⟨⟨s⟩⟩] w fun e w' => e = .returned (.string ⟨⟨Ct.cipA k o s⟩⟩) ∧ Below w.heap.size w w' := by
  have HS := Lib.hid fun W => Stream_any k o (s.length : Int) W
  have HAT := Lib.hid (cipA_at k o s)
  have HL := Lib.hid (Ct.cipA_length k o s)
  have hle := Ct.strA_le k o (s.length : Int)
  have hts : (Ct.strA k o (s.length : Int)).length ≤ s.length := by
    rcases Ct.strA_len k o s.length with h | h
    · omega
    · rw [h]; exact Nat.zero_le _
  have HLE := Lib.hid hle
  have HTS := Lib.hid hts
  clear hle hts
  generalize Ct.strA k o (s.length : Int) = t at *
  generalize Ct.cipA k o s = L at *
  go_enter Tryd.func38, Tryd.ntmps38
  go_wp2_with fail
  refine (HS.out w).mono ?_
  rintro _ w1 ⟨rfl, hb1⟩
  have hmk := make_full t.length (by have := HLE.out; omega) w1
  have hs1 := hb1.size
  obtain ⟨gs, hgs⟩ : ∃ g, g = w1.heap.size := ⟨_, rfl⟩
  have hgw : w.heap.size ≤ gs := by omega
  have HST : Hid (Below w.heap.size w (w1.alloc (.cells (bcells (List.replicate t.length 0)) 5)) ∧ (w1.alloc (.cells (bcells (List.replicate t.length 0)) 5)).heap[gs]? = some (.cells (bcells (L.take 0 ++ List.replicate (t.length - 0) 0)) 5 (0, 0))) :=
    ⟨hb1.alloc hs1 _, by rw [hgs]; exact heap_alloc_new _ _⟩
  have HGS := Lib.hid hgs
  clear hgs hb1 hs1 HS
  go_wp2
  rw [← HGS.out]
  clear HGS hmk
  go_loopw [20] (fun i wr => ∃ p : Nat, p ≤ t.length ∧ i = .int .i64 (p : Nat) ∧ Hid (Below w.heap.size w wr ∧ wr.heap[gs]? = some (.cells (bcells (L.take p ++ List.replicate (t.length - p) 0)) 5 (0, 0)))) (fun i _ => t.length - (intOf i).toNat)
  case atStart => exact ⟨0, by omega, rfl, HST⟩
  case round =>
    obtain ⟨p, hp, rfl, HA⟩ := hrel
    clear HST
    by_cases hlt : p < t.length
    · have hps : p < s.length := by have := HTS.out; omega
      have g0 := byte_at s p hps
      have g1 := byte_at t p hlt
      obtain ⟨x, hx⟩ : ∃ x, s[p] = x := ⟨_, rfl⟩
      obtain ⟨y, hy⟩ : ∃ y, t[p] = y := ⟨_, rfl⟩
      rw [hx] at g0
      rw [hy] at g1
      obtain ⟨hbw, hrow⟩ := HA.out
      have hval : L.getD p 0 = x ^^^ y := by rw [HAT.out p hps hlt, hx, hy]
      have hcz : wr.drew.cell? ⟨gs, p, none⟩ = some (.int .u8 (0 : Nat)) := brow_cell (wr := wr) hrow HL.out hlt
      have hfz : wr.drew.frozen? ⟨gs, p, none⟩ = false := frozen_of_row wr _ p _ _ hrow
      have HN : Hid (Below w.heap.size w (wr.drew.setCell ⟨gs, p, none⟩ (.int .u8 ((x ^^^ y).toNat : Nat))) ∧ (wr.drew.setCell ⟨gs, p, none⟩ (.int .u8 ((x ^^^ y).toNat : Nat))).heap[gs]? = some (.cells (bcells (L.take (p + 1) ++ List.replicate (t.length - (p + 1)) 0)) 5 (0, 0))) := by
        refine ⟨hbw.drew.setCell hgw _, ?_⟩
        rw [← hval]
        exact brow_set (wr := wr.drew) hrow HL.out hlt
      have hv := xor_byte x y
      have z0 : (p : Int) < t.length := by omega
      have z1 : (p : Int) < s.length := by omega
      have z2 : (p : Int) < 1048576 := by have := HLE.out; omega
      clear hx hy hval hbw hrow HA
      go_wp2_with fail
      refine wp_region_still_tail 10 (by kernel_rfl) (by kernel_rfl) ?_
      change wpStill _ _ (World.drew _) (fun a' => wpList _ _ _ _ a' (World.drew _)) _ _
      generalize wr.drew = w9 at *
      simp only [List.take_succ_cons, List.take_zero, List.drop_succ_cons, List.drop_zero]
      repeat still_step
      refine wpStill_nil ?_
      go_wp2
      go_roundw
      case rel => exact ⟨p + 1, by omega, by go_num, HN⟩
      case measure => simp [intOf]; omega
    · obtain rfl : p = t.length := by omega
      obtain ⟨hbw, hrow⟩ := HA.out
      rw [List.take_of_length_le (by rw [HL.out]; omega), Nat.sub_self, List.replicate_zero, List.append_nil] at hrow
      have hcv := conv_any wr gs t.length L 5 (0, 0) _ hrow (fun j hj => bcells_at L j hj)
      rw [HL.out] at hcv
      clear hrow HA
      go_wp2
      go_ret
      exact ⟨rfl, hbw⟩
end Go.Proofs.YtdjehpbkkbahcaaDoor

