/- blocks: a function to range over. -/
import Derived.Test.YticofjbngfjjlaaGreatDoorGAAeW7
import Derived.RangeFuncBox
import Derived.RangeFuncCalls
import Derived.RangeFuncLeaves
import Derived.Shelf.Abstract
import Derived.OwnWalkIn
import Derived.TacticsInMore
import Derived.LoopNIn
import Derived.LoopIn
import Derived.Stop.RegionWithIn
namespace Go.Proofs.YticofjbngfjjlaaGreatDoor
open Go.RowKit Go.Shelf
attribute [local go_sem] Oper.semAt_some

/-- A block's bytes. -/
abbrev B16 := { l : List UInt8 // l.length = 16 }
def blkS (k o : List UInt8) (i : Nat) : B16 := ⟨Ct.blk k o i, Ct.blk_length k o i⟩
/-- What has been told when so many rounds are over. -/
def told (k o : List UInt8) : Nat → List B16
  | 0 => []
  | c + 1 => told k o c ++ [blkS k o c]
theorem told_length (k o : List UInt8) : ∀ c, (told k o c).length = c
  | 0 => rfl
  | c + 1 => by rw [told, List.length_append, told_length k o c]; rfl
theorem told_pre (k o : List UInt8) (c : Nat) : ∀ d, told k o c <+: told k o (c + d)
  | 0 => ⟨[], by simp⟩
  | d + 1 => by
    obtain ⟨t, ht⟩ := told_pre k o c d
    exact ⟨t ++ [blkS k o (c + d)], by rw [← List.append_assoc, ht]; rfl⟩
/-- All bytes. -/
def flat (l : List B16) : List UInt8 := l.flatMap (·.1)
theorem flat_snoc (l : List B16) (x : B16) : flat (l ++ [x]) = flat l ++ x.1 := by simp [flat]
theorem flat_length : ∀ l : List B16, (flat l).length = 16 * l.length
  | [] => rfl
  | x :: l => by
    have := flat_length l
    have e : flat (x :: l) = x.1 ++ flat l := by simp [flat]
    rw [e, List.length_append, this, x.2, List.length_cons]
    omega
set_option maxRecDepth 100000 in
theorem flat_told (k o : List UInt8) : ∀ c, flat (told k o c) = Ct.blks k o c
  | 0 => rfl
  | c + 1 => by rw [told, flat_snoc, flat_told k o c]; rfl

set_option maxRecDepth 100000 in
theorem Encrypt_blk (k o : List UInt8) (i : Nat) (w : World) (hk : k.length = 16) (ho : o.length = 12) :
    Calls Tryz.prog 208 #[.string ⟨⟨k⟩⟩, .string ⟨⟨o ++ Ct.num i⟩⟩] w fun e w' => e = .returned (.string ⟨⟨Ct.blk k o i⟩⟩) ∧ Below w.heap.size w w' :=
  Encrypt_yes k _ w hk (by rw [List.length_append, ho, Ct.num_length])

theorem undrewn {B : Nat} {a b : World} (h : Below B a.drew b) : Below B a b := ⟨h.os, h.tape, h.output, h.size, h.block⟩
theorem grown_of {a b : World} (h : Below a.heap.size a b) : a.grownBy b none := ⟨h.os, h.tape, h.output, h.size, fun k hk _ => h.block k hk⟩

/-- Two blocks lie as they lay. -/
def Kept2 (a b : Nat) (W W' : World) : Prop := W'.heap[a]? = W.heap[a]? ∧ W'.heap[b]? = W.heap[b]?
theorem Kept2.trans {a b : Nat} {A B C : World} (h : Kept2 a b A B) (k : Kept2 a b B C) : Kept2 a b A C := ⟨k.1.trans h.1, k.2.trans h.2⟩
theorem Kept2.putObj {a b n : Nat} (ha : a < n) (hb : b < n) (W : World) (l : Nat) (o o' : Obj) (hl : n ≤ l) (_ : W.heap[l]? = some o) (_ : o.isCells = false) (_ : o.isWalk = false) : Kept2 a b W (W.putObj l o') :=
  ⟨World.putObj_heap_other (by omega), World.putObj_heap_other (by omega)⟩

set_option maxRecDepth 100000 in
theorem blocks_any (k o : List UInt8) (c : Nat) (w : World) :
    Calls Tryz.prog 203 #[.string ⟨⟨k⟩⟩, .string ⟨⟨o⟩⟩, .int .i64 (c : Nat)] w fun e w' =>
      e = .returned (.func (.func 207) #[] #[.pointer (some ⟨w.heap.size + 2, 0, none⟩), .pointer (some ⟨w.heap.size, 0, none⟩), .pointer (some ⟨w.heap.size + 1, 0, none⟩)]) ∧
      w' = ((w.alloc (.cells #[.string ⟨⟨k⟩⟩] 9)).alloc (.cells #[.string ⟨⟨o⟩⟩] 9)).alloc (.cells #[.int .i64 (c : Nat)] 3) := by
  go_enter Tryz.func203, Tryz.ntmps203
  go_wp2
  go_ret
  exact ⟨rfl, rfl⟩

set_option maxRecDepth 100000 in
set_option maxHeartbeats 1000000 in
theorem blocks1_in (n : Nat) (hn : 1 ≤ n) (l Bc Bk Bo c : Nat) (k o : List UInt8) (hk : k.length = 16) (ho : o.length = 12) (hc : c ≤ 65536) (J Jx : List B16 → World → Prop) (N : Nat) (hJ : AbidesFrom N J)
    (hY : ∀ pre x W, J pre W → pre.length < c → YieldAt Fence.wide (n - 1) Tryz.prog l #[.string ⟨⟨x.1⟩⟩] W fun e W' =>
      (e = .returned (.bool true) ∧ J (pre ++ [x]) W' ∧ Kept2 Bk Bo W W') ∨ (e = .returned (.bool false) ∧ Jx (pre ++ [x]) W'))
    (W : World) (hBc : W.cell? ⟨Bc, 0, none⟩ = some (.int .i64 (c : Nat))) (hBk : Boxed W Bk 9 (.string ⟨⟨k⟩⟩)) (hBo : Boxed W Bo 9 (.string ⟨⟨o⟩⟩)) (h0 : J [] W) :
    CallsIn Fence.wide n Tryz.prog 207 #[.func (.yield l) #[] #[], .pointer (some ⟨Bc, 0, none⟩), .pointer (some ⟨Bk, 0, none⟩), .pointer (some ⟨Bo, 0, none⟩)] W fun e W' => (∃ v, e = .returned v) ∧
      ((∃ ys, ys = told k o c ∧ J ys W') ∨ (∃ pre, pre <+: told k o c ∧ Jx pre W')) := by
  refine callsIn_of_wp Tryz.func207 rfl trivial ?_ rfl
  simp only [Tryz.ntmps207, List.size_toArray, List.length_cons, List.length_nil, Nat.reduceAdd, Nat.reduceSub, Array.replicate_succ, Array.replicate_zero, List.push_toArray, List.append_toArray, List.nil_append, List.cons_append]
  gi_wp2
  gi_loopw [7] (fun i wr => ∃ j : Nat, j ≤ c ∧ i = .int .i64 (j : Nat) ∧ Boxed wr Bk 9 (.string ⟨⟨k⟩⟩) ∧ Boxed wr Bo 9 (.string ⟨⟨o⟩⟩) ∧ J (told k o j) wr) (fun i _ => c - (intOf i).toNat)
  case atStart => exact ⟨0, by omega, rfl, hBk, hBo, h0⟩
  case round =>
    obtain ⟨j, hj, rfl, hwk, hwo, hJs⟩ := hrel
    clear hBc hBk hBo h0
    by_cases hlt : j < c
    · have hck := hwk.cell
      have hco := hwo.cell
      have hlk := hwk.lt
      have hlo := hwo.lt
      have HL := Lib.hid (told_length k o j)
      have HP : Hid (told k o (j + 1) <+: told k o c) := by
        have := told_pre k o (j + 1) (c - (j + 1))
        rwa [show j + 1 + (c - (j + 1)) = c by omega] at this
      have hji : (j : Int) < (c : Int) := by omega
      have hj32 : (j : Int) < 4294967296 := by omega
      have hju : IntKind.u32.wrap (j : Int) = (j : Int) := by rw [IntKind.wrap_u32]; omega
      gi_wp2_with fail
      have HB : Hid (∀ w1, Below wr.drew.heap.size wr.drew w1 → Boxed w1 Bk 9 (.string ⟨⟨k⟩⟩) ∧ Boxed w1 Bo 9 (.string ⟨⟨o⟩⟩)) :=
        fun w1 h => ⟨hwk.kept (grown_of (undrewn h)) (by simp), hwo.kept (grown_of (undrewn h)) (by simp)⟩
      have HY : Hid (∀ w1 w2, Below wr.drew.heap.size wr.drew w1 → Below w1.heap.size w1 w2 → Boxed w2 Bk 9 (.string ⟨⟨k⟩⟩) ∧ Boxed w2 Bo 9 (.string ⟨⟨o⟩⟩) ∧ YieldAt Fence.wide (n - 1) Tryz.prog l #[.string ⟨⟨Ct.blk k o j⟩⟩] w2 fun e W' =>
          ∃ b, e = .returned (.bool b) ∧ ((b = true ∧ J (told k o (j + 1)) W' ∧ Kept2 Bk Bo w2 W') ∨ (b = false ∧ Jx (told k o (j + 1)) W'))) := by
        intro w1 w2 h1 h2
        have h3 := grown_of (a := wr) (b := w2) ((undrewn h1).trans (h2.mono h1.size))
        obtain ⟨fn, tmps, assign, body, hy, hR⟩ := hY (told k o j) (blkS k o j) w2 (hJ _ _ _ none hJs h3 (fun r e => by cases e)) (by rw [HL.out]; exact hlt)
        refine ⟨hwk.kept h3 (by simp), hwo.kept h3 (by simp), fn, tmps, assign, body, hy, hR.mono ?_⟩
        rintro e W' (⟨rfl, a, b⟩ | ⟨rfl, a⟩)
        · exact ⟨true, rfl, .inl ⟨rfl, a, b⟩⟩
        · exact ⟨false, rfl, .inr ⟨rfl, a⟩⟩
      clear hY hJ hJs
      have HN := Lib.hid fun W => number_any j W (by omega)
      have HE := Lib.hid fun W => Encrypt_blk k o j W hk ho
      have hnl := Ct.num_length j
      generalize Ct.num j = nj at *
      generalize Ct.blk k o j = x at *
      have hap : ByteArray.mk ⟨o⟩ ++ ByteArray.mk ⟨nj⟩ = ⟨⟨o ++ nj⟩⟩ := str_app _ _
      have hl1 : o.length + nj.length ≤ 9223372036854775807 := by omega
      have hl2 : ¬ 9223372036854775807 < o.length + nj.length := by omega
      gi_region_with (first
        | (refine ⟨trivial, ?_⟩; gi_at_call 209; refine (callsIn_wide.2 (HN.out _)).mono ?_; rintro _ w1 ⟨rfl, hb1⟩; obtain ⟨hx1, hx2⟩ := HB.out w1 hb1; have hy1 := hx1.cell; have hy2 := hx2.cell)
        | (refine ⟨trivial, ?_⟩; gi_at_call 208; refine (callsIn_wide.2 (HE.out _)).mono ?_; rintro _ w2 ⟨rfl, hb2⟩; obtain ⟨hz1, hz2, fn, tmps, assign, body, hy, hR⟩ := HY.out w1 w2 hb1 hb2)
        | (refine hR.mono ?_; rintro _ w3 ⟨b, rfl, hb3⟩))
      all_goals
        clear hy hR hb1 hb2 hl1 hl2 hap HN HE HY HB hy1 hy2 hx1 hx2 hck hco hwk hwo hnl hk ho
        clear hju hj32 HL hlk hlo
        rename_i K1 a1 K0 a0
        refine a0 _ _ ?_
        change Code.wpIn _ _ _ _ _ { tmps := #[.func (.yield l) #[] #[], .pointer (some ⟨Bc, 0, none⟩), .pointer (some ⟨Bk, 0, none⟩), .pointer (some ⟨Bo, 0, none⟩), undef, .int .i64 (j : Nat), .int .i64 (c : Nat), .int .i64 (j : Nat), .bool true, .int .i64 (j : Nat), .func (.yield l) #[] #[], .string ⟨⟨k⟩⟩, .string ⟨⟨o⟩⟩, .int .i64 (j : Nat), .int .u32 (j : Nat), .string ⟨⟨nj⟩⟩, .string ⟨⟨o ++ nj⟩⟩, .string ⟨⟨x⟩⟩, .bool b, .bool (!b), u20], defers := [] } w3
        rcases hb3 with ⟨rfl, hJ3, hk3⟩ | ⟨rfl, hJx3⟩
        · gi_wp2
          go_roundw
          case rel => exact ⟨j + 1, by omega, by go_num, hk3.1.trans hz1, hk3.2.trans hz2, hJ3⟩
          case measure => simp [intOf]; omega
        · gi_wp2
          refine bodyPost_ret (results_none rfl _ _ _) rfl ?_
          exact ⟨⟨_, rfl⟩, .inr ⟨told k o (j + 1), HP.out, hJx3⟩⟩
    · obtain rfl : j = c := by omega
      gi_wp2
      go_end0
      exact ⟨⟨_, rfl⟩, .inl ⟨told k o j, rfl, hJs⟩⟩

set_option maxRecDepth 100000 in
/-- What blocks hands back tells just the blocks. -/
theorem blocks_stops (n : Nat) (hn : 1 ≤ n) (Bc Bk Bo c : Nat) (k o : List UInt8) (hk : k.length = 16) (ho : o.length = 12) (hc : c ≤ 65536) (w : World)
    (hBc : Boxed w Bc 3 (.int .i64 (c : Nat))) (hBk : Boxed w Bk 9 (.string ⟨⟨k⟩⟩)) (hBo : Boxed w Bo 9 (.string ⟨⟨o⟩⟩)) :
    SeqStopsK Fence.wide n Tryz.prog 207 #[.pointer (some ⟨Bc, 0, none⟩), .pointer (some ⟨Bk, 0, none⟩), .pointer (some ⟨Bo, 0, none⟩)] (fun x : B16 => #[Value.string ⟨⟨x.1⟩⟩]) (Kept2 Bk Bo) (fun ys => ys = told k o c) (fun pre => pre <+: told k o c) c w := fun l J Jx W hW hJ _ hY h0 =>
  blocks1_in n hn l Bc Bk Bo c k o hk ho hc J Jx W.heap.size hJ hY W ((hW.cell (p := ⟨Bc, 0, none⟩) hBc.lt).trans hBc.cell) ((hW.block Bk hBk.lt).trans hBk) ((hW.block Bo hBo.lt).trans hBo) h0
end Go.Proofs.YticofjbngfjjlaaGreatDoor

