/- parts: a function to range over that calls itself; what a round must keep. -/
import Derived.Test.YtiidooponlbnmaaDoorTmMem
import Derived.RangeFuncBox
import Derived.RangeFuncCalls
import Derived.RangeFuncLeaves
import Derived.RangeFuncNested
import Derived.Shelf.Abstract
import Derived.OwnWalkIn
import Derived.TacticsInMore
import Derived.LoopNIn
import Derived.LoopIn
import Derived.Stop.RegionWithIn
namespace Go.Proofs.YtiidooponlbnmaaDoor.Te
open Go.RowKit Go.Shelf
open Tt
attribute [local go_sem] Oper.semAt_some

theorem yield_wide {P : Program} {m m' l : Nat} {args : Array Value} {W : World} {R : Ending → World → Prop} (h : YieldAt Fence.wide m P l args W R) : YieldAt Fence.wide m' P l args W R := by
  obtain ⟨fn, tmps, assign, body, hy, hR⟩ := h
  exact ⟨fn, tmps, assign, body, hy, hR.1, fun c cs _ => hR.2 c cs (room_wide _)⟩

/-! ### What a round keeps: all but the box B and the row that it holds. -/
def rowAt (W : World) (B : Nat) : Option Nat := (W.cell? ⟨B, 0, none⟩).bind Value.ownBlock
def Mine (B : Nat) (W : World) (b : Nat) : Prop := b = B ∨ rowAt W B = some b
def Va (B : Nat) (W : World) : Prop := B < W.heap.size ∧ ∀ b, rowAt W B = some b → b < W.heap.size
structure Kps (n0 B : Nat) (W W' : World) : Prop where
  below : Below n0 W W'
  keep : ∀ b o, W.heap[b]? = some o → o.isCells = true → ¬ Mine B W b → W'.heap[b]? = some o
  mine : ∀ b, b < W.heap.size → Mine B W' b → Mine B W b
  va : Va B W → Va B W'

theorem some_lt {W : World} {b : Nat} {o : Obj} (h : W.heap[b]? = some o) : b < W.heap.size := (Array.getElem?_eq_some_iff.1 h).1
theorem Kps.refl (n0 B : Nat) (W : World) : Kps n0 B W W := ⟨Below.refl _ _, fun _ _ h _ _ => h, fun _ _ h => h, fun h => h⟩
theorem Kps.trans {n0 B : Nat} {A C D : World} (h : Kps n0 B A C) (k : Kps n0 B C D) : Kps n0 B A D :=
  ⟨h.below.trans k.below, fun b o hb ho hm => k.keep b o (h.keep b o hb ho hm) ho (fun hc => hm (h.mine b (some_lt hb) hc)),
   fun b hb hm => h.mine b hb (k.mine b (Nat.lt_of_lt_of_le hb h.below.size) hm), fun hv => k.va (h.va hv)⟩
theorem rowAt_eq {W W' : World} {B : Nat} (h : W'.heap[B]? = W.heap[B]?) : rowAt W' B = rowAt W B := by
  unfold rowAt
  rw [World.cell?_of_block (a := ⟨B, 0, none⟩) h]
theorem Kps.of_below {n0 B : Nat} {W W' : World} (h : Below W.heap.size W W') (hB : B < W.heap.size) (hn : n0 ≤ W.heap.size) : Kps n0 B W W' := by
  have hr := rowAt_eq (h.block B hB)
  refine ⟨h.mono hn, fun b o hb _ _ => (h.block b (some_lt hb)).trans hb, fun b _ hm => ?_, fun hv => ⟨Nat.lt_of_lt_of_le hB h.size, fun b hb => ?_⟩⟩
  · rw [Mine, hr] at hm; exact hm
  · rw [hr] at hb; exact Nat.lt_of_lt_of_le (hv.2 b hb) h.size
theorem Kps.putObj {n0 B n : Nat} (hB : B < n) (hn : n0 ≤ n) (W : World) (l : Nat) (o o' : Obj) (hl : n ≤ l) (h : W.heap[l]? = some o) (ho : o.isCells = false) (_ : o.isWalk = false) : Kps n0 B W (W.putObj l o') := by
  have hr : rowAt (W.putObj l o') B = rowAt W B := rowAt_eq (World.putObj_heap_other (by omega))
  have hlt := some_lt h
  have hsz : (W.putObj l o').heap.size = W.heap.size := by simp
  refine ⟨(Below.refl n0 W).grown (grownBy_putObj' W l o') (by omega) (fun k e => by cases e; omega), fun b q hb hq _ => ?_, fun b _ hm => ?_, fun hv => ⟨by rw [hsz]; omega, fun b hb => ?_⟩⟩
  · rw [World.putObj_heap_other (fun e => by subst e; rw [h] at hb; cases hb; rw [ho] at hq; cases hq)]; exact hb
  · rw [Mine, hr] at hm; exact hm
  · rw [hr] at hb; rw [hsz]; exact hv.2 b hb
theorem Kps.boxed {n0 B : Nat} {W W' : World} {b : Nat} {t : TypeId} {v : Value} (h : Kps n0 B W W') (hb : Boxed W b t v) (hm : ¬ Mine B W b) : Boxed W' b t v ∧ ¬ Mine B W' b :=
  ⟨h.keep b _ hb rfl hm, fun hc => hm (h.mine b hb.lt hc)⟩
theorem not_mine {B : Nat} {W W' : World} {b : Nat} (hv : Va B W) (hb : Below W.heap.size W W') (hlt : W.heap.size ≤ b) : ¬ Mine B W' b := by
  rintro (rfl | h)
  · have := hv.1; omega
  · rw [rowAt_eq (hb.block B hv.1)] at h
    have := hv.2 b h
    omega

/-- What is told: in how many others, which term, its value. -/
abbrev El (w0 : World) (S : Nat → Prop) := { p : Nat × Tm × Value // Rep w0 S p.2.1 p.2.2 ∧ p.1 ≤ 262144 }
def El.pr {w0 : World} {S : Nat → Prop} (p : El w0 S) : Nat × Tm := (p.1.1, p.1.2.1)
def El.enc {w0 : World} {S : Nat → Prop} (p : El w0 S) : Array Value := #[.int .i64 (p.1.1 : Nat), p.1.2.2]

section
variable (w0 : World) (S : Nat → Prop) (B : Nat)
/-- What a call of yield answers. -/
def YieldsSaid (l N : Nat) (J Jx : List (El w0 S) → World → Prop) : Prop :=
  ∀ pre x W1, J pre W1 → pre.length < N → YieldAt Fence.wide 0 Tryd.prog l x.enc W1 fun e W' =>
    (e = .returned (.bool true) ∧ J (pre ++ [x]) W' ∧ Kps w0.heap.size B W1 W') ∨ (e = .returned (.bool false) ∧ Jx (pre ++ [x]) W')
def TellSaid (x : Tm) : Prop := ∀ (n d : Nat) (di : Int) (l : Nat) (v : Value) (J Jx : List (El w0 S) → World → Prop) (N Z : Nat) (pre : List (El w0 S)) (W : World),
  1 ≤ n → di = d → d + sz x ≤ 262144 → Rep w0 S x v → Below w0.heap.size w0 W → Va B W → AbidesFrom Z J → YieldsSaid w0 S B l N J Jx → pre.length + sz x ≤ N → J pre W →
  CallsIn Fence.wide n Tryd.prog 76 #[.int .i64 di, v, .func (.yield l) #[] #[]] W fun e W' => ∃ b, e = .returned (.bool b) ∧
    ((b = true ∧ ∃ ys, ys.map El.pr = parts d x ∧ J (pre ++ ys) W' ∧ Kps w0.heap.size B W W') ∨ (b = false ∧ ∃ ys, ys.map El.pr <+: parts d x ∧ Jx (pre ++ ys) W'))
end

section
variable {w0 : World} {S : Nat → Prop} {B : Nat}
set_option maxRecDepth 100000 in
set_option maxHeartbeats 1000000 in
theorem tell1_any (x : Tm) (hx : TellSaid w0 S B x) (n d : Nat) (di : Int) (l bi by' : Nat) (v : Value) (J Jx : List (El w0 S) → World → Prop) (N Z : Nat) (pre : List (El w0 S)) (W : World)
    (hn : 1 ≤ n) (hdi : di = d) (hd : d + 1 + sz x ≤ 262144) (hr : Rep w0 S x v) (hb0 : Below w0.heap.size w0 W) (hv : Va B W) (hJ : AbidesFrom Z J) (hY : YieldsSaid w0 S B l N J Jx) (hl : pre.length + sz x ≤ N) (h0 : J pre W)
    (hi : Boxed W bi 3 (.int .i64 di)) (hy : Boxed W by' 64 (.func (.yield l) #[] #[])) :
    CallsIn Fence.wide n Tryd.prog 88 #[v, .pointer (some ⟨bi, 0, none⟩), .pointer (some ⟨by', 0, none⟩)] W fun e W' => ∃ b, e = .returned (.bool b) ∧
    ((b = false ∧ ∃ ys, ys.map El.pr = parts (d + 1) x ∧ J (pre ++ ys) W' ∧ Kps w0.heap.size B W W') ∨ (b = true ∧ ∃ ys, ys.map El.pr <+: parts (d + 1) x ∧ Jx (pre ++ ys) W')) := by
  obtain ⟨k, s, m, q⟩ := x
  have hr0 := hr
  obtain ⟨A, ca, rfl, hm, hrow⟩ := rep_mk.1 hr
  have HB : Hid (Below W.heap.size W (W.alloc (.cells #[.int .i64 k, .string ⟨⟨s⟩⟩, .int .i64 m, .slice A q.length ca] 33))) := (Below.refl _ _).alloc (Nat.le_refl _) _
  have hK := Kps.of_below HB.out hv.1 (hb0.size)
  have hi1 := (hi.alloc (.cells #[.int .i64 k, .string ⟨⟨s⟩⟩, .int .i64 m, .slice A q.length ca] 33)).cell
  have hy1 := (hy.alloc (.cells #[.int .i64 k, .string ⟨⟨s⟩⟩, .int .i64 m, .slice A q.length ca] 33)).cell
  have hJ1 : J pre (W.alloc (.cells #[.int .i64 k, .string ⟨⟨s⟩⟩, .int .i64 m, .slice A q.length ca] 33)) := hJ pre W _ none h0 (World.grownBy_alloc W _ none) (fun r e => by cases e)
  have hcall := Lib.hid (hx n (d + 1) (di + 1) l _ J Jx N Z pre _ hn (by omega) hd hr0 (hb0.trans hK.below) (hK.va hv) hJ hY hl hJ1)
  have hdl : di ≤ 262144 ∧ 0 ≤ di := by omega
  have hbi := hi.lt
  have hby := hy.lt
  have HK := Lib.hid hK
  clear hr0 hr hm hrow hb0 hv hJ hY hl h0 hi hy hJ1 hx hdi hd hK
  refine callsIn_of_wp Tryd.func88 rfl trivial ?_ rfl
  simp only [Tryd.ntmps88, List.size_toArray, List.length_cons, List.length_nil, Nat.reduceAdd, Nat.reduceSub, Array.replicate_succ, Array.replicate_zero, List.push_toArray, List.append_toArray, List.nil_append, List.cons_append]
  gi_wp2_with (refine ⟨trivial, ?_⟩; gi_at_call 76; refine (callsIn_wide.2 (callsIn_wide.1 hcall.out)).mono ?_; rintro _ w1 ⟨b, rfl, hb⟩)
  refine bodyPost_ret (results_tmp rfl _ _ _) rfl ?_
  refine ⟨!b, rfl, ?_⟩
  rcases hb with ⟨rfl, ys, h1, h2, h3⟩ | ⟨rfl, ys, h1, h2⟩
  · exact .inl ⟨rfl, ys, h1, h2, HK.out.trans h3⟩
  · exact .inr ⟨rfl, ys, h1, h2⟩

set_option maxRecDepth 100000 in
set_option maxHeartbeats 1000000 in
theorem tellIndex_any (q : List Tm) (ih : ∀ x ∈ q, TellSaid w0 S B x) (n d : Nat) (di : Int) (l bi by' : Nat) (A : Option Addr) (ca : Nat) (J Jx : List (El w0 S) → World → Prop) (N Z : Nat) (pre : List (El w0 S)) (W : World)
    (hn : 1 ≤ n) (hdi : di = d) (hd : d + 1 + szs q ≤ 262144) (hS : ∀ b, S b → b < w0.heap.size) (hr : TRow w0 S q A) (hb0 : Below w0.heap.size w0 W) (hv : Va B W) (hJ : AbidesFrom Z J) (hY : YieldsSaid w0 S B l N J Jx) (hl : pre.length + szs q ≤ N) (h0 : J pre W)
    (hi : Boxed W bi 3 (.int .i64 di)) (hy : Boxed W by' 64 (.func (.yield l) #[] #[])) (hmi : ¬ Mine B W bi) (hmy : ¬ Mine B W by') :
    CallsIn Fence.wide n Tryd.prog 62 #[.slice A q.length ca, .func (.func 88) #[] #[.pointer (some ⟨bi, 0, none⟩), .pointer (some ⟨by', 0, none⟩)]] W fun e W' => ∃ r : Int, e = .returned (.int .i64 r) ∧
    ((r = -1 ∧ ∃ ys, ys.map El.pr = partss (d + 1) q ∧ J (pre ++ ys) W' ∧ Kps w0.heap.size B W W') ∨ (0 ≤ r ∧ ∃ ys, ys.map El.pr <+: partss (d + 1) q ∧ Jx (pre ++ ys) W')) := by
  have hql := szs_len q
  have HIH := Lib.hid ih
  have HR := Lib.hid hr
  have HS := Lib.hid hS
  have HI := Lib.hid hi
  have HY := Lib.hid hy
  have HMI := Lib.hid hmi
  have HMY := Lib.hid hmy
  have HD := Lib.hid hdi
  have HV := Lib.hid hv
  have HB0 := Lib.hid hb0
  have HJ := Lib.hid hJ
  have HYS := Lib.hid hY
  clear ih hr hS hi hy hmi hmy hdi hv hb0 hJ hY
  refine callsIn_of_wp Tryd.func62 rfl trivial ?_ rfl
  simp only [Tryd.ntmps62, List.size_toArray, List.length_cons, List.length_nil, Nat.reduceAdd, Nat.reduceSub, Array.replicate_succ, Array.replicate_zero, List.push_toArray, List.append_toArray, List.nil_append, List.cons_append]
  gi_wp2
  gi_loopw [8] (fun iv wr => ∃ i : Nat, i ≤ q.length ∧ iv = .int .i64 (i : Nat) ∧ Hid (∃ ys, ys.map El.pr = partss (d + 1) (q.take i) ∧ J (pre ++ ys) wr ∧ Kps w0.heap.size B W wr)) (fun iv _ => q.length - (intOf iv).toNat)
  case atStart => exact ⟨0, by omega, rfl, Lib.hid ⟨[], by simp [partss], by simpa using h0, Kps.refl _ _ _⟩⟩
  case round =>
    obtain ⟨i, hi, rfl, HI2⟩ := hrel
    obtain ⟨ys, hys, hJs, hKs⟩ := HI2.out
    by_cases hlt : i < q.length
    · obtain ⟨b, o, k, s, m, p, C, cb, rfl, hSb, hx, d0, d1, d2, d3, hrep⟩ := trow_get HR.out (Below.refl _ _) HS.out hlt
      have hbw := HB0.out.trans hKs.below
      have hbS := HS.out b hSb
      have c0 := (hbw.cell (p := ⟨b, o + i * 4, none⟩) hbS).trans d0
      have c1 := (hbw.cell (p := ⟨b, o + i * 4 + 1, none⟩) hbS).trans d1
      have c2 := (hbw.cell (p := ⟨b, o + i * 4 + 2, none⟩) hbS).trans d2
      have c3 := (hbw.cell (p := ⟨b, o + i * 4 + 3, none⟩) hbS).trans d3
      have hil : (i : Int) < (q.length : Int) := by omega
      have hmem : q[i] ∈ q := List.getElem_mem hlt
      have hszm := szs_mem q _ hmem
      have hylen : ys.length = szs (q.take i) := by rw [← partss_len (d + 1), ← hys]; simp
      have hts := szs_take_succ q i hlt
      have htl := szs_take_le q (i + 1)
      have hpt := partss_take_succ (d + 1) q i hlt
      have hih := HIH.out _ hmem
      have hpfx : partss (d + 1) (q.take (i + 1)) <+: partss (d + 1) q := by
        have := partss_app (d + 1) (q.take (i + 1)) (q.drop (i + 1))
        rw [List.take_append_drop] at this
        exact ⟨_, this.symm⟩
      rw [hx] at hih hszm hts hpt
      obtain ⟨hi1, hmi1⟩ := hKs.boxed HI.out HMI.out
      obtain ⟨hy1, hmy1⟩ := hKs.boxed HY.out HMY.out
      have hcall := Lib.hid (tell1_any (.mk k s m p) hih n d di l bi by' _ J Jx N Z (pre ++ ys) wr hn HD.out (by omega) hrep hbw (hKs.va HV.out) HJ.out HYS.out (by rw [List.length_append]; omega) hJs hi1 hy1)
      have HPT := Lib.hid hpt
      have HPF := Lib.hid hpfx
      have HYE := Lib.hid hys
      have HKS := Lib.hid hKs
      clear hpt hpfx hys hKs hih hrep d0 d1 d2 d3 hbw hi1 hmi1 hy1 hmy1 hJs hmem hx hts htl hszm hylen HI2 h0
      gi_wp2_with (refine ⟨trivial, ?_⟩; gi_at_call 88; refine (callsIn_wide.2 (callsIn_wide.1 hcall.out)).mono ?_; rintro _ w1 ⟨b1, rfl, hb1⟩)
      · have hbt : b1 = true := by assumption
        rcases hb1 with ⟨hb, -⟩ | ⟨-, zs, e1, e2⟩
        · rw [hb] at hbt; cases hbt
        · refine bodyPost_ret (results_tmp rfl _ _ _) rfl ?_
          refine ⟨i, rfl, .inr ⟨by omega, ys ++ zs, ?_, by rw [← List.append_assoc]; exact e2⟩⟩
          obtain ⟨t1, ht1⟩ := e1
          obtain ⟨t2, ht2⟩ := HPF.out
          exact ⟨t1 ++ t2, by rw [← ht2, HPT.out, ← ht1, List.map_append, HYE.out]; simp⟩
      · have hbt : b1 = false := by first | assumption | (simpa using (by assumption : ¬ b1 = true))
        rcases hb1 with ⟨-, zs, e1, e2, e3⟩ | ⟨hb, -⟩
        · go_roundw
          case rel => exact ⟨i + 1, by omega, by go_num, Lib.hid ⟨ys ++ zs, by rw [HPT.out, List.map_append, HYE.out, e1], by rw [← List.append_assoc]; exact e2, HKS.out.trans e3⟩⟩
          case measure => simp [intOf]; omega
        · rw [hb] at hbt; cases hbt
    · have hie : q.take i = q := List.take_of_length_le (by omega)
      rw [hie] at hys
      clear HI2
      gi_wp2
      refine bodyPost_ret (results_tmp rfl _ _ _) rfl ?_
      exact ⟨-1, rfl, .inl ⟨rfl, ys, hys, hJs, hKs⟩⟩

set_option maxRecDepth 100000 in
set_option maxHeartbeats 1000000 in
theorem tellSome_any (q : List Tm) (ih : ∀ x ∈ q, TellSaid w0 S B x) (n d : Nat) (di : Int) (l bi by' : Nat) (A : Option Addr) (ca : Nat) (J Jx : List (El w0 S) → World → Prop) (N Z : Nat) (pre : List (El w0 S)) (W : World)
    (hn : 1 ≤ n) (hdi : di = d) (hd : d + 1 + szs q ≤ 262144) (hS : ∀ b, S b → b < w0.heap.size) (hr : TRow w0 S q A) (hb0 : Below w0.heap.size w0 W) (hv : Va B W) (hJ : AbidesFrom Z J) (hY : YieldsSaid w0 S B l N J Jx) (hl : pre.length + szs q ≤ N) (h0 : J pre W)
    (hi : Boxed W bi 3 (.int .i64 di)) (hy : Boxed W by' 64 (.func (.yield l) #[] #[])) (hmi : ¬ Mine B W bi) (hmy : ¬ Mine B W by') :
    CallsIn Fence.wide n Tryd.prog 54 #[.slice A q.length ca, .func (.func 88) #[] #[.pointer (some ⟨bi, 0, none⟩), .pointer (some ⟨by', 0, none⟩)]] W fun e W' => ∃ b, e = .returned (.bool b) ∧
    ((b = false ∧ ∃ ys, ys.map El.pr = partss (d + 1) q ∧ J (pre ++ ys) W' ∧ Kps w0.heap.size B W W') ∨ (b = true ∧ ∃ ys, ys.map El.pr <+: partss (d + 1) q ∧ Jx (pre ++ ys) W')) := by
  have hcall := Lib.hid (tellIndex_any q ih n d di l bi by' A ca J Jx N Z pre W hn hdi hd hS hr hb0 hv hJ hY hl h0 hi hy hmi hmy)
  clear ih hdi hd hS hr hb0 hv hJ hY hl h0 hi hy hmi hmy
  refine callsIn_of_wp Tryd.func54 rfl trivial ?_ rfl
  simp only [Tryd.ntmps54, List.size_toArray, List.length_cons, List.length_nil, Nat.reduceAdd, Nat.reduceSub, Array.replicate_succ, Array.replicate_zero, List.push_toArray, List.append_toArray, List.nil_append, List.cons_append]
  gi_wp2_with (refine ⟨trivial, ?_⟩; gi_at_call 62; refine (callsIn_wide.2 (callsIn_wide.1 hcall.out)).mono ?_; rintro _ w1 ⟨r, rfl, hr⟩)
  refine bodyPost_ret (results_tmp rfl _ _ _) rfl ?_
  refine ⟨decide (0 ≤ r), rfl, ?_⟩
  rcases hr with ⟨rfl, hx⟩ | ⟨hr, hx⟩
  · exact .inl ⟨rfl, hx⟩
  · exact .inr ⟨by simpa using hr, hx⟩

set_option maxRecDepth 100000 in
set_option maxHeartbeats 1000000 in
theorem tell_any (hS : ∀ b, S b → b < w0.heap.size) : ∀ x, TellSaid w0 S B x := Tm.ind (by
  intro k s m q ih n d di l v J Jx N Z pre W hn hdi hd hr hb0 hv hJ hY hl h0
  have hr0 := hr
  obtain ⟨A, ca, rfl, hm, hrow⟩ := rep_mk.1 hr
  rw [sz] at hd hl
  obtain ⟨W3, hW3⟩ : ∃ W3, W3 = ((W.alloc (.cells #[.int .i64 di] 3)).alloc (.cells #[.int .i64 k, .string ⟨⟨s⟩⟩, .int .i64 m, .slice A q.length ca] 33)).alloc (.cells #[.func (.yield l) #[] #[]] 64) := ⟨_, rfl⟩
  have hB3 : Below W.heap.size W W3 := by rw [hW3]; exact (((Below.refl _ _).alloc (Nat.le_refl _) _).alloc (by simp) _).alloc (by simp; omega) _
  have hK3 := Kps.of_below hB3 hv.1 (hb0.size)
  have bI : Boxed W3 W.heap.size 3 (.int .i64 di) := by rw [hW3]; exact ((Boxed.new W 3 _).alloc _).alloc _
  have bT : W3.heap[W.heap.size + 1]? = some (.cells #[.int .i64 k, .string ⟨⟨s⟩⟩, .int .i64 m, .slice A q.length ca] 33 (0, 0)) := by
    rw [hW3, heap_alloc_old _ _ (by simp)]
    have := heap_alloc_new (W.alloc (.cells #[.int .i64 di] 3)) (.cells #[.int .i64 k, .string ⟨⟨s⟩⟩, .int .i64 m, .slice A q.length ca] 33)
    rwa [World.size_alloc] at this
  have bY : Boxed W3 (W.heap.size + 2) 64 (.func (.yield l) #[] #[]) := by
    have := Boxed.new ((W.alloc (.cells #[.int .i64 di] 3)).alloc (.cells #[.int .i64 k, .string ⟨⟨s⟩⟩, .int .i64 m, .slice A q.length ca] 33)) 64 (.func (.yield l) #[] #[])
    rw [World.size_alloc, World.size_alloc] at this
    rw [hW3]; exact this
  have nI : ¬ Mine B W3 W.heap.size := not_mine hv hB3 (Nat.le_refl _)
  have nT : ¬ Mine B W3 (W.heap.size + 1) := not_mine hv hB3 (by omega)
  have nY : ¬ Mine B W3 (W.heap.size + 2) := not_mine hv hB3 (by omega)
  have hJ3 : J pre W3 := hJ pre W W3 none h0 (by rw [hW3]; exact (((World.grownBy_alloc W _ none).trans (World.grownBy_alloc _ _ none)).trans (World.grownBy_alloc _ _ none))) (fun r e => by cases e)
  have hrow3 := hrow
  have hnI := some_lt bI
  obtain ⟨E, hEp, hEe⟩ : ∃ E : El w0 S, E.pr = (d, .mk k s m q) ∧ E.enc = #[.int .i64 di, .agg #[.int .i64 k, .string ⟨⟨s⟩⟩, .int .i64 m, .slice A q.length ca]] :=
    ⟨⟨(d, .mk k s m q, .agg #[.int .i64 k, .string ⟨⟨s⟩⟩, .int .i64 m, .slice A q.length ca]), hr0, by show d ≤ 262144; omega⟩, rfl, by rw [hdi]; rfl⟩
  obtain ⟨fn, tmps, assign, body, hy, hR⟩ := yield_wide (m' := n - 1) (hY pre E W3 hJ3 (by omega))
  rw [hEe] at hy
  have HCALL : Hid (∀ w1, J (pre ++ [E]) w1 → Kps w0.heap.size B W3 w1 → w1.heap[W.heap.size + 1]? = some (.cells #[.int .i64 k, .string ⟨⟨s⟩⟩, .int .i64 m, .slice A q.length ca] 33 (0, 0)) ∧ _) :=
    fun w1 h1 h2 => ⟨h2.keep _ _ bT rfl nT, tellSome_any q ih n d di l W.heap.size (W.heap.size + 2) A ca J Jx N Z _ w1 hn hdi (by omega) hS hrow3 ((hb0.trans hK3.below).trans h2.below) (h2.va (hK3.va hv)) hJ hY (by rw [List.length_append, List.length_singleton]; omega) h1 (h2.boxed bI nI).1 (h2.boxed bY nY).1 (h2.boxed bI nI).2 (h2.boxed bY nY).2⟩
  have HR := Lib.hid hR
  have hdl : di ≤ 262144 ∧ 0 ≤ di := by omega
  have cI := bI.cell
  have cY := bY.cell
  obtain ⟨c0, c1, c2, c3⟩ := cell4 bT
  have HW3 := Lib.hid hW3
  have HK3 := Lib.hid hK3
  clear ih hr hr0 hm hrow hrow3 hb0 hv hJ hY hl h0 hd hdi hB3 hK3 bI bT bY nI nT nY hJ3 hnI hEe hR
  refine callsIn_of_wp Tryd.func76 rfl trivial ?_ rfl
  simp only [Tryd.ntmps76, List.size_toArray, List.length_cons, List.length_nil, Nat.reduceAdd, Nat.reduceSub, Array.replicate_succ, Array.replicate_zero, List.push_toArray, List.append_toArray, List.nil_append, List.cons_append]
  subst hW3
  gi_wp2_with fail
  refine HR.out.mono ?_
  rintro _ w1 (⟨rfl, h1, h2⟩ | ⟨rfl, h1⟩)
  · obtain ⟨bT, hc⟩ := HCALL.out w1 h1 h2
    have hcall := Lib.hid hc
    have e0 := (cell4 bT).2.2.2
    have hlt := some_lt bT
    have H2 := Lib.hid h2
    clear hc h1 h2 HCALL HR hy cI cY c0 c1 c2 c3
    gi_wp2_with (refine ⟨trivial, ?_⟩; gi_at_call 54; refine (callsIn_wide.2 (callsIn_wide.1 hcall.out)).mono ?_; rintro _ w2 ⟨b, rfl, hb⟩)
    refine bodyPost_ret (results_tmp rfl _ _ _) rfl ?_
    refine ⟨!b, rfl, ?_⟩
    rcases hb with ⟨rfl, ys, h1, h2, h3⟩ | ⟨rfl, ys, h1, h2⟩
    · exact .inl ⟨rfl, E :: ys, by rw [List.map_cons, hEp, h1, parts], by simpa using h2, (HK3.out.trans H2.out).trans h3⟩
    · refine .inr ⟨rfl, E :: ys, ?_, by simpa using h2⟩
      obtain ⟨t, ht⟩ := h1
      exact ⟨t, by rw [List.map_cons, hEp, parts, ← ht]; rfl⟩
  · clear HCALL HR hy cI cY c0 c1 c2 c3
    gi_wp2
    refine ⟨trivial, ?_⟩
    gi_wp2
    refine bodyPost_ret (results_tmp rfl _ _ _) rfl ?_
    exact ⟨false, rfl, .inr ⟨rfl, [E], ⟨partss (d + 1) q, by rw [List.map_cons, hEp, parts]; rfl⟩, h1⟩⟩)

/-- The iterator that parts makes tells a term's parts. -/
theorem parts_stops (x : Tm) (v : Value) (b : Nat) (w : World) (n : Nat) (hn : 1 ≤ n) (hS : ∀ b, S b → b < w0.heap.size) (hsz : sz x ≤ 262144) (hr : Rep w0 S x v) (hb0 : Below w0.heap.size w0 w) (hv : Va B w)
    (hx : ∀ k s m q, x = .mk k s m q → ∃ A ca, v = .agg #[.int .i64 k, .string ⟨⟨s⟩⟩, .int .i64 m, .slice A q.length ca] ∧ w.heap[b]? = some (.cells #[.int .i64 k, .string ⟨⟨s⟩⟩, .int .i64 m, .slice A q.length ca] 33 (0, 0))) :
    SeqStopsK Fence.wide n Tryd.prog 75 #[.pointer (some ⟨b, 0, none⟩)] (El.enc (w0 := w0) (S := S)) (Kps w0.heap.size B) (fun ys => ys.map El.pr = parts 0 x) (fun ys => ys.map El.pr <+: parts 0 x) (sz x) w := by
  intro l J Jx W hW hJ hJx hY h0
  obtain ⟨k, s, m, q⟩ := x
  obtain ⟨A, ca, rfl, hb⟩ := hx k s m q rfl
  have hbW := (hW.block b (some_lt hb)).trans hb
  obtain ⟨c0, c1, c2, c3⟩ := cell4 hbW
  have hvW := (Kps.of_below (n0 := w0.heap.size) hW hv.1 hb0.size).va hv
  have hcall := Lib.hid (tell_any hS (.mk k s m q) n 0 0 l _ J Jx _ W.heap.size [] W hn rfl (by omega) hr (hb0.trans (hW.mono hb0.size)) hvW hJ (fun pre x W1 h1 h2 => yield_wide (hY pre x W1 h1 h2)) (by simp) h0)
  clear hY hJ hJx h0 hvW hr hv hb0 hx hW hb
  refine callsIn_of_wp Tryd.func75 rfl trivial ?_ rfl
  simp only [Tryd.ntmps75, List.size_toArray, List.length_cons, List.length_nil, Nat.reduceAdd, Nat.reduceSub, Array.replicate_succ, Array.replicate_zero, List.push_toArray, List.append_toArray, List.nil_append, List.cons_append]
  gi_wp2_with (refine ⟨trivial, ?_⟩; gi_at_call 76; refine (callsIn_wide.2 (callsIn_wide.1 hcall.out)).mono ?_; rintro _ w2 ⟨b2, rfl, hb2⟩)
  go_end0
  refine ⟨⟨_, rfl⟩, ?_⟩
  rcases hb2 with ⟨-, ys, h1, h2, -⟩ | ⟨-, ys, h1, h2⟩
  · exact .inl ⟨ys, h1, h2⟩
  · exact .inr ⟨ys, h1, h2⟩

set_option maxRecDepth 100000 in
theorem partsf_any (k : Int) (s : List UInt8) (m : Int) (A : Option Addr) (c ca : Nat) (w : World) :
    Calls Tryd.prog 59 #[.agg #[.int .i64 k, .string ⟨⟨s⟩⟩, .int .i64 m, .slice A c ca]] w fun e w' =>
      e = .returned (.func (.func 75) #[] #[.pointer (some ⟨w.heap.size, 0, none⟩)]) ∧ w' = w.alloc (.cells #[.int .i64 k, .string ⟨⟨s⟩⟩, .int .i64 m, .slice A c ca] 33) := by
  go_enter Tryd.func59, Tryd.ntmps59
  go_wp2
  go_ret
  exact ⟨rfl, rfl⟩
end
end Go.Proofs.YtiidooponlbnmaaDoor.Te
