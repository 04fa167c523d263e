/- Of, Num, Key, List, Seal, Sum. -/
import Derived.Test.YtiidooponlbnmaaDoorTmMem
import Derived.Laws.CopyRow
import Derived.Laws.CopyOwn
import Derived.Laws.MakeOwn
import Derived.Lib.SlBuf
namespace Go.Proofs.YtiidooponlbnmaaDoor.Te
open Go.RowKit
open Tt

/-- The blocks that there are. -/
abbrev Lo (w : World) : Nat → Prop := fun b => b < w.heap.size

theorem infoT : (Tryd.prog.info? 33).map (fun i => (i.zero, i.size, i.bytes)) = some (some (.agg #[.int .i64 0, .string ⟨#[]⟩, .int .i64 0, .slice none 0 0]), 4, 56) := by kernel_rfl
theorem infoT4 : (Tryd.prog.info? 33).map (·.size) = some 4 := by kernel_rfl

theorem results_term {fn : Func} {p : Tmp} (h : fn.results = #[.cell p 33]) (tmps : Array Value) (w : World) (g : Nat) (t : TypeId) (v0 v1 v2 v3 : Value) (fr : Nat × Nat)
    (hp : tmps.getD p undef = .pointer (some ⟨g, 0, none⟩)) (hg : w.heap[g]? = some (.cells #[v0, v1, v2, v3] t fr)) :
    (results fn tmps).run Tryd.prog w = .ok (.agg #[v0, v1, v2, v3]) w :=
  results_cell_row h tmps w g t _ fr _ hp hg Tryd.underlying33 rfl infoT4

theorem set4 {w : World} {g : Nat} {v0 v1 v2 v3 : Value} {t : TypeId} (h : w.heap[g]? = some (.cells #[v0, v1, v2, v3] t (0, 0))) (u0 u1 u2 u3 : Value) :
    (((w.setCell ⟨g, 0, none⟩ u0).setCell ⟨g, 1, none⟩ u1).setCell ⟨g, 2, none⟩ u2).setCell ⟨g, 3, none⟩ u3 = w.setRow g #[u0, u1, u2, u3] := by
  have e0 := setCell_eq_setRow w g 0 _ t (0, 0) u0 h
  have h0 := setRow_heap w g _ #[u0, v1, v2, v3] t (0, 0) h
  have e1 := setCell_eq_setRow (w.setRow g #[u0, v1, v2, v3]) g 1 _ t (0, 0) u1 h0
  have h1 := setRow_heap w g _ #[u0, u1, v2, v3] t (0, 0) h
  have e2 := setCell_eq_setRow (w.setRow g #[u0, u1, v2, v3]) g 2 _ t (0, 0) u2 h1
  have h2 := setRow_heap w g _ #[u0, u1, u2, v3] t (0, 0) h
  have e3 := setCell_eq_setRow (w.setRow g #[u0, u1, u2, v3]) g 3 _ t (0, 0) u3 h2
  rw [e0]
  show (((w.setRow g #[u0, v1, v2, v3]).setCell _ _).setCell _ _).setCell _ _ = _
  rw [e1, setRow_setRow]
  show ((w.setRow g #[u0, u1, v2, v3]).setCell _ _).setCell _ _ = _
  rw [e2, setRow_setRow]
  show (w.setRow g #[u0, u1, u2, v3]).setCell _ _ = _
  rw [e3, setRow_setRow]
  rfl
theorem below_setRow4 {B g : Nat} {w0 w : World} (hb : Below B w0 w) (hBg : B ≤ g) (cs : Array Value) : Below B w0 (w.setRow g cs) :=
  hb.trans ⟨rfl, rfl, rfl, by simp [World.setRow], fun k hk => setRow_other w g k cs (by omega)⟩

section
variable {P : Program}
/-- copy, whatever the size of an element. -/
theorem run_copy_rows (w : World) (dT sT ty elem : TypeId) (g o dLen dCap : Nat) (a : Addr) (sLen sCap size : Nat) (cur : Array Value) (t : TypeId) (cs : List Value)
    (hu : P.underlying dT = some (.slice elem)) (hs : (P.info? elem).map (·.size) = some size)
    (hg : w.heap[g]? = some (.cells cur t (0, 0))) (hn : cs.length = Nat.min sLen dLen * size)
    (hsrc : ∀ j v, cs[j]? = some v → w.cell? (a.add j) = some v) (hfit : o + cs.length ≤ cur.size) (h1 : ∀ v ∈ cs, v.oneCell' = true) :
    (Builtin.copy_ #[dT, sT] ty #[.slice (some ⟨g, o, none⟩) dLen dCap, .slice (some a) sLen sCap]).run P w =
      .ok (goInt (Nat.min sLen dLen)) (w.setRow g (cur.toList.take o ++ cs ++ cur.toList.drop (o + cs.length)).toArray) := by
  have hl := run_loadCells_list (P := P) w a cs hsrc
  have hst := run_storeCells_at P g o t cs 0 cur w hg (by simpa using hfit) h1
  cases hq : P.info? elem with
  | none => simp [hq] at hs
  | some i =>
    have hi : i.size = size := by simpa [hq] using hs
    simp [Builtin.copy_, run_underlying hu, Builtin.lenOf, Builtin.firstCells, sizeOf, typeInfo, hq, hi, ← hn, hl, hst]
theorem run_copy_zero (w : World) (dT sT ty elem : TypeId) (d a : Option Addr) (dLen dCap sLen sCap size : Nat) (hu : P.underlying dT = some (.slice elem)) (hs : (P.info? elem).map (·.size) = some size) (hn : Nat.min sLen dLen = 0) :
    (Builtin.copy_ #[dT, sT] ty #[.slice d dLen dCap, .slice a sLen sCap]).run P w = .ok (goInt 0) w := by
  cases hq : P.info? elem with
  | none => simp [hq] at hs
  | some i =>
    have hl : ∀ (x : Addr), (loadCells x 0).run P w = .ok #[] w := fun x => by simpa using run_loadCells_list (P := P) w x [] (by simp)
    cases d <;> cases a <;> simp [Builtin.copy_, run_underlying hu, Builtin.lenOf, Builtin.firstCells, sizeOf, typeInfo, hq, hn, storeCells, hl]
end

set_option maxHeartbeats 400000 in
set_option maxRecDepth 100000 in
theorem Of_any (s : List UInt8) (w : World) :
    Calls Tryd.prog 32 #[.string ⟨⟨s⟩⟩] w fun e w' => e = .returned (.agg #[.int .i64 0, .string ⟨⟨s⟩⟩, .int .i64 0, .slice none 0 0]) ∧ Below w.heap.size w w' := by
  go_enter Tryd.func32, Tryd.ntmps32
  go_wp2
  exact bodyPost_ret (results_term Tryd.results32 _ _ w.heap.size _ _ _ _ _ _ rfl (heap_alloc_new w _)) rfl ⟨rfl, (Below.refl _ _).alloc (Nat.le_refl _) _⟩
set_option maxHeartbeats 400000 in
set_option maxRecDepth 100000 in
theorem Num_any (n : Int) (w : World) :
    Calls Tryd.prog 27 #[.int .i64 n] w fun e w' => e = .returned (.agg #[.int .i64 1, .string ⟨#[]⟩, .int .i64 n, .slice none 0 0]) ∧ Below w.heap.size w w' := by
  go_enter Tryd.func27, Tryd.ntmps27
  go_wp2
  exact bodyPost_ret (results_term Tryd.results27 _ _ w.heap.size _ _ _ _ _ _ rfl (heap_alloc_new w _)) rfl ⟨rfl, (Below.refl _ _).alloc (Nat.le_refl _) _⟩
set_option maxHeartbeats 400000 in
set_option maxRecDepth 100000 in
theorem Key_any (s : List UInt8) (n : Int) (w : World) :
    Calls Tryd.prog 30 #[.string ⟨⟨s⟩⟩, .int .i64 n] w fun e w' => e = .returned (.agg #[.int .i64 2, .string ⟨⟨s⟩⟩, .int .i64 n, .slice none 0 0]) ∧ Below w.heap.size w w' := by
  go_enter Tryd.func30, Tryd.ntmps30
  go_wp2
  exact bodyPost_ret (results_term Tryd.results30 _ _ w.heap.size _ _ _ _ _ _ rfl (heap_alloc_new w _)) rfl ⟨rfl, (Below.refl _ _).alloc (Nat.le_refl _) _⟩

/-- A row of terms that was made just now, without room. -/
def NewRow (S : Nat → Prop) (n : Nat) (w' : World) (l : List Tm) (v : Value) : Prop :=
  ∃ g xs, v = .slice (some ⟨g, 0, none⟩) l.length l.length ∧ n ≤ g ∧ w'.heap[g]? = some (.cells xs.toArray 33 (0, 0)) ∧ Els w' S l xs

/-- A slice whose terms are l; S lets the blocks that they lead to. -/
def LRow (w : World) (S : Nat → Prop) (l : List Tm) (A : Option Addr) : Prop :=
  l = [] ∨ ∃ b o xs, A = some ⟨b, o, none⟩ ∧ b < w.heap.size ∧ Els w S l xs ∧ ∀ j u, xs[j]? = some u → w.cell? ⟨b, o + j, none⟩ = some u
theorem TRow.lrow {w : World} {S : Nat → Prop} {l : List Tm} {A : Option Addr} (h : TRow w S l A) (hS : ∀ b, S b → b < w.heap.size) : LRow w S l A := by
  rcases h with h | ⟨b, o, rfl, hb, hr⟩
  · exact .inl h
  · obtain ⟨xs, he, hc⟩ := reps_els l o hr
    exact .inr ⟨b, o, xs, rfl, hS b hb, he, hc⟩

theorem els_one_cell {w : World} {S : Nat → Prop} : ∀ l xs, Els w S l xs → ∀ v ∈ xs, v.oneCell' = true
  | [], xs, h => by rw [Els] at h; subst h; simp
  | x :: r, v0 :: v1 :: v2 :: v3 :: xs, h => by
    rw [Els] at h
    obtain ⟨k, s, n, l⟩ := x
    obtain ⟨A, cap, hv, -⟩ := rep_mk.1 h.1
    injection hv with hv
    simp at hv
    obtain ⟨rfl, rfl, rfl, rfl⟩ := hv
    intro v hv
    simp at hv
    rcases hv with rfl | rfl | rfl | rfl | hv
    · rfl
    · rfl
    · rfl
    · rfl
    · exact els_one_cell r xs h.2 v hv
  | _ :: _, [], h => by simp [Els] at h
  | _ :: _, [_], h => by simp [Els] at h
  | _ :: _, [_, _], h => by simp [Els] at h
  | _ :: _, [_, _, _], h => by simp [Els] at h

theorem makeT_any (n : Nat) (h : n ≤ 1000000) (W : World) : ∃ cur : Array Value, cur.size = n * 4 ∧ (Instr.makeSlice 22 (.int .i64 (n : Int)) (.int .i64 (n : Int))).run Tryd.prog W = .ok (.slice (some ⟨W.heap.size, 0, none⟩) n n) (W.alloc (.cells cur 33)) := by
  obtain ⟨i, hi, he⟩ := Option.map_eq_some_iff.1 infoT
  simp only [Prod.mk.injEq] at he
  obtain ⟨hz, hs, hb⟩ := he
  have hr := run_make (P := Tryd.prog) W 22 33 i _ Tryd.underlying22 hi hz .i64 .i64 n n (by omega) (by omega) (by rw [hb]; omega) (by omega)
  rw [hr, hs, Int.toNat_natCast]
  exact ⟨_, size_madeCells _ _, rfl⟩

set_option maxHeartbeats 400000 in
set_option maxRecDepth 100000 in
theorem List_any (l : List Tm) (A : Option Addr) (ca : Nat) (S : Nat → Prop) (w : World) (hn : l.length ≤ 1000000) (hr : LRow w S l A) (hS : ∀ b, S b → b < w.heap.size) :
    Calls Tryd.prog 28 #[.slice A l.length ca] w fun e w' => ∃ u, e = .returned (.agg #[.int .i64 3, .string ⟨#[]⟩, .int .i64 0, u]) ∧ Below w.heap.size w w' ∧ NewRow S w.heap.size w' l u := by
  obtain ⟨n, hnl⟩ : ∃ n, n = l.length := ⟨_, rfl⟩
  obtain ⟨cur, hcs, hmk⟩ := makeT_any n (by omega) (w.alloc (.cells #[.int .i64 0, .string ⟨#[]⟩, .int .i64 0, .slice none 0 0] 33))
  rw [World.size_alloc] at hmk
  obtain ⟨W2, hW2⟩ : ∃ W2, W2 = ((w.alloc (.cells #[.int .i64 0, .string ⟨#[]⟩, .int .i64 0, .slice none 0 0] 33)).alloc (.cells cur 33)) := ⟨_, rfl⟩
  rw [← hW2] at hmk
  have hB2 : Below w.heap.size w W2 := by rw [hW2]; exact ((Below.refl _ _).alloc (Nat.le_refl _) _).alloc (by simp) _
  have hg1 : W2.heap[w.heap.size + 1]? = some (.cells cur 33 (0, 0)) := by
    rw [hW2]
    have := heap_alloc_new (w.alloc (.cells #[.int .i64 0, .string ⟨#[]⟩, .int .i64 0, .slice none 0 0] 33)) (.cells cur 33)
    rwa [World.size_alloc] at this
  have hg0 : W2.heap[w.heap.size]? = some (.cells #[.int .i64 0, .string ⟨#[]⟩, .int .i64 0, .slice none 0 0] 33 (0, 0)) := by
    rw [hW2, heap_alloc_old _ _ (by simp)]; exact heap_alloc_new w _
  obtain ⟨W3, xs, hcp, hB3, hg3, hel, hg30⟩ : ∃ W3 xs, (Builtin.copy_ #[22, 22] 3 #[.slice (some ⟨w.heap.size + 1, 0, none⟩) n n, .slice A n ca]).run Tryd.prog W2 = .ok (goInt n) W3 ∧ Below w.heap.size w W3 ∧ W3.heap[w.heap.size + 1]? = some (.cells (List.toArray xs) 33 (0, 0)) ∧ Els W3 S l xs ∧ W3.heap[w.heap.size]? = some (.cells #[.int .i64 0, .string ⟨#[]⟩, .int .i64 0, .slice none 0 0] 33 (0, 0)) := by
    rcases hr with rfl | ⟨b, o, xs, rfl, hSb, he, hc⟩
    · have hn0 : n = 0 := hnl
      subst hn0
      refine ⟨W2, [], by rw [run_copy_zero W2 22 22 3 33 _ _ _ _ _ _ 4 Tryd.underlying22 infoT4 (by simp)]; rfl, hB2, ?_, by rw [Els], hg0⟩
      rw [hg1]
      have : cur = #[] := Array.eq_empty_of_size_eq_zero (by omega)
      rw [this]
    · have hlen := els_len l xs he
      have hmin : Nat.min n n = n := Nat.min_self n
      have hr := run_copy_rows (P := Tryd.prog) W2 22 22 3 33 (w.heap.size + 1) 0 n n ⟨b, o, none⟩ n ca 4 cur 33 xs Tryd.underlying22 infoT4 hg1 (by rw [hmin, hlen, hnl]) (fun j v hj => by
        have h1 := hc j v hj
        have h2 := hB2.cell (p := ⟨b, o + j, none⟩) hSb
        rw [h1] at h2
        simpa [Addr.add_lit] using h2) (by omega) (els_one_cell l xs he)
      rw [hmin] at hr
      have hrow : (cur.toList.take 0 ++ xs ++ cur.toList.drop (0 + xs.length)).toArray = xs.toArray := by
        rw [List.take_zero, List.nil_append, List.drop_of_length_le (by simp; omega), List.append_nil]
      rw [hrow] at hr
      have hB3 : Below w.heap.size w (W2.setRow (w.heap.size + 1) xs.toArray) := hB2.trans ⟨rfl, rfl, rfl, by simp [World.setRow], fun k hk => setRow_other W2 _ k _ (by omega)⟩
      refine ⟨_, xs, hr, hB3, setRow_heap W2 _ cur _ _ _ hg1, els_keep (fun _ h => h) (fun c q hc => hB3.cell (p := ⟨c, q, none⟩) (hS c hc)) l xs he, ?_⟩
      rw [setRow_other W2 _ _ _ (by omega)]; exact hg0
  have HG3 := Lib.hid hg3
  have HEL := Lib.hid hel
  have HB3 := Lib.hid hB3
  have HNL := Lib.hid hnl
  have HG0 := Lib.hid hg30
  obtain ⟨c0, c1, c2, c3⟩ := cell4 hg30
  have f0 := fun k => frozen_of_row _ _ k _ _ hg30
  rw [← hnl]
  clear hg3 hel hB3 hr hB2 hg1 hg0 hW2 hnl hn hg30
  go_enter Tryd.func28, Tryd.ntmps28
  go_wp2
  rw [set4 HG0.out]
  have hb := below_setRow4 HB3.out (Nat.le_refl _) #[.int .i64 3, .string ⟨#[]⟩, .int .i64 0, .slice (some ⟨w.heap.size + 1, 0, none⟩) n n]
  refine bodyPost_ret (results_term Tryd.results28 _ _ w.heap.size _ _ _ _ _ _ rfl (setRow_heap _ _ _ _ _ _ HG0.out)) rfl ⟨_, rfl, hb, ?_⟩
  refine ⟨w.heap.size + 1, xs, by rw [← HNL.out], by omega, ?_, ?_⟩
  · rw [setRow_other _ _ _ _ (by omega)]; exact HG3.out
  · exact els_keep (fun _ h => h) (fun c q hc => World.cell?_of_block (a := ⟨c, q, none⟩) (setRow_other _ _ _ _ (by show c ≠ _; have := hS c hc; omega))) l xs HEL.out

theorem NewRow.rep {S : Nat → Prop} {m : Nat} {w' : World} {l : List Tm} {u : Value} (h : NewRow S m w' l u) (hS : ∀ b, S b → b < w'.heap.size) (k : Int) (s : List UInt8) (n : Int) (hn : InR n) : Rep w' (Lo w') (.mk k s n l) (.agg #[.int .i64 k, .string ⟨⟨s⟩⟩, .int .i64 n, u]) := by
  obtain ⟨g, xs, rfl, hg, hc, he⟩ := h
  refine rep_mk.2 ⟨_, _, rfl, hn, .inr ⟨g, 0, rfl, (Array.getElem?_eq_some_iff.1 hc).1, ?_⟩⟩
  refine els_reps l xs 0 (els_keep hS (fun _ _ _ => rfl) l xs he) fun j u hj => ?_
  have hj2 : j < xs.length := (List.getElem?_eq_some_iff.1 hj).1
  rw [Nat.zero_add, cell_of_row _ _ _ _ _ _ hc]
  simpa using hj
theorem Rep.lo {w w' : World} {x : Tm} {v : Value} (h : Rep w (Lo w) x v) (hb : Below w.heap.size w w') : Rep w' (Lo w') x v :=
  rep_keep (fun _ hb' => Nat.lt_of_lt_of_le hb' hb.size) (fun c o hc => hb.cell (p := ⟨c, o, none⟩) hc) _ _ h
theorem TRow.lo {w w' : World} {l : List Tm} {A : Option Addr} (h : TRow w (Lo w) l A) (hb : Below w.heap.size w w') : TRow w' (Lo w') l A :=
  trow_keep (fun _ hb' => Nat.lt_of_lt_of_le hb' hb.size) (fun c o hc => hb.cell (p := ⟨c, o, none⟩) hc) h
theorem NewRow.keep {S : Nat → Prop} {m : Nat} {w w' : World} {l : List Tm} {u : Value} (h : NewRow S m w l u) (hS : ∀ b, S b → b < w.heap.size) (hb : Below w.heap.size w w') : NewRow S m w' l u := by
  obtain ⟨g, xs, rfl, hg, hc, he⟩ := h
  have hlt := (Array.getElem?_eq_some_iff.1 hc).1
  exact ⟨g, xs, rfl, hg, (hb.block g hlt).trans hc, els_keep (fun _ h => h) (fun c o hc => hb.cell (p := ⟨c, o, none⟩) (hS c hc)) l xs he⟩

theorem run_fieldL (v0 v1 v2 : Value) (p : Option Addr) (n c : Nat) (W : World) : (Instr.field 33 (.agg #[v0, v1, v2, .slice p n c]) 3).run Tryd.prog W = .ok (.slice p n c) W := by
  simp [Instr.field, run_underlying Tryd.underlying33, asAgg, part]
/-- Two terms that lie in a new row of two. -/
theorem lrow_two {w : World} {S : Nat → Prop} {x y : Tm} {a0 a1 a2 a3 b0 b1 b2 b3 : Value} (hx : Rep w S x (.agg #[a0, a1, a2, a3])) (hy : Rep w S y (.agg #[b0, b1, b2, b3])) (hS : ∀ b, S b → b < w.heap.size) (t : TypeId) :
    LRow (w.alloc (.cells #[a0, a1, a2, a3, b0, b1, b2, b3] t)) S [x, y] (some ⟨w.heap.size, 0, none⟩) := by
  refine .inr ⟨w.heap.size, 0, [a0, a1, a2, a3, b0, b1, b2, b3], rfl, by simp, by rw [Els, Els, Els]; exact ⟨rep_alloc hx _ (fun b hb => ⟨hS b hb, hb⟩), rep_alloc hy _ (fun b hb => ⟨hS b hb, hb⟩), rfl⟩, fun j u hj => ?_⟩
  rw [Nat.zero_add, cell_of_row _ _ _ _ _ _ (heap_alloc_new w _)]
  simpa using hj

set_option maxHeartbeats 400000 in
set_option maxRecDepth 100000 in
theorem Seal_any (x y : Tm) (vx vy : Value) (n : Int) (S : Nat → Prop) (w : World) (hx : Rep w S x vx) (hy : Rep w S y vy) (hS : ∀ b, S b → b < w.heap.size) :
    Calls Tryd.prog 26 #[vx, .int .i64 n, vy] w fun e w' => ∃ u, e = .returned (.agg #[.int .i64 4, .string ⟨#[]⟩, .int .i64 n, u]) ∧ Below w.heap.size w w' ∧ NewRow S w.heap.size w' [x, y] u := by
  obtain ⟨k1, s1, n1, l1⟩ := x
  obtain ⟨k2, s2, n2, l2⟩ := y
  have hx0 := hx
  have hy0 := hy
  obtain ⟨A1, c1, rfl, -, -⟩ := rep_mk.1 hx
  obtain ⟨A2, c2, rfl, -, -⟩ := rep_mk.1 hy
  clear hx hy
  obtain ⟨z, hz⟩ : ∃ z, z = w.heap.size := ⟨_, rfl⟩
  obtain ⟨W3, hW3⟩ : ∃ W3, W3 = (((w.alloc (.cells #[.int .i64 k1, .string ⟨⟨s1⟩⟩, .int .i64 n1, .slice A1 l1.length c1] 33)).alloc (.cells #[.int .i64 k2, .string ⟨⟨s2⟩⟩, .int .i64 n2, .slice A2 l2.length c2] 33)).alloc (.cells #[.int .i64 0, .string ⟨#[]⟩, .int .i64 0, .slice none 0 0] 33)) := ⟨_, rfl⟩
  have hB3 : Below w.heap.size w W3 := by rw [hW3]; exact (((Below.refl _ _).alloc (Nat.le_refl _) _).alloc (by simp) _).alloc (by simp; omega) _
  have hs3 : W3.heap.size = z + 3 := by rw [hW3, hz]; simp
  have hg2 : W3.heap[z + 2]? = some (.cells #[.int .i64 0, .string ⟨#[]⟩, .int .i64 0, .slice none 0 0] 33 (0, 0)) := by
    have := heap_alloc_new ((w.alloc (.cells #[.int .i64 k1, .string ⟨⟨s1⟩⟩, .int .i64 n1, .slice A1 l1.length c1] 33)).alloc (.cells #[.int .i64 k2, .string ⟨⟨s2⟩⟩, .int .i64 n2, .slice A2 l2.length c2] 33)) (.cells #[.int .i64 0, .string ⟨#[]⟩, .int .i64 0, .slice none 0 0] 33)
    rw [← hW3, World.size_alloc, World.size_alloc, ← hz] at this
    exact this
  have hS3 : ∀ b, S b → b < W3.heap.size := fun b hb => Nat.lt_of_lt_of_le (hS b hb) hB3.size
  have hrow := lrow_two (rep_below hx0 hB3 hS) (rep_below hy0 hB3 hS) hS3 33
  obtain ⟨W4, hW4⟩ : ∃ W4, W4 = (W3.alloc (.cells #[.int .i64 k1, .string ⟨⟨s1⟩⟩, .int .i64 n1, .slice A1 l1.length c1, .int .i64 k2, .string ⟨⟨s2⟩⟩, .int .i64 n2, .slice A2 l2.length c2] 33)) := ⟨_, rfl⟩
  have hB4 : Below (z + 3) W3 W4 := by rw [hW4, ← hs3]; exact (Below.refl _ _).alloc (Nat.le_refl _) _
  have hs4 : W4.heap.size = z + 4 := by rw [hW4]; simp [hs3]
  rw [← hW4, hs3] at hrow
  have HL := Lib.hid (List_any [.mk k1 s1 n1 l1, .mk k2 s2 n2 l2] _ 2 S W4 (by simp) hrow (fun b hb => by have := hS3 b hb; omega))
  have HG2 := Lib.hid ((hB4.block (z + 2) (by omega)).trans hg2)
  have HB4 : Hid (Below w.heap.size w W4) := hB3.trans (hB4.mono (by omega))
  have HW4 := Lib.hid hW4
  have HW3 := Lib.hid hW3
  have HZ := Lib.hid hz
  have HS4 := Lib.hid hs4
  have hfd := fun a b c p W => run_fieldL a b c p 2 2 W
  clear hS3 hx0 hy0 hg2 hrow hB3 hB4 hW3 hW4 hs3 hs4 hz
  go_enter Tryd.func26, Tryd.ntmps26
  go_wp2_with fail
  have e4 := HW4.out
  rw [HW3.out] at e4
  rw [← e4, ← HZ.out]
  refine HL.out.mono ?_
  rintro _ w1 ⟨u, rfl, hb1, hnr⟩
  have hg := (hb1.block (z + 2) (by rw [HS4.out]; omega)).trans HG2.out
  obtain ⟨g, xs, rfl, hgz, hc, he⟩ := hnr
  have HC := Lib.hid hc
  have HE := Lib.hid he
  have HGZ : Hid (z + 4 ≤ g) := by rw [← HS4.out]; exact hgz
  have HB1 : Hid (Below w.heap.size w w1) := HB4.out.trans (hb1.mono HB4.out.size)
  have HG := Lib.hid hg
  obtain ⟨c0, c1, c2, c3⟩ := cell4 hg
  have f0 := fun k => frozen_of_row _ _ k _ _ hg
  clear hg hb1 e4 HL hc he hgz
  go_wp2
  rw [set4 HG.out]
  have hzw : w.heap.size ≤ z + 2 := by rw [HZ.out]; omega
  have hgz := HGZ.out
  have hb := below_setRow4 HB1.out hzw #[.int .i64 4, .string ⟨#[]⟩, .int .i64 n, .slice (some ⟨g, 0, none⟩) 2 2]
  refine bodyPost_ret (results_term Tryd.results26 _ _ (z + 2) _ _ _ _ _ _ rfl (setRow_heap _ _ _ _ _ _ HG.out)) rfl ⟨_, rfl, hb, ?_⟩
  refine ⟨g, xs, rfl, by omega, ?_, ?_⟩
  · rw [setRow_other _ _ _ _ (by omega)]; exact HC.out
  · exact els_keep (fun _ h => h) (fun c q hc => World.cell?_of_block (a := ⟨c, q, none⟩) (setRow_other _ _ _ _ (by show c ≠ _; have := hS c hc; omega))) _ xs HE.out

set_option maxHeartbeats 400000 in
set_option maxRecDepth 100000 in
theorem Sum_any (x y : Tm) (vx vy : Value) (n : Int) (S : Nat → Prop) (w : World) (hx : Rep w S x vx) (hy : Rep w S y vy) (hS : ∀ b, S b → b < w.heap.size) :
    Calls Tryd.prog 29 #[vx, .int .i64 n, vy] w fun e w' => ∃ u, e = .returned (.agg #[.int .i64 5, .string ⟨#[]⟩, .int .i64 n, u]) ∧ Below w.heap.size w w' ∧ NewRow S w.heap.size w' [x, y] u := by
  obtain ⟨k1, s1, n1, l1⟩ := x
  obtain ⟨k2, s2, n2, l2⟩ := y
  have hx0 := hx
  have hy0 := hy
  obtain ⟨A1, c1, rfl, -, -⟩ := rep_mk.1 hx
  obtain ⟨A2, c2, rfl, -, -⟩ := rep_mk.1 hy
  clear hx hy
  obtain ⟨z, hz⟩ : ∃ z, z = w.heap.size := ⟨_, rfl⟩
  obtain ⟨W3, hW3⟩ : ∃ W3, W3 = (((w.alloc (.cells #[.int .i64 k1, .string ⟨⟨s1⟩⟩, .int .i64 n1, .slice A1 l1.length c1] 33)).alloc (.cells #[.int .i64 k2, .string ⟨⟨s2⟩⟩, .int .i64 n2, .slice A2 l2.length c2] 33)).alloc (.cells #[.int .i64 0, .string ⟨#[]⟩, .int .i64 0, .slice none 0 0] 33)) := ⟨_, rfl⟩
  have hB3 : Below w.heap.size w W3 := by rw [hW3]; exact (((Below.refl _ _).alloc (Nat.le_refl _) _).alloc (by simp) _).alloc (by simp; omega) _
  have hs3 : W3.heap.size = z + 3 := by rw [hW3, hz]; simp
  have hg2 : W3.heap[z + 2]? = some (.cells #[.int .i64 0, .string ⟨#[]⟩, .int .i64 0, .slice none 0 0] 33 (0, 0)) := by
    have := heap_alloc_new ((w.alloc (.cells #[.int .i64 k1, .string ⟨⟨s1⟩⟩, .int .i64 n1, .slice A1 l1.length c1] 33)).alloc (.cells #[.int .i64 k2, .string ⟨⟨s2⟩⟩, .int .i64 n2, .slice A2 l2.length c2] 33)) (.cells #[.int .i64 0, .string ⟨#[]⟩, .int .i64 0, .slice none 0 0] 33)
    rw [← hW3, World.size_alloc, World.size_alloc, ← hz] at this
    exact this
  have hS3 : ∀ b, S b → b < W3.heap.size := fun b hb => Nat.lt_of_lt_of_le (hS b hb) hB3.size
  have hrow := lrow_two (rep_below hx0 hB3 hS) (rep_below hy0 hB3 hS) hS3 33
  obtain ⟨W4, hW4⟩ : ∃ W4, W4 = (W3.alloc (.cells #[.int .i64 k1, .string ⟨⟨s1⟩⟩, .int .i64 n1, .slice A1 l1.length c1, .int .i64 k2, .string ⟨⟨s2⟩⟩, .int .i64 n2, .slice A2 l2.length c2] 33)) := ⟨_, rfl⟩
  have hB4 : Below (z + 3) W3 W4 := by rw [hW4, ← hs3]; exact (Below.refl _ _).alloc (Nat.le_refl _) _
  have hs4 : W4.heap.size = z + 4 := by rw [hW4]; simp [hs3]
  rw [← hW4, hs3] at hrow
  have HL := Lib.hid (List_any [.mk k1 s1 n1 l1, .mk k2 s2 n2 l2] _ 2 S W4 (by simp) hrow (fun b hb => by have := hS3 b hb; omega))
  have HG2 := Lib.hid ((hB4.block (z + 2) (by omega)).trans hg2)
  have HB4 : Hid (Below w.heap.size w W4) := hB3.trans (hB4.mono (by omega))
  have HW4 := Lib.hid hW4
  have HW3 := Lib.hid hW3
  have HZ := Lib.hid hz
  have HS4 := Lib.hid hs4
  have hfd := fun a b c p W => run_fieldL a b c p 2 2 W
  clear hS3 hx0 hy0 hg2 hrow hB3 hB4 hW3 hW4 hs3 hs4 hz
  go_enter Tryd.func29, Tryd.ntmps29
  go_wp2_with fail
  have e4 := HW4.out
  rw [HW3.out] at e4
  rw [← e4, ← HZ.out]
  refine HL.out.mono ?_
  rintro _ w1 ⟨u, rfl, hb1, hnr⟩
  have hg := (hb1.block (z + 2) (by rw [HS4.out]; omega)).trans HG2.out
  obtain ⟨g, xs, rfl, hgz, hc, he⟩ := hnr
  have HC := Lib.hid hc
  have HE := Lib.hid he
  have HGZ : Hid (z + 4 ≤ g) := by rw [← HS4.out]; exact hgz
  have HB1 : Hid (Below w.heap.size w w1) := HB4.out.trans (hb1.mono HB4.out.size)
  have HG := Lib.hid hg
  obtain ⟨c0, c1, c2, c3⟩ := cell4 hg
  have f0 := fun k => frozen_of_row _ _ k _ _ hg
  clear hg hb1 e4 HL hc he hgz
  go_wp2
  rw [set4 HG.out]
  have hzw : w.heap.size ≤ z + 2 := by rw [HZ.out]; omega
  have hgz := HGZ.out
  have hb := below_setRow4 HB1.out hzw #[.int .i64 5, .string ⟨#[]⟩, .int .i64 n, .slice (some ⟨g, 0, none⟩) 2 2]
  refine bodyPost_ret (results_term Tryd.results29 _ _ (z + 2) _ _ _ _ _ _ rfl (setRow_heap _ _ _ _ _ _ HG.out)) rfl ⟨_, rfl, hb, ?_⟩
  refine ⟨g, xs, rfl, by omega, ?_, ?_⟩
  · rw [setRow_other _ _ _ _ (by omega)]; exact HC.out
  · exact els_keep (fun _ h => h) (fun c q hc => World.cell?_of_block (a := ⟨c, q, none⟩) (setRow_other _ _ _ _ (by show c ≠ _; have := hS c hc; omega))) _ xs HE.out
end Go.Proofs.YtiidooponlbnmaaDoor.Te
