/- The document's Parts. -/
import Derived.Test.YtfhcfaflggiacaaDoorTmV3
import Derived.Test.YtfhcfaflggiacaaDoorTmQ2
namespace Go.Proofs.YtfhcfaflggiacaaDoor
open Go.RowKit
open Tt

theorem parts_flat : ∀ (x : Tm) (d : Nat), (parts d x).map (·.2) = ps x := Tm.ind (by
  intro k s n l ih d
  have h : ∀ (l : List Tm) (d d' : Nat), (∀ x ∈ l, ∀ d : Nat, (parts d x).map (·.2) = ps x) → (partss d l).map (·.2) = (partss d' l).map (·.2) := by
    intro l
    induction l with
    | nil => intro d d' _; simp [partss]
    | cons x r ihr =>
      intro d d' hx
      rw [partss, partss, List.map_append, List.map_append, hx x (by simp) d, hx x (by simp) d', ihr d d' (fun y hy => hx y (by simp [hy]))]
  rw [ps, parts, parts, List.map_cons, List.map_cons, h l (d + 1) (0 + 1) ih])
theorem ps_mk (k : Int) (s : List UInt8) (n : Int) (l : List Tm) : ps (.mk k s n l) = .mk k s n l :: l.flatMap ps := by
  rw [ps, parts, List.map_cons]
  have : ∀ (l : List Tm) (d : Nat), (partss d l).map (·.2) = l.flatMap ps := by
    intro l
    induction l with
    | nil => intro d; simp [partss]
    | cons x r ihr => intro d; rw [partss, List.map_append, parts_flat, ihr d, List.flatMap_cons]
  rw [this]

theorem OwnT.weaken {S : Nat → Prop} {w : World} {base base' : Nat} {v : Value} {l : List Tm} (h : OwnT S w base v l) (hb : base' ≤ base) : OwnT S w base' v l := by
  obtain ⟨xs, ⟨h0, h1⟩, h2⟩ := h
  refine ⟨xs, ⟨h0, ?_⟩, h2⟩
  rcases h1 with h1 | ⟨g, cap, cur, rfl, h3, h4⟩
  · exact .inl h1
  · exact .inr ⟨g, cap, cur, rfl, by omega, h4⟩

set_option maxHeartbeats 400000 in
set_option maxRecDepth 100000 in
theorem wpList_appTs (W : World) {ops : Array Oper} {rest : List Oper} {o : Oper} {a : Act} {Q : Exit → Act → World → Prop} (hgd : o.guard = none) (s x : Operand)
    (ho : o.op = .call { callee := .builtin .append, args := #[s, x], argTypes := #[23, 23] }) (base base2 : Nat) (v u : Value) (l q : List Tm) (S : Nat → Prop) (hs : a.eval s = v) (hx : a.eval x = u)
    (hown : OwnT S W base v l) (hu : OwnT S W base2 u q) (hq : q ≠ []) (hS : ∀ b, S b → b < base) (hl : l.length + q.length ≤ 1000000) (hbase : base ≤ W.heap.size)
    (h : ∀ v' w', OwnT S w' base v' (l ++ q) → Below base W w' → wpList Tryd.prog ops Q rest (a.put o.dst v') w') :
    wpList Tryd.prog ops Q (o :: rest) a W := by
  obtain ⟨i, hi, he⟩ := Option.map_eq_some_iff.1 infoT
  simp only [Prod.mk.injEq] at he
  obtain ⟨hz, hsz, hb⟩ := he
  have hlt := hown.lt
  obtain ⟨xs, hrow, hels⟩ := hown
  obtain ⟨ys, hrow2, hels2⟩ := hu
  have hyl := els_len q ys hels2
  have hql : 0 < q.length := List.length_pos_iff.2 hq
  obtain ⟨g, cap, rfl⟩ : ∃ g cap, u = .slice (some ⟨g, 0, none⟩) q.length cap := by
    rcases hrow2.2 with ⟨-, h0⟩ | ⟨g, cap, cur, rfl, -⟩
    · omega
    · exact ⟨g, cap, rfl⟩
  have hcells := hrow2.cells (g := g) rfl
  refine wpList_append_own_at W hgd s x 23 ho base 25 i _ 4 56 Tryd.underlying23 hi hz hsz hb rfl (by decide) v l.length xs hs hrow ⟨g, 0, none⟩ q.length cap ys hx hyl hcells (els_one_cell q ys hels2) (by simp only [maxLen]; omega) (by omega) hbase fun v' w' h1 h2 _ _ => h v' w' ?_ ?_
  · refine ⟨_, by rw [List.length_append]; exact h1, ?_⟩
    have hblk : ∀ b, S b → w'.heap[b]? = W.heap[b]? := fun b hb' => h2.block b (by have := hS b hb'; omega) (fun e => by have := hlt b e.symm; have := hS b hb'; omega)
    exact els_keep (fun _ h => h) (fun b o hb' => World.cell?_of_block (a := ⟨b, o, none⟩) (hblk b hb')) _ _ (els_app l xs q ys hels hels2)
  · exact Below.grown (Below.refl _ _) h2 hbase (fun k hk => (hlt k hk).1)

def RPartsSaid (x : Tm) : Prop := ∀ (S : Nat → Prop) (v : Value) (w : World), sz x ≤ 262144 → Rep w S x v → (∀ b, S b → b < w.heap.size) →
  Calls Tryd.prog 13 #[v] w fun e w' => ∃ u, e = .returned u ∧ OwnT S w' w.heap.size u (ps x) ∧ Below w.heap.size w w'

set_option maxHeartbeats 1000000 in
set_option maxRecDepth 100000 in
theorem refParts_any : ∀ x, RPartsSaid x := Tm.ind (by
  intro k s n l ih S v w hsz hrx hS
  obtain ⟨A, ca, rfl, -, hr⟩ := rep_mk.1 hrx
  rw [sz] at hsz
  have hll := szs_len l
  obtain ⟨X, hX⟩ : ∃ X, X = Tm.mk k s n l := ⟨_, rfl⟩
  have hps : ps X = X :: l.flatMap ps := by rw [hX]; exact ps_mk k s n l
  have hfl : ∀ i, (X :: (l.take i).flatMap ps).length = 1 + szs (l.take i) := by
    intro i
    rw [List.length_cons]
    have : ∀ q : List Tm, (q.flatMap ps).length = szs q := by
      intro q
      induction q with
      | nil => simp [szs]
      | cons y r ihq => rw [List.flatMap_cons, List.length_append, ihq, ps_len, szs]
    rw [this]; omega
  obtain ⟨m, hm⟩ : ∃ m, m = l.length := ⟨_, rfl⟩
  obtain ⟨z, hz⟩ : ∃ z, z = w.heap.size := ⟨_, rfl⟩
  obtain ⟨W2, hW2⟩ : ∃ W2, W2 = (w.alloc (.cells #[.int .i64 k, .string ⟨⟨s⟩⟩, .int .i64 n, .slice A m ca] 25)).alloc (.cells #[.int .i64 k, .string ⟨⟨s⟩⟩, .int .i64 n, .slice A m ca] 25) := ⟨_, rfl⟩
  rw [← hX, ← hm]
  have hB2 : Below w.heap.size w W2 := by rw [hW2]; exact ((Below.refl _ _).alloc (Nat.le_refl _) _).alloc (by simp) _
  have hs2 : W2.heap.size = z + 2 := by rw [hW2, hz]; simp
  have hg0 : W2.heap[z]? = some (.cells #[.int .i64 k, .string ⟨⟨s⟩⟩, .int .i64 n, .slice A m ca] 25 (0, 0)) := by
    rw [hW2, hz, heap_alloc_old _ _ (by simp)]; exact heap_alloc_new w _
  have hg1 : W2.heap[z + 1]? = some (.cells #[.int .i64 k, .string ⟨⟨s⟩⟩, .int .i64 n, .slice A m ca] 25 (0, 0)) := by
    rw [hW2, hz]
    have := heap_alloc_new (w.alloc (.cells #[.int .i64 k, .string ⟨⟨s⟩⟩, .int .i64 n, .slice A m ca] 25)) (.cells #[.int .i64 k, .string ⟨⟨s⟩⟩, .int .i64 n, .slice A m ca] 25)
    rwa [World.size_alloc] at this
  have hrx2 : Rep W2 S X (.agg #[.int .i64 k, .string ⟨⟨s⟩⟩, .int .i64 n, .slice A m ca]) := by rw [hX, hm]; exact rep_below hrx hB2 hS
  have hown : OwnT S W2 (z + 1) (.slice (some ⟨z + 1, 0, none⟩) 1 1) (X :: (l.take 0).flatMap ps) := by
    refine ⟨[.int .i64 k, .string ⟨⟨s⟩⟩, .int .i64 n, .slice A m ca], ⟨rfl, .inr ⟨z + 1, 1, _, rfl, Nat.le_refl _, hg1, Nat.le_refl _, by simp [maxLen], rfl, rfl⟩⟩, ?_⟩
    exact els_one hrx2
  have HB2 := Lib.hid hB2
  have HO2 := Lib.hid hown
  have HG2 := Lib.hid hg0
  have HR := Lib.hid hr
  have HS := Lib.hid hS
  have HI := Lib.hid ih
  have HM := Lib.hid hm
  have HW2 := Lib.hid hW2
  have HZ := Lib.hid hz
  have HPS := Lib.hid hps
  have HFL := Lib.hid hfl
  have HSZ := Lib.hid hsz
  have hm2 : m ≤ 262144 := by omega
  have HZS : Hid (z + 1 ≤ W2.heap.size) := by rw [Hid, hs2]; omega
  clear hr hrx hrx2 hS ih hm hz hW2 hB2 hs2 hg0 hg1 hown hps hfl hX hsz hll
  go_enter Tryd.func13, Tryd.ntmps13
  go_wp2
  rw [← HW2.out, ← HZ.out]
  go_loopw [3, 4] (fun lv iv wr => ∃ i : Nat, i ≤ m ∧ iv = .int .i64 (i : Nat) ∧ Hid (OwnT S wr (z + 1) lv (X :: (l.take i).flatMap ps)) ∧ Hid (wr.heap[z]? = some (.cells #[.int .i64 k, .string ⟨⟨s⟩⟩, .int .i64 n, .slice A m ca] 25 (0, 0))) ∧ Hid (Below w.heap.size w wr) ∧ Hid (z + 1 ≤ wr.heap.size)) (fun _ iv _ => m - (intOf iv).toNat)
  case atStart => exact ⟨0, by omega, rfl, HO2, HG2, HB2, HZS⟩
  case round =>
    obtain ⟨i, hi, rfl, HO, HG, HB, HZ1⟩ := hrel
    obtain ⟨c0, c1, c2, c3⟩ := cell4 HG.out
    by_cases hlt : i < m
    · have hlt1 : i < l.length := by rw [← HM.out]; exact hlt
      have hil : (i : Int) < (m : Int) := by omega
      obtain ⟨b, o, k1, s1, n1, q1, B1, cb1, rfl, hSb, hx, d0, d1, d2, d3, hrep⟩ := trow_get HR.out HB.out HS.out hlt1
      have hmem : l[i] ∈ l := List.getElem_mem hlt1
      have hszm := szs_mem l _ hmem
      have hO := HI.out _ hmem
      have hfm : X :: (l.take (i + 1)).flatMap ps = (X :: (l.take i).flatMap ps) ++ ps l[i] := by
        rw [List.take_succ_eq_append_getElem hlt1, List.flatMap_append]; simp
      have hlen := HFL.out i
      have hlen2 := szs_take_succ l i hlt1
      have hlen3 := szs_take_le l (i + 1)
      have hpl := ps_len l[i]
      rw [hx] at hO hszm hfm hlen2 hpl
      have hcall := hO S _ wr (by have := HSZ.out; omega) hrep (fun b hb => Nat.lt_of_lt_of_le (HS.out b hb) HB.out.size)
      obtain ⟨Y, hY⟩ : ∃ Y, Y = Tm.mk k1 s1 n1 q1 := ⟨_, rfl⟩
      rw [← hY] at hcall hfm hlen2 hpl hszm
      have hpp := sz_pos Y
      have hll2 : (X :: (l.take i).flatMap ps).length + (ps Y).length ≤ 1000000 := by have := HSZ.out; omega
      have hne : ps Y ≠ [] := fun e => by rw [e] at hpl; simp at hpl; omega
      have HCALL := Lib.hid hcall
      have HFM := Lib.hid hfm
      have HLL := Lib.hid hll2
      have HNE := Lib.hid hne
      clear hcall hfm hO hszm hmem hx hrep hY hlen hlen2 hlen3 hpl hpp hll2 hne
      go_wp2_with fail
      refine HCALL.out.mono ?_
      rintro _ w1 ⟨u1, rfl, ho1, b1⟩
      have HO1 := Lib.hid ho1
      have HOl : Hid (OwnT S w1 (z + 1) u3 (X :: (l.take i).flatMap ps)) := HO.out.below b1 (fun b hb => by have := HS.out b hb; have := HB.out.size; omega)
      have hb1 : Below w.heap.size w w1 := HB.out.trans (b1.mono HB.out.size)
      have HB1 := Lib.hid hb1
      have hg1 := (b1.block z (by have := HZ1.out; omega)).trans HG.out
      have HG1 := Lib.hid hg1
      have hzs1 : z + 1 ≤ w1.heap.size := by have := HZ1.out; have := b1.size; omega
      clear c0 c1 c2 c3 d0 d1 d2 d3 b1 hb1 ho1 HCALL hg1
      go_wp2_with (at_builtin; refine wpList_appTs w1 rfl (.tmp 14) (.tmp 20) rfl (z + 1) _ _ _ _ _ S rfl rfl HOl.out HO1.out HNE.out (fun b hb => by have := HS.out b hb; have := HZ.out; omega) HLL.out hzs1 ?_; intro v' w2 ho2 hb2; have HO2' : Hid (OwnT S w2 (z + 1) v' (X :: (l.take (i + 1)).flatMap ps)) := (by rw [Hid, HFM.out]; exact ho2); have HB2' : Hid (Below w.heap.size w w2) := HB1.out.trans (hb2.mono (by have := HZ.out; omega)); have hg2 := (hb2.block z (by omega)).trans HG1.out; have HG2' := Lib.hid hg2; have HZ2 : Hid (z + 1 ≤ w2.heap.size) := (by have := hb2.size; rw [Hid]; omega); clear ho2 hb2 hg2)
      go_roundw
      case rel => exact ⟨i + 1, by omega, by go_num, HO2', HG2', HB2', HZ2⟩
      case measure => simp [intOf]; omega
    · have hil : ¬ (i : Int) < (m : Int) := by omega
      have hie : l.take i = l := List.take_of_length_le (by rw [← HM.out]; omega)
      have ho := HO.out
      rw [hie, ← HPS.out] at ho
      have HOE := Lib.hid ho
      clear ho hie HO
      go_wp2
      go_ret
      exact ⟨_, rfl, HOE.out.weaken (by rw [HZ.out]; omega), HB.out⟩)
end Go.Proofs.YtfhcfaflggiacaaDoor
