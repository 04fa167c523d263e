/- The document's answer: what Block's walk leans on. -/
import Derived.Test.YtihgglplbanegaaDoorShaV8
import Derived.Test.YtihgglplbanegaaDoorShaV5
namespace Go.Proofs.YtihgglplbanegaaDoor
open Go.RowKit

theorem i64_small (n : Nat) (h : n < 4294967296) : IntKind.i64.wrap (n : Int) = (n : Int) := IntWalk.i64_in _ (by omega)
theorem i64_xor (a b : Nat) (ha : a < 4294967296) (hb : b < 4294967296) : bits .xor .i64 (a : Int) (b : Int) = ((a ^^^ b : Nat) : Int) := by
  show IntKind.i64.wrap ((BitVec.ofInt 64 (a : Int) ^^^ BitVec.ofInt 64 (b : Int)).toNat : Int) = _
  rw [BitVec.toNat_xor, ofInt_u64 a (by omega), ofInt_u64 b (by omega)]
  exact i64_small _ (Sh.xor_lt ha hb)
theorem i64_and (a b : Nat) (ha : a < 4294967296) (hb : b < 4294967296) : bits .and .i64 (a : Int) (b : Int) = ((a &&& b : Nat) : Int) := by
  show IntKind.i64.wrap ((BitVec.ofInt 64 (a : Int) &&& BitVec.ofInt 64 (b : Int)).toNat : Int) = _
  rw [BitVec.toNat_and, ofInt_u64 a (by omega), ofInt_u64 b (by omega)]
  exact i64_small _ (Sh.and_lt hb)
theorem OwnI.drewN {w : World} {base n : Nat} {v : Value} {l : List Nat} (h : OwnI w base v l) : OwnI (w.drewN n) base v l := h
theorem Below.drewN' {B : Nat} {a w : World} (n : Nat) (h : Below B a w) : Below B a (w.drewN n) := ⟨h.os, h.tape, h.output, h.size, h.block⟩
theorem OwnI.block {w : World} {base : Nat} {v : Value} {l : List Nat} (h : OwnI w base v l) (hl : 0 < l.length) :
    ∃ g cap, v = .slice (some ⟨g, 0, none⟩) l.length cap ∧ base ≤ g ∧ g < w.heap.size ∧ ∀ i, i < l.length → w.cell? ⟨g, i, none⟩ = some (.int .i64 (l.getD i 0 : Nat)) := by
  obtain ⟨g, cap, hv, hg, hc⟩ := h.ints hl
  refine ⟨g, cap, hv, ?_, hg, hc⟩
  have := (World.ownsRow.lt h) g (by rw [hv]; rfl)
  exact this.1
/-- append keeps what the old row held. -/
theorem app_kept (W : World) (ty : TypeId) (base g cap : Nat) (l : List Nat) (hown : OwnI W base (.slice (some ⟨g, 0, none⟩) l.length cap) l) (B : Nat) (ci : Int) (hB : W.heap[B]? = some (.cells #[.int .i64 ci] 3 (0, 0))) (hl : l.length ≤ 1000000)
    (v' : Value) (w' : World) (hr : (Builtin.append_ #[23, 23] ty #[.slice (some ⟨g, 0, none⟩) l.length cap, .slice (some ⟨B, 0, none⟩) 1 1]).run Tryd.prog W = .ok v' w') :
    ∀ j, j < l.length → w'.cell? ⟨g, j, none⟩ = W.cell? ⟨g, j, none⟩ := by
  obtain ⟨i, hi, he⟩ := Option.map_eq_some_iff.1 info3
  simp only [Prod.mk.injEq] at he
  obtain ⟨hz, hsz, hby⟩ := he
  have hnews : ∀ j u, ([Value.int .i64 ci] : List Value)[j]? = some u → W.cell? ((⟨B, 0, none⟩ : Addr).add j) = some u := fun j u hu => by
    rw [Addr.add_lit]
    exact (cell_of_row _ _ _ _ _ _ hB).trans (by simpa using hu)
  have h1 : ∀ u ∈ ([Value.int .i64 ci] : List Value), u.oneCell' = true := fun u hu => by
    simp only [List.mem_singleton] at hu
    subst hu
    rfl
  intro j hj
  rcases hown.2 with ⟨h0, _⟩ | ⟨g', cap', cur, hv, hbg, hg, hnc, hcm, hcs, htake⟩
  · cases h0
  · injection hv with e1 _ e3
    injection e1 with e1
    injection e1 with e1
    subst e1 e3
    by_cases hroom : l.length + 1 ≤ cap
    · have hfit : l.length * i.size + ([Value.int .i64 ci] : List Value).length ≤ cur.size := by rw [hsz, hcs]; simp; omega
      have hr2 := run_append_room (P := Tryd.prog) W 23 ty 3 i Tryd.underlying23 hi g l.length cap cur hg ⟨B, 0, none⟩ 1 1 [.int .i64 ci] (by rw [hsz]; rfl) hnews h1 hroom hfit
      rw [hr2] at hr
      injection hr with _ hw
      subst hw
      rw [cell_setRow_same _ _ _ _ _ _ _ hg, cell_of_row _ _ _ _ _ _ hg, hsz]
      have hjc : j < cur.size := by rw [hcs]; omega
      have hmin : min l.length cur.size = l.length := by rw [hcs]; omega
      simp [List.getElem?_append, hj, hjc]
      intro h
      omega
    · have holds : ∀ j u, (ivals l)[j]? = some u → W.cell? ((⟨g, 0, none⟩ : Addr).add j) = some u := World.ownsRow.cells hown (g := g) rfl
      have hr2 := run_append_grow (P := Tryd.prog) W 23 ty 3 i _ Tryd.underlying23 hi hz ⟨g, 0, none⟩ l.length cap (ivals l) (by rw [hsz]; simp [ivals]) holds ⟨B, 0, none⟩ 1 1 [.int .i64 ci] (by rw [hsz]; rfl) hnews (by omega) (by omega) (growslice_fits (by omega) (by rw [hby]; omega))
      rw [hr2] at hr
      injection hr with _ hw
      subst hw
      exact World.cell?_of_block (w := W) (a := ⟨g, j, none⟩) (Below.heap_alloc W.drew _ g (Array.getElem?_eq_some_iff.1 hg).1)

theorem step_appK (W : World) {ops : Array Oper} {o : Oper} {a : Act} {K : Act → World → Prop} {Q : Exit → Act → World → Prop} {E : Prop} (hgd : o.guard = none) (s x : Operand)
    (ho : o.op = .call { callee := .builtin .append, args := #[s, x], argTypes := #[23, 23] }) (base g cap : Nat) (l : List Nat) (n : Nat) (hn : l.length = n) (c B : Nat) (ci : Int) (hci : Hid (ci = (c : Nat))) (hs : a.eval s = .slice (some ⟨g, 0, none⟩) n cap) (hx : a.eval x = .slice (some ⟨B, 0, none⟩) 1 1)
    (hB : W.heap[B]? = some (.cells #[.int .i64 ci] 3 (0, 0))) (hown : OwnI W base (.slice (some ⟨g, 0, none⟩) n cap) l) (hl : l.length ≤ 1000000) (hbase : base ≤ W.heap.size)
    (h : ∀ v' w', OwnI w' base v' (l ++ [c]) → Below base W w' → (∀ j, j < n → w'.cell? ⟨g, j, none⟩ = W.cell? ⟨g, j, none⟩) → K (a.put o.dst v') w') :
    if Region.wanted o (yielded ops a.tmps) = true then Oper.wp Tryd.prog o a W K Q else E := by
  obtain rfl := hci.out
  subst hn
  have hw : Region.wanted o (yielded ops a.tmps) = true := by simp [Region.wanted, hgd]
  rw [if_pos hw]
  obtain ⟨i, hi, he⟩ := Option.map_eq_some_iff.1 info3
  simp only [Prod.mk.injEq] at he
  obtain ⟨hz, hsz, hb⟩ := he
  have hlt := World.ownsRow.lt hown
  obtain ⟨v', w', hr, h2, h3, _⟩ := run_append_own (P := Tryd.prog) W base 23 o.type 3 i (.int .i64 0) 1 8 Tryd.underlying23 hi hz hsz hb rfl (by decide) _ l.length (ivals l) hown ⟨B, 0, none⟩ 1 1 [.int .i64 (c : Nat)] rfl (fun j u hu => by
    rw [Addr.add_lit]
    exact (cell_of_row _ _ _ _ _ _ hB).trans (by simpa using hu)) (fun u hu => by
    simp only [List.mem_singleton] at hu
    subst hu
    rfl) (by simp only [maxLen]; omega) (by omega) hbase
  have hk := app_kept W o.type base g cap l hown B _ hB hl v' w' hr
  unfold Oper.wp execOp
  simp only [ho, resolve, invoke, builtin, Sem.run_bind, Sem.run_pure, Result.andThen_ok, List.map_toArray, List.map_cons, List.map_nil, hs, hx, hr]
  refine h v' w' ?_ (Below.grown (Below.refl _ _) h3 hbase (fun k hk => (hlt k hk).1)) hk
  unfold OwnI
  rw [List.length_append, List.length_singleton]
  have : ivals (l ++ [c]) = ivals l ++ [.int .i64 (c : Nat)] := by simp [ivals]
  rw [this]
  exact h2
structure Cells8 (w : World) (gv a b c d e f g h : Nat) : Prop where
  c0 : w.cell? ⟨gv, 0, none⟩ = some (.int .i64 (a : Nat))
  c1 : w.cell? ⟨gv, 1, none⟩ = some (.int .i64 (b : Nat))
  c2 : w.cell? ⟨gv, 2, none⟩ = some (.int .i64 (c : Nat))
  c3 : w.cell? ⟨gv, 3, none⟩ = some (.int .i64 (d : Nat))
  c4 : w.cell? ⟨gv, 4, none⟩ = some (.int .i64 (e : Nat))
  c5 : w.cell? ⟨gv, 5, none⟩ = some (.int .i64 (f : Nat))
  c6 : w.cell? ⟨gv, 6, none⟩ = some (.int .i64 (g : Nat))
  c7 : w.cell? ⟨gv, 7, none⟩ = some (.int .i64 (h : Nat))
theorem Cells8.below {w w' : World} {gv a b c d e f g h : Nat} (k : Cells8 w gv a b c d e f g h) (hb : Below w.heap.size w w') (hz : gv < w.heap.size) : Cells8 w' gv a b c d e f g h :=
  ⟨(hb.cell (p := ⟨gv, 0, none⟩) hz).trans k.c0, (hb.cell (p := ⟨gv, 1, none⟩) hz).trans k.c1, (hb.cell (p := ⟨gv, 2, none⟩) hz).trans k.c2, (hb.cell (p := ⟨gv, 3, none⟩) hz).trans k.c3, (hb.cell (p := ⟨gv, 4, none⟩) hz).trans k.c4, (hb.cell (p := ⟨gv, 5, none⟩) hz).trans k.c5, (hb.cell (p := ⟨gv, 6, none⟩) hz).trans k.c6, (hb.cell (p := ⟨gv, 7, none⟩) hz).trans k.c7⟩
theorem wrapA (x y : Nat) (h : x + y ≤ 9223372036854775807) : wrap64 ((x : Int) + (y : Int)) = ((x + y : Nat) : Int) := by
  rw [← Int.natCast_add]
  exact wrap_nat _ h
theorem mix_at (P U : List Nat) (n i : Nat) (hp : P.length = n) (hu : U.length = n) (hi : i < n) : (P.take i ++ U.drop i).getD i 0 = U.getD i 0 := by
  have hl : (P.take i).length = i := by rw [List.length_take]; omega
  rw [List.getD_eq_getElem?_getD, List.getElem?_append_right (by omega), hl, Nat.sub_self, List.getElem?_drop, Nat.add_zero, List.getD_eq_getElem?_getD]
theorem mix_set (P U : List Nat) (n i : Nat) (hp : P.length = n) (hu : U.length = n) (hi : i < n) : (P.take i ++ U.drop i).set i (P.getD i 0) = P.take (i + 1) ++ U.drop (i + 1) := by
  have hl : (P.take i).length = i := by rw [List.length_take]; omega
  rw [List.set_append_right _ _ (by omega), hl, Nat.sub_self, List.drop_eq_getElem_cons (show i < U.length by omega), List.set_cons_zero, take_snocN P i (by omega), List.append_assoc]
  rfl
theorem plus_at (v u : Sh.St) : ∀ i, i < 8 → (Sh.plus v u).list.getD i 0 = (u.list.getD i 0 + v.list.getD i 0) % 4294967296
  | 0, _ => by show (v.a + u.a) % 4294967296 = (u.a + v.a) % 4294967296; rw [Nat.add_comm]
  | 1, _ => by show (v.b + u.b) % 4294967296 = (u.b + v.b) % 4294967296; rw [Nat.add_comm]
  | 2, _ => by show (v.c + u.c) % 4294967296 = (u.c + v.c) % 4294967296; rw [Nat.add_comm]
  | 3, _ => by show (v.d + u.d) % 4294967296 = (u.d + v.d) % 4294967296; rw [Nat.add_comm]
  | 4, _ => by show (v.e + u.e) % 4294967296 = (u.e + v.e) % 4294967296; rw [Nat.add_comm]
  | 5, _ => by show (v.f + u.f) % 4294967296 = (u.f + v.f) % 4294967296; rw [Nat.add_comm]
  | 6, _ => by show (v.g + u.g) % 4294967296 = (u.g + v.g) % 4294967296; rw [Nat.add_comm]
  | 7, _ => by show (v.h + u.h) % 4294967296 = (u.h + v.h) % 4294967296; rw [Nat.add_comm]
  | n + 8, h => absurd h (by omega)
theorem st_mem {v : Sh.St} (h : v.Ok) : ∀ x ∈ v.list, x < 4294967296 := by
  intro x hx
  simp only [Sh.St.list, List.mem_cons, List.not_mem_nil, or_false] at hx
  rcases hx with rfl | rfl | rfl | rfl | rfl | rfl | rfl | rfl
  · exact h.a
  · exact h.b
  · exact h.c
  · exact h.d
  · exact h.e
  · exact h.f
  · exact h.g
  · exact h.h
theorem st_at {v : Sh.St} (h : v.Ok) (i : Nat) : v.list.getD i 0 < 4294967296 := Sh.getD_lt (st_mem h) i
theorem OwnI.frozen {w : World} {base g n cap : Nat} {l : List Nat} (h : OwnI w base (.slice (some ⟨g, 0, none⟩) n cap) l) (i : Nat) : w.frozen? ⟨g, i, none⟩ = false := by
  rcases h.2 with ⟨h0, _⟩ | ⟨g', cap', cur, hv, _, hg, _⟩
  · cases h0
  · injection hv with e1
    injection e1 with e1
    injection e1 with e1
    subst e1
    exact frozen_of_row _ _ _ _ _ hg
theorem OwnI.set {w : World} {base g n cap x : Nat} {l : List Nat} (h : OwnI w base (.slice (some ⟨g, 0, none⟩) n cap) l) (i : Nat) :
    OwnI (w.setCell ⟨g, i, none⟩ (.int .i64 (x : Nat))) base (.slice (some ⟨g, 0, none⟩) n cap) (l.set i x) := by
  rcases h.2 with ⟨h0, _⟩ | ⟨g', cap', cur, hv, hbg, hg, hnc, hcm, hcs, ht⟩
  · cases h0
  · injection hv with e1 e2 e3
    injection e1 with e1
    injection e1 with e1
    subst e1 e2 e3
    refine ⟨by simp [ivals], .inr ⟨g, cap, _, by rw [List.length_set], hbg, heap_setCell_same _ _ _ _ _ _ hg, by rw [List.length_set]; exact hnc, hcm, by rw [Array.size_setIfInBounds]; exact hcs, ?_⟩⟩
    rw [List.length_set, Array.toList_setIfInBounds, List.take_set, ht]
    simp [ivals, List.map_set]
end Go.Proofs.YtihgglplbanegaaDoor
