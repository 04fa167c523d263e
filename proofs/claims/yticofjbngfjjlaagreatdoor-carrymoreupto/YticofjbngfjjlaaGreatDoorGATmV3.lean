/- append of one term onto a row of one's own. -/
import Derived.Test.YticofjbngfjjlaaGreatDoorGATmW8
import Derived.OwnWalk
import Derived.Test.YticofjbngfjjlaaGreatDoorGACyU9
import Derived.Test.YticofjbngfjjlaaGreatDoorGACyW7
namespace Go.Proofs.YticofjbngfjjlaaGreatDoor.Te
open Go.RowKit
open Tt

/-- A row of terms of one's own, with whatever room. -/
def OwnT (S : Nat → Prop) (w : World) (base : Nat) (v : Value) (l : List Tm) : Prop := ∃ xs, w.ownsRow base 25 4 v l.length xs ∧ Els w S l xs

theorem OwnT.nil (S : Nat → Prop) (w : World) (base : Nat) : OwnT S w base (.slice none 0 0) [] := ⟨[], World.ownsRow_nil w base _ _, by rw [Els]⟩
theorem OwnT.form {S : Nat → Prop} {w : World} {base : Nat} {v : Value} {l : List Tm} (h : OwnT S w base v l) : ∃ A ca, v = .slice A l.length ca := by
  obtain ⟨xs, ⟨_, h⟩, _⟩ := h
  rcases h with ⟨rfl, h0⟩ | ⟨g, cap, cur, rfl, _⟩
  · exact ⟨none, 0, by rw [h0]⟩
  · exact ⟨_, _, rfl⟩
theorem OwnT.lt {S : Nat → Prop} {w : World} {base : Nat} {v : Value} {l : List Tm} (h : OwnT S w base v l) : ∀ k, v.ownBlock = some k → base ≤ k ∧ k < w.heap.size := by
  obtain ⟨xs, h, _⟩ := h
  exact World.ownsRow.lt h
theorem OwnT.row {S S' : Nat → Prop} {w : World} {base n ca : Nat} {A : Option Addr} {l : List Tm} (h : OwnT S w base (.slice A n ca) l) (hS : ∀ b, S b → S' b) (hO : ∀ b, (Value.slice A n ca).ownBlock = some b → S' b) : TRow w S' l A := by
  obtain ⟨A', ca', hf⟩ := h.form
  injection hf with e1 e2 e3
  subst e1 e2 e3
  obtain ⟨xs, h1, h2⟩ := h
  exact trow_of_own h1 (els_keep hS (fun _ _ _ => rfl) _ _ h2) rfl hO
/-- It stays where its own block, and what its terms lead to, stays. -/
theorem OwnT.keep {S S' : Nat → Prop} {w w' : World} {base : Nat} {v : Value} {l : List Tm} (h : OwnT S w base v l) (ho : ∀ k, v.ownBlock = some k → w'.heap[k]? = w.heap[k]?) (hS : ∀ b, S b → S' b) (hk : ∀ b, S b → w'.heap[b]? = w.heap[b]?) : OwnT S' w' base v l := by
  obtain ⟨xs, ⟨h0, h1⟩, h2⟩ := h
  refine ⟨xs, ⟨h0, ?_⟩, els_keep hS (fun b o hb => World.cell?_of_block (a := ⟨b, o, none⟩) (hk b hb)) _ _ h2⟩
  rcases h1 with h1 | ⟨g, cap, cur, rfl, h3, h4, h5⟩
  · exact .inl h1
  · exact .inr ⟨g, cap, cur, rfl, h3, (ho g rfl).trans h4, h5⟩
theorem OwnT.below {S : Nat → Prop} {w w' : World} {base : Nat} {v : Value} {l : List Tm} (h : OwnT S w base v l) (hb : Below w.heap.size w w') (hS : ∀ b, S b → b < w.heap.size) : OwnT S w' base v l :=
  h.keep (fun k hk => hb.block k (h.lt k hk).2) (fun _ h => h) (fun b hb' => hb.block b (hS b hb'))

theorem NewRow.own {S S' : Nat → Prop} {m base : Nat} {w' : World} {l : List Tm} {u : Value} (h : NewRow S m w' l u) (hm : base ≤ m) (hl : l.length ≤ 1000000) (hS : ∀ b, S b → S' b) : OwnT S' w' base u l := by
  obtain ⟨g, xs, rfl, hg, hc, he⟩ := h
  have hlen := els_len l xs he
  refine ⟨xs, ⟨hlen, .inr ⟨g, l.length, xs.toArray, rfl, by omega, hc, Nat.le_refl _, by simp [maxLen]; omega, by simpa using hlen, ?_⟩⟩, els_keep hS (fun _ _ _ => rfl) l xs he⟩
  simp [← hlen]

theorem one_cells {w : World} {S : Nat → Prop} {x : Tm} {v0 v1 v2 v3 : Value} (h : Rep w S x (.agg #[v0, v1, v2, v3])) : ∀ u ∈ [v0, v1, v2, v3], u.oneCell' = true := by
  have := els_one_cell [x] [v0, v1, v2, v3] (els_one h)
  exact this

set_option maxHeartbeats 400000 in
set_option maxRecDepth 100000 in
theorem wpList_appT (wr : World) {ops : Array Oper} {rest : List Oper} {o : Oper} {a : Act} {Q : Exit → Act → World → Prop} (hgd : o.guard = none) (s x : Operand)
    (ho : o.op = .call { callee := .builtin .append, args := #[s, x], argTypes := #[23, 23] }) (base : Nat) (v : Value) (l : List Tm) (y : Tm) (v0 v1 v2 v3 : Value) (S : Nat → Prop) (hs : a.eval s = v) (m : Nat) (hm : m = wr.heap.size) (hx : a.eval x = .slice (some ⟨m, 0, none⟩) 1 1)
    (hown : OwnT S wr base v l) (hy : Rep wr S y (.agg #[v0, v1, v2, v3])) (hS : ∀ b, S b → b < base) (hl : l.length ≤ 1000000) (hbase : base ≤ wr.heap.size)
    (h : ∀ v' w', OwnT S w' base v' (l ++ [y]) → Below base wr w' → (∀ k, k < wr.heap.size → v.ownBlock ≠ some k → w'.heap[k]? = wr.heap[k]?) → (∀ k, v'.ownBlock = some k → v.ownBlock = some k ∨ wr.heap.size ≤ k) → wr.heap.size ≤ w'.heap.size → wpList Tryz.prog ops Q rest (a.put o.dst v') w') :
    wpList Tryz.prog ops Q (o :: rest) a (wr.alloc (.cells #[v0, v1, v2, v3] 25)) := by
  subst hm
  obtain ⟨i, hi, he⟩ := Option.map_eq_some_iff.1 infoT
  simp only [Prod.mk.injEq] at he
  obtain ⟨hz, hsz, hb⟩ := he
  have hg := heap_alloc_new wr (.cells #[v0, v1, v2, v3] 25)
  have hlt := hown.lt
  obtain ⟨xs, hrow, hels⟩ := hown
  have hown' : (wr.alloc (.cells #[v0, v1, v2, v3] 25)).ownsRow base 25 4 v l.length xs := World.ownsRow.alloc hrow _
  refine wpList_append_own_at _ hgd s x 23 ho base 25 i _ 4 56 Tryz.underlying23 hi hz hsz hb rfl (by decide) v l.length xs hs hown' ⟨wr.heap.size, 0, none⟩ 1 1 [v0, v1, v2, v3] hx rfl (fun j u hu => ?_) (one_cells hy) (by simp only [maxLen]; omega) (by omega) (by simp; omega) fun v' w' h1 h2 _ h4 => h v' w' ?_ ?_ ?_ ?_ ?_
  · rw [Addr.add_lit]
    exact (cell_of_row _ _ _ _ _ _ hg).trans (by simpa using hu)
  · refine ⟨_, by rw [List.length_append, List.length_singleton]; exact h1, ?_⟩
    have hblk : ∀ b, S b → w'.heap[b]? = wr.heap[b]? := fun b hb' => by
      have hb2 := hS b hb'
      rw [h2.block b (by simp; omega) (fun e => by have := hlt b e.symm; omega)]
      exact heap_alloc_old wr _ (by omega)
    exact els_keep (fun _ h => h) (fun b o hb' => World.cell?_of_block (a := ⟨b, o, none⟩) (hblk b hb')) _ _ (els_app l xs [y] [v0, v1, v2, v3] hels (els_one hy))
  · exact Below.grown ((Below.refl _ _).alloc hbase _) h2 (by simp; omega) (fun k hk => (hlt k hk).1)
  · intro k hk hne
    rw [h2.block k (by simp; omega) (fun e => hne e.symm)]
    exact heap_alloc_old wr _ hk
  · intro k hk
    rcases h4 with h4 | h4
    · exact .inl (h4 ▸ hk)
    · rw [h4] at hk
      injection hk with hk
      simp at hk
      exact .inr (by omega)
  · have := h2.size
    simp at this
    omega

/-- One cell of a term's block is set. -/
theorem set1L {w : World} {g : Nat} {v0 v1 v2 v3 : Value} {t : TypeId} (h : w.heap[g]? = some (.cells #[v0, v1, v2, v3] t (0, 0))) (u : Value) : w.setCell ⟨g, 3, none⟩ u = w.setRow g #[v0, v1, v2, u] := by
  rw [setCell_eq_setRow w g 3 _ t (0, 0) u h]
  rfl
theorem lrow_one {w : World} {S : Nat → Prop} {x : Tm} {a0 a1 a2 a3 : Value} (hx : Rep w S x (.agg #[a0, a1, a2, a3])) (hS : ∀ b, S b → b < w.heap.size) (t : TypeId) :
    LRow (w.alloc (.cells #[a0, a1, a2, a3] t)) S [x] (some ⟨w.heap.size, 0, none⟩) := by
  refine .inr ⟨w.heap.size, 0, [a0, a1, a2, a3], rfl, by simp, by rw [Els, Els]; exact ⟨rep_alloc hx _ (fun b hb => ⟨hS b hb, hb⟩), rfl⟩, fun j u hj => ?_⟩
  rw [Nat.zero_add, cell_of_row _ _ _ _ _ _ (heap_alloc_new w _)]
  simpa using hj
end Go.Proofs.YticofjbngfjjlaaGreatDoor.Te

/- carry: the reader's list, by what its term does. (Laid with NS=1; written by wip/tools/gen/cyu13.py.) -/

namespace Go.Proofs.YticofjbngfjjlaaGreatDoor.Cy
open Go.RowKit
open Te Te.Tt
open Wi.Wr (It wr wrs)

set_option maxHeartbeats 400000 in
set_option maxRecDepth 100000 in
theorem wpList_appTg (wr : World) {ops : Array Oper} {rest : List Oper} {o : Oper} {a : Act} {Q : Exit → Act → World → Prop} (hgd : o.guard = none) (s x : Operand)
    (ho : o.op = .call { callee := .builtin .append, args := #[s, x], argTypes := #[23, 23] }) (base : Nat) (v : Value) (l : List Tm) (y : Tm) (v0 v1 v2 v3 : Value) (S : Nat → Prop) (hs : a.eval s = v) (m : Nat) (hm : m = wr.heap.size) (hx : a.eval x = .slice (some ⟨m, 0, none⟩) 1 1)
    (hown : OwnT S wr base v l) (hy : Rep wr S y (.agg #[v0, v1, v2, v3])) (hS : ∀ b, S b → b < wr.heap.size ∧ v.ownBlock ≠ some b) (hl : l.length ≤ 1000000) (hbase : base ≤ wr.heap.size)
    (h : ∀ v' w', OwnT S w' base v' (l ++ [y]) → Below base wr w' → (∀ k, k < wr.heap.size → v.ownBlock ≠ some k → w'.heap[k]? = wr.heap[k]?) → (∀ k, v'.ownBlock = some k → v.ownBlock = some k ∨ wr.heap.size ≤ k) → wr.heap.size ≤ w'.heap.size → wpList Tryz.prog ops Q rest (a.put o.dst v') w') :
    wpList Tryz.prog ops Q (o :: rest) a (wr.alloc (.cells #[v0, v1, v2, v3] 25)) := by
  subst hm
  obtain ⟨i, hi, he⟩ := Option.map_eq_some_iff.1 infoT
  simp only [Prod.mk.injEq] at he
  obtain ⟨hz, hsz, hb⟩ := he
  have hg := heap_alloc_new wr (.cells #[v0, v1, v2, v3] 25)
  have hlt := hown.lt
  obtain ⟨xs, hrow, hels⟩ := hown
  have hown' : (wr.alloc (.cells #[v0, v1, v2, v3] 25)).ownsRow base 25 4 v l.length xs := World.ownsRow.alloc hrow _
  refine wpList_append_own_at _ hgd s x 23 ho base 25 i _ 4 56 Tryz.underlying23 hi hz hsz hb rfl (by decide) v l.length xs hs hown' ⟨wr.heap.size, 0, none⟩ 1 1 [v0, v1, v2, v3] hx rfl (fun j u hu => ?_) (by obtain ⟨yn, yt, ys, yl⟩ := y; obtain ⟨A', ca', he, -⟩ := rep_mk.1 hy; injection he with he; simp at he; obtain ⟨rfl, rfl, rfl, rfl⟩ := he; simp [Value.oneCell']) (by simp only [maxLen]; omega) (by omega) (by simp; omega) fun v' w' h1 h2 _ h4 => h v' w' ?_ ?_ ?_ ?_ ?_
  · rw [Addr.add_lit]
    exact (cell_of_row _ _ _ _ _ _ hg).trans (by simpa using hu)
  · refine ⟨_, by rw [List.length_append, List.length_singleton]; exact h1, ?_⟩
    have hblk : ∀ b, S b → w'.heap[b]? = wr.heap[b]? := fun b hb' => by
      have hb2 := hS b hb'
      rw [h2.block b (by simp; omega) (fun e => hb2.2 e.symm)]
      exact heap_alloc_old wr _ hb2.1
    exact els_keep (fun _ h => h) (fun b o hb' => World.cell?_of_block (a := ⟨b, o, none⟩) (hblk b hb')) _ _ (els_app l xs [y] [v0, v1, v2, v3] hels (els_one hy))
  · exact Below.grown ((Below.refl _ _).alloc hbase _) h2 (by simp; omega) (fun k hk => (hlt k hk).1)
  · intro k hk hne
    rw [h2.block k (by simp; omega) (fun e => hne e.symm)]
    exact heap_alloc_old wr _ hk
  · intro k hk
    rcases h4 with h4 | h4
    · exact .inl (h4 ▸ hk)
    · rw [h4] at hk
      injection hk with hk
      simp at hk
      exact .inr (by omega)
  · have := h2.size
    simp at this
    omega

theorem make_terms (m : Nat) (h : m ≤ 10000) (W : World) : ∃ zs : Array Value, zs.size = m * 4 ∧ (Instr.makeSlice 23 (.int .i64 0) (.int .i64 (m : Int))).run Tryz.prog W = .ok (.slice (some ⟨W.heap.size, 0, none⟩) 0 m) (W.alloc (.cells zs 25)) := by
  obtain ⟨i, hi, hz, hs, hb⟩ := info_parts infoT
  have hr := run_make (P := Tryz.prog) W 23 25 i _ Tryz.underlying23 hi hz .i64 .i64 0 m (by omega) (by omega) (by rw [hb]; omega) (by omega)
  rw [hr, hs, Int.toNat_natCast]
  exact ⟨_, by simp [madeCells], rfl⟩
theorem own_terms (W : World) (m : Nat) (h : m ≤ 10000) (zs : Array Value) (hz : zs.size = m * 4) : (W.alloc (.cells zs 25)).ownsRow W.heap.size 25 4 (.slice (some ⟨W.heap.size, 0, none⟩) 0 m) 0 [] := by
  refine ⟨rfl, .inr ⟨W.heap.size, m, zs, rfl, Nat.le_refl _, heap_alloc_new _ _, Nat.zero_le _, ?_, hz, by simp⟩⟩
  simp only [maxLen]; omega

theorem lst_snoc {U : It → Except Int Tm} : ∀ (l : List It) (ts : List Tm) (x : It) (t : Tm), lst U l = .ok ts → U x = .ok t → lst U (l ++ [x]) = .ok (ts ++ [t])
  | [], ts, x, t, h, hx => by
    rw [lst] at h
    injection h with h
    subst h
    rw [List.nil_append, lst, hx]
    rfl
  | y :: r, ts, x, t, h, hx => by
    rw [lst] at h
    cases hy : U y with
    | error e => rw [hy] at h; cases h
    | ok ty =>
      rw [hy] at h
      simp only at h
      cases hr : lst U r with
      | error e => rw [hr] at h; cases h
      | ok tr =>
        rw [hr] at h
        injection h with h
        subst h
        rw [List.cons_append, lst, hy]
        simp only
        rw [lst_snoc r tr x t hr hx]
        rfl
theorem lst_stop {U : It → Except Int Tm} : ∀ (l : List It) (ts : List Tm) (x : It) (e : Int) (rest : List It), lst U l = .ok ts → U x = .error e → lst U (l ++ x :: rest) = .error e
  | [], ts, x, e, rest, h, hx => by rw [List.nil_append, lst, hx]
  | y :: r, ts, x, e, rest, h, hx => by
    rw [lst] at h
    cases hy : U y with
    | error e => rw [hy] at h; cases h
    | ok ty =>
      rw [hy] at h
      simp only at h
      cases hr : lst U r with
      | error e => rw [hr] at h; cases h
      | ok tr => rw [List.cons_append, lst, hy]; simp only; rw [lst_stop r tr x e rest hr hx]
theorem lst_len {U : It → Except Int Tm} : ∀ (l : List It) (ts : List Tm), lst U l = .ok ts → ts.length = l.length
  | [], ts, h => by rw [lst] at h; injection h with h; subst h; rfl
  | y :: r, ts, h => by
    rw [lst] at h
    cases hy : U y with
    | error e => rw [hy] at h; cases h
    | ok ty =>
      rw [hy] at h
      simp only at h
      cases hr : lst U r with
      | error e => rw [hr] at h; cases h
      | ok tr =>
        rw [hr] at h
        injection h with h
        subst h
        simp [lst_len r tr hr]
/-- What a list is read as. -/
def lsR (U : It → Except Int Tm) (l : List It) : Except Int Tm :=
  if 64 < l.length then .error 13 else
  match lst U l with
  | .error e => .error e
  | .ok r => .ok (.mk 3 [] 0 r)

/-- What holds at the head of list's loop. -/
def RlRel (E : Rd) (U : It → Except Int Tm) (l : List It) (V : World) (iv kv : Value) (wr : World) : Prop :=
  ∃ (i : Nat) (ts : List Tm), kv = .int .i64 i ∧ i ≤ l.length ∧ lst U (l.take i) = .ok ts ∧ E.lies wr ∧ Oth V.heap.size E.gb V wr ∧ V.heap.size + 1 ≤ wr.heap.size ∧
    wr.heap[V.heap.size]? = some (.cells #[.int .i64 0, .string ⟨#[]⟩, .int .i64 0, .slice none 0 0] 25 (0, 0)) ∧ OwnT (fun b => V.heap.size + 1 ≤ b ∧ b < wr.heap.size ∧ iv.ownBlock ≠ some b) wr (V.heap.size + 1) iv ts

set_option maxHeartbeats 8000000 in
set_option maxRecDepth 100000 in
theorem rlist_of (E : Rd) (ho : E.ok) (f : Nat) (d : Int) (hd0 : 0 ≤ d) (hd1 : d ≤ 16) (hd : d + 1 = 17 - (f : Nat)) (hT : TermSaid E f) (l : List It) (A : Option Addr) (ca : Nat) (S : Nat → Prop) (V : World) (hn : l.length ≤ 9000) (hsh : ∀ y ∈ l, Sh9 y) (hV : E.lies V)
    (hr : Wi.Row V S l A) (hS : ∀ b, S b → b < V.heap.size ∧ b ≠ E.gb) :
    Calls Tryz.prog 140 #[.pointer (some ⟨E.R, 0, none⟩), .slice A l.length ca, .int .i64 d] V (RPost E V (lsR (un E.c E.ks f) l)) := by
  obtain ⟨hl0, ho0, hg0, hs0⟩ := beg4 hV #[.int .i64 0, .string ⟨#[]⟩, .int .i64 0, .slice none 0 0] 25
  by_cases h64 : 64 < l.length
  · have HR : Hid (lsR (un E.c E.ks f) l = .error 13) := by rw [Hid, lsR, if_pos h64]
    have e1 : decide (((l.length : Nat) : Int) > 64) = true := by simp; omega
    have e1' : (64 : Int) < ((l.length : Nat) : Int) := by omega
    have HL0 := Lib.hid hl0
    have HO0 := Lib.hid ho0
    clear hT hsh hV hr hS hd hg0 hs0 hl0 ho0 h64 hd0 hd1
    go_enter Tryz.func140, Tryz.ntmps140
    go_wp2
    refine bodyPost_ret (v := .tuple #[.agg #[.int .i64 0, .string ⟨#[]⟩, .int .i64 0, .slice none 0 0], .int .i64 13]) (by simp [results, Tryz.results140, go_sem]) rfl ?_
    unfold RPost
    rw [HR.out]
    exact ⟨rfl, HL0.out, HO0.out⟩
  · have h64' : ¬ (64 : Int) < ((l.length : Nat) : Int) := by omega
    obtain ⟨zs, hzs, hmk⟩ := make_terms l.length (by omega) (V.alloc (.cells #[.int .i64 0, .string ⟨#[]⟩, .int .i64 0, .slice none 0 0] 25))
    have hown0 := own_terms (V.alloc (.cells #[.int .i64 0, .string ⟨#[]⟩, .int .i64 0, .slice none 0 0] 25)) l.length (by omega) zs hzs
    have hbw : Below (V.heap.size + 1) (V.alloc (.cells #[.int .i64 0, .string ⟨#[]⟩, .int .i64 0, .slice none 0 0] 25)) ((V.alloc (.cells #[.int .i64 0, .string ⟨#[]⟩, .int .i64 0, .slice none 0 0] 25)).alloc (.cells zs 25)) := (Below.refl _ _).alloc (by omega) _
    have HR0 : Hid (RlRel E (un E.c E.ks f) l V (.slice (some ⟨V.heap.size + 1, 0, none⟩) 0 l.length) (.int .i64 0) ((V.alloc (.cells #[.int .i64 0, .string ⟨#[]⟩, .int .i64 0, .slice none 0 0] 25)).alloc (.cells zs 25))) := by
      rw [hs0] at hown0
      exact ⟨0, [], rfl, Nat.zero_le _, by rw [List.take_zero, lst], hl0.next (hbw.mono (by omega)), ho0.trans (Oth.of (hbw.mono (by omega))), by simp, (hbw.block _ (by omega)).trans hg0, [], hown0, by rw [Els]⟩
    rw [hs0] at hmk
    have HV := Lib.hid hV
    have HT := Lib.hid hT
    have HROW := Lib.hid hr
    have HSS := Lib.hid hS
    have HSH := Lib.hid hsh
    have HD := Lib.hid hd
    have H64 := Lib.hid h64
    clear hl0 ho0 hg0 hs0 hown0 hbw hV hT hr hS hsh hd h64
    go_enter Tryz.func140, Tryz.ntmps140
    go_wp2
    clear hmk
    go_loopw [8, 22] (fun iv kv wr => RlRel E (un E.c E.ks f) l V iv kv wr) (fun _ kv _ => l.length - (intOf kv).toNat)
    case atStart => exact HR0.out
    case round =>
      obtain ⟨i, ts, rfl, hi, hlst, hl, hoV, hsz, hz, hown⟩ := hrel
      clear HR0
      by_cases hlt : i < l.length
      · have hil : (i : Int) < (l.length : Int) := by omega
        have hroww : Wi.Row wr S l A := irow_keep HROW.out (fun b hb => hoV.block b (HSS.out b hb).1 (HSS.out b hb).2)
        obtain ⟨ib, io, nd, tg, xs, q, B, cb, rfl, hSb, hx, c0, c1, c2, c3, hrep⟩ := irow_get hroww hlt
        have hib := HSS.out _ hSb
        have hbw : Below wr.heap.size wr (wr.alloc (.cells #[.bool nd, .int .i64 tg, .string ⟨⟨xs⟩⟩, .slice B q.length cb] 64)) := (Below.refl _ _).alloc (Nat.le_refl _) _
        have hs1 : (wr.alloc (.cells #[.bool nd, .int .i64 tg, .string ⟨⟨xs⟩⟩, .slice B q.length cb] 64)).heap.size = wr.heap.size + 1 := by simp
        have hi1 := heap_alloc_new wr (.cells #[.bool nd, .int .i64 tg, .string ⟨⟨xs⟩⟩, .slice B q.length cb] 64)
        have hl1 := hl.next hbw
        have hz1 := (hbw.block V.heap.size (by omega)).trans hz
        have ho1 := hoV.trans (Oth.of (hbw.mono (by omega)))
        have hrep1 := Wi.rep_below hrep hbw (fun b hb => by have := (HSS.out b hb).1; omega)
        have hown1 := hown.keep (S' := fun b => V.heap.size + 1 ≤ b ∧ b < wr.heap.size ∧ u8.ownBlock ≠ some b) (fun k hk => hbw.block k (hown.lt k hk).2) (fun b hb => hb) (fun b hb => hbw.block b hb.2.1)
        have hmem : l[i] ∈ l := List.getElem_mem hlt
        have hta := List.take_succ_eq_append_getElem hlt
        have hdr : l = l.take i ++ l[i] :: l.drop (i + 1) := by rw [← List.drop_eq_getElem_cons hlt, List.take_append_drop]
        rw [hx] at hmem hta hdr
        have HCT := HT.out (.mk nd tg xs q) S _ _ (HSH.out _ hmem) hl1 hrep1 (fun b hb => ⟨by have := (HSS.out b hb).1; omega, (HSS.out b hb).2⟩)
        rw [← HD.out] at HCT
        have HCT := Lib.hid HCT
        obtain ⟨x0, x1, x2, x3⟩ := cell4 hi1
        have HZ1 := Lib.hid hz1
        have HO1 := Lib.hid ho1
        have HOWN1 := Lib.hid hown1
        have HTA := Lib.hid hta
        have HDR := Lib.hid hdr
        have HLST := Lib.hid hlst
        have HSZ := Lib.hid (show V.heap.size + 1 ≤ wr.heap.size ∧ (wr.alloc (.cells #[.bool nd, .int .i64 tg, .string ⟨⟨xs⟩⟩, .slice B q.length cb] 64)).heap.size = wr.heap.size + 1 from ⟨hsz, hs1⟩)
        have HOL := Lib.hid hown.lt
        clear hbw hs1 hi1 hl1 hz1 ho1 hrep1 hown1 hta hdr hlst hrep hroww hx hSb hmem hl hoV hsz hz hown hib
        go_wp2_with fail
        generalize wr.alloc (.cells #[.bool nd, .int .i64 tg, .string ⟨⟨xs⟩⟩, .slice B q.length cb] 64) = W1 at *
        refine HCT.out.mono ?_
        rintro e w2 ⟨hp, hl2, ho2⟩
        have hs1 := HSZ.out
        have hgb := HV.out.blt
        have hs2 := ho2.size
        have hol := HOL.out
        have hz2 := (ho2.block V.heap.size (by omega) (by omega)).trans HZ1.out
        have hoV2 := HO1.out.trans (ho2.mono (by omega))
        have hown2 := HOWN1.out.keep (S' := fun b => V.heap.size + 1 ≤ b ∧ b < wr.heap.size ∧ u8.ownBlock ≠ some b) (fun k hk => ho2.block k (by have := (hol k hk).2; omega) (by have := (hol k hk).1; omega)) (fun b hb => hb) (fun b hb => ho2.block b (by have := hb.2.1; omega) (by have := hb.1; omega))
        obtain ⟨r, hr⟩ : ∃ r, r = un E.c E.ks f (.mk nd tg xs q) := ⟨_, rfl⟩
        have hue := un_err E.c E.ks f (.mk nd tg xs q)
        rw [← hr] at hp hue
        have HRR := Lib.hid hr
        clear ho2 HZ1 HO1 HOWN1 HCT x0 x1 x2 x3 hr c0 c1 c2 c3
        cases r with
        | error x =>
          have hxx := hue x rfl
          have e1 : (x != 0) = true := by simpa using hxx
          unfold zeroT at hp
          simp only at hp
          subst hp
          have HR : Hid (lsR (un E.c E.ks f) l = .error x) := by
            rw [Hid, lsR, if_neg H64.out, HDR.out, lst_stop _ _ _ x _ HLST.out HRR.out.symm]
          have hbw : Below w2.heap.size w2 (w2.alloc (.cells #[.int .i64 0, .string ⟨#[]⟩, .int .i64 0, .slice none 0 0] 25)) := (Below.refl _ _).alloc (Nat.le_refl _) _
          have hlF := hl2.next hbw
          have hgF := (hbw.block V.heap.size (by omega)).trans hz2
          have hoF := hoV2.trans (Oth.of (hbw.mono (by omega)))
          clear hbw hl2 hz2 hoV2 hown2 hxx hue hs1 hgb hs2 hol HOL HLST HTA HDR HRR
          obtain ⟨q1, q2, q3, q4, q5⟩ := fin4 (v0 := .int .i64 0) (v1 := .string ⟨#[]⟩) (v2 := .int .i64 0) (v3 := .slice none 0 0) ho HV.out hlF (Nat.le_refl _) hgF hoF
          obtain ⟨y0, y1, y2, y3⟩ := cell4 hgF
          have f0 := fun j => frozen_of_row _ _ j _ _ hgF
          have Q1 := Lib.hid q1
          have Q2 := Lib.hid q2
          have Q3 := Lib.hid q3
          have Q4 := Lib.hid q4
          have Q5 := Lib.hid q5
          clear hlF hgF hoF q1 q2 q3 q4 q5
          go_wp2
          obtain ⟨y0, y1, y2, y3⟩ := cell4 Q1.out
          refine bodyPost_ret (v := .tuple #[.agg #[.int .i64 0, .string ⟨#[]⟩, .int .i64 0, .slice none 0 0], .int .i64 x]) (by simp [results, Tryz.results140, go_sem, y0, y1, y2, y3]) rfl ?_
          unfold RPost
          rw [HR.out]
          exact ⟨rfl, Q2.out, Q3.out⟩
        | ok t =>
          obtain ⟨u0, u1, u2, u3, rfl, hrt⟩ := hp
          obtain ⟨tk, ts', tn, tl⟩ := t
          obtain ⟨TA, tc, hv, -, -⟩ := rep_mk.1 hrt
          injection hv with hv
          simp at hv
          obtain ⟨rfl, rfl, rfl, rfl⟩ := hv
          obtain ⟨W3, hW3⟩ : ∃ W3, W3 = w2.alloc (.cells #[.int .i64 tk, .string ⟨⟨ts'⟩⟩, .int .i64 tn, .slice TA tl.length tc] 25) := ⟨_, rfl⟩
          have hbw : Below w2.heap.size w2 W3 := by rw [hW3]; exact (Below.refl _ _).alloc (Nat.le_refl _) _
          have hs3 : W3.heap.size = w2.heap.size + 1 := by rw [hW3]; simp
          have ht3 : W3.heap[w2.heap.size]? = some (.cells #[.int .i64 tk, .string ⟨⟨ts'⟩⟩, .int .i64 tn, .slice TA tl.length tc] 25 (0, 0)) := by rw [hW3]; exact heap_alloc_new _ _
          have HL3 := Lib.hid (hl2.next hbw)
          have HZ3 := Lib.hid ((hbw.block V.heap.size (by omega)).trans hz2)
          have HO3 := Lib.hid (hoV2.trans (Oth.of (hbw.mono (by omega))))
          have HOW3 := Lib.hid (hown2.keep (S' := fun b => V.heap.size + 1 ≤ b ∧ b < W3.heap.size ∧ u8.ownBlock ≠ some b) (fun k hk => hbw.block k (by have := (hol k hk).2; omega)) (fun b hb => ⟨hb.1, by have := hb.2.1; omega, hb.2.2⟩) (fun b hb => hbw.block b (by have := hb.2.1; omega)))
          have HRT3 := Lib.hid (rep_keep (S' := fun b => V.heap.size + 1 ≤ b ∧ b < W3.heap.size ∧ u8.ownBlock ≠ some b) (fun b hb => ⟨by have := hb.1; omega, by have := hb.2; omega, fun e => by have := (hol b e).2; have := hb.1; omega⟩) (fun b o hb => hbw.cell (p := ⟨b, o, none⟩) hb.2) _ _ hrt)
          have HTL := Lib.hid (show ts.length ≤ 1000000 by have h1 := lst_len _ _ HLST.out; rw [List.length_take] at h1; omega)
          have HLS := Lib.hid (show lst (un E.c E.ks f) (l.take (i + 1)) = .ok (ts ++ [.mk tk ts' tn tl]) by rw [HTA.out]; exact lst_snoc _ _ _ _ HLST.out HRR.out.symm)
          have HS3 := Lib.hid (show V.heap.size + 1 ≤ W3.heap.size ∧ W3.heap.size = w2.heap.size + 1 from ⟨by omega, hs3⟩)
          obtain ⟨x0, x1, x2, x3⟩ := cell4 ht3
          clear hbw hs3 ht3 hrt hl2 hz2 hoV2 hown2 hue hs1 hgb hs2 HLST HTA HDR HRR hol
          go_wp2_with (
            first
            | (at_builtin
               go_must (
                rw [← hW3]
                refine wpList_appTg W3 rfl (.tmp 38) (.tmp 40) rfl (V.heap.size + 1) u8 ts (.mk tk ts' tn tl) (.int .i64 tk) (.string ⟨⟨ts'⟩⟩) (.int .i64 tn) (.slice TA tl.length tc) _ rfl (w2.heap.size + 1) HS3.out.2.symm rfl HOW3.out HRT3.out (fun b hb => hb.2) HTL.out HS3.out.1 ?_
                intro v' w4 ho4 hb4 hk4 how4 hs4))
            | fail)
          have hgl := HV.out.blt
          have hRl := HV.out.rlt
          have hKl := HV.out.gk
          have hs3 := HS3.out
          refine ⟨⟨i + 1, ts ++ [.mk tk ts' tn tl], by go_num, by omega, HLS.out, HL3.out.oth ho hb4 (by omega) (by omega) (by omega), HO3.out.trans (Oth.of (hb4.mono (by omega))), by omega, (hb4.block _ (by omega)).trans HZ3.out, ?_⟩, by simp [intOf]; omega⟩
          refine ho4.keep (fun _ _ => rfl) (fun b hb => ⟨hb.1, by have := hb.2.1; omega, fun e => ?_⟩) (fun _ _ => rfl)
          rcases how4 b e with h | h
          · exact hb.2.2 h
          · have := hb.2.1; omega
      · obtain rfl : i = l.length := by omega
        rw [List.take_length] at hlst
        obtain ⟨B, cb, rfl⟩ := hown.form
        have HR : Hid (lsR (un E.c E.ks f) l = .ok (.mk 3 [] 0 ts)) := by rw [Hid, lsR, if_neg H64.out, hlst]
        have htl := lst_len _ _ hlst
        have hrow : TRow wr (Nw (V.heap.size + 1) wr) ts B := hown.row (fun b hb => ⟨hb.1, hb.2.1⟩) (fun b hb => hown.lt b hb)
        have HCL := Lib.hid (List_any ts B cb (Nw (V.heap.size + 1) wr) wr (by omega) (hrow.lrow (fun b hb => hb.2)) (fun b hb => hb.2))
        have HL := Lib.hid hl
        have HOV := Lib.hid hoV
        have HZ := Lib.hid hz
        have HSZ := Lib.hid hsz
        clear hlst hrow hl hoV hz hsz hown htl
        go_wp2_with fail
        refine HCL.out.mono ?_
        rintro _ w5 ⟨uu, rfl, hb5, hnr⟩
        have hnr0 := hnr
        obtain ⟨g5, xs5, rfl, -, -, -⟩ := hnr0
        have hlF := HL.out.next hb5
        have hgF := (hb5.block V.heap.size (by have := HSZ.out; omega)).trans HZ.out
        have hoF := HOV.out.trans (Oth.of (hb5.mono (by have := HSZ.out; omega)))
        have HNR := Lib.hid hnr
        have HSZ5 := Lib.hid hb5.size
        clear hb5 hnr HCL HL HOV HZ
        obtain ⟨q1, q2, q3, q4, q5⟩ := fin4 (v0 := .int .i64 3) (v1 := .string ⟨#[]⟩) (v2 := .int .i64 0) (v3 := .slice (some ⟨g5, 0, none⟩) ts.length ts.length) ho HV.out hlF (Nat.le_refl _) hgF hoF
        obtain ⟨y0, y1, y2, y3⟩ := cell4 hgF
        have f0 := fun j => frozen_of_row _ _ j _ _ hgF
        have Q1 := Lib.hid q1
        have Q2 := Lib.hid q2
        have Q3 := Lib.hid q3
        have Q4 := Lib.hid q4
        have Q5 := Lib.hid q5
        clear hlF hgF hoF q1 q2 q3 q4 q5
        go_wp2
        obtain ⟨y0, y1, y2, y3⟩ := cell4 Q1.out
        refine bodyPost_ret (v := .tuple #[.agg #[.int .i64 3, .string ⟨#[]⟩, .int .i64 0, .slice (some ⟨g5, 0, none⟩) ts.length ts.length], .int .i64 0]) (by simp [results, Tryz.results140, go_sem, y0, y1, y2, y3]) rfl ?_
        unfold RPost
        rw [HR.out]
        exact ⟨⟨_, _, _, _, rfl, newrow_rep HNR.out (fun b hb => ⟨by have := hb.1; omega, by rw [Q5.out]; have := hb.2; have := HSZ5.out; omega⟩) (fun b hb => Q4.out b (by rcases hb with hb | hb <;> (have := hb.1; have := HSZ.out; omega))) (fun g h1 h2 => ⟨by have := HSZ.out; omega, by rw [Q5.out]; exact h2⟩) 3 [] 0 ⟨by omega, by omega⟩⟩, Q2.out, Q3.out⟩
end Go.Proofs.YticofjbngfjjlaaGreatDoor.Cy

