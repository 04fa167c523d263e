/- A store of principals in memory. (Laid with NS=1; written by wip/tools/gen/pot.py.) -/
import Derived.Test.YtehmfkcihieecaaPoPure
import Derived.Test.YtehmfkcihieecaaTmW2
import Derived.Maps.OwnSet
import Derived.Maps.OwnOps
import Derived.StringKeys
import Derived.Lib.OwnBridge
namespace Go.Proofs.Ytehmfkcihieecaa.Po
open Go.RowKit
open Te Te.Tt
open Go (Lit DataW MemPlace keyOf maxLen)

/-! ### Maps whose elements are looked at as they lie -/
def tok (v : Value) : Option (DataW Value × List MemPlace) := some (.held v, [])
theorem tok_mk (v : Value) : tok v = some (.held v, []) := rfl
theorem tok_inv {v u : Value} {ps : List MemPlace} (h : tok v = some (.held u, ps)) : v = u := by
  unfold tok at h
  injection h with h
  injection h with h _
  injection h
theorem law : Go.Maps.Keyed Try.prog 9 := Go.Maps.string_keyed Try.underlying9
theorem hkey (m : Nm) (h : m.length ≤ maxLen) : keyOf Try.prog 9 (.string ⟨⟨m⟩⟩) = some (.string m) :=
  Go.WideMaps.keyOf_string_mk Try.underlying9 (s := ⟨⟨m⟩⟩) h
theorem tight {w : World} {b n : Nat} {D : DataW Value} (h : w.ownsMap Try.prog 9 tok b n D) : w.ownsMap Try.prog 9 tok b (Maps.size D) D := by
  obtain ⟨es, clock, hb, F, hs, rfl⟩ := h
  exact ⟨es, clock, hb, F, by simp [Maps.size, length_sorted], rfl⟩
theorem own_keep {w w' : World} {b n : Nat} {D : DataW Value} (h : w.ownsMap Try.prog 9 tok b n D) (hb : w'.heap[b]? = w.heap[b]?) : w'.ownsMap Try.prog 9 tok b n D := by
  obtain ⟨es, clock, h1, F, hs, hD⟩ := h
  exact ⟨es, clock, hb.trans h1, F, hs, hD⟩
theorem isKey (m : Nm) : WideAt.IsKeyLit (.string m) := trivial
theorem lit_ne {m n : Nm} (h : m ≠ n) : (Lit.string m) ≠ .string n := fun e => h (by injection e)
theorem turned_block {w w' : World} {b : Nat} (h : w.mapTurned w' b) {i : Nat} (hi : i < w.heap.size) (hne : i ≠ b) : w'.heap[i]? = w.heap[i]? := h.grown.block i hi (fun e => hne (by injection e))
theorem turned_size {w w' : World} {b : Nat} (h : w.mapTurned w' b) : w.heap.size ≤ w'.heap.size := h.grown.size

/-- Nothing that lay there has changed, but what F tells. -/
structure Turn (F : Nat → Prop) (w w' : World) : Prop where
  os : w'.os = w.os
  tape : w'.tape = w.tape
  output : w'.output = w.output
  size : w.heap.size ≤ w'.heap.size
  block : ∀ i, i < w.heap.size → ¬ F i → w'.heap[i]? = w.heap[i]?
theorem Turn.refl (F : Nat → Prop) (w : World) : Turn F w w := ⟨rfl, rfl, rfl, Nat.le_refl _, fun _ _ _ => rfl⟩
theorem Turn.of_below {F : Nat → Prop} {w w' : World} (h : Below w.heap.size w w') : Turn F w w' := ⟨h.os, h.tape, h.output, h.size, fun i hi _ => h.block i hi⟩
theorem Turn.of_grown {F : Nat → Prop} {w w' : World} {row : Option Nat} (h : w.grownBy w' row) (hr : ∀ i, row = some i → F i) : Turn F w w' := ⟨h.os, h.tape, h.output, h.size, fun i hi hF => h.block i hi (fun e => hF (hr i e.symm))⟩
theorem Turn.trans {F F' : Nat → Prop} {a b c : World} (h : Turn F a b) (k : Turn F' b c) (hF : ∀ i, F' i → F i ∨ a.heap.size ≤ i) : Turn F a c :=
  ⟨k.os.trans h.os, k.tape.trans h.tape, k.output.trans h.output, Nat.le_trans h.size k.size, fun i hi hn => (k.block i (Nat.lt_of_lt_of_le hi h.size) (fun hf => by rcases hF i hf with h1 | h1; exact hn h1; omega)).trans (h.block i hi hn)⟩
theorem Turn.below {F : Nat → Prop} {w w' : World} {B : Nat} (h : Turn F w w') (hB : B ≤ w.heap.size) (hF : ∀ i, F i → B ≤ i) : Below B w w' :=
  ⟨h.os, h.tape, h.output, h.size, fun k hk => h.block k (by omega) (fun hf => by have := hF k hf; omega)⟩
theorem Turn.mono {F F' : Nat → Prop} {w w' : World} (h : Turn F w w') (hF : ∀ i, F i → F' i) : Turn F' w w' := ⟨h.os, h.tape, h.output, h.size, fun i hi hn => h.block i hi (fun hf => hn (hF i hf))⟩
theorem Turn.after {F : Nat → Prop} {a b c : World} (h : Below a.heap.size a b) (k : Turn F b c) : Turn F a c :=
  ⟨k.os.trans h.os, k.tape.trans h.tape, k.output.trans h.output, Nat.le_trans h.size k.size, fun i hi hn => (k.block i (Nat.lt_of_lt_of_le hi h.size) hn).trans (h.block i hi)⟩

/-! ### Rows of one's own -/
def svals (l : List Nm) : List Value := l.map fun s => .string ⟨⟨s⟩⟩
def ivals (l : List Int) : List Value := l.map (Value.int .i64)
def OwnS (w : World) (v : Value) (l : List Nm) : Prop := w.ownsRow 0 9 1 v l.length (svals l)
def OwnI (w : World) (v : Value) (l : List Int) : Prop := w.ownsRow 0 3 1 v l.length (ivals l)
abbrev nils : Value := .slice none 0 0
theorem OwnS.nil (w : World) : OwnS w nils [] := World.ownsRow_nil w 0 _ _
theorem OwnI.nil (w : World) : OwnI w nils [] := World.ownsRow_nil w 0 _ _
theorem row_keep {w w' : World} {e : TypeId} {v : Value} {n : Nat} {xs : List Value} (h : w.ownsRow 0 e 1 v n xs) (hk : ∀ k, v.ownBlock = some k → w'.heap[k]? = w.heap[k]?) : w'.ownsRow 0 e 1 v n xs := by
  obtain ⟨h0, h1⟩ := h
  refine ⟨h0, ?_⟩
  rcases h1 with h1 | ⟨g, cap, cur, rfl, h3, h4, h5⟩
  · exact .inl h1
  · exact .inr ⟨g, cap, cur, rfl, h3, (hk g rfl).trans h4, h5⟩
theorem OwnS.keep {w w' : World} {v : Value} {l : List Nm} (h : OwnS w v l) (hk : ∀ k, v.ownBlock = some k → w'.heap[k]? = w.heap[k]?) : OwnS w' v l := row_keep h hk
theorem OwnI.keep {w w' : World} {v : Value} {l : List Int} (h : OwnI w v l) (hk : ∀ k, v.ownBlock = some k → w'.heap[k]? = w.heap[k]?) : OwnI w' v l := row_keep h hk
theorem OwnS.lt {w : World} {v : Value} {l : List Nm} (h : OwnS w v l) : ∀ k, v.ownBlock = some k → k < w.heap.size := fun k hk => (World.ownsRow.lt h k hk).2
theorem OwnI.lt {w : World} {v : Value} {l : List Int} (h : OwnI w v l) : ∀ k, v.ownBlock = some k → k < w.heap.size := fun k hk => (World.ownsRow.lt h k hk).2
/-- A row of texts that is read. -/
def SRd (w : World) (S : Nat → Prop) (l : List Nm) (A : Option Addr) : Prop := l = [] ∨ ∃ b o, A = some ⟨b, o, none⟩ ∧ S b ∧ ∀ i (h : i < l.length), w.cell? ⟨b, o + i, none⟩ = some (.string ⟨⟨l[i]⟩⟩)
def IRd (w : World) (S : Nat → Prop) (l : List Int) (A : Option Addr) : Prop := l = [] ∨ ∃ b o, A = some ⟨b, o, none⟩ ∧ S b ∧ ∀ i (h : i < l.length), w.cell? ⟨b, o + i, none⟩ = some (.int .i64 l[i])
theorem SRd.keep {w w' : World} {S S' : Nat → Prop} {l : List Nm} {A : Option Addr} (h : SRd w S l A) (hS : ∀ b, S b → S' b) (hk : ∀ b, S b → w'.heap[b]? = w.heap[b]?) : SRd w' S' l A := by
  rcases h with h | ⟨b, o, h1, h2, h3⟩
  · exact .inl h
  · exact .inr ⟨b, o, h1, hS b h2, fun i hi => (World.cell?_of_block (a := ⟨b, o + i, none⟩) (hk b h2)).trans (h3 i hi)⟩
theorem IRd.keep {w w' : World} {S S' : Nat → Prop} {l : List Int} {A : Option Addr} (h : IRd w S l A) (hS : ∀ b, S b → S' b) (hk : ∀ b, S b → w'.heap[b]? = w.heap[b]?) : IRd w' S' l A := by
  rcases h with h | ⟨b, o, h1, h2, h3⟩
  · exact .inl h
  · exact .inr ⟨b, o, h1, hS b h2, fun i hi => (World.cell?_of_block (a := ⟨b, o + i, none⟩) (hk b h2)).trans (h3 i hi)⟩
theorem SRd.take {w : World} {S : Nat → Prop} {l : List Nm} {A : Option Addr} (h : SRd w S l A) (i : Nat) : SRd w S (l.take i) A := by
  rcases h with rfl | ⟨b, o, h1, h2, h3⟩
  · exact .inl (by simp)
  · refine .inr ⟨b, o, h1, h2, fun j hj => ?_⟩
    have hj' : j < l.length := by simp at hj; omega
    rw [h3 j hj']
    simp
theorem OwnS.form {w : World} {v : Value} {l : List Nm} (h : OwnS w v l) : ∃ A c, v = .slice A l.length c ∧ l.length ≤ c ∧ SRd w (fun b => v.ownBlock = some b) l A := by
  rcases h.2 with ⟨rfl, h0⟩ | ⟨g, cap, cur, hv, -, -, hc, -⟩
  · exact ⟨none, 0, by rw [h0], by omega, .inl (List.eq_nil_of_length_eq_zero h0)⟩
  · refine ⟨some ⟨g, 0, none⟩, cap, hv, hc, .inr ⟨g, 0, rfl, by rw [hv]; rfl, fun i hi => ?_⟩⟩
    have := World.ownsRow.cells h (g := g) (by rw [hv]; rfl) i (.string ⟨⟨l[i]⟩⟩) (by simp [svals, List.getElem?_eq_getElem hi])
    rw [Addr.add_lit] at this
    exact this
theorem OwnI.form {w : World} {v : Value} {l : List Int} (h : OwnI w v l) : ∃ A c, v = .slice A l.length c ∧ l.length ≤ c ∧ IRd w (fun b => v.ownBlock = some b) l A := by
  rcases h.2 with ⟨rfl, h0⟩ | ⟨g, cap, cur, hv, -, -, hc, -⟩
  · exact ⟨none, 0, by rw [h0], by omega, .inl (List.eq_nil_of_length_eq_zero h0)⟩
  · refine ⟨some ⟨g, 0, none⟩, cap, hv, hc, .inr ⟨g, 0, rfl, by rw [hv]; rfl, fun i hi => ?_⟩⟩
    have := World.ownsRow.cells h (g := g) (by rw [hv]; rfl) i (.int .i64 l[i]) (by simp [ivals, List.getElem?_eq_getElem hi])
    rw [Addr.add_lit] at this
    exact this

/-! ### Principals -/
theorem cell8 {w : World} {g : Nat} {v0 v1 v2 v3 v4 v5 v6 v7 : Value} {t : TypeId} {fr : Nat × Nat} (h : w.heap[g]? = some (.cells #[v0, v1, v2, v3, v4, v5, v6, v7] t fr)) :
    w.cell? ⟨g, 0, none⟩ = some v0 ∧ w.cell? ⟨g, 1, none⟩ = some v1 ∧ w.cell? ⟨g, 2, none⟩ = some v2 ∧ w.cell? ⟨g, 3, none⟩ = some v3 ∧ w.cell? ⟨g, 4, none⟩ = some v4 ∧ w.cell? ⟨g, 5, none⟩ = some v5 ∧ w.cell? ⟨g, 6, none⟩ = some v6 ∧ w.cell? ⟨g, 7, none⟩ = some v7 :=
  ⟨by rw [cell_of_row _ _ _ _ _ _ h]; rfl, by rw [cell_of_row _ _ _ _ _ _ h]; rfl, by rw [cell_of_row _ _ _ _ _ _ h]; rfl, by rw [cell_of_row _ _ _ _ _ _ h]; rfl, by rw [cell_of_row _ _ _ _ _ _ h]; rfl, by rw [cell_of_row _ _ _ _ _ _ h]; rfl, by rw [cell_of_row _ _ _ _ _ _ h]; rfl, by rw [cell_of_row _ _ _ _ _ _ h]; rfl⟩
theorem set4_self {W : World} {g : Nat} {v0 v1 v2 v3 a0 a1 a2 a3 : Value} {T : TypeId} (h : W.heap[g]? = some (.cells #[a0, a1, a2, a3] T (0, 0))) : ((((W.setCell ⟨g, 0, none⟩ v0).setCell ⟨g, 1, none⟩ v1).setCell ⟨g, 2, none⟩ v2).setCell ⟨g, 3, none⟩ v3).heap[g]? = some (.cells #[v0, v1, v2, v3] T (0, 0)) := by
  rw [heap_setCell_same _ _ _ _ _ _ (heap_setCell_same _ _ _ _ _ _ (heap_setCell_same _ _ _ _ _ _ (heap_setCell_same _ _ _ _ _ _ h)))]
  rfl
theorem set4_below {B g : Nat} {w W : World} {v0 v1 v2 v3 : Value} (h : Below B w W) (hg : B ≤ g) : Below B w ((((W.setCell ⟨g, 0, none⟩ v0).setCell ⟨g, 1, none⟩ v1).setCell ⟨g, 2, none⟩ v2).setCell ⟨g, 3, none⟩ v3) :=
  (((h.setCell (p := ⟨_, 0, none⟩) hg _).setCell (p := ⟨_, 1, none⟩) hg _).setCell (p := ⟨_, 2, none⟩) hg _).setCell (p := ⟨_, 3, none⟩) hg _
/-- Eight cells are written. -/
def set8 (W : World) (z : Nat) (v0 v1 v2 v3 v4 v5 v6 v7 : Value) : World := (((((((W.setCell ⟨z, 0, none⟩ v0).setCell ⟨z, 1, none⟩ v1).setCell ⟨z, 2, none⟩ v2).setCell ⟨z, 3, none⟩ v3).setCell ⟨z, 4, none⟩ v4).setCell ⟨z, 5, none⟩ v5).setCell ⟨z, 6, none⟩ v6).setCell ⟨z, 7, none⟩ v7
theorem set8_self {W : World} {z : Nat} {v0 v1 v2 v3 v4 v5 v6 v7 a0 a1 a2 a3 a4 a5 a6 a7 : Value} {T : TypeId} (h : W.heap[z]? = some (.cells #[a0, a1, a2, a3, a4, a5, a6, a7] T (0, 0))) : (set8 W z v0 v1 v2 v3 v4 v5 v6 v7).heap[z]? = some (.cells #[v0, v1, v2, v3, v4, v5, v6, v7] T (0, 0)) := by
  unfold set8
  replace h := (heap_setCell_same _ z 0 _ T v0 h).trans (show _ = some (.cells #[v0, a1, a2, a3, a4, a5, a6, a7] T (0, 0)) from rfl)
  replace h := (heap_setCell_same _ z 1 _ T v1 h).trans (show _ = some (.cells #[v0, v1, a2, a3, a4, a5, a6, a7] T (0, 0)) from rfl)
  replace h := (heap_setCell_same _ z 2 _ T v2 h).trans (show _ = some (.cells #[v0, v1, v2, a3, a4, a5, a6, a7] T (0, 0)) from rfl)
  replace h := (heap_setCell_same _ z 3 _ T v3 h).trans (show _ = some (.cells #[v0, v1, v2, v3, a4, a5, a6, a7] T (0, 0)) from rfl)
  replace h := (heap_setCell_same _ z 4 _ T v4 h).trans (show _ = some (.cells #[v0, v1, v2, v3, v4, a5, a6, a7] T (0, 0)) from rfl)
  replace h := (heap_setCell_same _ z 5 _ T v5 h).trans (show _ = some (.cells #[v0, v1, v2, v3, v4, v5, a6, a7] T (0, 0)) from rfl)
  replace h := (heap_setCell_same _ z 6 _ T v6 h).trans (show _ = some (.cells #[v0, v1, v2, v3, v4, v5, v6, a7] T (0, 0)) from rfl)
  replace h := (heap_setCell_same _ z 7 _ T v7 h).trans (show _ = some (.cells #[v0, v1, v2, v3, v4, v5, v6, v7] T (0, 0)) from rfl)
  exact h
theorem set8_other {W : World} {z k : Nat} {v0 v1 v2 v3 v4 v5 v6 v7 : Value} (h : k ≠ z) : (set8 W z v0 v1 v2 v3 v4 v5 v6 v7).heap[k]? = W.heap[k]? := by
  unfold set8
  rw [heap_setCell_other _ _ _ _ h, heap_setCell_other _ _ _ _ h, heap_setCell_other _ _ _ _ h, heap_setCell_other _ _ _ _ h, heap_setCell_other _ _ _ _ h, heap_setCell_other _ _ _ _ h, heap_setCell_other _ _ _ _ h, heap_setCell_other _ _ _ _ h]
theorem set8_below {B z : Nat} {w W : World} {v0 v1 v2 v3 v4 v5 v6 v7 : Value} (h : Below B w W) (hz : B ≤ z) : Below B w (set8 W z v0 v1 v2 v3 v4 v5 v6 v7) :=
  (((((((h.setCell (p := ⟨z, 0, none⟩) hz _).setCell (p := ⟨z, 1, none⟩) hz _).setCell (p := ⟨z, 2, none⟩) hz _).setCell (p := ⟨z, 3, none⟩) hz _).setCell (p := ⟨z, 4, none⟩) hz _).setCell (p := ⟨z, 5, none⟩) hz _).setCell (p := ⟨z, 6, none⟩) hz _).setCell (p := ⟨z, 7, none⟩) hz _
/-- The value v is the principal p; its lists lie in blocks that S lets. -/
def PV (w : World) (S : Nat → Prop) (p : Pr) (v : Value) : Prop := ∃ A a C c G g, v = .agg #[.string ⟨⟨p.nm⟩⟩, .int .i64 p.ver, .bool p.tr, .bool p.se, .slice A p.al.length a, .slice C p.ac.length c, .slice G p.gr.length g, .int .i64 p.li] ∧ SRd w S p.al A ∧ SRd w S p.ac C ∧ IRd w S p.gr G ∧ p.al.length ≤ a ∧ p.ac.length ≤ c
theorem PV.keep {w w' : World} {S S' : Nat → Prop} {p : Pr} {v : Value} (h : PV w S p v) (hS : ∀ b, S b → S' b) (hk : ∀ b, S b → w'.heap[b]? = w.heap[b]?) : PV w' S' p v := by
  obtain ⟨A, a, C, c, G, g, e, h1, h2, h3, h4⟩ := h
  exact ⟨A, a, C, c, G, g, e, h1.keep hS hk, h2.keep hS hk, h3.keep hS hk, h4⟩
/-- The lists of one that is kept. -/
structure Sl where
  a : Value
  c : Value
  g : Value
def Bl (s : Sl) (k : Nat) : Prop := s.a.ownBlock = some k ∨ s.c.ownBlock = some k ∨ s.g.ownBlock = some k
def nsl : Sl := ⟨nils, nils, nils⟩
theorem bl_nsl (k : Nat) : ¬ Bl nsl k := by rintro (h | h | h) <;> simp [nsl, Value.ownBlock] at h
/-- It owns its lists, each apart from the others. -/
structure POwn (w : World) (p : Pr) (s : Sl) : Prop where
  a : OwnS w s.a p.al
  c : OwnS w s.c p.ac
  g : OwnI w s.g p.gr
  ac : ∀ k, s.a.ownBlock = some k → s.c.ownBlock ≠ some k
  ag : ∀ k, s.a.ownBlock = some k → s.g.ownBlock ≠ some k
  cg : ∀ k, s.c.ownBlock = some k → s.g.ownBlock ≠ some k
theorem POwn.lt {w : World} {p : Pr} {s : Sl} (h : POwn w p s) : ∀ k, Bl s k → k < w.heap.size := by
  rintro k (hk | hk | hk)
  · exact h.a.lt k hk
  · exact h.c.lt k hk
  · exact h.g.lt k hk
theorem POwn.keep {w w' : World} {p : Pr} {s : Sl} (h : POwn w p s) (hk : ∀ k, Bl s k → w'.heap[k]? = w.heap[k]?) : POwn w' p s :=
  ⟨h.a.keep (fun k e => hk k (.inl e)), h.c.keep (fun k e => hk k (.inr (.inl e))), h.g.keep (fun k e => hk k (.inr (.inr e))), h.ac, h.ag, h.cg⟩
theorem POwn.below {w w' : World} {p : Pr} {s : Sl} (h : POwn w p s) (hb : Below w.heap.size w w') : POwn w' p s := h.keep (fun k hk => hb.block k (h.lt k hk))
theorem POwn.nil (w : World) : POwn w zp nsl := ⟨OwnS.nil w, OwnS.nil w, OwnI.nil w, fun k h => by simp [nsl, Value.ownBlock] at h, fun k h => by simp [nsl, Value.ownBlock] at h, fun k h => by simp [nsl, Value.ownBlock] at h⟩
abbrev pval (p : Pr) (s : Sl) : Value := .agg #[.string ⟨⟨p.nm⟩⟩, .int .i64 p.ver, .bool p.tr, .bool p.se, s.a, s.c, s.g, .int .i64 p.li]
theorem POwn.pv {w : World} {p : Pr} {s : Sl} (h : POwn w p s) : PV w (Bl s) p (pval p s) := by
  obtain ⟨A, a, e1, l1, h1⟩ := h.a.form
  obtain ⟨C, c, e2, l2, h2⟩ := h.c.form
  obtain ⟨G, g, e3, -, h3⟩ := h.g.form
  exact ⟨A, a, C, c, G, g, by rw [pval, e1, e2, e3], h1.keep (fun b h => .inl h) (fun _ _ => rfl), h2.keep (fun b h => .inr (.inl h)) (fun _ _ => rfl), h3.keep (fun b h => .inr (.inr h)) (fun _ _ => rfl), l1, l2⟩

/-! ### The store -/
abbrev zP : Value := pval zp nsl
def PMap (w : World) (bm : Nat) (f : Nm → Sl) (σ : Sto) (n : Nat) : Prop := ∃ D, w.ownsMap Try.prog 9 tok bm n D ∧ Maps.size D = n ∧ (∀ kl, Maps.has D kl = true → ∃ a, kl = .string a) ∧
  ∀ a, Maps.has D (.string a) = (σ a).isSome ∧ D.atKey (.string a) (.held zP) = .held (pval (gt σ a) (f a))
theorem PMap.lt {w : World} {bm n : Nat} {f : Nm → Sl} {σ : Sto} (h : PMap w bm f σ n) : bm < w.heap.size := by
  obtain ⟨D, h, _⟩ := h; exact h.lt
theorem PMap.keep {w w' : World} {bm n : Nat} {f : Nm → Sl} {σ : Sto} (h : PMap w bm f σ n) (hb : w'.heap[bm]? = w.heap[bm]?) : PMap w' bm f σ n := by
  obtain ⟨D, h1, h2⟩ := h
  exact ⟨D, own_keep h1 hb, h2⟩
theorem PMap.new (w : World) : PMap (w.alloc (.map #[] 0)) w.heap.size (fun _ => nsl) (fun _ => none) 0 :=
  ⟨.map [], World.ownsMap_made w _ _ _, rfl, fun kl h => by simp [Maps.has] at h, fun a => ⟨by simp [Maps.has], by simp [DataW.atKey, gt]⟩⟩
open Classical in
noncomputable def upd (f : Nm → Sl) (a : Nm) (s : Sl) : Nm → Sl := fun x => if x = a then s else f x
theorem upd_same (f : Nm → Sl) (a : Nm) (s : Sl) : upd f a s a = s := by simp [upd]
theorem upd_other {f : Nm → Sl} {a x : Nm} {s : Sl} (h : x ≠ a) : upd f a s x = f x := by simp [upd, h]
theorem PMap.put {w' : World} {bm n n' : Nat} {f : Nm → Sl} {σ : Sto} {D : DataW Value} {a : Nm} {p : Pr} {s : Sl} (h2 : Maps.size D = n) (h3 : ∀ kl, Maps.has D kl = true → ∃ a, kl = .string a)
    (h4 : ∀ a, Maps.has D (.string a) = (σ a).isSome ∧ D.atKey (.string a) (.held zP) = .held (pval (gt σ a) (f a))) (hD : Maps.Tidy D)
    (ho : w'.ownsMap Try.prog 9 tok bm (n + 1) (D.put (.string a) (.held (pval p s)))) (hn : n' = if (σ a).isSome then n else n + 1) : PMap w' bm (upd f a s) (up σ a p) n' := by
  have hsz : Maps.size (D.put (.string a) (.held (pval p s))) = n' := by rw [Maps.size_put hD, (h4 a).1, h2, hn]
  refine ⟨_, hsz ▸ tight ho, hsz, fun kl hkl => ?_, fun x => ?_⟩
  · by_cases e : kl = .string a
    · exact ⟨a, e⟩
    · rw [Maps.has_put_other e] at hkl; exact h3 kl hkl
  · by_cases e : x = a
    · subst e
      rw [Maps.has_put_same hD.isMap (isKey _), Maps.atKey_put_same hD.isMap (isKey _), upd_same, gt_same, up_same]
      exact ⟨rfl, rfl⟩
    · rw [Maps.has_put_other (lit_ne e), Maps.atKey_put_other (lit_ne e), upd_other e, gt_other e, up_other e]
      exact h4 x

structure SP (w : World) (F : Nat → Prop) (g bm : Nat) (f : Nm → Sl) (σ : Sto) (n : Nat) : Prop where
  st : w.heap[g]? = some (.cells #[.map (some bm)] 61 (0, 0))
  mp : PMap w bm f σ n
  own : ∀ a, POwn w (gt σ a) (f a)
  fF : ∀ a k, Bl (f a) k → F k ∧ k ≠ g ∧ k ≠ bm
  inj : ∀ a a' k, Bl (f a) k → Bl (f a') k → a = a'
  gF : F g ∧ F bm
  lt : ∀ i, F i → i < w.heap.size
  ne : g ≠ bm
  ok : Oks σ
theorem SP.keep {w w' : World} {F : Nat → Prop} {g bm : Nat} {f : Nm → Sl} {σ : Sto} {n : Nat} (h : SP w F g bm f σ n) (hs : w.heap.size ≤ w'.heap.size) (hk : ∀ i, F i → w'.heap[i]? = w.heap[i]?) : SP w' F g bm f σ n :=
  ⟨(hk g h.gF.1).trans h.st, h.mp.keep (hk bm h.gF.2), fun a => (h.own a).keep (fun k hb => hk k (h.fF a k hb).1), h.fF, h.inj, h.gF, fun i hi => Nat.lt_of_lt_of_le (h.lt i hi) hs, h.ne, h.ok⟩
theorem SP.below {w w' : World} {F : Nat → Prop} {g bm : Nat} {f : Nm → Sl} {σ : Sto} {n : Nat} (h : SP w F g bm f σ n) (hb : Below w.heap.size w w') : SP w' F g bm f σ n :=
  h.keep hb.size (fun i hi => hb.block i (h.lt i hi))
theorem SP.cell {w : World} {F : Nat → Prop} {g bm : Nat} {f : Nm → Sl} {σ : Sto} {n : Nat} (h : SP w F g bm f σ n) : w.cell? ⟨g, 0, none⟩ = some (.map (some bm)) := by rw [cell_of_row _ _ _ _ _ _ h.st]; rfl
/-- One is kept as it now is: its lists have turned, or are new; then it stands in the map. -/
theorem SP.set {w w1 w' : World} {F : Nat → Prop} {g bm : Nat} {f : Nm → Sl} {σ : Sto} {n n' : Nat} {a : Nm} {p : Pr} {s : Sl} {D : DataW Value} (h : SP w F g bm f σ n)
    (h2 : Maps.size D = n) (h3 : ∀ kl, Maps.has D kl = true → ∃ a, kl = .string a) (h4 : ∀ a, Maps.has D (.string a) = (σ a).isSome ∧ D.atKey (.string a) (.held zP) = .held (pval (gt σ a) (f a))) (hD : Maps.Tidy D)
    (ht1 : Turn (fun k => Bl (f a) k ∨ ¬ F k) w w1) (hp : POwn w1 p s) (hs : ∀ k, Bl s k → Bl (f a) k ∨ w.heap.size ≤ k) (ho : w'.ownsMap Try.prog 9 tok bm (n + 1) (D.put (.string a) (.held (pval p s)))) (ht : w1.mapTurned w' bm)
    (hn : n' = if (σ a).isSome then n else n + 1) (hok : Okp a p) : SP w' (fun i => F i ∨ w.heap.size ≤ i ∧ i < w'.heap.size) g bm (upd f a s) (up σ a p) n' := by
  have hlt : ∀ i, F i → i < w1.heap.size := fun i hi => Nat.lt_of_lt_of_le (h.lt i hi) ht1.size
  have hsz := turned_size ht
  have h1 : ∀ i, F i → ¬ Bl (f a) i → w1.heap[i]? = w.heap[i]? := fun i hi hne => ht1.block i (h.lt i hi) (fun e => e.elim hne (fun e => e hi))
  have hall : ∀ i, F i → ¬ Bl (f a) i → i ≠ bm → w'.heap[i]? = w.heap[i]? := fun i hi hne hb => (turned_block ht (hlt i hi) hb).trans (h1 i hi hne)
  have hsn : ∀ k, Bl s k → k ≠ g ∧ k ≠ bm := fun k hk => by
    rcases hs k hk with e | e
    · exact (h.fF a k e).2
    · exact ⟨fun e' => by have := h.lt g h.gF.1; omega, fun e' => by have := h.lt bm h.gF.2; omega⟩
  refine ⟨(hall g h.gF.1 (fun e => (h.fF a g e).2.1 rfl) h.ne).trans h.st, PMap.put h2 h3 h4 hD ho hn, fun x => ?_, fun x k hk => ?_, fun x y k hx hy => ?_, ⟨.inl h.gF.1, .inl h.gF.2⟩, fun i hi => ?_, h.ne, h.ok.up hok⟩
  · by_cases e : x = a
    · subst e
      rw [upd_same, gt_same]
      exact hp.keep (fun k hk => turned_block ht (hp.lt k hk) (hsn k hk).2)
    · rw [upd_other e, gt_other e]
      exact (h.own x).keep (fun k hk => hall k (h.fF x k hk).1 (fun e' => e (h.inj x a k hk e')) (h.fF x k hk).2.2)
  · by_cases e : x = a
    · subst e
      rw [upd_same] at hk
      refine ⟨?_, hsn k hk⟩
      rcases hs k hk with e | e
      · exact .inl (h.fF x k e).1
      · exact .inr ⟨e, Nat.lt_of_lt_of_le (hp.lt k hk) hsz⟩
    · rw [upd_other e] at hk
      exact ⟨.inl (h.fF x k hk).1, (h.fF x k hk).2⟩
  · have key : ∀ z, z ≠ a → Bl (f z) k → Bl s k → False := fun z e h5 h6 => by
      rcases hs k h6 with h7 | h7
      · exact e (h.inj z a k h5 h7)
      · have := h.lt k (h.fF z k h5).1; omega
    by_cases e : x = a
    · by_cases e' : y = a
      · rw [e, e']
      · subst e; rw [upd_same] at hx; rw [upd_other e'] at hy; exact (key y e' hy hx).elim
    · by_cases e' : y = a
      · subst e'; rw [upd_same] at hy; rw [upd_other e] at hx; exact (key x e hx hy).elim
      · rw [upd_other e] at hx; rw [upd_other e'] at hy; exact h.inj x y k hx hy
  · rcases hi with hi | hi
    · exact Nat.lt_of_lt_of_le (hlt i hi) hsz
    · exact hi.2
theorem SP.nil_of_none {w : World} {F : Nat → Prop} {g bm : Nat} {f : Nm → Sl} {σ : Sto} {n : Nat} (h : SP w F g bm f σ n) {a : Nm} (ha : σ a = none) : f a = nsl := by
  obtain ⟨D, -, -, -, h4⟩ := h.mp
  obtain ⟨h5, h6⟩ := h4 a
  rw [ha] at h5
  rw [Maps.atKey_of_not_has h5, gt_none ha] at h6
  injection h6 with h6
  injection h6 with h6
  simp at h6
  obtain ⟨e1, e2, e3⟩ := h6
  show f a = ⟨nils, nils, nils⟩
  cases hf : f a
  rw [hf] at e1 e2 e3
  simp only at e1 e2 e3
  rw [← e1, ← e2, ← e3]
  rfl
/-- A store has turned: what a call leaves. -/
def Stp (w : World) (F : Nat → Prop) (g bm : Nat) (σ : Sto) (n : Nat) (w' : World) : Prop := ∃ F' f', SP w' F' g bm f' σ n ∧ Turn F w w' ∧ (∀ i, F i → F' i) ∧ ∀ i, F' i → F i ∨ w.heap.size ≤ i
theorem SP.still {w w' : World} {F : Nat → Prop} {g bm : Nat} {f : Nm → Sl} {σ : Sto} {n : Nat} (h : SP w F g bm f σ n) (hb : Below w.heap.size w w') : Stp w F g bm σ n w' :=
  ⟨F, f, h.below hb, Turn.of_below hb, fun _ h => h, fun _ h => .inl h⟩
end Go.Proofs.Ytehmfkcihieecaa.Po
