/- A store in memory, and what a call on it may touch. (Laid with NS=1.) -/
import Derived.Test.YtiidooponlbnmaaDoorKnW3
namespace Go.Proofs.YtiidooponlbnmaaDoor.Kn
open Go.RowKit
open Te Te.Tt
open Go (Lit DataW MemPlace keyOf maxLen)

/-- Nothing that lay there has changed, but what F tells. -/
structure Turn (F : Nat → Prop) (w w' : World) : Prop where
  os : w'.os = w.os
  tape : w'.tape = w.tape
  output : w'.output = w.output
  size : w.heap.size ≤ w'.heap.size
  block : ∀ i, i < w.heap.size → ¬ F i → w'.heap[i]? = w.heap[i]?
theorem Turn.refl (F : Nat → Prop) (w : World) : Turn F w w := ⟨rfl, rfl, rfl, Nat.le_refl _, fun _ _ _ => rfl⟩
theorem Turn.of_below {F : Nat → Prop} {w w' : World} (h : Below w.heap.size w w') : Turn F w w' := ⟨h.os, h.tape, h.output, h.size, fun i hi _ => h.block i hi⟩
theorem Turn.of_grown {F : Nat → Prop} {w w' : World} {row : Option Nat} (h : w.grownBy w' row) (hr : ∀ i, row = some i → F i) : Turn F w w' := ⟨h.os, h.tape, h.output, h.size, fun i hi hF => h.block i hi (fun e => hF (hr i e.symm))⟩
theorem Turn.trans {F F' : Nat → Prop} {a b c : World} (h : Turn F a b) (k : Turn F' b c) (hF : ∀ i, F' i → F i ∨ a.heap.size ≤ i) : Turn F a c :=
  ⟨k.os.trans h.os, k.tape.trans h.tape, k.output.trans h.output, Nat.le_trans h.size k.size, fun i hi hn => (k.block i (Nat.lt_of_lt_of_le hi h.size) (fun hf => by rcases hF i hf with h1 | h1; exact hn h1; omega)).trans (h.block i hi hn)⟩
theorem Turn.below {F : Nat → Prop} {w w' : World} {B : Nat} (h : Turn F w w') (hB : B ≤ w.heap.size) (hF : ∀ i, F i → B ≤ i) : Below B w w' :=
  ⟨h.os, h.tape, h.output, h.size, fun k hk => h.block k (by omega) (fun hf => by have := hF k hf; omega)⟩
theorem Turn.mono {F F' : Nat → Prop} {w w' : World} (h : Turn F w w') (hF : ∀ i, F i → F' i) : Turn F' w w' := ⟨h.os, h.tape, h.output, h.size, fun i hi hn => h.block i hi (fun hf => hn (hF i hf))⟩

/-- A store's blocks, but for the terms that lie about. -/
def FT (F T : Nat → Prop) (i : Nat) : Prop := F i ∧ ¬ T i
structure SR (w : World) (F : Nat → Prop) (g bk bw : Nat) (T : Nat → Prop) (f : Tm → Value) (s : St) : Prop where
  st : w.heap[g]? = some (.cells #[.map (some bk), .map (some bw)] 55 (0, 0))
  km : KMap w T bk s.kn
  wm : WMap w bw s f
  own : ∀ k, vld 0 k = true → OwnC T w 0 (f k) (s.of k)
  tF : ∀ i, T i → F i ∧ i ≠ g ∧ i ≠ bk ∧ i ≠ bw
  gF : F g ∧ F bk ∧ F bw
  fF : ∀ k, vld 0 k = true → ∀ i, (f k).ownBlock = some i → F i ∧ ¬ T i ∧ i ≠ g ∧ i ≠ bk ∧ i ≠ bw
  inj : ∀ k k', vld 0 k = true → vld 0 k' = true → ∀ i, (f k).ownBlock = some i → (f k').ownBlock = some i → k = k'
  lt : ∀ i, F i → i < w.heap.size
  ne : bk ≠ bw ∧ g ≠ bk ∧ g ≠ bw

theorem SR.keep {w w' : World} {F : Nat → Prop} {g bk bw : Nat} {T : Nat → Prop} {f : Tm → Value} {s : St} (h : SR w F g bk bw T f s) (hs : w.heap.size ≤ w'.heap.size) (hk : ∀ i, F i → w'.heap[i]? = w.heap[i]?) : SR w' F g bk bw T f s :=
  ⟨(hk g h.gF.1).trans h.st, h.km.keep (hk bk h.gF.2.1) (fun _ h => h) (fun i hi => hk i (h.tF i hi).1), h.wm.keep (hk bw h.gF.2.2), fun k hv => (h.own k hv).keep (fun i hi => hk i (h.fF k hv i hi).1) (fun _ h => h) (fun i hi => hk i (h.tF i hi).1),
   h.tF, h.gF, h.fF, h.inj, fun i hi => Nat.lt_of_lt_of_le (h.lt i hi) hs, h.ne⟩
theorem SR.below {w w' : World} {F : Nat → Prop} {g bk bw : Nat} {T : Nat → Prop} {f : Tm → Value} {s : St} (h : SR w F g bk bw T f s) (hb : Below w.heap.size w w') : SR w' F g bk bw T f s :=
  h.keep hb.size (fun i hi => hb.block i (h.lt i hi))
theorem SR.turn {w w' : World} {F F' : Nat → Prop} {g bk bw : Nat} {T : Nat → Prop} {f : Tm → Value} {s : St} (h : SR w F g bk bw T f s) (hb : Turn F' w w') (hF : ∀ i, F i → ¬ F' i) : SR w' F g bk bw T f s :=
  h.keep hb.size (fun i hi => hb.block i (h.lt i hi) (hF i hi))
/-- More room for its blocks. -/
theorem SR.wide {w : World} {F F' : Nat → Prop} {g bk bw : Nat} {T : Nat → Prop} {f : Tm → Value} {s : St} (h : SR w F g bk bw T f s) (hF : ∀ i, F i → F' i) (hl : ∀ i, F' i → i < w.heap.size) : SR w F' g bk bw T f s :=
  ⟨h.st, h.km, h.wm, h.own, fun i hi => ⟨hF i (h.tF i hi).1, (h.tF i hi).2⟩, ⟨hF _ h.gF.1, hF _ h.gF.2.1, hF _ h.gF.2.2⟩, fun k hv i hi => ⟨hF i (h.fF k hv i hi).1, (h.fF k hv i hi).2⟩, h.inj, hl, h.ne⟩
/-- More terms lie about. -/
theorem SR.more {w : World} {F : Nat → Prop} {g bk bw : Nat} {T T' : Nat → Prop} {f : Tm → Value} {s : St} (h : SR w F g bk bw T f s) (hT : ∀ i, T i → T' i) (hN : ∀ i, T' i → F i ∧ i ≠ g ∧ i ≠ bk ∧ i ≠ bw) (ho : ∀ k, vld 0 k = true → ∀ i, (f k).ownBlock = some i → ¬ T' i) : SR w F g bk bw T' f s :=
  ⟨h.st, h.km.keep rfl hT (fun _ _ => rfl), h.wm, fun k hv => (h.own k hv).keep (fun _ _ => rfl) hT (fun _ _ => rfl), hN, h.gF, fun k hv i hi => ⟨(h.fF k hv i hi).1, ho k hv i hi, (h.fF k hv i hi).2.2⟩, h.inj, h.lt, h.ne⟩
/-- What a world that has turned in one map alone keeps. -/
theorem turned_block {w w' : World} {b : Nat} (h : w.mapTurned w' b) {i : Nat} (hi : i < w.heap.size) (hne : i ≠ b) : w'.heap[i]? = w.heap[i]? := h.grown.block i hi (fun e => hne (by injection e))
theorem turned_size {w w' : World} {b : Nat} (h : w.mapTurned w' b) : w.heap.size ≤ w'.heap.size := h.grown.size

/-- One more is known. -/
theorem SR.known {w w' : World} {F : Nat → Prop} {g bk bw : Nat} {T : Nat → Prop} {f : Tm → Value} {s : St} (h : SR w F g bk bw T f s) {x : Tm} {v : Value} {D : DataW Value}
    (hm : w.ownsMap Tryd.prog 9 tok bk s.kn.length D ∧ (∀ x, vld 0 x = true → Maps.has D (.string (Kn.mk x)) = decide (x ∈ s.kn)) ∧ Maps.size D = s.kn.length ∧ ∀ kl, Maps.has D kl = true → ∃ x ∈ s.kn, ∃ v, kl = .string (Kn.mk x) ∧ (∀ z, D.atKey kl z = .held v) ∧ RepC w T x v)
    (ho : w'.ownsMap Tryd.prog 9 tok bk (s.kn.length + 1) (D.put (.string (Kn.mk x)) (.held v))) (ht : w.mapTurned w' bk) (hx : vld 0 x = true) (hn : x ∉ s.kn) (hv : RepC w T x v) : SR w' F g bk bw T f ⟨x :: s.kn, s.wt⟩ := by
  have hT : ∀ i, T i → w'.heap[i]? = w.heap[i]? := fun i hi => turned_block ht (h.lt i (h.tF i hi).1) (h.tF i hi).2.2.1
  refine ⟨(turned_block ht (h.lt g h.gF.1) h.ne.2.1).trans h.st, KMap.put hm.2.1 hm.2.2.1 hm.2.2.2 (hm.1.tidy law) ho hx hn hv hT, ?_, fun k hv => (h.own k hv).keep (fun i hi => ?_) (fun _ h => h) hT, h.tF, h.gF, h.fF, h.inj, fun i hi => Nat.lt_of_lt_of_le (h.lt i hi) (turned_size ht), h.ne⟩
  · obtain ⟨D2, h1, h2, h3⟩ := h.wm.keep (turned_block ht (h.lt bw h.gF.2.2) h.ne.1.symm)
    exact ⟨D2, h1, by simp only [List.length_cons]; omega, h3⟩
  · have := h.fF k hv i hi
    exact turned_block ht (h.lt i this.1) this.2.2.2.1
/-- Nothing waits for a key any more. -/
theorem SR.wake {w w' : World} {F : Nat → Prop} {g bk bw : Nat} {T : Nat → Prop} {f : Tm → Value} {s : St} (h : SR w F g bk bw T f s) {k : Tm} {D : DataW Value} {n : Nat}
    (h2 : Maps.size D ≤ s.kn.length) (h3 : ∀ k, vld 0 k = true → Maps.has D (.string (Kn.mk k)) = decide (s.of k ≠ []) ∧ D.atKey (.string (Kn.mk k)) (.held nils) = .held (f k)) (hD : Maps.Tidy D)
    (ho : w'.ownsMap Tryd.prog 9 tok bw n (D.del (.string (Kn.mk k)))) (ht : w.mapTurned w' bw) (hk : vld 0 k = true) : SR w' F g bk bw T (upd f k nils) ⟨s.kn, s.wt.filter fun p => !decide (p.1 = k)⟩ := by
  have hT : ∀ i, T i → w'.heap[i]? = w.heap[i]? := fun i hi => turned_block ht (h.lt i (h.tF i hi).1) (h.tF i hi).2.2.2
  have hnil : ∀ i, nils.ownBlock ≠ some i := fun i e => by simp [Value.ownBlock] at e
  refine ⟨(turned_block ht (h.lt g h.gF.1) h.ne.2.2).trans h.st, h.km.keep (turned_block ht (h.lt bk h.gF.2.1) h.ne.1) (fun _ h => h) hT, WMap.del (kn := s.kn) h2 h3 hD ho hk, fun x hx => ?_, h.tF, h.gF, fun x hx i hi => ?_, fun x y hx hy i hi hj => ?_, fun i hi => Nat.lt_of_lt_of_le (h.lt i hi) (turned_size ht), h.ne⟩
  · by_cases e : x = k
    · subst e
      rw [upd_same, of_del_same]
      exact OwnC.nil _ _ _
    · rw [upd_other e, of_del_other (kn := s.kn) e]
      exact (h.own x hx).keep (fun i hi => turned_block ht (h.lt i (h.fF x hx i hi).1) (h.fF x hx i hi).2.2.2.2) (fun _ h => h) hT
  · by_cases e : x = k
    · subst e; rw [upd_same] at hi; exact absurd hi (hnil i)
    · rw [upd_other e] at hi; exact h.fF x hx i hi
  · by_cases e : x = k
    · subst e; rw [upd_same] at hi; exact absurd hi (hnil i)
    · by_cases e' : y = k
      · subst e'; rw [upd_same] at hj; exact absurd hj (hnil i)
      · rw [upd_other e] at hi; rw [upd_other e'] at hj; exact h.inj x y hx hy i hi hj
/-- One more waits: its row has grown, then it stands in the map. -/
theorem SR.wait {w w1 w' : World} {F : Nat → Prop} {g bk bw : Nat} {T : Nat → Prop} {f : Tm → Value} {s : St} {kn0 : List Tm} (h : SR w F g bk bw T f s) {k y : Tm} {v : Value} {D : DataW Value} {n : Nat}
    (h2 : Maps.size D + 1 ≤ s.kn.length) (h3 : ∀ k, vld 0 k = true → Maps.has D (.string (Kn.mk k)) = decide (St.of ⟨kn0, s.wt⟩ k ≠ []) ∧ D.atKey (.string (Kn.mk k)) (.held nils) = .held (f k)) (hD : Maps.Tidy D)
    (hg : Grw w (f k) w1 v) (hv : OwnC T w1 0 v (s.of k ++ [y])) (ho : w'.ownsMap Tryd.prog 9 tok bw n (D.put (.string (Kn.mk k)) (.held v))) (ht : w1.mapTurned w' bw) (hk : vld 0 k = true) :
    SR w' (fun i => F i ∨ w.heap.size ≤ i ∧ i < w'.heap.size) g bk bw T (upd f k v) ⟨s.kn, s.wt ++ [(k, y)]⟩ := by
  have hlt : ∀ i, F i → i < w1.heap.size := fun i hi => Nat.lt_of_lt_of_le (h.lt i hi) hg.grown.size
  have h1 : ∀ i, F i → (f k).ownBlock ≠ some i → w1.heap[i]? = w.heap[i]? := fun i hi hne => hg.grown.block i (h.lt i hi) (fun e => hne e.symm)
  have hall : ∀ i, F i → (f k).ownBlock ≠ some i → i ≠ bw → w'.heap[i]? = w.heap[i]? := fun i hi hne hb => (turned_block ht (hlt i hi) hb).trans (h1 i hi hne)
  have hTn : ∀ i, T i → (f k).ownBlock ≠ some i := fun i hi e => (h.fF k hk i e).2.1 hi
  have hT : ∀ i, T i → w'.heap[i]? = w.heap[i]? := fun i hi => hall i (h.tF i hi).1 (hTn i hi) (h.tF i hi).2.2.2
  have hvb : ∀ i, v.ownBlock = some i → i < w1.heap.size ∧ ((f k).ownBlock = some i ∨ w.heap.size ≤ i) := fun i hi => ⟨(hv.lt i hi).2, by
    rcases hg.lies with e | e
    · exact .inl (e.symm.trans hi)
    · exact .inr (e i hi)⟩
  have hvn : ∀ i, v.ownBlock = some i → ¬ T i ∧ i ≠ g ∧ i ≠ bk ∧ i ≠ bw := fun i hi => by
    rcases (hvb i hi).2 with e | e
    · exact (h.fF k hk i e).2
    · exact ⟨fun ht' => by have := h.lt i (h.tF i ht').1; omega, fun e' => by have := h.lt g h.gF.1; omega, fun e' => by have := h.lt bk h.gF.2.1; omega, fun e' => by have := h.lt bw h.gF.2.2; omega⟩
  have hno : ∀ i, F i → (∀ x, vld 0 x = true → (f x).ownBlock = some i → x ≠ k) → True := fun _ _ _ => trivial
  refine ⟨(hall g h.gF.1 (fun e => (h.fF k hk g e).2.2.1 rfl) h.ne.2.2).trans h.st, h.km.keep (hall bk h.gF.2.1 (fun e => (h.fF k hk bk e).2.2.2.1 rfl) h.ne.1) (fun _ h => h) hT, WMap.put (kn := kn0) h2 h3 hD ho hk, fun x hx => ?_, fun i hi => ⟨.inl (h.tF i hi).1, (h.tF i hi).2⟩, ⟨.inl h.gF.1, .inl h.gF.2.1, .inl h.gF.2.2⟩, fun x hx i hi => ?_, fun x z hx hz i hi hj => ?_, fun i hi => ?_, h.ne⟩
  · by_cases e : x = k
    · subst e
      have : St.of ⟨s.kn, s.wt ++ [(x, y)]⟩ x = s.of x ++ [y] := of_app_same s.kn s.wt x y
      rw [upd_same, this]
      exact hv.keep (fun i hi => turned_block ht (hvb i hi).1 (hvn i hi).2.2.2) (fun _ h => h) (fun i hi => turned_block ht (hlt i (h.tF i hi).1) (h.tF i hi).2.2.2)
    · have : St.of ⟨s.kn, s.wt ++ [(k, y)]⟩ x = s.of x := of_app_other (kn := s.kn) e
      rw [upd_other e, this]
      exact (h.own x hx).keep (fun i hi => hall i (h.fF x hx i hi).1 (fun e' => e (h.inj x k hx hk i hi e')) (h.fF x hx i hi).2.2.2.2) (fun _ h => h) hT
  · by_cases e : x = k
    · subst e
      rw [upd_same] at hi
      refine ⟨?_, hvn i hi⟩
      have h4 := turned_size ht
      rcases hvb i hi with ⟨h5, h6 | h6⟩
      · exact .inl (h.fF x hx i h6).1
      · exact .inr ⟨h6, by omega⟩
    · rw [upd_other e] at hi
      exact ⟨.inl (h.fF x hx i hi).1, (h.fF x hx i hi).2⟩
  · have key : ∀ z, vld 0 z = true → z ≠ k → (f z).ownBlock = some i → v.ownBlock = some i → False := fun z hz e h5 h6 => by
      rcases (hvb i h6).2 with h7 | h7
      · exact e (h.inj z k hz hk i h5 h7)
      · have := h.lt i (h.fF z hz i h5).1; omega
    by_cases e : x = k
    · by_cases e' : z = k
      · rw [e, e']
      · subst e; rw [upd_same] at hi; rw [upd_other e'] at hj; exact (key z hz e' hj hi).elim
    · by_cases e' : z = k
      · subst e'; rw [upd_same] at hj; rw [upd_other e] at hi; exact (key x hx e hi hj).elim
      · rw [upd_other e] at hi; rw [upd_other e'] at hj; exact h.inj x z hx hz i hi hj
  · rcases hi with hi | hi
    · have h4 := turned_size ht
      exact Nat.lt_of_lt_of_le (hlt i hi) h4
    · exact hi.2
end Go.Proofs.YtiidooponlbnmaaDoor.Kn
