/- A store in memory: two maps; what is known, and what waits. (Laid with NS=1.) -/
import Derived.Test.YtiidooponlbnmaaDoorKnPureA
import Derived.Test.YtiidooponlbnmaaDoorKnMem0
import Derived.Maps.OwnSet
import Derived.StringKeys
namespace Go.Proofs.YtiidooponlbnmaaDoor.Kn
open Go.RowKit
open Te Te.Tt
open Go (Lit DataW MemPlace keyOf maxLen)

/-! ### Maps whose elements are looked at as they lie -/
/-- An element reads as itself. -/
def tok (v : Value) : Option (DataW Value × List MemPlace) := some (.held v, [])
theorem tok_mk (v : Value) : tok v = some (.held v, []) := rfl
theorem tok_inv {v u : Value} {ps : List MemPlace} (h : tok v = some (.held u, ps)) : v = u := by
  unfold tok at h
  injection h with h
  injection h with h _
  injection h
theorem law : Go.Maps.Keyed Tryd.prog 9 := Go.Maps.string_keyed Tryd.underlying9
theorem hkey (m : List UInt8) (h : m.length ≤ 1000000000000) : keyOf Tryd.prog 9 (.string ⟨⟨m⟩⟩) = some (.string m) :=
  Go.WideMaps.keyOf_string_mk Tryd.underlying9 (s := ⟨⟨m⟩⟩) (by show m.length ≤ maxLen; unfold maxLen; omega)
theorem tight {w : World} {b n : Nat} {D : DataW Value} (h : w.ownsMap Tryd.prog 9 tok b n D) : w.ownsMap Tryd.prog 9 tok b (Maps.size D) D := by
  obtain ⟨es, clock, hb, F, hs, rfl⟩ := h
  exact ⟨es, clock, hb, F, by simp [Maps.size, length_sorted], rfl⟩
theorem own_keep {w w' : World} {b n : Nat} {D : DataW Value} (h : w.ownsMap Tryd.prog 9 tok b n D) (hb : w'.heap[b]? = w.heap[b]?) : w'.ownsMap Tryd.prog 9 tok b n D := by
  obtain ⟨es, clock, h1, F, hs, hD⟩ := h
  exact ⟨es, clock, hb.trans h1, F, hs, hD⟩
theorem isKey (m : List UInt8) : WideAt.IsKeyLit (.string m) := trivial
theorem lit_ne {m n : List UInt8} (h : m ≠ n) : (Lit.string m) ≠ .string n := fun e => h (by injection e)

/-! ### Rows of terms, wherever the row lies -/
/-- The slice's terms are q; what they lead to lies in T. -/
def QRow (w : World) (T : Nat → Prop) (q : List Tm) (A : Option Addr) : Prop := q = [] ∨ ∃ g o ys, A = some ⟨g, o, none⟩ ∧ ElsC w T q ys ∧ ∀ j u, ys[j]? = some u → w.cell? ⟨g, o + j, none⟩ = some u
theorem QRow.of_trow {w : World} {T : Nat → Prop} {q : List Tm} {A : Option Addr} (h : TRowC w T q A) : QRow w T q A := by
  rcases h with h | ⟨b, o, rfl, -, h⟩
  · exact .inl h
  · obtain ⟨ys, h1, h2⟩ := repsc_els q o h
    exact .inr ⟨b, o, ys, rfl, h1, h2⟩
theorem QRow.of_own {w : World} {T : Nat → Prop} {base n ca : Nat} {q : List Tm} {A : Option Addr} (h : OwnC T w base (.slice A n ca) q) : n = q.length ∧ QRow w T q A := by
  obtain ⟨A', ca', hf⟩ := h.form
  injection hf with e1 e2 e3
  subst e1 e2 e3
  refine ⟨rfl, ?_⟩
  obtain ⟨xs, h1, h2⟩ := h
  rcases h1.2 with ⟨hv, hn⟩ | ⟨g, cap', cur, hv, _⟩
  · exact .inl (List.eq_nil_of_length_eq_zero hn)
  · injection hv with e1 e2 e3
    subst e1
    refine .inr ⟨g, 0, xs, rfl, h2, fun j u hj => ?_⟩
    have := h1.cells (g := g) rfl j u hj
    rw [Nat.zero_add]
    simpa [Addr.add_lit] using this

/-! ### The map of what is known -/
def KMap (w : World) (T : Nat → Prop) (b : Nat) (kn : List Tm) : Prop := ∃ D, w.ownsMap Tryd.prog 9 tok b kn.length D ∧ (∀ x, vld 0 x = true → Maps.has D (.string (mk x)) = decide (x ∈ kn)) ∧ Maps.size D = kn.length ∧
  ∀ kl, Maps.has D kl = true → ∃ x ∈ kn, ∃ v, kl = .string (mk x) ∧ (∀ z, D.atKey kl z = .held v) ∧ RepC w T x v
theorem KMap.lt {w : World} {T : Nat → Prop} {b : Nat} {kn : List Tm} (h : KMap w T b kn) : b < w.heap.size := by
  obtain ⟨D, h, _⟩ := h; exact h.lt
theorem KMap.keep {w w' : World} {T T' : Nat → Prop} {b : Nat} {kn : List Tm} (h : KMap w T b kn) (hb : w'.heap[b]? = w.heap[b]?) (hT : ∀ i, T i → T' i) (hk : ∀ i, T i → w'.heap[i]? = w.heap[i]?) : KMap w' T' b kn := by
  obtain ⟨D, h1, h2, h3, h4⟩ := h
  refine ⟨D, own_keep h1 hb, h2, h3, fun kl hkl => ?_⟩
  obtain ⟨x, hx, v, e, hv, hr⟩ := h4 kl hkl
  exact ⟨x, hx, v, e, hv, repc_keep hT (fun c o hc => World.cell?_of_block (a := ⟨c, o, none⟩) (hk c hc)) _ _ hr⟩
theorem KMap.new (w : World) (T : Nat → Prop) : KMap (w.alloc (.map #[] 0)) T w.heap.size [] :=
  ⟨.map [], World.ownsMap_made w _ _ _, fun x _ => by simp [Maps.has], rfl, fun kl h => by simp [Maps.has] at h⟩
/-- One more is known. -/
theorem KMap.put {w w' : World} {T : Nat → Prop} {b : Nat} {kn : List Tm} {D : DataW Value} {x : Tm} {v : Value} (h2 : ∀ x, vld 0 x = true → Maps.has D (.string (mk x)) = decide (x ∈ kn)) (h3 : Maps.size D = kn.length)
    (h4 : ∀ kl, Maps.has D kl = true → ∃ x ∈ kn, ∃ v, kl = .string (mk x) ∧ (∀ z, D.atKey kl z = .held v) ∧ RepC w T x v) (hD : Maps.Tidy D) (ho : w'.ownsMap Tryd.prog 9 tok b (kn.length + 1) (D.put (.string (mk x)) (.held v)))
    (hx : vld 0 x = true) (hn : x ∉ kn) (hv : RepC w T x v) (hk : ∀ i, T i → w'.heap[i]? = w.heap[i]?) : KMap w' T b (x :: kn) := by
  have keep : ∀ y u, RepC w T y u → RepC w' T y u := fun y u h => repc_keep (fun _ h => h) (fun c o hc => World.cell?_of_block (a := ⟨c, o, none⟩) (hk c hc)) _ _ h
  refine ⟨_, ho, fun y hy => ?_, ?_, fun kl hkl => ?_⟩
  · by_cases e : y = x
    · subst e
      rw [Maps.has_put_same hD.isMap (isKey _)]
      simp
    · rw [Maps.has_put_other (lit_ne fun e2 => e (mk_inj hy hx e2)), h2 y hy]
      simp [e]
  · rw [Maps.size_put hD, h2 x hx, decide_eq_false hn, h3]
    simp
  · by_cases e : kl = .string (mk x)
    · subst e
      exact ⟨x, by simp, v, rfl, fun z => Maps.atKey_put_same hD.isMap (isKey _) _ _, keep _ _ hv⟩
    · rw [Maps.has_put_other e] at hkl
      obtain ⟨y, hy, u, e1, hu, hr⟩ := h4 kl hkl
      exact ⟨y, by simp [hy], u, e1, fun z => by rw [Maps.atKey_put_other e]; exact hu z, keep _ _ hr⟩

/-! ### The map of what waits -/
abbrev nils : Value := .slice none 0 0
def WMap (w : World) (b : Nat) (s : St) (f : Tm → Value) : Prop := ∃ D, w.ownsMap Tryd.prog 9 tok b (Maps.size D) D ∧ Maps.size D ≤ s.kn.length ∧
  ∀ k, vld 0 k = true → Maps.has D (.string (mk k)) = decide (s.of k ≠ []) ∧ D.atKey (.string (mk k)) (.held nils) = .held (f k)
theorem WMap.lt {w : World} {b : Nat} {s : St} {f : Tm → Value} (h : WMap w b s f) : b < w.heap.size := by
  obtain ⟨D, h, _⟩ := h; exact h.lt
theorem WMap.keep {w w' : World} {b : Nat} {s : St} {f : Tm → Value} (h : WMap w b s f) (hb : w'.heap[b]? = w.heap[b]?) : WMap w' b s f := by
  obtain ⟨D, h1, h2, h3⟩ := h
  exact ⟨D, own_keep h1 hb, h2, h3⟩
theorem WMap.new (w : World) : WMap (w.alloc (.map #[] 0)) w.heap.size ⟨[], []⟩ (fun _ => nils) :=
  ⟨.map [], World.ownsMap_made w _ _ _, by simp [Maps.size], fun k _ => ⟨by simp [Maps.has, St.of], by simp [DataW.atKey]⟩⟩
open Classical in
noncomputable def upd (f : Tm → Value) (k : Tm) (v : Value) : Tm → Value := fun x => if x = k then v else f x
theorem upd_same (f : Tm → Value) (k : Tm) (v : Value) : upd f k v k = v := by simp [upd]
theorem upd_other {f : Tm → Value} {k x : Tm} {v : Value} (h : x ≠ k) : upd f k v x = f x := by simp [upd, h]
theorem of_app_same (kn : List Tm) (wt : List (Tm × Tm)) (k y : Tm) : St.of ⟨kn, wt ++ [(k, y)]⟩ k = St.of ⟨kn, wt⟩ k ++ [y] := by simp [St.of]
theorem of_app_other {kn : List Tm} {wt : List (Tm × Tm)} {k x y : Tm} (h : x ≠ k) : St.of ⟨kn, wt ++ [(k, y)]⟩ x = St.of ⟨kn, wt⟩ x := by simp [St.of, Ne.symm h]
theorem of_del_same (kn : List Tm) (wt : List (Tm × Tm)) (k : Tm) : St.of ⟨kn, wt.filter fun p => !decide (p.1 = k)⟩ k = [] := by
  simp only [St.of, List.filter_filter, List.map_eq_nil_iff, List.filter_eq_nil_iff, Bool.and_eq_true, decide_eq_true_eq, Bool.not_eq_true', decide_eq_false_iff_not]
  exact fun p _ h => h.2 h.1
theorem of_del_other {kn : List Tm} {wt : List (Tm × Tm)} {k x : Tm} (h : x ≠ k) : St.of ⟨kn, wt.filter fun p => !decide (p.1 = k)⟩ x = St.of ⟨kn, wt⟩ x := by
  simp only [St.of, List.filter_filter]
  congr 1
  refine List.filter_congr fun p _ => ?_
  by_cases e : p.1 = x
  · simp [e, h]
  · simp [e]
/-- One more waits. -/
theorem WMap.put {w' : World} {b : Nat} {kn kn' : List Tm} {wt : List (Tm × Tm)} {f : Tm → Value} {D : DataW Value} {n : Nat} {k y : Tm} {v : Value} (h2 : Maps.size D + 1 ≤ kn'.length)
    (h3 : ∀ k, vld 0 k = true → Maps.has D (.string (mk k)) = decide (St.of ⟨kn, wt⟩ k ≠ []) ∧ D.atKey (.string (mk k)) (.held nils) = .held (f k)) (hD : Maps.Tidy D)
    (ho : w'.ownsMap Tryd.prog 9 tok b n (D.put (.string (mk k)) (.held v))) (hk : vld 0 k = true) : WMap w' b ⟨kn', wt ++ [(k, y)]⟩ (upd f k v) := by
  refine ⟨_, tight ho, ?_, fun x hx => ?_⟩
  · rw [Maps.size_put hD]
    show _ ≤ kn'.length
    split <;> omega
  · by_cases e : x = k
    · subst e
      rw [Maps.has_put_same hD.isMap (isKey _), Maps.atKey_put_same hD.isMap (isKey _), upd_same]
      refine ⟨?_, rfl⟩
      rw [eq_comm, decide_eq_true_eq]
      simp [St.of]
    · have hne : mk x ≠ mk k := fun e2 => e (mk_inj hx hk e2)
      rw [Maps.has_put_other (lit_ne hne), Maps.atKey_put_other (lit_ne hne), upd_other e]
      obtain ⟨h4, h5⟩ := h3 x hx
      refine ⟨?_, h5⟩
      rw [h4]
      have : St.of ⟨kn', wt ++ [(k, y)]⟩ x = St.of ⟨kn, wt⟩ x := of_app_other (kn := kn) e
      rw [this]
/-- Nothing waits for a key any more. -/
theorem WMap.del {w' : World} {b : Nat} {kn kn' : List Tm} {wt : List (Tm × Tm)} {f : Tm → Value} {D : DataW Value} {n : Nat} {k : Tm} (h2 : Maps.size D ≤ kn'.length)
    (h3 : ∀ k, vld 0 k = true → Maps.has D (.string (mk k)) = decide (St.of ⟨kn, wt⟩ k ≠ []) ∧ D.atKey (.string (mk k)) (.held nils) = .held (f k)) (hD : Maps.Tidy D)
    (ho : w'.ownsMap Tryd.prog 9 tok b n (D.del (.string (mk k)))) (hk : vld 0 k = true) : WMap w' b ⟨kn', wt.filter fun p => !decide (p.1 = k)⟩ (upd f k nils) := by
  refine ⟨_, tight ho, ?_, fun x hx => ?_⟩
  · have h4 := Maps.size_del (k := .string (mk k)) hD
    show _ ≤ kn'.length
    omega
  · by_cases e : x = k
    · subst e
      rw [Maps.has_del_same, Maps.atKey_del_same, upd_same, of_del_same]
      exact ⟨by simp, rfl⟩
    · have hne : mk x ≠ mk k := fun e2 => e (mk_inj hx hk e2)
      rw [Maps.has_del_other (lit_ne hne), Maps.atKey_del_other (lit_ne hne), upd_other e]
      obtain ⟨h4, h5⟩ := h3 x hx
      refine ⟨?_, h5⟩
      rw [h4]
      have : St.of ⟨kn', wt.filter fun p => !decide (p.1 = k)⟩ x = St.of ⟨kn, wt⟩ x := of_del_other (kn := kn) e
      rw [this]
end Go.Proofs.YtiidooponlbnmaaDoor.Kn
