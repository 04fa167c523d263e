/- slices.Index, Contains, Clone, Delete at what the store has. (Laid with NS=1; written by wip/tools/gen/pot.py.) -/
import Derived.Test.YtehmfkcihieecaaPoMem
import Derived.Test.YtehmfkcihieecaaPoLay
namespace Go.Proofs.Ytehmfkcihieecaa.Po
open Go.RowKit
open Te Te.Tt
open Go (Lit DataW MemPlace keyOf maxLen)

abbrev ba (s : Nm) : ByteArray := ⟨⟨s⟩⟩
theorem ba_inj {s t : Nm} : ba s = ba t ↔ s = t := by
  constructor
  · intro h
    have h1 := congrArg (fun x : ByteArray => x.data.toList) h
    exact h1
  · intro h; rw [h]
/-- Where it stands, or -1. -/
def ix (l : List Nm) (b : Nm) : Int := if b ∈ l then ((l.idxOf b : Nat) : Int) else -1
theorem idxFrom_ba (b : Nm) : ∀ (l : List Nm) (i : Nat), Lib.idxFromS (l.map ba) (ba b) i = if b ∈ l then ((i + l.idxOf b : Nat) : Int) else -1
  | [], i => by simp [Lib.idxFromS]
  | x :: r, i => by
    rw [List.map_cons, Lib.idxFromS]
    by_cases e : x = b
    · subst e
      simp
    · rw [if_neg (fun h => e (ba_inj.1 h)), idxFrom_ba b r (i + 1), List.idxOf_cons]
      have hb : (x == b) = false := by simpa using e
      have e' : b ≠ x := fun h => e h.symm
      by_cases hm : b ∈ r
      · simp [hm, hb]; omega
      · simp [hm, e']
theorem idxOf_ba (l : List Nm) (b : Nm) : Lib.idxOfS ((l.map ba).take l.length) (ba b) = ix l b := by
  rw [List.take_of_length_le (by simp), Lib.idxOfS, idxFrom_ba]
  simp [ix]
theorem contains_ba (l : List Nm) (b : Nm) : Lib.containsS ((l.map ba).take l.length) (ba b) = decide (b ∈ l) := by
  rw [Lib.containsS, idxOf_ba, ix]
  by_cases h : b ∈ l <;> simp [h]
theorem rd_cells {w : World} {l : List Nm} {b o : Nat} (h : ∀ i (h : i < l.length), w.cell? ⟨b, o + i, none⟩ = some (.string ⟨⟨l[i]⟩⟩)) : ∀ j, j < (l.map ba).length → w.cell? ⟨b, o + j, none⟩ = some (.string ((l.map ba).getD j ByteArray.empty)) := by
  intro j hj
  have hj' : j < l.length := by simpa using hj
  rw [h j hj']
  simp [List.getD, hj']
theorem Index_any (l : List Nm) (A : Option Addr) (c : Nat) (S : Nat → Prop) (b : Nm) (w : World) (hr : SRd w S l A) (hl : l.length ≤ 1000) :
    Calls Try.prog 46 #[.slice A l.length c, .string ⟨⟨b⟩⟩] w fun e w' => e = .returned (.int .i64 (ix l b)) ∧ w' = w := by
  rcases hr with rfl | ⟨g, o, rfl, -, hc⟩
  · refine (AnyG.slices_Index_string_empty laysIdx A c (ba b) w).mono ?_
    rintro e w' ⟨rfl, rfl⟩
    exact ⟨by simp [ix, Lib.idxOfS, Lib.idxFromS], rfl⟩
  · refine (AnyG.slices_Index_string laysIdx g o l.length c (l.map ba) (ba b) w (by simp) (by omega) (rd_cells hc)).mono ?_
    rintro e w' ⟨rfl, rfl⟩
    exact ⟨by rw [idxOf_ba], rfl⟩
theorem Contains_any (l : List Nm) (A : Option Addr) (c : Nat) (S : Nat → Prop) (b : Nm) (w : World) (hr : SRd w S l A) (hl : l.length ≤ 1000) :
    Calls Try.prog 28 #[.slice A l.length c, .string ⟨⟨b⟩⟩] w fun e w' => e = .returned (.bool (decide (b ∈ l))) ∧ w' = w := by
  rcases hr with rfl | ⟨g, o, rfl, -, hc⟩
  · refine (AnyG.slices_Contains_string_empty laysCon A c (ba b) w).mono ?_
    rintro e w' ⟨rfl, rfl⟩
    exact ⟨by simp, rfl⟩
  · refine (AnyG.slices_Contains_string laysCon g o l.length c (l.map ba) (ba b) w (by simp) (by omega) (rd_cells hc)).mono ?_
    rintro e w' ⟨rfl, rfl⟩
    exact ⟨by rw [contains_ba], rfl⟩
theorem row_base {w : World} {base : Nat} {e : TypeId} {v : Value} {n : Nat} {xs : List Value} (h : w.ownsRow base e 1 v n xs) : w.ownsRow 0 e 1 v n xs ∧ ∀ k, v.ownBlock = some k → base ≤ k := by
  refine ⟨⟨h.1, ?_⟩, fun k hk => (World.ownsRow.lt h k hk).1⟩
  rcases h.2 with h1 | ⟨g, cap, cur, h2, h3, h4⟩
  · exact .inl h1
  · exact .inr ⟨g, cap, cur, h2, Nat.zero_le _, h4⟩
theorem CloneS_any (l : List Nm) (A : Option Addr) (c : Nat) (S : Nat → Prop) (w : World) (hr : SRd w S l A) (hl : l.length ≤ 1000) :
    Calls Try.prog 44 #[.slice A l.length c] w fun e w' => ∃ v', e = .returned v' ∧ OwnS w' v' l ∧ (∀ k, v'.ownBlock = some k → w.heap.size ≤ k) ∧ Below w.heap.size w w' := by
  cases A with
  | none =>
    have h0 : l = [] := by
      rcases hr with h | ⟨g, o, h, -⟩
      · exact h
      · cases h
    subst h0
    refine (AnyG.slices_Clone_string_nil laysClS 0 c w).mono ?_
    rintro e w' ⟨rfl, rfl⟩
    exact ⟨_, rfl, OwnS.nil _, fun k hk => by simp [Value.ownBlock] at hk, Below.refl _ _⟩
  | some a =>
    rcases hr with rfl | ⟨g, o, e, -, hc⟩
    · refine (AnyG.slices_Clone_string_zero laysClS a c w).mono ?_
      rintro e w' ⟨v', rfl, h1, -, h2⟩
      exact ⟨v', rfl, (row_base h1).1, (row_base h1).2, h2⟩
    · injection e with e
      subst e
      refine (AnyG.slices_Clone_string laysClS g o l.length c (l.map ba) w (by simp) (by omega) (rd_cells hc)).mono ?_
      rintro e w' ⟨v', rfl, h1, -, h2⟩
      rw [List.take_of_length_le (by simp), List.map_map] at h1
      exact ⟨v', rfl, (row_base h1).1, (row_base h1).2, h2⟩
theorem CloneI_any (l : List Int) (A : Option Addr) (c : Nat) (S : Nat → Prop) (w : World) (hr : IRd w S l A) (hl : l.length ≤ 1000) :
    Calls Try.prog 45 #[.slice A l.length c] w fun e w' => ∃ v', e = .returned v' ∧ OwnI w' v' l ∧ (∀ k, v'.ownBlock = some k → w.heap.size ≤ k) ∧ Below w.heap.size w w' := by
  cases A with
  | none =>
    have h0 : l = [] := by
      rcases hr with h | ⟨g, o, h, -⟩
      · exact h
      · cases h
    subst h0
    refine (AnyG.slices_Clone_int_nil laysClI 0 c w).mono ?_
    rintro e w' ⟨rfl, rfl⟩
    exact ⟨_, rfl, OwnI.nil _, fun k hk => by simp [Value.ownBlock] at hk, Below.refl _ _⟩
  | some a =>
    rcases hr with rfl | ⟨g, o, e, -, hc⟩
    · refine (AnyG.slices_Clone_int_zero laysClI a c w).mono ?_
      rintro e w' ⟨v', rfl, h1, -, h2⟩
      exact ⟨v', rfl, (row_base h1).1, (row_base h1).2, h2⟩
    · injection e with e
      subst e
      refine (AnyG.slices_Clone_int laysClI g o l.length c l w (Nat.le_refl _) (by omega) (fun j hj => by rw [hc j hj]; simp [List.getD, hj])).mono ?_
      rintro e w' ⟨v', rfl, h1, -, h2⟩
      rw [List.take_of_length_le (Nat.le_refl _)] at h1
      exact ⟨v', rfl, (row_base h1).1, (row_base h1).2, h2⟩
theorem Delete_any (l : List Nm) (v : Value) (i : Nat) (hi : i < l.length) (w : World) (ho : OwnS w v l) :
    Calls Try.prog 47 #[v, .int .i64 (i : Nat), .int .i64 ((i + 1 : Nat) : Int)] w fun e w' => ∃ v', e = .returned v' ∧ OwnS w' v' (l.take i ++ l.drop (i + 1)) ∧ v'.ownBlock = v.ownBlock ∧ Turn (fun k => v.ownBlock = some k) w w' := by
  have hne : v ≠ .slice none 0 0 := by
    rintro rfl
    obtain ⟨A, c, e, -⟩ := ho.form
    injection e with _ e
    omega
  have hmap : svals l = l.map Go.Proofs.encStr := by simp [svals]
  have ho' : w.ownsRow 0 9 1 v l.length (l.map Go.Proofs.encStr) := by rw [← hmap]; exact ho
  obtain ⟨g, cap, rfl, -, hg, hc, hm, -, hH⟩ := Lib.holds_of_ownsRow ho' hne
  refine (AnyG.slices_Delete_string laysDel g 0 cap i (i + 1) l w hH hc (by unfold maxLen at hm; omega) (by omega) (by omega)).mono ?_
  rintro e w' ⟨rfl, q, rfl⟩
  have hlen : (l.take i ++ l.drop (i + 1)).length = l.length - (i + 1 - i) := by simp; omega
  have hly : (l.take i ++ l.drop (i + 1) ++ List.replicate (i + 1 - i) ([] : Nm)).length = l.length := by rw [List.length_append, hlen]; simp; omega
  refine ⟨_, rfl, ?_, rfl, ?_⟩
  · generalize l.take i ++ l.drop (i + 1) = ys at *
    have h1 := Lib.ownsRow_putRow (q := q) (k := l.length - (i + 1 - i)) (ys := ys ++ List.replicate (i + 1 - i) []) ho' hly (by omega)
    rw [List.take_append_of_le_length (by omega), List.take_of_length_le (by omega)] at h1
    have hm2 : svals ys = ys.map Go.Proofs.encStr := by simp [svals]
    unfold OwnS
    rw [hlen, hm2]
    exact h1
  · exact ⟨rfl, rfl, rfl, by simp [Sort.putRow, Sort.mapBlock, Sort.ahead], fun k hk hn => by
      have hne : g ≠ k := fun e => hn (by simp [Value.ownBlock, e])
      simp [Sort.putRow, Sort.mapBlock, Sort.ahead, Array.getElem?_modify, hne]⟩
end Go.Proofs.Ytehmfkcihieecaa.Po
