/- Names. (Laid with NS=1; written by wip/tools/gen/pot.py.) -/
import Derived.Test.YtehmfkcihieecaaPoW11
import Derived.Shelf.AbstractIn
namespace Go.Proofs.Ytehmfkcihieecaa.Po
open Go.RowKit Go.Maps Go.Sort Go.Shelf
open Te Te.Tt
open Go (Lit DataW MemPlace keyOf maxLen)

theorem string_same {x a : Nm} : (Lit.string x).sameKey (.string a) = decide (x = a) := by
  by_cases h : x = a
  · subst h; simp [Lit.sameKey]
  · simp [Lit.sameKey, h]
/-- A map's keys: each once, as many as it has. -/
theorem keys_of {w : World} {bm n : Nat} {D : DataW Value} (h : w.ownsMap Try.prog 9 tok bm n D) : (strKeys D).Nodup ∧ (strKeys D).length = Maps.size D ∧ ∀ a, a ∈ strKeys D ↔ Maps.has D (.string a) = true := by
  obtain ⟨es, rfl, hk⟩ := h.keysOf
  obtain ⟨es', e, hp⟩ := h.tidy law
  injection e with e
  subst e
  have hs : ∀ p ∈ es, ∃ x : Nm, p.1 = .string x := fun p hp' => by
    obtain ⟨key, hkey⟩ := hk p hp'
    obtain ⟨x, -, hx, -⟩ := Maps.keyOf_str Try.underlying9 hkey
    exact ⟨x, hx⟩
  refine ⟨?_, by simp [strKeys, Maps.size], fun a => ?_⟩
  · show (es.map fun p => strOf p.1).Pairwise (· ≠ ·)
    rw [List.pairwise_map]
    refine hp.imp_of_mem (fun {p q} h1 h2 hne e => ?_)
    obtain ⟨x, hx⟩ := hs p h1
    obtain ⟨y, hy⟩ := hs q h2
    rw [hx, hy] at e hne
    exact hne (congrArg Lit.string e)
  · rw [Maps.has_eq, List.any_eq_true]
    show a ∈ es.map (fun p => strOf p.1) ↔ _
    rw [List.mem_map]
    constructor
    · rintro ⟨p, hp', rfl⟩
      obtain ⟨x, hx⟩ := hs p hp'
      exact ⟨p, hp', by rw [hx, string_same]; simp [strOf]⟩
    · rintro ⟨p, hp', he⟩
      obtain ⟨x, hx⟩ := hs p hp'
      rw [hx, string_same] at he
      exact ⟨p, hp', by rw [hx]; exact of_decide_eq_true he⟩
theorem sortsA (m : Nat) : AnyZ.SortsIn Try.prog laysSor_ren Fence.wide m :=
  ⟨fun blk off cap ss W hH hblk hsz => callsIn_wide.2 (AnyM.slices_Sort_string laysSrt blk off cap ss W hH hblk hsz),
   fun p cap W => callsIn_wide.2 (AnyM.slices_Sort_string_none laysSrt p cap W)⟩
/-- What Names answers. -/
def NamesPost (σ : Sto) (n : Nat) (w : World) (e : Ending) (w' : World) : Prop := ∃ (v : Value) (ss : List Nm), e = .returned v ∧ OwnS w' v (ss.mergeSort (fun x y => decide (x ≤ y))) ∧ ss.Nodup ∧ ss.length = n ∧ (∀ a, a ∈ ss ↔ (σ a).isSome = true) ∧ (∀ k, v.ownBlock = some k → w.heap.size ≤ k) ∧ RowKit.Below w.heap.size w w'
set_option maxHeartbeats 2000000 in
set_option maxRecDepth 100000 in
theorem Names_any (w : World) (F : Nat → Prop) (g bm : Nat) (f : Nm → Sl) (σ : Sto) (n : Nat) (h : SP w F g bm f σ n) (hn : n ≤ 1000000) :
    Calls Try.prog 23 #[.pointer (some ⟨g, 0, none⟩)] w (NamesPost σ n w) := by
  have c0 := h.cell
  obtain ⟨D, hown, hD2, -, hD4⟩ := h.mp
  obtain ⟨hk1, hk2, hk3⟩ := keys_of hown
  have hmem : ∀ a, a ∈ strKeys D ↔ (σ a).isSome = true := fun a => by rw [hk3 a, (hD4 a).1]
  rw [hD2] at hk2
  have hmax : Maps.size D ≤ maxLen := by rw [hD2]; unfold maxLen; omega
  have hbytes : Maps.size D * 16 ≤ 140737488355328 := by rw [hD2]; omega
  refine (callsIn_wide (n := 6)).1 ?_
  have hbl := hown.lt
  have hseq : SeqGives Fence.wide 2 Try.prog 53 #[.pointer (some ⟨w.heap.size, 0, none⟩)] encStr (fun ss => ss.Perm (strKeys D)) (Maps.size D) (w.alloc (.cells #[.map (some bm)] 59)) :=
    AnyZ.keys_gives (ρ := laysKey_ren) { laysKey with } Fence.wide _ trivial rfl (by omega) w.heap.size bm n D _ (by simp) (by simp) (by
      obtain ⟨es, clock, hb, Ft, hs, hD⟩ := hown
      exact ⟨es, clock, (RowKit.Below.heap_alloc _ _ bm hbl).trans hb, Ft, hs, hD⟩)
  have cK : ∀ mb W, CallsIn Fence.wide 5 Try.prog 42 #[.map mb] W fun e w' => e = .returned (.func (.func 53) #[] #[.pointer (some ⟨W.heap.size, 0, none⟩)]) ∧ w' = W.alloc (.cells #[.map mb] 59) := fun mb W => AnyZ.keys_in laysKey Fence.wide 5 trivial rfl mb W
  have cS := AnyZ.sorted_in laysSor Fence.wide 5 trivial trivial trivial trivial rfl (by omega) (sortsA _) (enters_of Try.func52 (by kernel_rfl) rfl) 53 #[.pointer (some ⟨w.heap.size, 0, none⟩)] trivial (enters_of Try.func53 (by kernel_rfl) rfl) _ _ hmax hbytes _ hseq
  change CallsIn _ _ Try.prog 41 _ _ _ at cS
  have hfK : Fence.wide.fn 42 := trivial
  have hfS : Fence.wide.fn 41 := trivial
  have HM := Lib.hid hmem
  have HK1 := Lib.hid hk1
  have HK2 := Lib.hid hk2
  clear hk1 hk2 hk3 hmem hD2 hD4 hmax hbytes hseq hown h
  refine callsIn_of_wp Try.func23 rfl trivial ?_ rfl
  simp only [Try.ntmps23, List.size_toArray, List.length_cons, List.length_nil, Nat.reduceAdd, Nat.reduceSub, Array.replicate_succ, Array.replicate_zero, List.push_toArray, List.append_toArray, List.nil_append, List.cons_append]
  gi_wp2_with (first
    | (gi_at_call 42; refine (cK _ _).mono ?_; rintro e w' ⟨rfl, rfl⟩)
    | (gi_at_call 41; refine cS.mono ?_; rintro e w' ⟨v, ss, rfl, hS, hrow, hnil, hb⟩))
  go_ret
  have hr := row_base hrow
  have hlen : ss.length = (ss.mergeSort fun x y => decide (x ≤ y)).length := (List.length_mergeSort _).symm
  have hmp : svals (ss.mergeSort fun x y => decide (x ≤ y)) = (ss.mergeSort fun x y => decide (x ≤ y)).map encStr := by simp [svals]
  refine ⟨v, ss, rfl, ?_, hS.nodup_iff.2 HK1.out, by rw [hS.length_eq, HK2.out], fun a => by rw [hS.mem_iff, HM.out], fun k hk => ?_, ((RowKit.Below.refl _ w).alloc (Nat.le_refl _) _).trans (hb.mono (by simp))⟩
  · unfold OwnS
    rw [← hlen, hmp]
    exact hr.1
  · have := hr.2 k hk
    simp at this
    omega
end Go.Proofs.Ytehmfkcihieecaa.Po
