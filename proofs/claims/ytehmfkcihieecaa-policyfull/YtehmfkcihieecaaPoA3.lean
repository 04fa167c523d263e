/- A store beside what a law keeps. (Laid with NS=1; written by wip/tools/gen/pot.py.) -/
import Derived.Test.YtehmfkcihieecaaPoA2
namespace Go.Proofs.Ytehmfkcihieecaa.Po
open Go.RowKit Go.Sort
open Te Te.Tt
open Go (Lit DataW MemPlace keyOf maxLen)

/-- A store that lies behind what was there, and apart from what K tells. -/
def One (V : World) (K : Nat → Prop) (g bm : Nat) (σ : Sto) (n : Nat) (W : World) : Prop :=
  ∃ F f, SP W F g bm f σ n ∧ RowKit.Below V.heap.size V W ∧ (∀ i, F i → V.heap.size ≤ i) ∧ ∀ i, K i → i < W.heap.size ∧ ¬ F i
section
variable {V W w' : World} {K K' : Nat → Prop} {g bm : Nat} {σ σ' : Sto} {n n' : Nat}
theorem One.bel (h : One V K g bm σ n W) : RowKit.Below V.heap.size V W := by obtain ⟨F, f, -, h, -⟩ := h; exact h
theorem One.ok (h : One V K g bm σ n W) : Oks σ := by obtain ⟨F, f, h, -⟩ := h; exact h.ok
theorem One.mono (h : One V K g bm σ n W) (hK : ∀ i, K' i → K i) : One V K' g bm σ n W := by
  obtain ⟨F, f, h1, h2, h3, h4⟩ := h
  exact ⟨F, f, h1, h2, h3, fun i hi => h4 i (hK i hi)⟩
/-- Nothing of the store has turned: what is new lies apart. -/
theorem One.read (h : One V K g bm σ n W) (hb : RowKit.Below W.heap.size W w') (hK : ∀ i, K' i → K i ∨ W.heap.size ≤ i ∧ i < w'.heap.size) : One V K' g bm σ n w' := by
  obtain ⟨F, f, h1, h2, h3, h4⟩ := h
  refine ⟨F, f, h1.below hb, h2.trans (hb.mono h2.size), h3, fun i hi => ?_⟩
  rcases hK i hi with h5 | h5
  · exact ⟨Nat.lt_of_lt_of_le (h4 i h5).1 hb.size, (h4 i h5).2⟩
  · exact ⟨h5.2, fun hF => by have := h1.lt i hF; omega⟩
/-- What lies apart from the store is written. -/
theorem One.side (h : One V K g bm σ n W) (hs : w'.heap.size = W.heap.size) (ho : w'.os = W.os) (ht : w'.tape = W.tape) (hp : w'.output = W.output) (z : Nat) (hz : K z) (hzV : V.heap.size ≤ z) (hk : ∀ k, k ≠ z → w'.heap[k]? = W.heap[k]?) : One V K g bm σ n w' := by
  obtain ⟨F, f, h1, h2, h3, h4⟩ := h
  refine ⟨F, f, h1.keep (by omega) (fun i hi => hk i (fun e => (h4 z hz).2 (by rw [← e]; exact hi))), ⟨ho.trans h2.os, ht.trans h2.tape, hp.trans h2.output, by rw [hs]; exact h2.size, fun k hk' => (hk k (by omega)).trans (h2.block k hk')⟩, h3, fun i hi => ⟨by rw [hs]; exact (h4 i hi).1, (h4 i hi).2⟩⟩
/-- A call has turned the store. -/
theorem one_stp {F : Nat → Prop} (h2 : RowKit.Below V.heap.size V W) (h3 : ∀ i, F i → V.heap.size ≤ i) (h4 : ∀ i, K i → i < W.heap.size ∧ ¬ F i) (h : Stp W F g bm σ' n' w') : One V K g bm σ' n' w' ∧ ∀ i, K i → w'.heap[i]? = W.heap[i]? := by
  obtain ⟨F', f', s1, s2, s3, s4⟩ := h
  refine ⟨⟨F', f', s1, h2.trans (s2.below h2.size h3), fun i hi => (s4 i hi).elim (h3 i) (Nat.le_trans h2.size), fun i hi => ⟨Nat.lt_of_lt_of_le (h4 i hi).1 s2.size, fun hF => (s4 i hF).elim (h4 i hi).2 (fun h => by have := (h4 i hi).1; omega)⟩⟩, fun i hi => s2.block i (h4 i hi).1 (h4 i hi).2⟩
theorem one_new (V W : World) (hV : RowKit.Below V.heap.size V W) : Calls Try.prog 10 #[] W fun e w' => ∃ g bm, e = .returned (.pointer (some ⟨g, 0, none⟩)) ∧ One V (fun _ => False) g bm (fun _ => none) 0 w' ∧ RowKit.Below W.heap.size W w' :=
  (New_any W).mono fun e w' h => by
    obtain ⟨g, bm, he, hs, hb⟩ := h
    exact ⟨g, bm, he, ⟨_, _, hs, hV.trans (hb.mono hV.size), fun i hi => Nat.le_trans hV.size hi.1, fun i hi => hi.elim⟩, hb⟩
theorem one_add (h : One V K g bm σ n W) (p : Pr) (S : Nat → Prop) (v : Value) (hv : PV W S p v) (hS : ∀ b, S b → b < W.heap.size) (k1 : p.al.length ≤ 1000) (k2 : p.ac.length ≤ 1000) (k3 : p.gr.length ≤ 1000) (hnm : p.nm.length ≤ maxLen) (hn : n < maxLen) :
    Calls Try.prog 22 #[.pointer (some ⟨g, 0, none⟩), v] W fun e w' => e = .returned (.int .i64 (addE σ n p)) ∧ One V K g bm (add σ n p).1 (add σ n p).2 w' ∧ ∀ i, K i → w'.heap[i]? = W.heap[i]? := by
  obtain ⟨F, f, h1, h2, h3, h4⟩ := h
  exact (Add_any W F g bm f σ n h1 p S v hv hS k1 k2 k3 hnm hn).mono fun e w' h => ⟨h.1, one_stp h2 h3 h4 h.2⟩
theorem one_allow (h : One V K g bm σ n W) (a b : Nm) (on : Bool) (ha : a.length ≤ maxLen) (hb : b.length ≤ maxLen) (hn : n < maxLen) :
    Calls Try.prog 14 #[.pointer (some ⟨g, 0, none⟩), .string ⟨⟨a⟩⟩, .string ⟨⟨b⟩⟩, .bool on] W fun e w' => e = .returned (.int .i64 (rel σ a b (allF b on)).2) ∧ One V K g bm (rel σ a b (allF b on)).1 n w' ∧ ∀ i, K i → w'.heap[i]? = W.heap[i]? := by
  obtain ⟨F, f, h1, h2, h3, h4⟩ := h
  exact (Allow_any W F g bm f σ n h1 a b on ha hb hn).mono fun e w' h => ⟨h.1, one_stp h2 h3 h4 h.2⟩
theorem one_acts (h : One V K g bm σ n W) (a b : Nm) (on : Bool) (ha : a.length ≤ maxLen) (hb : b.length ≤ maxLen) (hn : n < maxLen) :
    Calls Try.prog 24 #[.pointer (some ⟨g, 0, none⟩), .string ⟨⟨a⟩⟩, .string ⟨⟨b⟩⟩, .bool on] W fun e w' => e = .returned (.int .i64 (rel σ a b (actF b on)).2) ∧ One V K g bm (rel σ a b (actF b on)).1 n w' ∧ ∀ i, K i → w'.heap[i]? = W.heap[i]? := by
  obtain ⟨F, f, h1, h2, h3, h4⟩ := h
  exact (Acts_any W F g bm f σ n h1 a b on ha hb hn).mono fun e w' h => ⟨h.1, one_stp h2 h3 h4 h.2⟩
theorem one_trust (h : One V K g bm σ n W) (a : Nm) (on : Bool) (ha : a.length ≤ maxLen) (hn : n < maxLen) :
    Calls Try.prog 19 #[.pointer (some ⟨g, 0, none⟩), .string ⟨⟨a⟩⟩, .bool on] W fun e w' => e = .returned (.int .i64 (chg σ a (truF on)).2) ∧ One V K g bm (chg σ a (truF on)).1 n w' ∧ ∀ i, K i → w'.heap[i]? = W.heap[i]? := by
  obtain ⟨F, f, h1, h2, h3, h4⟩ := h
  exact (Trust_any W F g bm f σ n h1 a on ha hn).mono fun e w' h => ⟨h.1, one_stp h2 h3 h4 h.2⟩
theorem one_sense (h : One V K g bm σ n W) (a : Nm) (on : Bool) (ha : a.length ≤ maxLen) (hn : n < maxLen) :
    Calls Try.prog 20 #[.pointer (some ⟨g, 0, none⟩), .string ⟨⟨a⟩⟩, .bool on] W fun e w' => e = .returned (.int .i64 (chg σ a (senF on)).2) ∧ One V K g bm (chg σ a (senF on)).1 n w' ∧ ∀ i, K i → w'.heap[i]? = W.heap[i]? := by
  obtain ⟨F, f, h1, h2, h3, h4⟩ := h
  exact (Sense_any W F g bm f σ n h1 a on ha hn).mono fun e w' h => ⟨h.1, one_stp h2 h3 h4 h.2⟩
theorem one_rekey (h : One V K g bm σ n W) (a : Nm) (ha : a.length ≤ maxLen) (hn : n < maxLen) :
    Calls Try.prog 17 #[.pointer (some ⟨g, 0, none⟩), .string ⟨⟨a⟩⟩] W fun e w' => e = .returned (.int .i64 (chg σ a rekF).2) ∧ One V K g bm (chg σ a rekF).1 n w' ∧ ∀ i, K i → w'.heap[i]? = W.heap[i]? := by
  obtain ⟨F, f, h1, h2, h3, h4⟩ := h
  exact (Rekey_any W F g bm f σ n h1 a ha hn).mono fun e w' h => ⟨h.1, one_stp h2 h3 h4 h.2⟩
theorem one_get (h : One V K g bm σ n W) (a : Nm) (ha : a.length ≤ maxLen) :
    Calls Try.prog 12 #[.pointer (some ⟨g, 0, none⟩), .string ⟨⟨a⟩⟩] W (GetPost σ a W) := by
  obtain ⟨F, f, h1, h2, h3, h4⟩ := h
  exact Get_any W F g bm f σ n h1 a ha
theorem one_key (h : One V K g bm σ n W) (a : Nm) (ha : a.length ≤ maxLen) :
    Calls Try.prog 16 #[.pointer (some ⟨g, 0, none⟩), .string ⟨⟨a⟩⟩] W fun e w' => e = .returned (.tuple #[kval (ky σ a), .int .i64 (errW (σ a).isSome)]) ∧ RowKit.Below W.heap.size W w' := by
  obtain ⟨F, f, h1, h2, h3, h4⟩ := h
  exact Key_any W F g bm f σ n h1 a ha
theorem one_may (h : One V K g bm σ n W) (a b : Nm) (ha : a.length ≤ maxLen) (hb : b.length ≤ maxLen) :
    Calls Try.prog 13 #[.pointer (some ⟨g, 0, none⟩), .string ⟨⟨a⟩⟩, .string ⟨⟨b⟩⟩] W fun e w' => e = .returned (.tuple #[.bool (decide (b ∈ (gt σ a).al)), .bool (decide (a ∈ (gt σ b).ac))]) ∧ RowKit.Below W.heap.size W w' := by
  obtain ⟨F, f, h1, h2, h3, h4⟩ := h
  exact May_any W F g bm f σ n h1 a b ha hb
theorem one_names (h : One V K g bm σ n W) (hn : n ≤ 1000000) :
    Calls Try.prog 23 #[.pointer (some ⟨g, 0, none⟩)] W (NamesPost σ n W) := by
  obtain ⟨F, f, h1, h2, h3, h4⟩ := h
  exact Names_any W F g bm f σ n h1 hn
/-- An act on a store, as the law does it. -/
def OneDone (V : World) (g bm n : Nat) (e : Ending) (w' : World) : Prop := (∃ er : Int, e = .returned (.int .i64 er)) ∧ ∃ σ' n', One V (fun _ => False) g bm σ' n' w' ∧ n' ≤ n + 1
theorem one_done (h : One V (fun _ => False) g bm σ n W) (x : Ac) (A : Option Addr) (a : Nat) (C : Option Addr) (c : Nat) (G : Option Addr) (g' : Nat) (S : Nat → Prop)
    (hA : SRd W S x.p.al A) (hC : SRd W S x.p.ac C) (hG : IRd W S x.p.gr G) (la : x.p.al.length ≤ a) (lc : x.p.ac.length ≤ c) (hS : ∀ b, S b → b < W.heap.size) (hx : AOk x) (k1 : x.p.al.length ≤ 60) (k2 : x.p.ac.length ≤ 60) (k3 : x.p.gr.length ≤ 60) (hn : n ≤ 1000) :
    Calls Try.prog 11 #[.pointer (some ⟨g, 0, none⟩), .agg #[.int .i64 x.k, .string ⟨⟨x.p.nm⟩⟩, .int .i64 x.p.ver, .bool x.p.tr, .bool x.p.se, .slice A x.p.al.length a, .slice C x.p.ac.length c, .slice G x.p.gr.length g', .int .i64 x.p.li, .string ⟨⟨x.a⟩⟩, .string ⟨⟨x.b⟩⟩, .bool x.on]] W (OneDone V g bm n) := by
  obtain ⟨F, f, h1, h2, h3, h4⟩ := h
  refine (done_any W F g bm f σ n h1 x A a C c G g' S hA hC hG la lc hS hx k1 k2 k3 hn).mono fun e w' h => ?_
  obtain ⟨he, σ', n', hs, hn'⟩ := h
  exact ⟨he, σ', n', (one_stp h2 h3 (K := fun _ => False) (fun i hi => hi.elim) hs).1, hn'⟩
end
end Go.Proofs.Ytehmfkcihieecaa.Po
