/- What the laws of know lean on: how much there is; two stores beside each other. (Laid with NS=1.) -/
import Derived.Test.YtiidooponlbnmaaDoorKnW9
import Derived.Test.YtiidooponlbnmaaDoorTmV1
namespace Go.Proofs.YtiidooponlbnmaaDoor.Kn
open Go.RowKit
open Te Te.Tt
open Go (Lit DataW MemPlace keyOf maxLen)

set_option maxHeartbeats 400000 in
set_option maxRecDepth 100000 in
theorem refListK_any (A : Option Addr) (n c : Nat) (w : World) :
    Calls Tryd.prog 33 #[.slice A n c] w fun e w' => e = .returned (.agg #[.int .i64 3, .string ⟨#[]⟩, .int .i64 0, .slice A n c]) ∧ Below w.heap.size w w' := by
  go_enter Tryd.func33, Tryd.ntmps33
  go_wp2
  exact bodyPost_ret (results_term Tryd.results33 _ _ w.heap.size _ _ _ _ _ _ rfl (heap_alloc_new w _)) rfl ⟨rfl, (Below.refl _ _).alloc (Nat.le_refl _) _⟩
set_option maxHeartbeats 1000000 in
set_option maxRecDepth 100000 in
theorem over_any (l : List Tm) (A : Option Addr) (ca : Nat) (S : Nat → Prop) (w : World) (hsz : Te.Tt.szs l ≤ 2000000) (hr : TRow w S l A) (hS : ∀ b, S b → b < w.heap.size) :
    Calls Tryd.prog 9 #[.slice A l.length ca] w fun e w' => e = .returned (.bool (decide (120 < 1 + Te.Tt.szs l))) ∧ Below w.heap.size w w' := by
  have HC := Lib.hid (refListK_any A l.length ca w)
  have HL : Hid (∀ W, Below w.heap.size w W → Calls Tryd.prog 22 #[.agg #[.int .i64 3, .string ⟨#[]⟩, .int .i64 0, .slice A l.length ca], .int .i64 120] W fun e w' => e = .returned (.bool (decide (120 < 1 + Te.Tt.szs l))) ∧ Below W.heap.size W w') := fun W hW => by
    have h := Large_any (.mk 3 [] 0 l) 120 S (.agg #[.int .i64 3, .string ⟨#[]⟩, .int .i64 0, .slice A l.length ca]) W (by rw [sz]; omega) (rep_mk.2 ⟨A, ca, rfl, ⟨by omega, by omega⟩, trow_below hr hW hS⟩) (fun i hi => Nat.lt_of_lt_of_le (hS i hi) hW.size)
    rw [sz] at h
    exact h
  obtain ⟨b, hb⟩ : ∃ b, b = decide (120 < 1 + Te.Tt.szs l) := ⟨_, rfl⟩
  rw [← hb] at HL ⊢
  clear hr hS hsz hb
  go_enter Tryd.func9, Tryd.ntmps9
  go_wp2_with fail
  refine HC.out.mono ?_
  rintro _ w1 ⟨rfl, hb1⟩
  have HB1 := Lib.hid hb1
  clear hb1 HC
  go_wp2_with fail
  refine (HL.out w1 HB1.out).mono ?_
  rintro _ w2 ⟨rfl, hb2⟩
  have HB2 := Lib.hid (HB1.out.trans (hb2.mono HB1.out.size))
  clear hb2 HL HB1
  go_wp2
  go_ret
  exact ⟨rfl, HB2.out⟩

/-- What of a row is heard. -/
abbrev hs (l : List Tm) : Tm → Prop := fun y => y ∈ l ∧ vld 0 y = true
theorem hs_step (l : List Tm) (x : Tm) (H : Tm → Prop) (h : ∀ y, (y ∈ l ∨ y = x) ∧ vld 0 y = true ↔ H y) : ∀ y, (hs l y ∨ (y = x ∧ vld 0 x = true)) ↔ H y := by
  intro y
  rw [← h y]
  constructor
  · rintro (⟨h1, h2⟩ | ⟨rfl, h2⟩)
    · exact ⟨.inl h1, h2⟩
    · exact ⟨.inr rfl, h2⟩
  · rintro ⟨h1 | rfl, h2⟩
    · exact .inl ⟨h1, h2⟩
    · exact .inr ⟨rfl, h2⟩
theorem can_congr {kn kn' : List Tm} (h : ∀ x, x ∈ kn ↔ x ∈ kn') : ∀ x, can kn x = can kn' x := Tm.ind (by
  intro k s n l ih
  have e1 : cans kn l = cans kn' l := by
    rw [cans_map, cans_map]
    exact List.map_congr_left ih
  have e2 : decide (Tm.mk k s n l ∈ kn) = decide (Tm.mk k s n l ∈ kn') := by simp [h]
  have e3 : decide (hd1 l ∈ kn) = decide (hd1 l ∈ kn') := by simp [h]
  rw [can, can, e1, e2, e3])

/-- A store in a world. -/
def One (V : World) (g bk bw : Nat) (H : Tm → Prop) (P : Nat) (F : Nat → Prop) (W : World) : Prop :=
  ∃ T f s, SR W F g bk bw T f s ∧ Inv H s [] ∧ (∀ i, F i → V.heap.size ≤ i) ∧ s.kn.length + wz s ≤ P
theorem One.below {V W W' : World} {g bk bw : Nat} {H : Tm → Prop} {P : Nat} {F : Nat → Prop} (h : One V g bk bw H P F W) (hb : Below W.heap.size W W') : One V g bk bw H P F W' := by
  obtain ⟨T, f, s, h1, h2, h3, h4⟩ := h
  exact ⟨T, f, s, h1.below hb, h2, h3, h4⟩
theorem One.congr {V W : World} {g bk bw : Nat} {H H' : Tm → Prop} {P P' : Nat} {F : Nat → Prop} (h : One V g bk bw H P F W) (he : ∀ y, H y ↔ H' y) (hP : P ≤ P') : One V g bk bw H' P' F W := by
  obtain ⟨T, f, s, h1, h2, h3, h4⟩ := h
  exact ⟨T, f, s, h1, h2.congr he, h3, Nat.le_trans h4 hP⟩
theorem One.lt {V W : World} {g bk bw : Nat} {H : Tm → Prop} {P : Nat} {F : Nat → Prop} (h : One V g bk bw H P F W) : ∀ i, F i → i < W.heap.size := by
  obtain ⟨T, f, s, h1, _⟩ := h
  exact h1.lt
theorem One.learnt {V W W' : World} {g bk bw : Nat} {H : Tm → Prop} {P : Nat} {F : Nat → Prop} (hV : V.heap.size ≤ W.heap.size) (hF : ∀ i, F i → V.heap.size ≤ i) (h : LearnPost W F g bk bw H P W') : ∃ F', One V g bk bw H P F' W' ∧ Turn F W W' ∧ (∀ i, F i → F' i) ∧ ∀ i, F' i → F i ∨ W.heap.size ≤ i := by
  obtain ⟨F', T, f, s, h1, h2, h3, h4, h5, h6⟩ := h
  exact ⟨F', ⟨T, f, s, h1, h2, fun i hi => (h5 i hi).elim (hF i) (Nat.le_trans hV), h6⟩, h3, h4, h5⟩
/-- Two stores, apart. -/
def Two (V : World) (g1 b1 c1 g2 b2 c2 : Nat) (H1 H2 : Tm → Prop) (P1 P2 : Nat) (W : World) : Prop :=
  ∃ F1 F2, One V g1 b1 c1 H1 P1 F1 W ∧ One V g2 b2 c2 H2 P2 F2 W ∧ (∀ i, F1 i → ¬ F2 i) ∧ Below V.heap.size V W
section
variable {V W W' : World} {g1 b1 c1 g2 b2 c2 : Nat} {H1 H2 : Tm → Prop} {P1 P2 : Nat}
theorem Two.below (h : Two V g1 b1 c1 g2 b2 c2 H1 H2 P1 P2 W) (hb : Below W.heap.size W W') : Two V g1 b1 c1 g2 b2 c2 H1 H2 P1 P2 W' := by
  obtain ⟨F1, F2, h1, h2, h3, h4⟩ := h
  exact ⟨F1, F2, h1.below hb, h2.below hb, h3, h4.trans (hb.mono h4.size)⟩
theorem Two.flip (h : Two V g1 b1 c1 g2 b2 c2 H1 H2 P1 P2 W) : Two V g2 b2 c2 g1 b1 c1 H2 H1 P2 P1 W := by
  obtain ⟨F1, F2, h1, h2, h3, h4⟩ := h
  exact ⟨F2, F1, h2, h1, fun i hi h => h3 i h hi, h4⟩
theorem Two.congr {H1' H2' : Tm → Prop} {P1' P2' : Nat} (h : Two V g1 b1 c1 g2 b2 c2 H1 H2 P1 P2 W) (e1 : ∀ y, H1 y ↔ H1' y) (e2 : ∀ y, H2 y ↔ H2' y) (p1 : P1 ≤ P1') (p2 : P2 ≤ P2') : Two V g1 b1 c1 g2 b2 c2 H1' H2' P1' P2' W := by
  obtain ⟨F1, F2, h1, h2, h3, h4⟩ := h
  exact ⟨F1, F2, h1.congr e1 p1, h2.congr e2 p2, h3, h4⟩
/-- The first one learns. -/
theorem Two.learn (h : Two V g1 b1 c1 g2 b2 c2 H1 H2 P1 P2 W) (htab : TabB V.heap.size V) (x : Tm) (S : Nat → Prop) (v : Value) (hr : Rep W S x v) (hS : ∀ b, S b → b < W.heap.size) (P : Nat) (hP : P1 + sz x ≤ P) (hP2 : P ≤ 200000) :
    Calls Tryd.prog 11 #[.pointer (some ⟨g1, 0, none⟩), v] W fun e w' => e = .returned (.tuple #[]) ∧ Two V g1 b1 c1 g2 b2 c2 (fun y => H1 y ∨ (y = x ∧ vld 0 x = true)) H2 P P2 w' := by
  obtain ⟨F1, F2, ⟨T, f, s, hs, hi, hF, hp⟩, h2, h3, h4⟩ := h
  refine (Learn_any V.heap.size W F1 g1 b1 c1 T f s hs H1 hi h4.size hF (htab.on h4) x S v hr hS P (by omega) hP2).mono ?_
  rintro e w' ⟨rfl, hl⟩
  obtain ⟨F1', o1, ht, hf1, hf2⟩ := One.learnt h4.size hF hl
  obtain ⟨T2, f2, s2, hs2, hi2, hF2, hp2⟩ := h2
  exact ⟨rfl, F1', F2, o1, ⟨T2, f2, s2, hs2.turn ht (fun i hi h => h3 i h hi), hi2, hF2, hp2⟩, fun i hi h => (hf2 i hi).elim (fun h1 => h3 i h1 h) (fun h1 => by have := hs2.lt i h; omega), h4.trans (ht.below h4.size hF)⟩
/-- What each knows. -/
theorem Two.known (h : Two V g1 b1 c1 g2 b2 c2 H1 H2 P1 P2 W) : ∃ F1 T1 f1 s1 F2 T2 f2 s2, SR W F1 g1 b1 c1 T1 f1 s1 ∧ SR W F2 g2 b2 c2 T2 f2 s2 ∧ (∀ x, x ∈ s1.kn ↔ Cl H1 x) ∧ (∀ x, x ∈ s2.kn ↔ Cl H2 x) ∧ s1.kn.Nodup ∧ s2.kn.Nodup := by
  obtain ⟨F1, F2, ⟨T, f, s, hs, hi, hF, hp⟩, ⟨T2, f2, s2, hs2, hi2, hF2, hp2⟩, h3, h4⟩ := h
  exact ⟨F1, T, f, s, F2, T2, f2, s2, hs, hs2, hi.known, hi2.known, hi.nd, hi2.nd⟩
theorem Two.bel (h : Two V g1 b1 c1 g2 b2 c2 H1 H2 P1 P2 W) : Below V.heap.size V W := by
  obtain ⟨F1, F2, _, _, _, h4⟩ := h
  exact h4
end
end Go.Proofs.YtiidooponlbnmaaDoor.Kn
