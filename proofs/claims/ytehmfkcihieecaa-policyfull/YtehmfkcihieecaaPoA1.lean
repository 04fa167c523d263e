/- The law's acts in memory; over. (Laid with NS=1; written by wip/tools/gen/pot.py.) -/
import Derived.Test.YtehmfkcihieecaaPoV3
namespace Go.Proofs.Ytehmfkcihieecaa.Po
open Go.RowKit Go.Sort
open Te Te.Tt
open Go (Lit DataW MemPlace keyOf maxLen)

structure Ac where
  k : Int
  p : Pr
  a : Nm
  b : Nm
  on : Bool
structure AOk (x : Ac) : Prop where
  k : InR x.k
  n : x.p.nm.length ≤ maxLen
  a : x.a.length ≤ maxLen
  b : x.b.length ≤ maxLen
/-- The act lies at cell o of block b. -/
def AAt (w : World) (S : Nat → Prop) (x : Ac) (b o : Nat) : Prop := ∃ A a C c G g, w.cell? ⟨b, o, none⟩ = some (.int .i64 x.k) ∧ w.cell? ⟨b, o + 1, none⟩ = some (.string ⟨⟨x.p.nm⟩⟩) ∧ w.cell? ⟨b, o + 2, none⟩ = some (.int .i64 x.p.ver) ∧ w.cell? ⟨b, o + 3, none⟩ = some (.bool x.p.tr) ∧ w.cell? ⟨b, o + 4, none⟩ = some (.bool x.p.se) ∧
  w.cell? ⟨b, o + 5, none⟩ = some (.slice A x.p.al.length a) ∧ w.cell? ⟨b, o + 6, none⟩ = some (.slice C x.p.ac.length c) ∧ w.cell? ⟨b, o + 7, none⟩ = some (.slice G x.p.gr.length g) ∧ w.cell? ⟨b, o + 8, none⟩ = some (.int .i64 x.p.li) ∧ w.cell? ⟨b, o + 9, none⟩ = some (.string ⟨⟨x.a⟩⟩) ∧ w.cell? ⟨b, o + 10, none⟩ = some (.string ⟨⟨x.b⟩⟩) ∧ w.cell? ⟨b, o + 11, none⟩ = some (.bool x.on) ∧
  SRd w S x.p.al A ∧ SRd w S x.p.ac C ∧ IRd w S x.p.gr G ∧ x.p.al.length ≤ a ∧ x.p.ac.length ≤ c
def ARow (w : World) (S : Nat → Prop) (l : List Ac) (A : Option Addr) : Prop := l = [] ∨ ∃ b o, A = some ⟨b, o, none⟩ ∧ S b ∧ ∀ i (h : i < l.length), AAt w S l[i] b (o + i * 12)
theorem AAt.keep {w w' : World} {S S' : Nat → Prop} {x : Ac} {b o : Nat} (h : AAt w S x b o) (hb : S b) (hS : ∀ b, S b → S' b) (hk : ∀ b, S b → w'.heap[b]? = w.heap[b]?) : AAt w' S' x b o := by
  obtain ⟨A, a, C, c, G, g, c0, c1, c2, c3, c4, c5, c6, c7, c8, c9, c10, c11, h1, h2, h3, h4, h5⟩ := h
  have hc : ∀ i, w'.cell? ⟨b, i, none⟩ = w.cell? ⟨b, i, none⟩ := fun i => World.cell?_of_block (a := ⟨b, i, none⟩) (hk b hb)
  exact ⟨A, a, C, c, G, g, by rw [hc]; exact c0, by rw [hc]; exact c1, by rw [hc]; exact c2, by rw [hc]; exact c3, by rw [hc]; exact c4, by rw [hc]; exact c5, by rw [hc]; exact c6, by rw [hc]; exact c7, by rw [hc]; exact c8, by rw [hc]; exact c9, by rw [hc]; exact c10, by rw [hc]; exact c11, h1.keep hS hk, h2.keep hS hk, h3.keep hS hk, h4, h5⟩
theorem ARow.keep {w w' : World} {S S' : Nat → Prop} {l : List Ac} {A : Option Addr} (h : ARow w S l A) (hS : ∀ b, S b → S' b) (hk : ∀ b, S b → w'.heap[b]? = w.heap[b]?) : ARow w' S' l A := by
  rcases h with h | ⟨b, o, h1, h2, h3⟩
  · exact .inl h
  · exact .inr ⟨b, o, h1, hS b h2, fun i hi => (h3 i hi).keep h2 hS hk⟩
/-- Is there more than is looked at? -/
def big (x : Ac) : Bool := decide (60 < x.p.al.length) || (decide (60 < x.p.ac.length) || decide (60 < x.p.gr.length))
def ovr (l : List Ac) : Bool := l.any big || decide (40 < l.length)
theorem big_iff {x : Ac} : big x = true ↔ 60 < x.p.al.length ∨ 60 < x.p.ac.length ∨ 60 < x.p.gr.length := by simp [big]
set_option maxHeartbeats 2000000 in
set_option maxRecDepth 100000 in
theorem over_any (l : List Ac) (A : Option Addr) (ca : Nat) (S : Nat → Prop) (w : World) (hr : ARow w S l A) (hl : l.length ≤ maxLen) :
    Calls Try.prog 9 #[.slice A l.length ca] w fun e w' => e = .returned (.bool (ovr l)) ∧ w' = w := by
  obtain ⟨R, hR⟩ : ∃ R, R = ovr l := ⟨_, rfl⟩
  rw [← hR]
  obtain ⟨m, hm⟩ : ∃ m, m = l.length := ⟨_, rfl⟩
  have HR := Lib.hid hR
  have HM := Lib.hid hm
  have HA := Lib.hid hr
  rw [← hm] at hl ⊢
  have hl' : m ≤ 9223372036854775807 := by unfold maxLen at hl; omega
  clear hR hm hr hl
  go_enter Try.func9, Try.ntmps9
  go_wp2
  go_loopw [3] (fun iv wr => ∃ i : Nat, i ≤ m ∧ iv = .int .i64 (i : Nat) ∧ Hid (∀ x ∈ l.take i, big x = false) ∧ wr = w) (fun iv _ => m - (intOf iv).toNat)
  case atStart => exact ⟨0, by omega, rfl, Lib.hid (by simp), rfl⟩
  case round =>
    obtain ⟨i, hi, rfl, HT, rfl⟩ := hrel
    by_cases hlt : i < m
    · have hil : (i : Int) < (m : Int) := by omega
      have hl1 : i < l.length := by rw [← HM.out]; exact hlt
      obtain ⟨b, o, rfl, hSb, hat⟩ := HA.out.resolve_left (fun h => by rw [h] at hl1; simp at hl1)
      obtain ⟨A1, a1, C1, c1, G1, g1, -, -, -, -, -, e5, e6, e7, -⟩ := hat i hl1
      have HBIG : Hid (big l[i] = true → R = true) := fun h => by rw [HR.out, ovr, List.any_eq_true.2 ⟨_, List.getElem_mem hl1, h⟩]; rfl
      have HNXT : Hid (big l[i] = false → ∀ x ∈ l.take (i + 1), big x = false) := fun h x hx => by
        rw [List.take_succ_eq_append_getElem hl1, List.mem_append, List.mem_singleton] at hx
        rcases hx with hx | rfl
        · exact HT.out x hx
        · exact h
      have HBI : Hid (big l[i] = true ↔ 60 < l[i].p.al.length ∨ 60 < l[i].p.ac.length ∨ 60 < l[i].p.gr.length) := big_iff
      generalize big l[i] = q at *
      generalize l[i].p.al.length = la at *
      generalize l[i].p.ac.length = lc at *
      generalize l[i].p.gr.length = lg at *
      clear hat hSb hl1 HT
      have f5 : wr.cell? ⟨b, o + i * 12 + 1 + 4, none⟩ = some (.slice A1 la a1) := e5
      have f6 : wr.cell? ⟨b, o + i * 12 + 1 + 5, none⟩ = some (.slice C1 lc c1) := e6
      have f7 : wr.cell? ⟨b, o + i * 12 + 1 + 6, none⟩ = some (.slice G1 lg g1) := e7
      by_cases h1 : 60 < la
      · have i1 : (60 : Int) < (la : Int) := by omega
        have e := HBIG.out (HBI.out.2 (.inl h1))
        subst e
        clear HBIG HNXT HBI
        go_wp2
        go_ret
        exact ⟨rfl, rfl⟩
      · have i1 : ¬ (60 : Int) < (la : Int) := by omega
        by_cases h2 : 60 < lc
        · have i2 : (60 : Int) < (lc : Int) := by omega
          have e := HBIG.out (HBI.out.2 (.inr (.inl h2)))
          subst e
          clear HBIG HNXT HBI
          go_wp2
          go_ret
          exact ⟨rfl, rfl⟩
        · have i2 : ¬ (60 : Int) < (lc : Int) := by omega
          by_cases h3 : 60 < lg
          · have i3 : (60 : Int) < (lg : Int) := by omega
            have e := HBIG.out (HBI.out.2 (.inr (.inr h3)))
            subst e
            clear HBIG HNXT HBI
            go_wp2
            go_ret
            exact ⟨rfl, rfl⟩
          · have i3 : ¬ (60 : Int) < (lg : Int) := by omega
            have HT2 := Lib.hid (HNXT.out (by rw [Bool.eq_false_iff]; intro h; rcases HBI.out.1 h with h | h | h; exact h1 h; exact h2 h; exact h3 h))
            clear HBIG HNXT HBI
            go_wp2
            go_roundw
            case rel => exact ⟨i + 1, by omega, by go_num, HT2, trivial⟩
            case measure => simp [intOf]; omega
    · have hil : ¬ (i : Int) < (m : Int) := by omega
      have HE : Hid (R = decide (40 < m)) := by
        have ht := HT.out
        rw [List.take_of_length_le (by rw [← HM.out]; omega)] at ht
        have : l.any big = false := List.any_eq_false.2 (fun x hx => by rw [ht x hx]; decide)
        rw [Hid, HR.out, ovr, this, HM.out]; rfl
      by_cases h40 : 40 < m
      · have i1 : (40 : Int) < (m : Int) := by omega
        have e : R = true := by rw [HE.out]; exact decide_eq_true h40
        subst e
        clear HE HT
        go_wp2
        go_ret
        exact ⟨by simp, rfl⟩
      · have i1 : ¬ (40 : Int) < (m : Int) := by omega
        have e : R = false := by rw [HE.out]; exact decide_eq_false h40
        subst e
        clear HE HT
        go_wp2
        go_ret
        exact ⟨by simp, rfl⟩
theorem ovr_no {l : List Ac} (h : ovr l = false) : l.length ≤ 40 ∧ ∀ x ∈ l, x.p.al.length ≤ 60 ∧ x.p.ac.length ≤ 60 ∧ x.p.gr.length ≤ 60 := by
  simp only [ovr, Bool.or_eq_false_iff, decide_eq_false_iff_not, List.any_eq_false] at h
  refine ⟨by omega, fun x hx => ?_⟩
  have := h.1 x hx
  rw [big_iff] at this
  omega
end Go.Proofs.Ytehmfkcihieecaa.Po
