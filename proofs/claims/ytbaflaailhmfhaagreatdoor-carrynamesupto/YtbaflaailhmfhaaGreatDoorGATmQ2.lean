/- Plain mathematics of parts: what is valid within, how large. -/
import Derived.Test.YtbaflaailhmfhaaGreatDoorGATmPure
import Derived.Test.YtbaflaailhmfhaaGreatDoorGACyU16
import Derived.Test.YtbaflaailhmfhaaGreatDoorGACyL0
import Derived.Test.YtbaflaailhmfhaaGreatDoorGATmQ
namespace Go.Proofs.YtbaflaailhmfhaaGreatDoor.Te
namespace Tt

theorem parts_ge : ∀ (x : Tm) (d e : Nat) (y : Tm), (e, y) ∈ parts d x → d ≤ e := Tm.ind (by
  intro k s n l ih d e y h
  rw [parts] at h
  rcases List.mem_cons.1 h with h | h
  · simp at h; omega
  · have : ∀ l : List Tm, (∀ x ∈ l, ∀ (d e : Nat) (y : Tm), (e, y) ∈ parts d x → d ≤ e) → (e, y) ∈ partss (d + 1) l → d + 1 ≤ e := by
      intro l
      induction l with
      | nil => intro _ h; simp [partss] at h
      | cons z r ihr =>
        intro hz h
        rw [partss, List.mem_append] at h
        rcases h with h | h
        · exact hz z (by simp) _ _ _ h
        · exact ihr (fun w hw => hz w (by simp [hw])) h
    have := this l ih h
    omega)

theorem vld_mono : ∀ (x : Tm) (d d' : Nat), d' ≤ d → vld d x = true → vld d' x = true := Tm.ind (by
  intro k s n l ih d d' hd h
  rw [vld_mk] at h ⊢
  simp only [Bool.and_eq_true, decide_eq_true_eq, List.all_eq_true] at h ⊢
  exact ⟨⟨by omega, h.1.2⟩, fun x hx => ih x hx (d + 1) (d' + 1) (by omega) (h.2 x hx)⟩)

theorem vld_part : ∀ (x : Tm) (d e : Nat) (y : Tm), (e, y) ∈ parts d x → vld d x = true → vld e y = true := Tm.ind (by
  intro k s n l ih d e y h hv
  rw [parts] at h
  rcases List.mem_cons.1 h with h | h
  · simp at h
    obtain ⟨rfl, rfl⟩ := h
    exact hv
  · rw [vld_mk] at hv
    simp only [Bool.and_eq_true, decide_eq_true_eq, List.all_eq_true] at hv
    have : ∀ l : List Tm, (∀ x ∈ l, ∀ (d e : Nat) (y : Tm), (e, y) ∈ parts d x → vld d x = true → vld e y = true) → (∀ x ∈ l, vld (d + 1) x = true) → (e, y) ∈ partss (d + 1) l → vld e y = true := by
      intro l
      induction l with
      | nil => intro _ _ h; simp [partss] at h
      | cons z r ihr =>
        intro hz hv h
        rw [partss, List.mem_append] at h
        rcases h with h | h
        · exact hz z (by simp) _ _ _ h (hv z (by simp))
        · exact ihr (fun w hw => hz w (by simp [hw])) (fun w hw => hv w (by simp [hw])) h
    exact this l ih hv.2 h)

theorem parts_at : ∀ (x : Tm) (d i e : Nat) (y : Tm), (parts d x)[i]? = some (e, y) → i + sz y ≤ sz x := Tm.ind (by
  intro k s n l ih d i e y h
  rw [parts] at h
  rw [sz]
  match i, h with
  | 0, h =>
    simp at h
    obtain ⟨rfl, rfl⟩ := h
    rw [sz]; omega
  | i + 1, h =>
    rw [List.getElem?_cons_succ] at h
    have : ∀ (l : List Tm) (i : Nat), (∀ x ∈ l, ∀ (d i e : Nat) (y : Tm), (parts d x)[i]? = some (e, y) → i + sz y ≤ sz x) → (partss (d + 1) l)[i]? = some (e, y) → i + sz y ≤ szs l := by
      intro l
      induction l with
      | nil => intro i _ h; simp [partss] at h
      | cons z r ihr =>
        intro i hz h
        rw [partss] at h
        rw [szs]
        by_cases hi : i < (parts (d + 1) z).length
        · rw [List.getElem?_append_left hi] at h
          have := hz z (by simp) _ _ _ _ h
          omega
        · rw [List.getElem?_append_right (by omega)] at h
          have hl := parts_len (d + 1) z
          have := ihr _ (fun w hw => hz w (by simp [hw])) h
          omega
    have := this l i ih h
    omega)

/-- The parts by themselves. -/
def ps (x : Tm) : List Tm := (parts 0 x).map (·.2)
theorem ps_len (x : Tm) : (ps x).length = sz x := by rw [ps, List.length_map, parts_len]
theorem ps_zero (x : Tm) (h : 0 < (ps x).length) : (ps x)[0] = x := by
  obtain ⟨k, s, n, l⟩ := x
  simp [ps, parts]
theorem ps_at (x : Tm) (i : Nat) (h : i < (ps x).length) : i + sz (ps x)[i] ≤ sz x ∧ (vld 0 x = true → vld 0 (ps x)[i] = true) := by
  have hi : i < (parts 0 x).length := by simpa [ps] using h
  have he : (ps x)[i] = ((parts 0 x)[i]).2 := by simp [ps]
  rw [he]
  cases hp : (parts 0 x)[i] with
  | mk e y =>
    have h1 : (parts 0 x)[i]? = some (e, y) := by rw [List.getElem?_eq_getElem hi, hp]
    refine ⟨parts_at x 0 i e y h1, fun hv => ?_⟩
    have hm : (e, y) ∈ parts 0 x := List.mem_of_getElem? h1
    exact vld_mono y e 0 (by omega) (vld_part x 0 e y hm hv)
end Tt
end Go.Proofs.YtbaflaailhmfhaaGreatDoor.Te

/- Plain mathematics: terms without keys are packed the same with any secret, and any keys fit them. (Laid with NS=1.) -/

namespace Go.Proofs.YtbaflaailhmfhaaGreatDoor.Cy
open Te Te.Tt
open Wi.Wr (It wr wrs)

theorem parts_snd : ∀ (x : Tm) (d e : Nat), (parts d x).map (·.2) = (parts e x).map (·.2) := Tm.ind (by
  intro k s n l ih d e
  have h : ∀ (q : List Tm), (∀ x ∈ q, ∀ d e : Nat, (parts d x).map (·.2) = (parts e x).map (·.2)) → ∀ d e : Nat, (partss d q).map (·.2) = (partss e q).map (·.2) := by
    intro q
    induction q with
    | nil => intro _ d e; rw [partss, partss]
    | cons x r ihr =>
      intro hq d e
      rw [partss, partss, List.map_append, List.map_append, hq x (by simp) d e, ihr (fun y hy => hq y (by simp [hy])) d e]
  rw [parts, parts, List.map_cons, List.map_cons, h l ih (d + 1) (e + 1)])
theorem partss_mem (d : Nat) : ∀ (l : List Tm) (x : Tm), x ∈ l → ∀ y, y ∈ (parts d x).map (·.2) → y ∈ (partss d l).map (·.2)
  | [], x, h, _, _ => by simp at h
  | z :: r, x, h, y, hy => by
    rw [partss, List.map_append, List.mem_append]
    rcases List.mem_cons.1 h with rfl | h
    · exact .inl hy
    · exact .inr (partss_mem d r x h y hy)
/-- No key is in it. -/
def nok (x : Tm) : Prop := ∀ y ∈ ps x, y.k ≠ 2
theorem nok_kids {k : Int} {s : List UInt8} {n : Int} {l : List Tm} (h : nok (.mk k s n l)) : k ≠ 2 ∧ ∀ x ∈ l, nok x := by
  refine ⟨h (.mk k s n l) (by rw [ps, parts]; simp), fun x hx y hy => h y ?_⟩
  rw [ps, parts_snd x 0 1] at hy
  rw [ps, parts, List.map_cons]
  exact List.mem_cons_of_mem _ (partss_mem 1 l x hx y hy)
theorem mis_fk {k : Int} {n : Int} {l : List Tm} (hk : k = 4 ∨ k = 5) (h : mis (.mk k [] n l) = false) : fk l = 2 := by
  rw [mis] at h
  rcases hk with rfl | rfl
  all_goals
    simp [-Bool.not_eq_true] at h
    exact h.2
theorem fk_two (y0 : Tm) (r : List Tm) (h : fk (y0 :: r) = 2) : y0.k = 2 := by
  obtain ⟨k, s, n, l⟩ := y0
  exact h
/-- What a valid term without keys is: a name, a number, or a list. -/
theorem nok_kinds {d : Nat} {k : Int} {s : List UInt8} {n : Int} {l : List Tm} (hv : vld d (.mk k s n l) = true) (h : nok (.mk k s n l)) : (k = 0 ∨ k = 1 ∨ k = 3) := by
  obtain ⟨hmis, -⟩ := vld_own hv
  obtain ⟨h2, hl⟩ := nok_kids h
  rcases mis_kinds hmis with ⟨rfl, -⟩ | ⟨rfl, -⟩ | ⟨rfl, -⟩ | ⟨rfl, -⟩ | ⟨rfl, rfl, y0, y1, rfl⟩ | ⟨rfl, rfl, y0, y1, rfl⟩
  · exact .inl rfl
  · exact .inr (.inl rfl)
  · exact absurd rfl h2
  · exact .inr (.inr rfl)
  · exact absurd (fk_two _ _ (mis_fk (.inl rfl) hmis)) (hl y0 (by simp) y0 (by obtain ⟨a, b, c, q⟩ := y0; rw [ps, parts]; simp))
  · exact absurd (fk_two _ _ (mis_fk (.inr rfl) hmis)) (hl y0 (by simp) y0 (by obtain ⟨a, b, c, q⟩ := y0; rw [ps, parts]; simp))
theorem nok_pk (a b : List UInt8) : ∀ (x : Tm) (d : Nat), vld d x = true → nok x → pk a x = pk b x := Tm.ind (by
  intro k s n l ih d hv h
  have hk := nok_kinds hv h
  obtain ⟨-, hall⟩ := vld_own hv
  obtain ⟨-, hl⟩ := nok_kids h
  have hps : ∀ q : List Tm, (∀ x ∈ q, pk a x = pk b x) → pks a q = pks b q := by
    intro q
    induction q with
    | nil => intro _; rw [pks, pks]
    | cons x r ihr => intro hq; rw [pks, pks, hq x (by simp), ihr (fun y hy => hq y (by simp [hy]))]
  rcases hk with rfl | rfl | rfl
  · rw [pk, pk]; simp
  · rw [pk, pk]; simp
  · rw [pk, pk, hps l (fun x hx => ih x hx (d + 1) (hall x hx) (hl x hx))]; simp)
theorem nok_cln (c : List UInt8) (ks : List Tm) : ∀ (x : Tm) (d : Nat), vld d x = true → nok x → cln c ks x := Tm.ind (by
  intro k s n l ih d hv h
  have hk := nok_kinds hv h
  obtain ⟨-, hall⟩ := vld_own hv
  obtain ⟨-, hl⟩ := nok_kids h
  have hcs : ∀ (q : List Tm) (t : Bool), (∀ x ∈ q, cln c ks x) → clns c ks t q := by
    intro q
    induction q with
    | nil => intro t _; rw [clns]; trivial
    | cons x r ihr => intro t hq; rw [clns]; exact ⟨fun _ => hq x (by simp), ihr false (fun y hy => hq y (by simp [hy]))⟩
  rw [cln]
  refine ⟨fun e => ?_, fun e => ?_, fun e => ?_, hcs l _ (fun x hx => ih x hx (d + 1) (hall x hx) (hl x hx))⟩
  all_goals
    exfalso
    rcases hk with rfl | rfl | rfl <;> exact absurd e (by decide))
end Go.Proofs.YtbaflaailhmfhaaGreatDoor.Cy

/- The law CarryNames, walked. (Laid with NS=1.) -/

namespace Go.Proofs.YtbaflaailhmfhaaGreatDoor.Cy
open Go.RowKit
open Te Te.Tt
open Wi.Wr (It wr wrs)

theorem inrs_of : ∀ l : List Tm, (∀ x ∈ l, inr x) → inrs l
  | [], _ => by rw [inrs]; trivial
  | x :: r, h => by rw [inrs]; exact ⟨h x (by simp), inrs_of r (fun y hy => h y (by simp [hy]))⟩
theorem reps_mem {w : World} {S : Nat → Prop} : ∀ (l : List Tm) (b o : Nat), Reps w S l b o → ∀ x ∈ l, ∃ v, Rep w S x v
  | [], _, _, _, x, hx => by simp at hx
  | y :: r, b, o, h, x, hx => by
    rw [Reps] at h
    obtain ⟨⟨v0, v1, v2, v3, -, -, -, -, hr⟩, h2⟩ := h
    rcases List.mem_cons.1 hx with rfl | hx
    · exact ⟨_, hr⟩
    · exact reps_mem r b (o + 4) h2 x hx
theorem rep_inr {w : World} {S : Nat → Prop} : ∀ (x : Tm) (v : Value), Rep w S x v → inr x := Tm.ind (by
  intro k s n l ih v h
  obtain ⟨A, ca, -, hn, hrow⟩ := rep_mk.1 h
  rw [inr]
  refine ⟨hn, inrs_of l fun x hx => ?_⟩
  rcases hrow with rfl | ⟨b, o, -, -, hreps⟩
  · simp at hx
  · obtain ⟨v', hr⟩ := reps_mem l b o hreps x hx
    exact ih x hx v' hr)

set_option maxHeartbeats 8000000 in
set_option maxRecDepth 100000 in
theorem carryNames_walk (x : Tm) (v : Value) (a b : List UInt8) (V : World) (hk : bk x ≤ 1048576) (hr : Rep V (Lo V) x v) (HT : Tabs V) (htab : TabB V.heap.size V) :
    Calls Tryz.prog 6 #[v, .string ⟨⟨a⟩⟩, .string ⟨⟨b⟩⟩] V fun e w' => e = .returned (.bool true) ∧ Below V.heap.size V w' := by
  have hsz := sz_le_bk x
  have HTT : Hid (∀ W, Below V.heap.size V W → Tabs W ∧ TabB W.heap.size W) := fun W h => ⟨Tabs.below HT h, htab.up h⟩
  have HREP : Hid (∀ W, Below V.heap.size V W → Rep W (Lo V) x v) := fun W h => rep_below hr h (fun _ h => h)
  have HF := fun W (h : Below V.heap.size V W) => few_nil x (Lo V) v W (by omega) (HREP.out W h) (fun b hb => Nat.lt_of_lt_of_le hb h.size)
  obtain ⟨N, hN⟩ : ∃ N, N = sz x := ⟨_, rfl⟩
  have HN := Lib.hid hN
  obtain ⟨B1, hB1⟩ : ∃ B1, B1 = decide (40 < sz x) := ⟨_, rfl⟩
  have HB1Q := Lib.hid hB1
  rw [← hB1] at HF
  have HFF := Lib.hid HF
  have HBK := Lib.hid hk
  have HPA : Hid (sz x ≤ 40 → ∀ W, Below V.heap.size V W → Calls Tryz.prog 22 #[v] W fun e w' => ∃ A ca, e = .returned (.slice A (sz x) ca) ∧ TRow w' (fun b => Lo V b ∨ W.heap.size ≤ b ∧ b < w'.heap.size) (ps x) A ∧ Below W.heap.size W w') := fun h W hb => Parts_any x (Lo V) v W (by omega) (HREP.out W hb) (fun b hq => Nat.lt_of_lt_of_le hq hb.size)
  have HVA : Hid (sz x ≤ 40 → ∀ W, Below V.heap.size V W → Calls Tryz.prog 19 #[v] W fun e w' => e = .returned (.bool (vld 0 x)) ∧ Below W.heap.size W w') := fun h W hb => Valid_any x (Lo V) v W (by omega) (HREP.out W hb) (fun b hq => Nat.lt_of_lt_of_le hq hb.size)
  have HPK : Hid (∀ c : List UInt8, c.length ≤ 100 → vld 0 x = true → sz x ≤ 40 → ∀ W, Below V.heap.size V W → Calls Tryz.prog 12 #[v, .string ⟨⟨c⟩⟩] W fun e w' => e = .returned (.tuple #[.string ⟨⟨wr (pk c x)⟩⟩, .int .i64 0]) ∧ Below W.heap.size W w') := fun c hc hv h W hb => Pack_ok c (by omega) x (Lo V) v W hv (by omega) (HTT.out W hb).1 (HTT.out W hb).2 (HREP.out W hb) (fun b hq => Nat.lt_of_lt_of_le hq hb.size)
  obtain ⟨vl, hvl⟩ : ∃ vl, vl = vld 0 x := ⟨_, rfl⟩
  have HVL := Lib.hid hvl
  rw [← hvl] at HVA
  have hrv := hr
  have HINR := Lib.hid (rep_inr x v hr)
  clear hN hB1 HF hk hvl hr HT htab hsz
  obtain ⟨k, s, n, l⟩ := x
  obtain ⟨A, ca, rfl, hin, -⟩ := rep_mk.1 hrv
  have HIN : Hid (InR n) := hin
  have hb0 : Below V.heap.size V (V.alloc (.cells #[.int .i64 k, .string ⟨⟨s⟩⟩, .int .i64 n, .slice A l.length ca] 25)) := (Below.refl _ _).alloc (Nat.le_refl _) _
  have HB0 := Lib.hid hb0
  clear hb0 hrv hin
  go_enter Tryz.func6, Tryz.ntmps6
  go_wp2_with fail
  refine (worksC_any _ (HTT.out _ HB0.out).1 (HTT.out _ HB0.out).2).mono ?_
  rintro _ w1 ⟨rfl, b1⟩
  have HG0 := Lib.hid (heap_alloc_new V (.cells #[.int .i64 k, .string ⟨⟨s⟩⟩, .int .i64 n, .slice A l.length ca] 25))
  have HS0 := Lib.hid (show (V.alloc (.cells #[.int .i64 k, .string ⟨⟨s⟩⟩, .int .i64 n, .slice A l.length ca] 25)).heap.size = V.heap.size + 1 by simp)
  have hg1 := (b1.block V.heap.size (by have := HS0.out; omega)).trans HG0.out
  have HB1 := Lib.hid (HB0.out.trans (b1.mono (by have := HS0.out; omega)))
  have HG1 := Lib.hid hg1
  have HLT1 := Lib.hid (show V.heap.size < w1.heap.size by have := HS0.out; have := b1.size; omega)
  have HCE : Hid (∀ W, Below w1.heap.size w1 W → W.cell? ⟨V.heap.size, 0, none⟩ = some (.int .i64 k) ∧ W.cell? ⟨V.heap.size, 1, none⟩ = some (.string ⟨⟨s⟩⟩) ∧ W.cell? ⟨V.heap.size, 2, none⟩ = some (.int .i64 n) ∧ W.cell? ⟨V.heap.size, 3, none⟩ = some (.slice A l.length ca)) := fun W h => cell4 ((h.block V.heap.size HLT1.out).trans HG1.out)
  obtain ⟨c0, c1, c2, c3⟩ := HCE.out w1 (Below.refl _ _)
  clear b1 hg1 HB0 HG0 HS0 HG1
  go_wp2_with fail
  refine (HFF.out w1 HB1.out).mono ?_
  rintro _ w2 ⟨rfl, b2⟩
  have HB2 := Lib.hid (HB1.out.trans (b2.mono HB1.out.size))
  have HB12 := Lib.hid b2
  clear b2 HFF c0 c1 c2 c3
  obtain ⟨c0, c1, c2, c3⟩ := HCE.out w2 HB12.out
  cases B1
  case true =>
    go_wp2
    go_ret
    exact ⟨rfl, HB2.out⟩
  case false =>
    have hN40 : sz (.mk k s n l) ≤ 40 := by have := HB1Q.out; simpa using this
    have HN40 := Lib.hid hN40
    clear hN40 HB1Q
    by_cases ha : ((a.length : Nat) : Int) > 100
    · have e1 : decide (((a.length : Nat) : Int) > 100) = true := decide_eq_true ha
      go_wp2
      go_ret
      exact ⟨rfl, HB2.out⟩
    by_cases hb : ((b.length : Nat) : Int) > 100
    · have e1 : decide (((b.length : Nat) : Int) > 100) = true := decide_eq_true hb
      have e2 : decide (((a.length : Nat) : Int) > 100) = false := decide_eq_false ha
      have e2' : ¬ (100 : Int) < ((a.length : Nat) : Int) := ha
      go_wp2
      go_ret
      exact ⟨rfl, HB2.out⟩
    have e1 : decide (((a.length : Nat) : Int) > 100) = false := decide_eq_false ha
    have e1' : ¬ (100 : Int) < ((a.length : Nat) : Int) := ha
    have e2 : decide (((b.length : Nat) : Int) > 100) = false := decide_eq_false hb
    have e2' : ¬ (100 : Int) < ((b.length : Nat) : Int) := hb
    have HAL := Lib.hid (show a.length ≤ 100 by omega)
    have HBL := Lib.hid (show b.length ≤ 100 by omega)
    clear ha hb
    go_wp2_with fail
    refine (HVA.out HN40.out w2 HB2.out).mono ?_
    rintro _ w3 ⟨rfl, b3⟩
    have HB3 := Lib.hid (HB2.out.trans (b3.mono HB2.out.size))
    have HB13 := Lib.hid (HB12.out.trans (b3.mono HB12.out.size))
    clear b3 HB12 HB2 c0 c1 c2 c3
    obtain ⟨c0, c1, c2, c3⟩ := HCE.out w3 HB13.out
    cases vl
    case false =>
      go_wp2
      go_ret
      exact ⟨rfl, HB3.out⟩
    case true =>
      clear e1 e2 e1' e2'
      go_wp2_with fail
      refine (HPA.out HN40.out w3 HB3.out).mono ?_
      rintro _ w4 ⟨PA, pc, rfl, hrow4, b4⟩
      have HB4 := Lib.hid (HB3.out.trans (b4.mono HB3.out.size))
      have HB14 := Lib.hid (HB13.out.trans (b4.mono HB13.out.size))
      have HR4 := Lib.hid (trow_keep (S' := Lo w4) (fun b hb => by rcases hb with h | h; exact Nat.lt_of_lt_of_le h HB4.out.size; exact h.2) (fun _ _ _ => rfl) hrow4)
      have HPLN := Lib.hid (ps_len (.mk k s n l))
      obtain ⟨P, hP⟩ : ∃ P, P = ps (.mk k s n l) := ⟨_, rfl⟩
      rw [← hP] at HR4 HPLN
      have HPQ := Lib.hid hP
      obtain ⟨M, hM⟩ : ∃ M, M = sz (.mk k s n l) := ⟨_, rfl⟩
      rw [← hM] at HPLN HN40 HPK
      clear hrow4 b4 hP HB13 HB3 c0 c1 c2 c3
      obtain ⟨c0, c1, c2, c3⟩ := HCE.out w4 HB14.out
      rw [← hM]
      clear hM
      go_wp2_with fail
      go_loopw [10] (fun iv wr => ∃ i : Nat, i ≤ M ∧ iv = .int .i64 (i : Nat) ∧ Hid (Below V.heap.size V wr) ∧ Hid (Below w1.heap.size w1 wr) ∧ Hid (Below w4.heap.size w4 wr) ∧ Hid (∀ j (h : j < P.length), j < i → P[j].k ≠ 2)) (fun iv _ => M - (intOf iv).toNat)
      case atStart => exact ⟨0, by omega, rfl, HB4, HB14, Lib.hid (Below.refl _ _), Lib.hid (fun j _ h => by omega)⟩
      case round =>
        obtain ⟨i, hi, rfl, HB, HB1r, HB4r, HNK⟩ := hrel
        have hM40 : M ≤ 40 := HN40.out
        by_cases hlt : i < M
        · have hltP : i < P.length := by have := HPLN.out; omega
          have hil : (i : Int) < (M : Int) := by omega
          obtain ⟨b', ob', k', s', m', q', B', cb', hA, hSb, hx, d0, d1, d2, d3, hrep⟩ := trow_get HR4.out HB4r.out (fun _ h => h) hltP
          subst hA
          by_cases hk2 : k' = 2
          · subst hk2
            clear hx hrep
            go_wp2
            go_ret
            exact ⟨rfl, HB.out⟩
          · have e5 : (k' == 2) = false := by simpa using hk2
            have HNK' : Hid (∀ j (h : j < P.length), j < i + 1 → P[j].k ≠ 2) := fun j h hj => by
              by_cases hji : j = i
              · subst hji; rw [hx]; exact hk2
              · exact HNK.out j h (by omega)
            clear hx hrep hSb
            go_wp2
            go_roundw
            case rel => exact ⟨i + 1, by omega, by go_num, HB, HB1r, HB4r, HNK'⟩
            case measure => simp [intOf]; omega
        · have hil : ¬ (i : Int) < (M : Int) := by omega
          have hnok : nok (.mk k s n l) := by
            intro y hy
            rw [← HPQ.out] at hy
            obtain ⟨j, hj, rfl⟩ := List.mem_iff_getElem.1 hy
            exact HNK.out j hj (by have := HPLN.out; omega)
          have hvx : vld 0 (.mk k s n l) = true := HVL.out.symm
          have HPA1 := Lib.hid (HPK.out a HAL.out hvx HN40.out)
          have HPB1 := Lib.hid (HPK.out b HBL.out hvx HN40.out)
          have hsz40 : sz (.mk k s n l) ≤ 40 := by have := HN40.out; have := HPLN.out; have := ps_len (.mk k s n l); rw [← HPQ.out] at this; omega
          have hup := upk_pk b [] (.mk k s n l) hvx HINR.out (nok_cln b _ _ 0 hvx hnok) (by omega)
          obtain ⟨pm, -, hpm2, hpm3, -⟩ := pk_puts b (.mk k s n l) 0 hvx (by omega)
          rw [nok_pk a b _ 0 hvx hnok] at HPA1
          obtain ⟨Y, hY⟩ : ∃ Y, Y = Wi.Wr.wr (pk b (.mk k s n l)) := ⟨_, rfl⟩
          rw [← hY] at hup HPA1 HPB1
          have HYL := Lib.hid (show Y.length ≤ 9000 by rw [hY]; omega)
          have HUP := Lib.hid hup
          have HSZ := Lib.hid hsz40
          clear c0 c1 c2 c3 hY hpm2 hpm3 hup hvx hnok hsz40 hlt hi
          obtain ⟨c0, c1, c2, c3⟩ := HCE.out wr HB1r.out
          go_wp2_with fail
          refine (HPA1.out _ HB.out).mono ?_
          rintro _ w5 ⟨rfl, b5⟩
          have HB5 := Lib.hid (HB.out.trans (b5.mono HB.out.size))
          have HB15 := Lib.hid (HB1r.out.trans (b5.mono HB1r.out.size))
          clear b5 c0 c1 c2 c3 HB HB1r HB4r HPA1
          obtain ⟨c0, c1, c2, c3⟩ := HCE.out w5 HB15.out
          go_wp2_with fail
          refine (HPB1.out _ HB5.out).mono ?_
          rintro _ w6 ⟨rfl, b6⟩
          have HB6 := Lib.hid (HB5.out.trans (b6.mono HB5.out.size))
          have HB16 := Lib.hid (HB15.out.trans (b6.mono HB15.out.size))
          clear b6 c0 c1 c2 c3 HB5 HB15 HPB1
          have hun := Unpack_any Y b [] none 0 (fun _ => False) w6 HYL.out (by have := HBL.out; omega) (by simp) (fun k hk => by simp at hk) (HTT.out _ HB6.out).1 (HTT.out _ HB6.out).2 (.inl rfl) (fun b hb => hb.elim)
          rw [HUP.out] at hun
          have HUN := Lib.hid hun
          clear hun HUP
          go_wp2_with fail
          refine HUN.out.mono ?_
          rintro e w7 ⟨⟨v0, v1, v2, v3, he, hrx⟩, b7⟩
          subst he
          obtain ⟨TA, tc, hv, -, -⟩ := rep_mk.1 hrx
          injection hv with hv
          simp at hv
          obtain ⟨rfl, rfl, rfl, rfl⟩ := hv
          have hbw : Below w7.heap.size w7 (w7.alloc (.cells #[.int .i64 k, .string ⟨⟨s⟩⟩, .int .i64 n, .slice TA l.length tc] 25)) := (Below.refl _ _).alloc (Nat.le_refl _) _
          have hn8 := heap_alloc_new w7 (.cells #[.int .i64 k, .string ⟨⟨s⟩⟩, .int .i64 n, .slice TA l.length tc] 25)
          have hs8 : (w7.alloc (.cells #[.int .i64 k, .string ⟨⟨s⟩⟩, .int .i64 n, .slice TA l.length tc] 25)).heap.size = w7.heap.size + 1 := by simp
          have HB8 := Lib.hid (HB6.out.trans ((b7.mono HB6.out.size).trans (hbw.mono (Nat.le_trans HB6.out.size b7.size))))
          have HB18 := Lib.hid (HB16.out.trans ((b7.mono HB16.out.size).trans (hbw.mono (Nat.le_trans HB16.out.size b7.size))))
          have hv8 : Below V.heap.size V w7 := HB6.out.trans (b7.mono HB6.out.size)
          have hr8 := rep_keep (S' := fun b => b < w7.heap.size) (fun b (hb : b < V.heap.size) => by have := hv8.size; omega) (fun _ _ _ => rfl) _ _ (HREP.out _ HB8.out)
          have hx8 := rep_keep (S' := fun b => b < w7.heap.size) (fun b hb => hb.2) (fun b o hb => hbw.cell (p := ⟨b, o, none⟩) hb.2) _ _ hrx
          have hsame := Te.Same_any (.mk k s n l) (.mk k s n l) (fun b => b < w7.heap.size) _ _ _ (by have := HSZ.out; omega) hx8 hr8 (fun b hb => by omega)
          rw [ord_refl] at hsame
          have HSAME := Lib.hid hsame
          obtain ⟨c0, c1, c2, c3⟩ := HCE.out _ HB18.out
          obtain ⟨z0, z1, z2, z3⟩ := cell4 hn8
          clear hbw hn8 hs8 hv8 hr8 hx8 hrx b7 HB6 HB16 HUN hsame
          go_wp2_with fail
          refine HSAME.out.mono ?_
          rintro _ w9 ⟨rfl, b9⟩
          have HB9 := Lib.hid (HB8.out.trans (b9.mono HB8.out.size))
          clear b9 HB8 HB18 HSAME c0 c1 c2 c3 z0 z1 z2 z3
          simp only [decide_true]
          go_wp2
          go_ret
          exact ⟨rfl, HB9.out⟩
end Go.Proofs.YtbaflaailhmfhaaGreatDoor.Cy

