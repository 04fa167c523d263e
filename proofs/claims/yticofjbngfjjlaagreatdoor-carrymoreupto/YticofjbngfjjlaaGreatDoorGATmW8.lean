/- Order, Same: the whole. -/
import Derived.Test.YticofjbngfjjlaaGreatDoorGATmW7
import Derived.Test.YticofjbngfjjlaaGreatDoorGATmW3
import Derived.Test.YticofjbngfjjlaaGreatDoorGATmW11
import Derived.Test.YticofjbngfjjlaaGreatDoorGATmW2
import Derived.Test.YticofjbngfjjlaaGreatDoorGATmQ
import Derived.Lib.QuietBelow
import Derived.Test.YticofjbngfjjlaaGreatDoorGAAePureC
import Derived.Test.YticofjbngfjjlaaGreatDoorGAHmW3
import Derived.Test.YticofjbngfjjlaaGreatDoorRows
import Derived.WalkKit
import Derived.Below
import Derived.Maps.AppendAt
namespace Go.Proofs.YticofjbngfjjlaaGreatDoor.Te
open Go.RowKit
open Tt

set_option maxHeartbeats 1000000 in
set_option maxRecDepth 100000 in
theorem order_any : ∀ x, OrderSaid x := Tm.ind (by
  intro k s n l ih y d di S vx vy w hdd hsz hx hy hS
  obtain ⟨k', s', n', l'⟩ := y
  have hsz0 := hsz
  rw [sz] at hsz
  obtain ⟨A, ca, rfl, -, hrow⟩ := rep_mk.1 hx
  obtain ⟨A', ca', rfl, -, hrow'⟩ := rep_mk.1 hy
  obtain ⟨z, hz⟩ : ∃ z, z = w.heap.size := ⟨_, rfl⟩
  obtain ⟨W2, hW2⟩ : ∃ W2, W2 = ((w.alloc (.cells #[.int .i64 k, .string ⟨⟨s⟩⟩, .int .i64 n, .slice A l.length ca] 25)).alloc (.cells #[.int .i64 k', .string ⟨⟨s'⟩⟩, .int .i64 n', .slice A' l'.length ca'] 25)) := ⟨_, rfl⟩
  have hB2 : Below w.heap.size w W2 := by rw [hW2]; exact ((Below.refl _ _).alloc (Nat.le_refl _) _).alloc (by simp) _
  have hs2 : W2.heap.size = z + 2 := by rw [hW2, hz]; simp
  have hg0 : W2.heap[z]? = some (.cells #[.int .i64 k, .string ⟨⟨s⟩⟩, .int .i64 n, .slice A l.length ca] 25 (0, 0)) := by
    rw [hW2, hz, heap_alloc_old _ _ (by simp)]; exact heap_alloc_new w _
  have hg1 : W2.heap[z + 1]? = some (.cells #[.int .i64 k', .string ⟨⟨s'⟩⟩, .int .i64 n', .slice A' l'.length ca'] 25 (0, 0)) := by
    rw [hW2, hz]
    have := heap_alloc_new (w.alloc (.cells #[.int .i64 k, .string ⟨⟨s⟩⟩, .int .i64 n, .slice A l.length ca] 25)) (.cells #[.int .i64 k', .string ⟨⟨s'⟩⟩, .int .i64 n', .slice A' l'.length ca'] 25)
    rwa [World.size_alloc] at this
  have hH := heads_any k k' s s' n n' A A' l.length ca l'.length ca' W2
  obtain ⟨R, hR⟩ : ∃ R, R = ord (.mk k s n l) (.mk k' s' n' l') := ⟨_, rfl⟩
  rw [← hR]
  rw [ord] at hR
  have hdi : di ≤ 262144 := by omega
  have hdi0 : 0 ≤ di := by omega
  have HC : Hid (∀ W, Below w.heap.size w W → Calls Tryz.prog 120 #[.slice A l.length ca, .slice A' l'.length ca', .func (.func 89) #[.int .i64 (di + 1)] #[]] W fun e w' => e = .returned (.int .i64 (ords l l')) ∧ Below W.heap.size W w') := fun W hW =>
    cmpf_any l l' ih (d + 1) (di + 1) S A A' ca ca' W (by omega) (by omega) (trow_below hrow hW hS) (trow_below hrow' hW hS) (fun b hb => Nat.lt_of_lt_of_le (hS b hb) hW.size)
  have HB2 := Lib.hid hB2
  have HS2 := Lib.hid hs2
  have HW2 := Lib.hid hW2
  have HG0 := Lib.hid hg0
  have HG1 := Lib.hid hg1
  have HZ := Lib.hid hz
  obtain ⟨c0, c1, c2, c3⟩ := cell4 hg0
  obtain ⟨d0, d1, d2, d3⟩ := cell4 hg1
  by_cases hh : hd k s n k' s' n' cs = 0
  · rw [if_neg (by simpa using hh)] at hR
    rw [hh] at hH
    have HH := Lib.hid hH
    rw [← hR] at HC
    clear hH hh hR hx hy hS hrow hrow' ih hB2 hs2 hW2 hg0 hg1 hz hdd hsz hsz0 c0 c1 c2 c3 d0 d1 d2 d3
    go_enter Tryz.func89, Tryz.ntmps89
    go_wp2_with fail
    rw [← HW2.out, ← HZ.out]
    refine HH.out.mono ?_
    rintro _ w1 ⟨rfl, hb1⟩
    have HB1 : Hid (Below w.heap.size w w1) := HB2.out.trans (hb1.mono HB2.out.size)
    obtain ⟨-, -, -, c3⟩ := cell4 ((hb1.block z (by rw [HS2.out]; omega)).trans HG0.out)
    obtain ⟨-, -, -, d3⟩ := cell4 ((hb1.block (z + 1) (by rw [HS2.out]; omega)).trans HG1.out)
    have HC1 := Lib.hid (HC.out w1 HB1.out)
    clear hb1 HH HC
    go_wp2_with fail
    refine HC1.out.mono ?_
    rintro _ w2 ⟨rfl, hb2⟩
    have HB3 : Hid (Below w.heap.size w w2) := HB1.out.trans (hb2.mono HB1.out.size)
    clear hb2 HC1
    go_wp2
    go_ret
    exact ⟨rfl, HB3.out⟩
  · rw [if_pos hh] at hR
    rw [← hR] at hH hh
    have HH := Lib.hid hH
    clear hH hR hx hy hS hrow hrow' ih hB2 hs2 hW2 hg0 hg1 hz hdd hsz hsz0 c0 c1 c2 c3 d0 d1 d2 d3 HC
    go_enter Tryz.func89, Tryz.ntmps89
    go_wp2_with fail
    rw [← HW2.out, ← HZ.out]
    refine HH.out.mono ?_
    rintro _ w1 ⟨rfl, hb1⟩
    have HB1 : Hid (Below w.heap.size w w1) := HB2.out.trans (hb1.mono HB2.out.size)
    clear hb1 HH
    go_wp2
    go_ret
    exact ⟨rfl, HB1.out⟩)

set_option maxHeartbeats 400000 in
set_option maxRecDepth 100000 in
theorem Order_any (x y : Tm) (S : Nat → Prop) (vx vy : Value) (w : World) (hsz : sz x ≤ 262144) (hx : Rep w S x vx) (hy : Rep w S y vy) (hS : ∀ b, S b → b < w.heap.size) :
    Calls Tryz.prog 51 #[vx, vy] w fun e w' => e = .returned (.int .i64 (ord x y)) ∧ Below w.heap.size w w' := by
  have ho := order_any x y 0 0 S vx vy
  obtain ⟨R, hR⟩ : ∃ R, R = ord x y := ⟨_, rfl⟩
  rw [← hR] at ho ⊢
  clear hR
  obtain ⟨k, s, n, l⟩ := x
  obtain ⟨k', s', n', l'⟩ := y
  have hx0 := hx
  have hy0 := hy
  obtain ⟨A, ca, rfl, -, -⟩ := rep_mk.1 hx
  obtain ⟨A', ca', rfl, -, -⟩ := rep_mk.1 hy
  obtain ⟨W2, hW2⟩ : ∃ W2, W2 = ((w.alloc (.cells #[.int .i64 k, .string ⟨⟨s⟩⟩, .int .i64 n, .slice A l.length ca] 25)).alloc (.cells #[.int .i64 k', .string ⟨⟨s'⟩⟩, .int .i64 n', .slice A' l'.length ca'] 25)) := ⟨_, rfl⟩
  have hB2 : Below w.heap.size w W2 := by rw [hW2]; exact ((Below.refl _ _).alloc (Nat.le_refl _) _).alloc (by simp) _
  have HO := Lib.hid (ho W2 rfl (by omega) (rep_below hx0 hB2 hS) (rep_below hy0 hB2 hS) (fun b hb => Nat.lt_of_lt_of_le (hS b hb) hB2.size))
  have HB2 := Lib.hid hB2
  have HW2 := Lib.hid hW2
  clear ho hx hy hx0 hy0 hS hB2 hW2 hsz
  go_enter Tryz.func51, Tryz.ntmps51
  go_wp2_with fail
  rw [← HW2.out]
  refine HO.out.mono ?_
  rintro _ w1 ⟨rfl, hb1⟩
  have HB1 : Hid (Below w.heap.size w w1) := HB2.out.trans (hb1.mono HB2.out.size)
  clear hb1 HO
  go_wp2
  go_ret
  exact ⟨rfl, HB1.out⟩

set_option maxHeartbeats 400000 in
set_option maxRecDepth 100000 in
theorem Same_any (x y : Tm) (S : Nat → Prop) (vx vy : Value) (w : World) (hsz : sz x ≤ 262144) (hx : Rep w S x vx) (hy : Rep w S y vy) (hS : ∀ b, S b → b < w.heap.size) :
    Calls Tryz.prog 21 #[vx, vy] w fun e w' => e = .returned (.bool (decide (ord x y = 0))) ∧ Below w.heap.size w w' := by
  have ho := Order_any x y S vx vy
  obtain ⟨R, hR⟩ : ∃ R, R = ord x y := ⟨_, rfl⟩
  rw [← hR] at ho ⊢
  clear hR
  have hsz0 := hsz
  obtain ⟨k, s, n, l⟩ := x
  obtain ⟨k', s', n', l'⟩ := y
  have hx0 := hx
  have hy0 := hy
  obtain ⟨A, ca, rfl, -, -⟩ := rep_mk.1 hx
  obtain ⟨A', ca', rfl, -, -⟩ := rep_mk.1 hy
  obtain ⟨W2, hW2⟩ : ∃ W2, W2 = ((w.alloc (.cells #[.int .i64 k, .string ⟨⟨s⟩⟩, .int .i64 n, .slice A l.length ca] 25)).alloc (.cells #[.int .i64 k', .string ⟨⟨s'⟩⟩, .int .i64 n', .slice A' l'.length ca'] 25)) := ⟨_, rfl⟩
  have hB2 : Below w.heap.size w W2 := by rw [hW2]; exact ((Below.refl _ _).alloc (Nat.le_refl _) _).alloc (by simp) _
  have HO := Lib.hid (ho W2 hsz0 (rep_below hx0 hB2 hS) (rep_below hy0 hB2 hS) (fun b hb => Nat.lt_of_lt_of_le (hS b hb) hB2.size))
  have HB2 := Lib.hid hB2
  have HW2 := Lib.hid hW2
  clear ho hx hy hx0 hy0 hS hB2 hW2 hsz
  go_enter Tryz.func21, Tryz.ntmps21
  go_wp2_with fail
  rw [← HW2.out]
  refine HO.out.mono ?_
  rintro _ w1 ⟨rfl, hb1⟩
  have HB1 : Hid (Below w.heap.size w w1) := HB2.out.trans (hb1.mono HB2.out.size)
  clear hb1 HO
  go_wp2
  go_ret
  refine ⟨?_, HB1.out⟩
  by_cases h : R = 0 <;> simp [h]
end Go.Proofs.YticofjbngfjjlaaGreatDoor.Te

/- Names. -/

namespace Go.Proofs.YticofjbngfjjlaaGreatDoor.Te
open Go.RowKit
open Tt

theorem infoS : (Tryz.prog.info? 9).map (fun i => (i.zero, i.size, i.bytes)) = some (some (.string ⟨#[]⟩), 1, 16) := by kernel_rfl
theorem makeS_any (n : Nat) (h : n ≤ 1000000) (W : World) : ∃ cur : Array Value, cur.size = n ∧ (Instr.makeSlice 101 (.int .i64 (n : Int)) (.int .i64 (n : Int))).run Tryz.prog W = .ok (.slice (some ⟨W.heap.size, 0, none⟩) n n) (W.alloc (.cells cur 9)) := by
  obtain ⟨i, hi, he⟩ := Option.map_eq_some_iff.1 infoS
  simp only [Prod.mk.injEq] at he
  obtain ⟨hz, hs, hb⟩ := he
  have hr := run_make (P := Tryz.prog) W 101 9 i _ Tryz.underlying101 hi hz .i64 .i64 n n (by omega) (by omega) (by rw [hb]; omega) (by omega)
  rw [hr, hs, Int.toNat_natCast, Nat.mul_one]
  exact ⟨_, size_madeCells _ _, rfl⟩

/-- A row of texts that was made just now, without room. -/
def NewStrs (n : Nat) (w' : World) (l : List (List UInt8)) (v : Value) : Prop :=
  ∃ g, v = .slice (some ⟨g, 0, none⟩) l.length l.length ∧ n ≤ g ∧ w'.heap[g]? = some (.cells (l.map fun s => Value.string ⟨⟨s⟩⟩).toArray 9 (0, 0))

end Go.Proofs.YticofjbngfjjlaaGreatDoor.Te

/- works. -/

namespace Go.Proofs.YticofjbngfjjlaaGreatDoor.Te
open Go.RowKit
open Tt

theorem TabB.up {w W : World} (h : TabB w.heap.size w) (hb : Below w.heap.size w W) : TabB W.heap.size W := fun w' h' => h w' (hb.trans (h'.mono hb.size))
theorem rep_flat (w : World) (S : Nat → Prop) (k : Int) (s : List UInt8) (n : Int) (hn : InR n) : Rep w S (.mk k s n []) (.agg #[.int .i64 k, .string ⟨⟨s⟩⟩, .int .i64 n, .slice none 0 0]) :=
  rep_mk.2 ⟨none, 0, rfl, hn, .inl rfl⟩

theorem NewRow.form {S : Nat → Prop} {m : Nat} {w' : World} {l : List Tm} {u : Value} (h : NewRow S m w' l u) (hS : ∀ b, S b → b < w'.heap.size) : ∃ g, u = .slice (some ⟨g, 0, none⟩) l.length l.length ∧ TRow w' (Lo w') l (some ⟨g, 0, none⟩) := by
  have hr := h.rep hS 0 [] 0 ⟨by omega, by omega⟩
  obtain ⟨g, xs, rfl, -, -, -⟩ := h
  obtain ⟨A, ca, hv, -, hrow⟩ := rep_mk.1 hr
  injection hv with hv
  simp at hv
  refine ⟨g, rfl, ?_⟩
  rw [hv.1]; exact hrow

/-- The document's example. -/
def exT : Tm := .mk 4 [] 2 [.mk 2 [97, 110, 110] 1 [], .mk 3 [] 0 [.mk 0 [120] 0 [], .mk 1 [] (-3) []]]
def exU : Tm := .mk 5 [] 3 [.mk 2 [] 2 [], .mk 1 [] 0 []]
theorem exT_text : text exT = [115, 101, 97, 108, 40, 107, 101, 121, 40, 97, 110, 110, 32, 49, 41, 32, 50, 32, 91, 120, 32, 45, 51, 93, 41] := by decide +kernel
theorem exU_text : text exU = [115, 117, 109, 40, 107, 101, 121, 40, 32, 50, 41, 32, 51, 32, 48, 41] := by decide +kernel
theorem exT_vld : vld 0 exT = true := by decide +kernel
theorem exT_sz : sz exT = 5 := by decide +kernel
theorem exT_ord : ord exT exT = 0 := by decide +kernel
theorem ex_ord : ord (.mk 1 [] 1 []) (.mk 1 [] 2 []) = -1 := by decide +kernel
theorem ex_name : isName [97, 45, 49] = true := by decide +kernel

end Go.Proofs.YticofjbngfjjlaaGreatDoor.Te

/- TermOnce. -/

namespace Go.Proofs.YticofjbngfjjlaaGreatDoor.Te
open Go.RowKit
open Tt

/-- A text is no longer than so. -/
theorem jn_sum : ∀ (l : List Tm), (∀ x ∈ l, (text x).length + 1 ≤ 41 * bk x) → (jn (texts l)).length ≤ 41 * bks l
  | [], _ => by simp [texts, jn]
  | x :: r, h => by
    have h1 := h x (by simp)
    have hp : ∀ (r : List Tm), (∀ x ∈ r, (text x).length + 1 ≤ 41 * bk x) → (pj (texts r)).length ≤ 41 * bks r := by
      intro r
      induction r with
      | nil => intro _; simp [texts, pj]
      | cons y q ih =>
        intro hy
        have e1 := hy y (by simp)
        have e2 := ih (fun z hz => hy z (by simp [hz]))
        rw [texts, bks]
        simp [pj] at e2 ⊢
        omega
    have h2 := hp r (fun z hz => h z (by simp [hz]))
    rw [texts, jn_pj, bks, List.length_append]
    omega
theorem tx_len (w : World) (S : Nat → Prop) : ∀ x v, Rep w S x v → (text x).length + 1 ≤ 41 * bk x := Tm.ind (by
  intro k s n l ih v hr
  obtain ⟨A, ca, -, hn, hrow⟩ := rep_mk.1 hr
  have hit := itoa_len n hn
  have hl : ∀ x ∈ l, (text x).length + 1 ≤ 41 * bk x := by
    intro x hx
    obtain ⟨i, hi, rfl⟩ := List.getElem_of_mem hx
    rcases hrow with h | ⟨b, o, -, -, hreps⟩
    · rw [h] at hi; simp at hi
    · obtain ⟨v0, v1, v2, v3, -, -, -, -, hrep⟩ := reps_at l b o i _ hreps (List.getElem?_eq_getElem hi)
      exact ih _ (List.getElem_mem hi) _ hrep
  have hj := jn_sum l hl
  have hk : ∀ h : List UInt8, h.length ≤ 5 → (ky h n (texts l)).length + 1 ≤ 41 * (1 + s.length + bks l) := by
    intro h h5
    by_cases h2 : l.length = 2
    · obtain ⟨x, y, rfl, e⟩ := ky_two h n l h2
      rw [e]
      have e1 := hl x (by simp)
      have e2 := hl y (by simp)
      simp [bks]
      omega
    · rw [ky_not h n l h2]
      simp; omega
  rw [text, bk, tx]
  split
  · omega
  · split
    · omega
    · split
      · simp; omega
      · split
        · simp; omega
        · split
          · exact hk _ (by simp)
          · split
            · exact hk _ (by simp)
            · simp; omega)

end Go.Proofs.YticofjbngfjjlaaGreatDoor.Te

/- carry: Bytes, nonce, leaf, node. (Laid with NS=1.) -/

namespace Go.Proofs.YticofjbngfjjlaaGreatDoor.Cy
open Go.RowKit
open Te Te.Tt

set_option maxHeartbeats 400000 in
set_option maxRecDepth 100000 in
theorem Bytes_any (k : Int) (s : List UInt8) (n : Int) (A : Option Addr) (m ca : Nat) (c : List UInt8) (w : World) (HT : Tabs w) (hs : s.length ≤ 5000) (hc : c.length ≤ 10000) :
    Calls Tryz.prog 14 #[.agg #[.int .i64 k, .string ⟨⟨s⟩⟩, .int .i64 n, .slice A m ca], .string ⟨⟨c⟩⟩] w fun e w' => e = .returned (.string ⟨⟨kb c s n⟩⟩) ∧ Below w.heap.size w w' := by
  have hb1 : Below w.heap.size w (w.alloc (.cells #[.int .i64 k, .string ⟨⟨s⟩⟩, .int .i64 n, .slice A m ca] 25)) := (Below.refl _ _).alloc (Nat.le_refl _) _
  have HB1 := Lib.hid hb1
  by_cases h0 : s = []
  · subst h0
    have HC := Lib.hid (dSession_any c n _ (Tabs.below HT hb1) hc)
    have HE : Hid (kb c [] n = Hm.mac c (De.txt [115, 101, 115, 115, 105, 111, 110] n)) := by rw [Hid, kb, if_pos rfl]
    rw [HE.out]
    clear hb1 HT hs hc
    go_enter Tryz.func14, Tryz.ntmps14
    go_wp2_with fail
    refine HC.out.mono ?_
    rintro _ w1 ⟨rfl, b1⟩
    have HB2 : Hid (Below w.heap.size w w1) := HB1.out.trans (b1.mono HB1.out.size)
    clear b1 HC
    go_wp2
    go_ret
    exact ⟨rfl, HB2.out⟩
  · have HC := Lib.hid (dLong_any s c n _ (Tabs.below HT hb1) hs hc)
    have HE : Hid (kb c s n = Hm.mac c (De.txt [108, 111, 110, 103] n ++ s)) := by rw [Hid, kb, if_neg h0]
    have hbeq : (s == []) = false := by simp [h0]
    rw [HE.out]
    clear hb1 HT hs hc
    go_enter Tryz.func14, Tryz.ntmps14
    go_wp2_with fail
    refine HC.out.mono ?_
    rintro _ w1 ⟨rfl, b1⟩
    have HB2 : Hid (Below w.heap.size w w1) := HB1.out.trans (b1.mono HB1.out.size)
    clear b1 HC
    go_wp2
    go_ret
    exact ⟨rfl, HB2.out⟩

theorem ext_take (l : List UInt8) (n : Nat) : (ByteArray.mk ⟨l⟩).extract 0 n = ⟨⟨l.take n⟩⟩ := by
  apply ByteArray.ext
  rw [ByteArray.data_extract]
  apply Array.toList_inj.1
  simp
theorem ret_x {a b : ByteArray} (h : a = b) : Ending.returned (.string a) = .returned (.string b) := by rw [h]

set_option maxHeartbeats 400000 in
set_option maxRecDepth 100000 in
theorem nonce_any (x : Tm) (S : Nat → Prop) (v : Value) (c : List UInt8) (w : World) (HT : Tabs w) (htab : TabB w.heap.size w) (hx : sz x ≤ 262144) (hr : Rep w S x v) (hS : ∀ b, S b → b < w.heap.size) (ht : (text x).length ≤ 9000) (hc : c.length ≤ 10000) :
    Calls Tryz.prog 102 #[v, .string ⟨⟨c⟩⟩] w fun e w' => e = .returned (.string ⟨⟨nonce c (text x)⟩⟩) ∧ Below w.heap.size w w' := by
  have hcT := fun W => Text_any x S v W hx
  obtain ⟨T, hTT⟩ : ∃ T, T = text x := ⟨_, rfl⟩
  rw [← hTT] at ht hcT ⊢
  clear hTT
  obtain ⟨k, s, n, l⟩ := x
  have hr0 := hr
  obtain ⟨A, ca, rfl, -, -⟩ := rep_mk.1 hr
  have hb1 : Below w.heap.size w (w.alloc (.cells #[.int .i64 k, .string ⟨⟨s⟩⟩, .int .i64 n, .slice A l.length ca] 25)) := (Below.refl _ _).alloc (Nat.le_refl _) _
  have HC := Lib.hid (hcT _ (rep_below hr0 hb1 hS) (fun b hb => Nat.lt_of_lt_of_le (hS b hb) hb1.size) (by omega) (htab.up hb1))
  have HT1 := Lib.hid (Tabs.below HT hb1)
  have HB1 := Lib.hid hb1
  obtain ⟨M, hM⟩ : ∃ M, M = Hm.mac c ([110, 111, 110, 99, 101, 0] ++ T) := ⟨_, rfl⟩
  have HM : Hid (∀ W, Tabs W → Calls Tryz.prog 53 #[.string ⟨⟨c⟩⟩, .string (⟨#[110, 111, 110, 99, 101, 0]⟩ ++ ⟨⟨T⟩⟩)] W fun e w' => e = .returned (.string ⟨⟨M⟩⟩) ∧ Below W.heap.size W w') := fun W hW => by
    have := Mac_any c ([110, 111, 110, 99, 101, 0] ++ T) W hW hc (by simp; omega)
    rw [← hM, ← str_app] at this
    exact this
  have hl : ¬ 9223372036854775807 < 6 + T.length := by omega
  have hml : M.length = 32 := by rw [hM]; exact Hm.mac_length _ _
  obtain ⟨NC, hNC⟩ : ∃ NC, NC = nonce c T := ⟨_, rfl⟩
  rw [← hNC]
  have HN : Hid (NC = M.take 12) := by rw [Hid, hNC, hM]; rfl
  clear hcT hr hr0 hS hb1 HT htab hM hNC
  go_enter Tryz.func102, Tryz.ntmps102
  go_wp2_with fail
  refine HC.out.mono ?_
  rintro _ w1 ⟨rfl, b1⟩
  have HB2 : Hid (Below w.heap.size w w1) := HB1.out.trans (b1.mono HB1.out.size)
  have HT2 := Lib.hid (Tabs.below HT1.out b1)
  have HM2 := Lib.hid (HM.out w1 HT2.out)
  clear b1 HC HM
  go_wp2_with fail
  refine HM2.out.mono ?_
  rintro _ w2 ⟨rfl, b2⟩
  have HB3 : Hid (Below w.heap.size w w2) := HB2.out.trans (b2.mono HB2.out.size)
  clear b2 HM2
  go_wp2
  go_ret
  exact ⟨ret_x (by rw [HN.out, ext_take]), HB3.out⟩
end Go.Proofs.YticofjbngfjjlaaGreatDoor.Cy


namespace Go.Proofs.YticofjbngfjjlaaGreatDoor.Wi
open Go.RowKit
open Wr

/-- A zero item. -/
def zeroItem : Value := .agg #[.bool false, .int .i64 0, .string ⟨⟨[]⟩⟩, .slice none 0 0]

mutual
/-- The value v is the item x in the world w; whatever memory it leads to lies in blocks that S lets. -/
def Rep (w : World) (S : Nat → Prop) : It → Value → Prop
  | .mk n t s l, v => ∃ (A : Option Addr) (cap : Nat), v = .agg #[.bool n, .int .i64 t, .string ⟨⟨s⟩⟩, .slice A l.length cap] ∧ (l = [] ∨ ∃ b o, A = some ⟨b, o, none⟩ ∧ S b ∧ Reps w S l b o)
/-- The items l lie one behind the other from cell o of block b on. -/
def Reps (w : World) (S : Nat → Prop) : List It → Nat → Nat → Prop
  | [], _, _ => True
  | x :: r, b, o => (∃ v0 v1 v2 v3, w.cell? ⟨b, o, none⟩ = some v0 ∧ w.cell? ⟨b, o + 1, none⟩ = some v1 ∧ w.cell? ⟨b, o + 2, none⟩ = some v2 ∧ w.cell? ⟨b, o + 3, none⟩ = some v3 ∧ Rep w S x (.agg #[v0, v1, v2, v3])) ∧ Reps w S r b (o + 4)
end

/-- A slice whose items are l. -/
def Row (w : World) (S : Nat → Prop) (l : List It) (A : Option Addr) : Prop := l = [] ∨ ∃ b o, A = some ⟨b, o, none⟩ ∧ S b ∧ Reps w S l b o

theorem rep_mk {w : World} {S : Nat → Prop} {n : Bool} {t : Int} {s : List UInt8} {l : List It} {v : Value} :
    Rep w S (.mk n t s l) v ↔ ∃ (A : Option Addr) (cap : Nat), v = .agg #[.bool n, .int .i64 t, .string ⟨⟨s⟩⟩, .slice A l.length cap] ∧ Row w S l A := by
  rw [Rep]; rfl

theorem rep_keep {w w' : World} {S S' : Nat → Prop} (hS : ∀ b, S b → S' b) (hc : ∀ b o, S b → w'.cell? ⟨b, o, none⟩ = w.cell? ⟨b, o, none⟩) :
    ∀ x v, Rep w S x v → Rep w' S' x v := fun x =>
  It.rec (motive_1 := fun x => ∀ v, Rep w S x v → Rep w' S' x v) (motive_2 := fun l => ∀ b o, S b → Reps w S l b o → Reps w' S' l b o)
    (fun n t s l hl v h => by
      rw [Rep] at h ⊢
      obtain ⟨A, cap, rfl, h⟩ := h
      refine ⟨A, cap, rfl, ?_⟩
      rcases h with h | ⟨b, o, rfl, hb, hr⟩
      · exact .inl h
      · exact .inr ⟨b, o, rfl, hS b hb, hl b o hb hr⟩)
    (fun b o _ _ => by rw [Reps]; trivial)
    (fun x l hx hl b o hb h => by
      rw [Reps] at h ⊢
      obtain ⟨⟨v0, v1, v2, v3, h0, h1, h2, h3, h4⟩, h5⟩ := h
      exact ⟨⟨v0, v1, v2, v3, by rw [hc b _ hb, h0], by rw [hc b _ hb, h1], by rw [hc b _ hb, h2], by rw [hc b _ hb, h3], hx _ h4⟩, hl b _ hb h5⟩) x

theorem reps_at {w : World} {S : Nat → Prop} : ∀ (l : List It) (b o i : Nat) (x : It), Reps w S l b o → l[i]? = some x →
    ∃ v0 v1 v2 v3, w.cell? ⟨b, o + i * 4, none⟩ = some v0 ∧ w.cell? ⟨b, o + i * 4 + 1, none⟩ = some v1 ∧ w.cell? ⟨b, o + i * 4 + 2, none⟩ = some v2 ∧ w.cell? ⟨b, o + i * 4 + 3, none⟩ = some v3 ∧ Rep w S x (.agg #[v0, v1, v2, v3])
  | [], _, _, _, _, _, h => by simp at h
  | y :: r, b, o, 0, x, h, hx => by
    rw [Reps] at h
    simp at hx
    subst hx
    simpa using h.1
  | y :: r, b, o, i + 1, x, h, hx => by
    rw [Reps] at h
    simp at hx
    have := reps_at r b (o + 4) i x h.2 hx
    have e : o + 4 + i * 4 = o + (i + 1) * 4 := by omega
    rw [e] at this
    exact this

/-- The cells xs are the items l, four cells each. -/
def Els (w : World) (S : Nat → Prop) : List It → List Value → Prop
  | [], xs => xs = []
  | x :: r, v0 :: v1 :: v2 :: v3 :: xs => Rep w S x (.agg #[v0, v1, v2, v3]) ∧ Els w S r xs
  | _ :: _, _ => False

theorem els_keep {w w' : World} {S S' : Nat → Prop} (hS : ∀ b, S b → S' b) (hc : ∀ b o, S b → w'.cell? ⟨b, o, none⟩ = w.cell? ⟨b, o, none⟩) :
    ∀ l xs, Els w S l xs → Els w' S' l xs
  | [], xs, h => by rw [Els] at h ⊢; exact h
  | x :: r, v0 :: v1 :: v2 :: v3 :: xs, h => by rw [Els] at h ⊢; exact ⟨rep_keep hS hc _ _ h.1, els_keep hS hc r xs h.2⟩
  | _ :: _, [], h => by simp [Els] at h
  | _ :: _, [_], h => by simp [Els] at h
  | _ :: _, [_, _], h => by simp [Els] at h
  | _ :: _, [_, _, _], h => by simp [Els] at h

theorem els_snoc {w : World} {S : Nat → Prop} {x : It} {v0 v1 v2 v3 : Value} (hx : Rep w S x (.agg #[v0, v1, v2, v3])) :
    ∀ l xs, Els w S l xs → Els w S (l ++ [x]) (xs ++ [v0, v1, v2, v3])
  | [], xs, h => by
    rw [Els] at h
    subst h
    simp only [List.nil_append]
    rw [Els]
    exact ⟨hx, by rw [Els]⟩
  | y :: r, u0 :: u1 :: u2 :: u3 :: xs, h => by
    rw [Els] at h
    simp only [List.cons_append]
    rw [Els]
    exact ⟨h.1, els_snoc hx r xs h.2⟩
  | _ :: _, [], h => by simp [Els] at h
  | _ :: _, [_], h => by simp [Els] at h
  | _ :: _, [_, _], h => by simp [Els] at h
  | _ :: _, [_, _, _], h => by simp [Els] at h

theorem els_reps {w : World} {S : Nat → Prop} {b : Nat} : ∀ l xs o, Els w S l xs → (∀ j u, xs[j]? = some u → w.cell? ⟨b, o + j, none⟩ = some u) → Reps w S l b o
  | [], xs, o, _, _ => by rw [Reps]; trivial
  | x :: r, v0 :: v1 :: v2 :: v3 :: xs, o, h, hc => by
    rw [Els] at h
    rw [Reps]
    refine ⟨⟨v0, v1, v2, v3, hc 0 v0 rfl, hc 1 v1 rfl, hc 2 v2 rfl, hc 3 v3 rfl, h.1⟩, els_reps r xs (o + 4) h.2 fun j u hj => ?_⟩
    have := hc (j + 4) u (by simpa using hj)
    rw [show o + (j + 4) = o + 4 + j by omega] at this
    exact this
  | _ :: _, [], _, h, _ => by simp [Els] at h
  | _ :: _, [_], _, h, _ => by simp [Els] at h
  | _ :: _, [_, _], _, h, _ => by simp [Els] at h
  | _ :: _, [_, _, _], _, h, _ => by simp [Els] at h

theorem els_len {w : World} {S : Nat → Prop} : ∀ l xs, Els w S l xs → xs.length = l.length * 4
  | [], xs, h => by rw [Els] at h; subst h; rfl
  | x :: r, v0 :: v1 :: v2 :: v3 :: xs, h => by
    rw [Els] at h
    have := els_len r xs h.2
    simp [this]; omega
  | _ :: _, [], h => by simp [Els] at h
  | _ :: _, [_], h => by simp [Els] at h
  | _ :: _, [_, _], h => by simp [Els] at h
  | _ :: _, [_, _, _], h => by simp [Els] at h

/-- A row that the call owns, and whose cells are items, is a slice of them. -/
theorem row_of_own {w : World} {S : Nat → Prop} {base n cap : Nat} {A : Option Addr} {l : List It} {xs : List Value} (h : w.ownsRow base 64 4 (.slice A n cap) n xs) (he : Els w S l xs) (hl : l.length = n) (hS : ∀ b, (Value.slice A n cap).ownBlock = some b → S b) : Row w S l A := by
  rcases h.2 with ⟨hv, hn⟩ | ⟨g, cap', cur, hv, _⟩
  · exact .inl (List.eq_nil_of_length_eq_zero (by omega))
  · injection hv with h1 h2 h3
    subst h1
    refine .inr ⟨g, 0, rfl, hS g rfl, els_reps l xs 0 he fun j u hj => ?_⟩
    have := h.cells (g := g) rfl j u hj
    rw [Nat.zero_add]
    simpa [Addr.add_lit] using this
end Go.Proofs.YticofjbngfjjlaaGreatDoor.Wi

