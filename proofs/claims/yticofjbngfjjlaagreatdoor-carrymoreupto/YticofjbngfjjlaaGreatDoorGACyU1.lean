/- carry: the reader in memory; base. (Laid with NS=1; base by wip/tools/gen/cyu1.py.) -/
import Derived.Test.YticofjbngfjjlaaGreatDoorGAWiW5
import Derived.Test.YticofjbngfjjlaaGreatDoorGACyW7
import Derived.Test.YticofjbngfjjlaaGreatDoorGAHmW3
namespace Go.Proofs.YticofjbngfjjlaaGreatDoor.Cy
open Go.RowKit
open Te Te.Tt
open Wi.Wr (It wr wrs)

/-- Nothing below n has changed but block g. -/
structure Oth (n g : Nat) (w w' : World) : Prop where
  os : w'.os = w.os
  tape : w'.tape = w.tape
  output : w'.output = w.output
  size : w.heap.size ≤ w'.heap.size
  block : ∀ k, k < n → k ≠ g → w'.heap[k]? = w.heap[k]?
theorem Oth.refl (n g : Nat) (w : World) : Oth n g w w := ⟨rfl, rfl, rfl, Nat.le_refl _, fun _ _ _ => rfl⟩
theorem Oth.trans {n g : Nat} {a b c : World} (h : Oth n g a b) (k : Oth n g b c) : Oth n g a c :=
  ⟨k.os.trans h.os, k.tape.trans h.tape, k.output.trans h.output, Nat.le_trans h.size k.size, fun i hi hg => (k.block i hi hg).trans (h.block i hi hg)⟩
theorem Oth.mono {m n g : Nat} {a b : World} (h : Oth n g a b) (hm : m ≤ n) : Oth m g a b := ⟨h.os, h.tape, h.output, h.size, fun i hi hg => h.block i (by omega) hg⟩
theorem Oth.of {n g : Nat} {a b : World} (h : Below n a b) : Oth n g a b := ⟨h.os, h.tape, h.output, h.size, fun i hi _ => h.block i hi⟩
theorem Oth.below {n g m : Nat} {a b : World} (h : Oth n g a b) (hn : m ≤ n) (hg : m ≤ g) : Below m a b := ⟨h.os, h.tape, h.output, h.size, fun i hi => h.block i (by omega) (by omega)⟩
theorem Oth.cell {n g : Nat} {a b : World} (h : Oth n g a b) {p : Addr} (hn : p.block < n) (hg : p.block ≠ g) : b.cell? p = a.cell? p := World.cell?_of_block (h.block _ hn hg)

/-- What a reader is made of. -/
structure Rd where
  w0 : World
  c : List UInt8
  ks : List Tm
  R : Nat
  gb : Nat
  gk : Nat
  K : Option Addr
  kc : Nat
structure Rd.ok (E : Rd) : Prop where
  tabs : Tabs E.w0
  tabb : TabB E.w0.heap.size E.w0
  cl : E.c.length ≤ 10000
  kl : E.ks.length ≤ 100000
  keys : ∀ k ∈ E.ks, k.k = 2 ∧ k.l = [] ∧ k.s.length ≤ 5000
  r0 : E.w0.heap.size ≤ E.R
  b0 : E.w0.heap.size ≤ E.gb
  k0 : E.w0.heap.size ≤ E.gk
  rb : E.R ≠ E.gb
  kb : E.gk ≠ E.gb
/-- The reader lies in the world. -/
structure Rd.lies (E : Rd) (W : World) : Prop where
  below : Below E.w0.heap.size E.w0 W
  cells : W.heap[E.R]? = some (.cells #[.string ⟨⟨E.c⟩⟩, .slice E.K E.ks.length E.kc, .slice (some ⟨E.gb, 0, none⟩) E.ks.length E.ks.length] 103 (0, 0))
  keys : TRow W (fun b => b = E.gk) E.ks E.K
  gk : E.gk < W.heap.size
  bases : ∃ B : List (List UInt8), B.length = E.ks.length ∧ W.heap[E.gb]? = some (.cells (B.map fun b => Value.string ⟨⟨b⟩⟩).toArray 9 (0, 0)) ∧ ∀ (i : Nat) (b : List UInt8) (k : Tm), B[i]? = some b → E.ks[i]? = some k → b = [] ∨ b = Cy.kb E.c k.s k.n
theorem Rd.lies.rlt {E : Rd} {W : World} (h : E.lies W) : E.R < W.heap.size := (Array.getElem?_eq_some_iff.1 h.cells).1
theorem Rd.lies.blt {E : Rd} {W : World} (h : E.lies W) : E.gb < W.heap.size := by
  obtain ⟨B, _, h, _⟩ := h.bases
  exact (Array.getElem?_eq_some_iff.1 h).1
theorem Rd.lies.tabs {E : Rd} {W : World} (h : E.lies W) (ho : E.ok) : Tabs W := Tabs.below ho.tabs h.below
theorem Rd.lies.tabb {E : Rd} {W : World} (h : E.lies W) (ho : E.ok) : TabB W.heap.size W := ho.tabb.up h.below
theorem Rd.lies.next {E : Rd} {W W' : World} (h : E.lies W) (hb : Below W.heap.size W W') : E.lies W' := by
  refine ⟨h.below.trans (hb.mono h.below.size), (hb.block _ h.rlt).trans h.cells, trow_below h.keys hb (fun b hb => by subst hb; exact h.gk), Nat.lt_of_lt_of_le h.gk hb.size, ?_⟩
  obtain ⟨B, h1, h2, h3⟩ := h.bases
  exact ⟨B, h1, (hb.block _ h.blt).trans h2, h3⟩
/-- All that is not below n, nor the reader's, may change. -/
theorem Rd.lies.oth {E : Rd} {W W' : World} {n : Nat} (h : E.lies W) (ho : E.ok) (hb : Below n W W') (hR : E.R < n) (hG : E.gb < n) (hK : E.gk < n) : E.lies W' := by
  have h0 := ho.r0
  refine ⟨h.below.trans (hb.mono (by omega)), (hb.block _ hR).trans h.cells, trow_keep (fun _ h => h) (fun b o hb' => by subst hb'; exact World.cell?_of_block (hb.block _ hK)) h.keys, Nat.lt_of_lt_of_le h.gk hb.size, ?_⟩
  obtain ⟨B, h1, h2, h3⟩ := h.bases
  exact ⟨B, h1, (hb.block _ hG).trans h2, h3⟩

theorem key_form {E : Rd} (ho : E.ok) {i : Nat} {k : Tm} (hk : E.ks[i]? = some k) : ∃ s n, k = .mk 2 s n [] ∧ s.length ≤ 5000 := by
  obtain ⟨h1, h2, h3⟩ := ho.keys k (List.mem_of_getElem? hk)
  obtain ⟨kk, s, n, l⟩ := k
  simp only [Tm.k, Tm.l, Tm.s] at h1 h2 h3
  subst h1
  subst h2
  exact ⟨s, n, rfl, h3⟩
theorem cell3 {w : World} {g : Nat} {v0 v1 v2 : Value} {t : TypeId} {fr : Nat × Nat} (h : w.heap[g]? = some (.cells #[v0, v1, v2] t fr)) :
    w.cell? ⟨g, 0, none⟩ = some v0 ∧ w.cell? ⟨g, 1, none⟩ = some v1 ∧ w.cell? ⟨g, 2, none⟩ = some v2 := by
  refine ⟨?_, ?_, ?_⟩ <;> simp [World.cell?, h]
/-- A base that is told is written down. -/
theorem Rd.lies.told {E : Rd} {W : World} (h : E.lies W) (ho : E.ok) {i : Nat} {k : Tm} (hk : E.ks[i]? = some k) : E.lies (W.setCell ⟨E.gb, i, none⟩ (.string ⟨⟨Cy.kb E.c k.s k.n⟩⟩)) := by
  obtain ⟨B, h1, h2, h3⟩ := h.bases
  refine ⟨h.below.setCell (p := ⟨E.gb, i, none⟩) ho.b0 _, (heap_setCell_other _ _ _ _ ho.rb).trans h.cells, trow_keep (fun _ h => h) (fun b o hb' => by subst hb'; exact World.cell?_of_block (heap_setCell_other _ _ _ _ ho.kb)) h.keys, by simpa using h.gk, ?_⟩
  refine ⟨B.set i (Cy.kb E.c k.s k.n), by simpa using h1, ?_, ?_⟩
  · rw [heap_setCell_same _ _ _ _ _ _ h2]
    simp [List.map_set]
  · intro j b k' hb hk'
    rw [List.getElem?_set] at hb
    split at hb
    · rename_i hij
      subst hij
      split at hb
      · injection hb with hb
        rw [hk] at hk'
        injection hk' with hk'
        subst hk'
        exact .inr hb.symm
      · cases hb
    · exact h3 j b k' hb hk'
theorem Oth.told {n g i : Nat} {w W : World} {v : Value} (h : Oth n g w W) : Oth n g w (W.setCell ⟨g, i, none⟩ v) := by
  refine ⟨?_, ?_, ?_, by simpa using h.size, fun k hk hg => (heap_setCell_other _ _ _ _ hg).trans (h.block k hk hg)⟩
  · rw [← h.os]; rfl
  · rw [← h.tape]; rfl
  · rw [← h.output]; rfl

set_option maxHeartbeats 2000000 in
set_option maxRecDepth 100000 in
theorem base_any (E : Rd) (ho : E.ok) (i : Nat) (k : Tm) (hk : E.ks[i]? = some k) (V : World) (h : E.lies V) :
    Calls Tryz.prog 176 #[.pointer (some ⟨E.R, 0, none⟩), .int .i64 (i : Nat)] V fun e w' => e = .returned (.string ⟨⟨Cy.kb E.c k.s k.n⟩⟩) ∧ E.lies w' ∧ Oth V.heap.size E.gb V w' := by
  have hil : i < E.ks.length := (List.getElem?_eq_some_iff.1 hk).1
  have hn := ho.kl
  obtain ⟨s, n, rfl, hsl⟩ := key_form ho hk
  obtain ⟨r0, r1, r2⟩ := cell3 h.cells
  obtain ⟨B, hB1, hB2, hB3⟩ := h.bases
  obtain ⟨b, hb⟩ : ∃ b, B[i]? = some b := ⟨_, List.getElem?_eq_getElem (by omega)⟩
  have hbc : V.cell? ⟨E.gb, i, none⟩ = some (.string ⟨⟨b⟩⟩) := by
    rw [cell_of_row _ _ _ _ _ _ hB2]; simp [hb]
  have hil' : (i : Int) < (E.ks.length : Int) := by omega
  by_cases hb0 : b = []
  · subst hb0
    obtain ⟨bb, bo, kk, ks, km, kq, KB, kcb, hK, hSb, hx, d0, d1, d2, d3, hrep⟩ := trow_get h.keys (Below.refl V.heap.size V) (fun b hb => by subst hb; exact h.gk) hil
    rw [List.getElem?_eq_getElem hil] at hk
    injection hk with hk
    rw [hk] at hx
    injection hx with e1 e2 e3 e4
    subst e1 e2 e3 e4
    rw [hK] at r1
    simp only [List.length_nil] at d3
    have hgk := h.gk
    have HBL := Lib.hid (show bb < V.heap.size by rw [hSb]; exact hgk)
    have HRL := Lib.hid h.rlt
    have HGL := Lib.hid h.blt
    have HTV := Lib.hid (h.tabs ho)
    have HSL := Lib.hid hsl
    have HCL := Lib.hid ho.cl
    have HA := Lib.hid h
    clear hK hrep hsl h hSb hgk
    go_enter Tryz.func176, Tryz.ntmps176
    go_wp2_with fail
    -- REGION
    refine wp_region_inv (by kernel_rfl) (fun L act W => ∃ t13 t14 t15 t16 t17 t18 t19 t20 t21 t22 t23 t24 t25 t26 t27 t28 t29 t30, act = { tmps := #[.pointer (some ⟨E.R, 0, none⟩), .int .i64 (i : Nat), undef, undef, .string ⟨#[]⟩, .pointer (some ⟨E.R, 0, none⟩), .pointer (some ⟨E.R, 0, none⟩), .pointer (some ⟨E.R, 2, none⟩), .slice (some ⟨E.gb, 0, none⟩) E.ks.length E.ks.length, .int .i64 (i : Nat), .pointer (some ⟨E.gb, i, none⟩), .string ⟨⟨[]⟩⟩, .bool true, t13, t14, t15, t16, t17, t18, t19, t20, t21, t22, t23, t24, t25, t26, t27, t28, t29, t30, undef, undef, undef, undef, undef, undef, undef], defers := [] } ∧ (L 0 = true → (.pointer (some ⟨E.R, 0, none⟩) : Value) = t13) ∧ (L 1 = true → (.pointer (some ⟨E.R, 0, none⟩) : Value) = t14) ∧ (L 2 = true → (.pointer (some ⟨E.R, 2, none⟩) : Value) = t15) ∧ (L 3 = true → (.slice (some ⟨E.gb, 0, none⟩) E.ks.length E.ks.length : Value) = t16) ∧ (L 4 = true → (.int .i64 (i : Nat) : Value) = t17) ∧ (L 5 = true → (.pointer (some ⟨E.R, 0, none⟩) : Value) = t18) ∧ (L 6 = true → (.pointer (some ⟨E.R, 0, none⟩) : Value) = t19) ∧ (L 7 = true → (.pointer (some ⟨E.R, 1, none⟩) : Value) = t20) ∧ (L 8 = true → (.slice (some ⟨bb, bo, none⟩) E.ks.length E.kc : Value) = t21) ∧ (L 9 = true → (.int .i64 (i : Nat) : Value) = t22) ∧ (L 10 = true → (.pointer (some ⟨bb, bo + i * 4, none⟩) : Value) = t23) ∧ (L 11 = true → (.agg #[.int .i64 2, .string ⟨⟨s⟩⟩, .int .i64 n, .slice KB 0 kcb] : Value) = t24) ∧ (L 12 = true → (.pointer (some ⟨E.R, 0, none⟩) : Value) = t25) ∧ (L 13 = true → (.pointer (some ⟨E.R, 0, none⟩) : Value) = t26) ∧ (L 14 = true → (.pointer (some ⟨E.R, 0, none⟩) : Value) = t27) ∧ (L 15 = true → (.string ⟨⟨E.c⟩⟩ : Value) = t28) ∧ (L 16 = true → (.string ⟨⟨Cy.kb E.c s n⟩⟩ : Value) = t29) ∧ (L 17 = true → (.pointer (some ⟨E.gb, i, none⟩) : Value) = t30) ∧ (L 18 = false → Below V.heap.size V W) ∧ (L 18 = true → ∃ W2, Below V.heap.size V W2 ∧ W = W2.setCell ⟨E.gb, i, none⟩ (.string ⟨⟨Cy.kb E.c s n⟩⟩)) ∧ (L 18 = true → L 3 = true ∧ L 8 = true ∧ L 11 = true ∧ L 15 = true ∧ L 16 = true)) (by kernel_rfl) ?_ ?_ ?_
    · exact ⟨_, _, _, _, _, _, _, _, _, _, _, _, _, _, _, _, _, _, rfl, nofun, nofun, nofun, nofun, nofun, nofun, nofun, nofun, nofun, nofun, nofun, nofun, nofun, nofun, nofun, nofun, nofun, nofun, fun _ => (Below.refl _ _).drew, nofun, nofun⟩
    · rintro L _ W i oo ⟨t13, t14, t15, t16, t17, t18, t19, t20, t21, t22, t23, t24, t25, t26, t27, t28, t29, t30, rfl, f0, f1, f2, f3, f4, f5, f6, f7, f8, f9, f10, f11, f12, f13, f14, f15, f16, f17, q, r, rr⟩ ho hL hd
      rcases i with _ | _ | _ | _ | _ | _ | _ | _ | _ | _ | _ | _ | _ | _ | _ | _ | _ | _ | _ | i
      · obtain rfl := Option.some.inj ho
        refine wpOp_step rfl fun K hK => ?_
        have F0X := Lib.hid f0
        have F1X := Lib.hid f1
        have F2X := Lib.hid f2
        have F3X := Lib.hid f3
        have F4X := Lib.hid f4
        have F5X := Lib.hid f5
        have F6X := Lib.hid f6
        have F7X := Lib.hid f7
        have F8X := Lib.hid f8
        have F9X := Lib.hid f9
        have F10X := Lib.hid f10
        have F11X := Lib.hid f11
        have F12X := Lib.hid f12
        have F13X := Lib.hid f13
        have F14X := Lib.hid f14
        have F15X := Lib.hid f15
        have F16X := Lib.hid f16
        have F17X := Lib.hid f17
        have QX := Lib.hid q
        have RX := Lib.hid r
        have RRX := Lib.hid rr
        clear f0 f1 f2 f3 f4 f5 f6 f7 f8 f9 f10 f11 f12 f13 f14 f15 f16 f17 q r rr hd ho hL
        go_simp
        refine hK _ _ ?_
        exact ⟨_, _, _, _, _, _, _, _, _, _, _, _, _, _, _, _, _, _, rfl, fun _ => rfl, F1X.out, F2X.out, F3X.out, F4X.out, F5X.out, F6X.out, F7X.out, F8X.out, F9X.out, F10X.out, F11X.out, F12X.out, F13X.out, F14X.out, F15X.out, F16X.out, F17X.out, QX.out, RX.out, RRX.out⟩
      · obtain rfl := Option.some.inj ho
        have l0 := hd ⟨0, .data⟩ (by simp) rfl
        obtain rfl := f0 l0
        refine wpOp_step rfl fun K hK => ?_
        have F0X := Lib.hid f0
        have F1X := Lib.hid f1
        have F2X := Lib.hid f2
        have F3X := Lib.hid f3
        have F4X := Lib.hid f4
        have F5X := Lib.hid f5
        have F6X := Lib.hid f6
        have F7X := Lib.hid f7
        have F8X := Lib.hid f8
        have F9X := Lib.hid f9
        have F10X := Lib.hid f10
        have F11X := Lib.hid f11
        have F12X := Lib.hid f12
        have F13X := Lib.hid f13
        have F14X := Lib.hid f14
        have F15X := Lib.hid f15
        have F16X := Lib.hid f16
        have F17X := Lib.hid f17
        have QX := Lib.hid q
        have RX := Lib.hid r
        have RRX := Lib.hid rr
        clear f0 f1 f2 f3 f4 f5 f6 f7 f8 f9 f10 f11 f12 f13 f14 f15 f16 f17 q r rr hd ho hL l0
        go_simp
        refine hK _ _ ?_
        exact ⟨_, _, _, _, _, _, _, _, _, _, _, _, _, _, _, _, _, _, rfl, F0X.out, fun _ => rfl, F2X.out, F3X.out, F4X.out, F5X.out, F6X.out, F7X.out, F8X.out, F9X.out, F10X.out, F11X.out, F12X.out, F13X.out, F14X.out, F15X.out, F16X.out, F17X.out, QX.out, RX.out, RRX.out⟩
      · obtain rfl := Option.some.inj ho
        have l1 := hd ⟨1, .data⟩ (by simp) rfl
        obtain rfl := f1 l1
        refine wpOp_step rfl fun K hK => ?_
        have F0X := Lib.hid f0
        have F1X := Lib.hid f1
        have F2X := Lib.hid f2
        have F3X := Lib.hid f3
        have F4X := Lib.hid f4
        have F5X := Lib.hid f5
        have F6X := Lib.hid f6
        have F7X := Lib.hid f7
        have F8X := Lib.hid f8
        have F9X := Lib.hid f9
        have F10X := Lib.hid f10
        have F11X := Lib.hid f11
        have F12X := Lib.hid f12
        have F13X := Lib.hid f13
        have F14X := Lib.hid f14
        have F15X := Lib.hid f15
        have F16X := Lib.hid f16
        have F17X := Lib.hid f17
        have QX := Lib.hid q
        have RX := Lib.hid r
        have RRX := Lib.hid rr
        clear f0 f1 f2 f3 f4 f5 f6 f7 f8 f9 f10 f11 f12 f13 f14 f15 f16 f17 q r rr hd ho hL l1
        go_simp
        refine hK _ _ ?_
        exact ⟨_, _, _, _, _, _, _, _, _, _, _, _, _, _, _, _, _, _, rfl, F0X.out, F1X.out, fun _ => rfl, F3X.out, F4X.out, F5X.out, F6X.out, F7X.out, F8X.out, F9X.out, F10X.out, F11X.out, F12X.out, F13X.out, F14X.out, F15X.out, F16X.out, F17X.out, QX.out, RX.out, RRX.out⟩
      · obtain rfl := Option.some.inj ho
        have l2 := hd ⟨2, .data⟩ (by simp) rfl
        obtain rfl := f2 l2
        have h18 : L 18 = false := by cases hq : L 18 with | false => rfl | true => rw [(rr hq).1] at hL; cases hL
        have hc := ((q h18).cell (p := ⟨E.R, 2, none⟩) HRL.out).trans r2
        clear h18
        refine wpOp_step rfl fun K hK => ?_
        have F0X := Lib.hid f0
        have F1X := Lib.hid f1
        have F2X := Lib.hid f2
        have F3X := Lib.hid f3
        have F4X := Lib.hid f4
        have F5X := Lib.hid f5
        have F6X := Lib.hid f6
        have F7X := Lib.hid f7
        have F8X := Lib.hid f8
        have F9X := Lib.hid f9
        have F10X := Lib.hid f10
        have F11X := Lib.hid f11
        have F12X := Lib.hid f12
        have F13X := Lib.hid f13
        have F14X := Lib.hid f14
        have F15X := Lib.hid f15
        have F16X := Lib.hid f16
        have F17X := Lib.hid f17
        have QX := Lib.hid q
        have RX := Lib.hid r
        have RRX := Lib.hid rr
        clear f0 f1 f2 f3 f4 f5 f6 f7 f8 f9 f10 f11 f12 f13 f14 f15 f16 f17 q r rr hd ho hL l2
        go_simp
        refine hK _ _ ?_
        exact ⟨_, _, _, _, _, _, _, _, _, _, _, _, _, _, _, _, _, _, rfl, F0X.out, F1X.out, F2X.out, fun _ => rfl, F4X.out, F5X.out, F6X.out, F7X.out, F8X.out, F9X.out, F10X.out, F11X.out, F12X.out, F13X.out, F14X.out, F15X.out, F16X.out, F17X.out, QX.out, RX.out, fun h => ⟨rfl, (RRX.out h).2.1, (RRX.out h).2.2.1, (RRX.out h).2.2.2.1, (RRX.out h).2.2.2.2⟩⟩
      · obtain rfl := Option.some.inj ho
        refine wpOp_step rfl fun K hK => ?_
        have F0X := Lib.hid f0
        have F1X := Lib.hid f1
        have F2X := Lib.hid f2
        have F3X := Lib.hid f3
        have F4X := Lib.hid f4
        have F5X := Lib.hid f5
        have F6X := Lib.hid f6
        have F7X := Lib.hid f7
        have F8X := Lib.hid f8
        have F9X := Lib.hid f9
        have F10X := Lib.hid f10
        have F11X := Lib.hid f11
        have F12X := Lib.hid f12
        have F13X := Lib.hid f13
        have F14X := Lib.hid f14
        have F15X := Lib.hid f15
        have F16X := Lib.hid f16
        have F17X := Lib.hid f17
        have QX := Lib.hid q
        have RX := Lib.hid r
        have RRX := Lib.hid rr
        clear f0 f1 f2 f3 f4 f5 f6 f7 f8 f9 f10 f11 f12 f13 f14 f15 f16 f17 q r rr hd ho hL
        go_simp
        refine hK _ _ ?_
        exact ⟨_, _, _, _, _, _, _, _, _, _, _, _, _, _, _, _, _, _, rfl, F0X.out, F1X.out, F2X.out, F3X.out, fun _ => rfl, F5X.out, F6X.out, F7X.out, F8X.out, F9X.out, F10X.out, F11X.out, F12X.out, F13X.out, F14X.out, F15X.out, F16X.out, F17X.out, QX.out, RX.out, RRX.out⟩
      · obtain rfl := Option.some.inj ho
        refine wpOp_step rfl fun K hK => ?_
        have F0X := Lib.hid f0
        have F1X := Lib.hid f1
        have F2X := Lib.hid f2
        have F3X := Lib.hid f3
        have F4X := Lib.hid f4
        have F5X := Lib.hid f5
        have F6X := Lib.hid f6
        have F7X := Lib.hid f7
        have F8X := Lib.hid f8
        have F9X := Lib.hid f9
        have F10X := Lib.hid f10
        have F11X := Lib.hid f11
        have F12X := Lib.hid f12
        have F13X := Lib.hid f13
        have F14X := Lib.hid f14
        have F15X := Lib.hid f15
        have F16X := Lib.hid f16
        have F17X := Lib.hid f17
        have QX := Lib.hid q
        have RX := Lib.hid r
        have RRX := Lib.hid rr
        clear f0 f1 f2 f3 f4 f5 f6 f7 f8 f9 f10 f11 f12 f13 f14 f15 f16 f17 q r rr hd ho hL
        go_simp
        refine hK _ _ ?_
        exact ⟨_, _, _, _, _, _, _, _, _, _, _, _, _, _, _, _, _, _, rfl, F0X.out, F1X.out, F2X.out, F3X.out, F4X.out, fun _ => rfl, F6X.out, F7X.out, F8X.out, F9X.out, F10X.out, F11X.out, F12X.out, F13X.out, F14X.out, F15X.out, F16X.out, F17X.out, QX.out, RX.out, RRX.out⟩
      · obtain rfl := Option.some.inj ho
        have l5 := hd ⟨5, .data⟩ (by simp) rfl
        obtain rfl := f5 l5
        refine wpOp_step rfl fun K hK => ?_
        have F0X := Lib.hid f0
        have F1X := Lib.hid f1
        have F2X := Lib.hid f2
        have F3X := Lib.hid f3
        have F4X := Lib.hid f4
        have F5X := Lib.hid f5
        have F6X := Lib.hid f6
        have F7X := Lib.hid f7
        have F8X := Lib.hid f8
        have F9X := Lib.hid f9
        have F10X := Lib.hid f10
        have F11X := Lib.hid f11
        have F12X := Lib.hid f12
        have F13X := Lib.hid f13
        have F14X := Lib.hid f14
        have F15X := Lib.hid f15
        have F16X := Lib.hid f16
        have F17X := Lib.hid f17
        have QX := Lib.hid q
        have RX := Lib.hid r
        have RRX := Lib.hid rr
        clear f0 f1 f2 f3 f4 f5 f6 f7 f8 f9 f10 f11 f12 f13 f14 f15 f16 f17 q r rr hd ho hL l5
        go_simp
        refine hK _ _ ?_
        exact ⟨_, _, _, _, _, _, _, _, _, _, _, _, _, _, _, _, _, _, rfl, F0X.out, F1X.out, F2X.out, F3X.out, F4X.out, F5X.out, fun _ => rfl, F7X.out, F8X.out, F9X.out, F10X.out, F11X.out, F12X.out, F13X.out, F14X.out, F15X.out, F16X.out, F17X.out, QX.out, RX.out, RRX.out⟩
      · obtain rfl := Option.some.inj ho
        have l6 := hd ⟨6, .data⟩ (by simp) rfl
        obtain rfl := f6 l6
        refine wpOp_step rfl fun K hK => ?_
        have F0X := Lib.hid f0
        have F1X := Lib.hid f1
        have F2X := Lib.hid f2
        have F3X := Lib.hid f3
        have F4X := Lib.hid f4
        have F5X := Lib.hid f5
        have F6X := Lib.hid f6
        have F7X := Lib.hid f7
        have F8X := Lib.hid f8
        have F9X := Lib.hid f9
        have F10X := Lib.hid f10
        have F11X := Lib.hid f11
        have F12X := Lib.hid f12
        have F13X := Lib.hid f13
        have F14X := Lib.hid f14
        have F15X := Lib.hid f15
        have F16X := Lib.hid f16
        have F17X := Lib.hid f17
        have QX := Lib.hid q
        have RX := Lib.hid r
        have RRX := Lib.hid rr
        clear f0 f1 f2 f3 f4 f5 f6 f7 f8 f9 f10 f11 f12 f13 f14 f15 f16 f17 q r rr hd ho hL l6
        go_simp
        refine hK _ _ ?_
        exact ⟨_, _, _, _, _, _, _, _, _, _, _, _, _, _, _, _, _, _, rfl, F0X.out, F1X.out, F2X.out, F3X.out, F4X.out, F5X.out, F6X.out, fun _ => rfl, F8X.out, F9X.out, F10X.out, F11X.out, F12X.out, F13X.out, F14X.out, F15X.out, F16X.out, F17X.out, QX.out, RX.out, RRX.out⟩
      · obtain rfl := Option.some.inj ho
        have l7 := hd ⟨7, .data⟩ (by simp) rfl
        obtain rfl := f7 l7
        have h18 : L 18 = false := by cases hq : L 18 with | false => rfl | true => rw [(rr hq).2.1] at hL; cases hL
        have hc := ((q h18).cell (p := ⟨E.R, 1, none⟩) HRL.out).trans r1
        clear h18
        refine wpOp_step rfl fun K hK => ?_
        have F0X := Lib.hid f0
        have F1X := Lib.hid f1
        have F2X := Lib.hid f2
        have F3X := Lib.hid f3
        have F4X := Lib.hid f4
        have F5X := Lib.hid f5
        have F6X := Lib.hid f6
        have F7X := Lib.hid f7
        have F8X := Lib.hid f8
        have F9X := Lib.hid f9
        have F10X := Lib.hid f10
        have F11X := Lib.hid f11
        have F12X := Lib.hid f12
        have F13X := Lib.hid f13
        have F14X := Lib.hid f14
        have F15X := Lib.hid f15
        have F16X := Lib.hid f16
        have F17X := Lib.hid f17
        have QX := Lib.hid q
        have RX := Lib.hid r
        have RRX := Lib.hid rr
        clear f0 f1 f2 f3 f4 f5 f6 f7 f8 f9 f10 f11 f12 f13 f14 f15 f16 f17 q r rr hd ho hL l7
        go_simp
        refine hK _ _ ?_
        exact ⟨_, _, _, _, _, _, _, _, _, _, _, _, _, _, _, _, _, _, rfl, F0X.out, F1X.out, F2X.out, F3X.out, F4X.out, F5X.out, F6X.out, F7X.out, fun _ => rfl, F9X.out, F10X.out, F11X.out, F12X.out, F13X.out, F14X.out, F15X.out, F16X.out, F17X.out, QX.out, RX.out, fun h => ⟨(RRX.out h).1, rfl, (RRX.out h).2.2.1, (RRX.out h).2.2.2.1, (RRX.out h).2.2.2.2⟩⟩
      · obtain rfl := Option.some.inj ho
        refine wpOp_step rfl fun K hK => ?_
        have F0X := Lib.hid f0
        have F1X := Lib.hid f1
        have F2X := Lib.hid f2
        have F3X := Lib.hid f3
        have F4X := Lib.hid f4
        have F5X := Lib.hid f5
        have F6X := Lib.hid f6
        have F7X := Lib.hid f7
        have F8X := Lib.hid f8
        have F9X := Lib.hid f9
        have F10X := Lib.hid f10
        have F11X := Lib.hid f11
        have F12X := Lib.hid f12
        have F13X := Lib.hid f13
        have F14X := Lib.hid f14
        have F15X := Lib.hid f15
        have F16X := Lib.hid f16
        have F17X := Lib.hid f17
        have QX := Lib.hid q
        have RX := Lib.hid r
        have RRX := Lib.hid rr
        clear f0 f1 f2 f3 f4 f5 f6 f7 f8 f9 f10 f11 f12 f13 f14 f15 f16 f17 q r rr hd ho hL
        go_simp
        refine hK _ _ ?_
        exact ⟨_, _, _, _, _, _, _, _, _, _, _, _, _, _, _, _, _, _, rfl, F0X.out, F1X.out, F2X.out, F3X.out, F4X.out, F5X.out, F6X.out, F7X.out, F8X.out, fun _ => rfl, F10X.out, F11X.out, F12X.out, F13X.out, F14X.out, F15X.out, F16X.out, F17X.out, QX.out, RX.out, RRX.out⟩
      · obtain rfl := Option.some.inj ho
        have l8 := hd ⟨8, .data⟩ (by simp) rfl
        have l9 := hd ⟨9, .data⟩ (by simp) rfl
        obtain rfl := f8 l8
        obtain rfl := f9 l9
        refine wpOp_step rfl fun K hK => ?_
        have F0X := Lib.hid f0
        have F1X := Lib.hid f1
        have F2X := Lib.hid f2
        have F3X := Lib.hid f3
        have F4X := Lib.hid f4
        have F5X := Lib.hid f5
        have F6X := Lib.hid f6
        have F7X := Lib.hid f7
        have F8X := Lib.hid f8
        have F9X := Lib.hid f9
        have F10X := Lib.hid f10
        have F11X := Lib.hid f11
        have F12X := Lib.hid f12
        have F13X := Lib.hid f13
        have F14X := Lib.hid f14
        have F15X := Lib.hid f15
        have F16X := Lib.hid f16
        have F17X := Lib.hid f17
        have QX := Lib.hid q
        have RX := Lib.hid r
        have RRX := Lib.hid rr
        clear f0 f1 f2 f3 f4 f5 f6 f7 f8 f9 f10 f11 f12 f13 f14 f15 f16 f17 q r rr hd ho hL l8 l9
        go_simp
        refine hK _ _ ?_
        exact ⟨_, _, _, _, _, _, _, _, _, _, _, _, _, _, _, _, _, _, rfl, F0X.out, F1X.out, F2X.out, F3X.out, F4X.out, F5X.out, F6X.out, F7X.out, F8X.out, F9X.out, fun _ => rfl, F11X.out, F12X.out, F13X.out, F14X.out, F15X.out, F16X.out, F17X.out, QX.out, RX.out, RRX.out⟩
      · obtain rfl := Option.some.inj ho
        have l10 := hd ⟨10, .data⟩ (by simp) rfl
        obtain rfl := f10 l10
        have h18 : L 18 = false := by cases hq : L 18 with | false => rfl | true => rw [(rr hq).2.2.1] at hL; cases hL
        have hc0 := ((q h18).cell (p := ⟨bb, bo + i * 4, none⟩) HBL.out).trans d0
        have hc1 := ((q h18).cell (p := ⟨bb, bo + i * 4 + 1, none⟩) HBL.out).trans d1
        have hc2 := ((q h18).cell (p := ⟨bb, bo + i * 4 + 2, none⟩) HBL.out).trans d2
        have hc3 := ((q h18).cell (p := ⟨bb, bo + i * 4 + 3, none⟩) HBL.out).trans d3
        clear h18
        refine wpOp_step rfl fun K hK => ?_
        have F0X := Lib.hid f0
        have F1X := Lib.hid f1
        have F2X := Lib.hid f2
        have F3X := Lib.hid f3
        have F4X := Lib.hid f4
        have F5X := Lib.hid f5
        have F6X := Lib.hid f6
        have F7X := Lib.hid f7
        have F8X := Lib.hid f8
        have F9X := Lib.hid f9
        have F10X := Lib.hid f10
        have F11X := Lib.hid f11
        have F12X := Lib.hid f12
        have F13X := Lib.hid f13
        have F14X := Lib.hid f14
        have F15X := Lib.hid f15
        have F16X := Lib.hid f16
        have F17X := Lib.hid f17
        have QX := Lib.hid q
        have RX := Lib.hid r
        have RRX := Lib.hid rr
        clear f0 f1 f2 f3 f4 f5 f6 f7 f8 f9 f10 f11 f12 f13 f14 f15 f16 f17 q r rr hd ho hL l10
        go_simp
        refine hK _ _ ?_
        exact ⟨_, _, _, _, _, _, _, _, _, _, _, _, _, _, _, _, _, _, rfl, F0X.out, F1X.out, F2X.out, F3X.out, F4X.out, F5X.out, F6X.out, F7X.out, F8X.out, F9X.out, F10X.out, fun _ => rfl, F12X.out, F13X.out, F14X.out, F15X.out, F16X.out, F17X.out, QX.out, RX.out, fun h => ⟨(RRX.out h).1, (RRX.out h).2.1, rfl, (RRX.out h).2.2.2.1, (RRX.out h).2.2.2.2⟩⟩
      · obtain rfl := Option.some.inj ho
        refine wpOp_step rfl fun K hK => ?_
        have F0X := Lib.hid f0
        have F1X := Lib.hid f1
        have F2X := Lib.hid f2
        have F3X := Lib.hid f3
        have F4X := Lib.hid f4
        have F5X := Lib.hid f5
        have F6X := Lib.hid f6
        have F7X := Lib.hid f7
        have F8X := Lib.hid f8
        have F9X := Lib.hid f9
        have F10X := Lib.hid f10
        have F11X := Lib.hid f11
        have F12X := Lib.hid f12
        have F13X := Lib.hid f13
        have F14X := Lib.hid f14
        have F15X := Lib.hid f15
        have F16X := Lib.hid f16
        have F17X := Lib.hid f17
        have QX := Lib.hid q
        have RX := Lib.hid r
        have RRX := Lib.hid rr
        clear f0 f1 f2 f3 f4 f5 f6 f7 f8 f9 f10 f11 f12 f13 f14 f15 f16 f17 q r rr hd ho hL
        go_simp
        refine hK _ _ ?_
        exact ⟨_, _, _, _, _, _, _, _, _, _, _, _, _, _, _, _, _, _, rfl, F0X.out, F1X.out, F2X.out, F3X.out, F4X.out, F5X.out, F6X.out, F7X.out, F8X.out, F9X.out, F10X.out, F11X.out, fun _ => rfl, F13X.out, F14X.out, F15X.out, F16X.out, F17X.out, QX.out, RX.out, RRX.out⟩
      · obtain rfl := Option.some.inj ho
        have l12 := hd ⟨12, .data⟩ (by simp) rfl
        obtain rfl := f12 l12
        refine wpOp_step rfl fun K hK => ?_
        have F0X := Lib.hid f0
        have F1X := Lib.hid f1
        have F2X := Lib.hid f2
        have F3X := Lib.hid f3
        have F4X := Lib.hid f4
        have F5X := Lib.hid f5
        have F6X := Lib.hid f6
        have F7X := Lib.hid f7
        have F8X := Lib.hid f8
        have F9X := Lib.hid f9
        have F10X := Lib.hid f10
        have F11X := Lib.hid f11
        have F12X := Lib.hid f12
        have F13X := Lib.hid f13
        have F14X := Lib.hid f14
        have F15X := Lib.hid f15
        have F16X := Lib.hid f16
        have F17X := Lib.hid f17
        have QX := Lib.hid q
        have RX := Lib.hid r
        have RRX := Lib.hid rr
        clear f0 f1 f2 f3 f4 f5 f6 f7 f8 f9 f10 f11 f12 f13 f14 f15 f16 f17 q r rr hd ho hL l12
        go_simp
        refine hK _ _ ?_
        exact ⟨_, _, _, _, _, _, _, _, _, _, _, _, _, _, _, _, _, _, rfl, F0X.out, F1X.out, F2X.out, F3X.out, F4X.out, F5X.out, F6X.out, F7X.out, F8X.out, F9X.out, F10X.out, F11X.out, F12X.out, fun _ => rfl, F14X.out, F15X.out, F16X.out, F17X.out, QX.out, RX.out, RRX.out⟩
      · obtain rfl := Option.some.inj ho
        have l13 := hd ⟨13, .data⟩ (by simp) rfl
        obtain rfl := f13 l13
        refine wpOp_step rfl fun K hK => ?_
        have F0X := Lib.hid f0
        have F1X := Lib.hid f1
        have F2X := Lib.hid f2
        have F3X := Lib.hid f3
        have F4X := Lib.hid f4
        have F5X := Lib.hid f5
        have F6X := Lib.hid f6
        have F7X := Lib.hid f7
        have F8X := Lib.hid f8
        have F9X := Lib.hid f9
        have F10X := Lib.hid f10
        have F11X := Lib.hid f11
        have F12X := Lib.hid f12
        have F13X := Lib.hid f13
        have F14X := Lib.hid f14
        have F15X := Lib.hid f15
        have F16X := Lib.hid f16
        have F17X := Lib.hid f17
        have QX := Lib.hid q
        have RX := Lib.hid r
        have RRX := Lib.hid rr
        clear f0 f1 f2 f3 f4 f5 f6 f7 f8 f9 f10 f11 f12 f13 f14 f15 f16 f17 q r rr hd ho hL l13
        go_simp
        refine hK _ _ ?_
        exact ⟨_, _, _, _, _, _, _, _, _, _, _, _, _, _, _, _, _, _, rfl, F0X.out, F1X.out, F2X.out, F3X.out, F4X.out, F5X.out, F6X.out, F7X.out, F8X.out, F9X.out, F10X.out, F11X.out, F12X.out, F13X.out, fun _ => rfl, F15X.out, F16X.out, F17X.out, QX.out, RX.out, RRX.out⟩
      · obtain rfl := Option.some.inj ho
        have l14 := hd ⟨14, .data⟩ (by simp) rfl
        obtain rfl := f14 l14
        have h18 : L 18 = false := by cases hq : L 18 with | false => rfl | true => rw [(rr hq).2.2.2.1] at hL; cases hL
        have hc := ((q h18).cell (p := ⟨E.R, 0, none⟩) HRL.out).trans r0
        clear h18
        refine wpOp_step rfl fun K hK => ?_
        have F0X := Lib.hid f0
        have F1X := Lib.hid f1
        have F2X := Lib.hid f2
        have F3X := Lib.hid f3
        have F4X := Lib.hid f4
        have F5X := Lib.hid f5
        have F6X := Lib.hid f6
        have F7X := Lib.hid f7
        have F8X := Lib.hid f8
        have F9X := Lib.hid f9
        have F10X := Lib.hid f10
        have F11X := Lib.hid f11
        have F12X := Lib.hid f12
        have F13X := Lib.hid f13
        have F14X := Lib.hid f14
        have F15X := Lib.hid f15
        have F16X := Lib.hid f16
        have F17X := Lib.hid f17
        have QX := Lib.hid q
        have RX := Lib.hid r
        have RRX := Lib.hid rr
        clear f0 f1 f2 f3 f4 f5 f6 f7 f8 f9 f10 f11 f12 f13 f14 f15 f16 f17 q r rr hd ho hL l14
        go_simp
        refine hK _ _ ?_
        exact ⟨_, _, _, _, _, _, _, _, _, _, _, _, _, _, _, _, _, _, rfl, F0X.out, F1X.out, F2X.out, F3X.out, F4X.out, F5X.out, F6X.out, F7X.out, F8X.out, F9X.out, F10X.out, F11X.out, F12X.out, F13X.out, F14X.out, fun _ => rfl, F16X.out, F17X.out, QX.out, RX.out, fun h => ⟨(RRX.out h).1, (RRX.out h).2.1, (RRX.out h).2.2.1, rfl, (RRX.out h).2.2.2.2⟩⟩
      · obtain rfl := Option.some.inj ho
        have l11 := hd ⟨11, .data⟩ (by simp) rfl
        have l15 := hd ⟨15, .data⟩ (by simp) rfl
        obtain rfl := f11 l11
        obtain rfl := f15 l15
        have h18 : L 18 = false := by cases hq : L 18 with | false => rfl | true => rw [(rr hq).2.2.2.2] at hL; cases hL
        have H18 := Lib.hid h18
        have HC := Lib.hid (Bytes_any 2 s n KB 0 kcb E.c W (Tabs.below HTV.out (q h18)) HSL.out HCL.out)
        refine wpOp_step rfl fun K hK => ?_
        have F0X := Lib.hid f0
        have F1X := Lib.hid f1
        have F2X := Lib.hid f2
        have F3X := Lib.hid f3
        have F4X := Lib.hid f4
        have F5X := Lib.hid f5
        have F6X := Lib.hid f6
        have F7X := Lib.hid f7
        have F8X := Lib.hid f8
        have F9X := Lib.hid f9
        have F10X := Lib.hid f10
        have F11X := Lib.hid f11
        have F12X := Lib.hid f12
        have F13X := Lib.hid f13
        have F14X := Lib.hid f14
        have F15X := Lib.hid f15
        have F16X := Lib.hid f16
        have F17X := Lib.hid f17
        have QX := Lib.hid q
        have RX := Lib.hid r
        have RRX := Lib.hid rr
        clear f0 f1 f2 f3 f4 f5 f6 f7 f8 f9 f10 f11 f12 f13 f14 f15 f16 f17 q r rr hd ho hL l11 l15 h18
        go_simp
        refine HC.out.mono ?_
        rintro _ w1 ⟨rfl, hb1⟩
        refine hK _ _ ?_
        exact ⟨_, _, _, _, _, _, _, _, _, _, _, _, _, _, _, _, _, _, rfl, F0X.out, F1X.out, F2X.out, F3X.out, F4X.out, F5X.out, F6X.out, F7X.out, F8X.out, F9X.out, F10X.out, F11X.out, F12X.out, F13X.out, F14X.out, F15X.out, fun _ => rfl, F17X.out, fun h => (QX.out h).trans (hb1.mono (QX.out h).size), fun h => absurd (show L 18 = true from h) (by simp [H18.out]), fun h => ⟨(RRX.out h).1, (RRX.out h).2.1, (RRX.out h).2.2.1, (RRX.out h).2.2.2.1, rfl⟩⟩
      · obtain rfl := Option.some.inj ho
        have l3 := hd ⟨3, .data⟩ (by simp) rfl
        have l4 := hd ⟨4, .data⟩ (by simp) rfl
        obtain rfl := f3 l3
        obtain rfl := f4 l4
        refine wpOp_step rfl fun K hK => ?_
        have F0X := Lib.hid f0
        have F1X := Lib.hid f1
        have F2X := Lib.hid f2
        have F3X := Lib.hid f3
        have F4X := Lib.hid f4
        have F5X := Lib.hid f5
        have F6X := Lib.hid f6
        have F7X := Lib.hid f7
        have F8X := Lib.hid f8
        have F9X := Lib.hid f9
        have F10X := Lib.hid f10
        have F11X := Lib.hid f11
        have F12X := Lib.hid f12
        have F13X := Lib.hid f13
        have F14X := Lib.hid f14
        have F15X := Lib.hid f15
        have F16X := Lib.hid f16
        have F17X := Lib.hid f17
        have QX := Lib.hid q
        have RX := Lib.hid r
        have RRX := Lib.hid rr
        clear f0 f1 f2 f3 f4 f5 f6 f7 f8 f9 f10 f11 f12 f13 f14 f15 f16 f17 q r rr hd ho hL l3 l4
        go_simp
        refine hK _ _ ?_
        exact ⟨_, _, _, _, _, _, _, _, _, _, _, _, _, _, _, _, _, _, rfl, F0X.out, F1X.out, F2X.out, F3X.out, F4X.out, F5X.out, F6X.out, F7X.out, F8X.out, F9X.out, F10X.out, F11X.out, F12X.out, F13X.out, F14X.out, F15X.out, F16X.out, fun _ => rfl, QX.out, RX.out, RRX.out⟩
      · obtain rfl := Option.some.inj ho
        have l17 := hd ⟨17, .data⟩ (by simp) rfl
        have l16 := hd ⟨16, .data⟩ (by simp) rfl
        have l3 := hd ⟨3, .phase⟩ (by simp) rfl
        have l8 := hd ⟨8, .phase⟩ (by simp) rfl
        have l11 := hd ⟨11, .phase⟩ (by simp) rfl
        have l15 := hd ⟨15, .phase⟩ (by simp) rfl
        obtain rfl := f17 l17
        obtain rfl := f16 l16
        obtain rfl := f3 l3
        obtain rfl := f8 l8
        obtain rfl := f11 l11
        obtain rfl := f15 l15
        have hq := q hL
        have hf := fun k => frozen_of_row _ _ k _ _ ((hq.block E.gb HGL.out).trans hB2)
        have hcb := (hq.cell (p := ⟨E.gb, i, none⟩) HGL.out).trans hbc
        have LL := Lib.hid (And.intro l3 (And.intro l8 (And.intro l11 (And.intro l15 l16))))
        have HQ := Lib.hid hq
        clear hq
        refine wpOp_step rfl fun K hK => ?_
        have F0X := Lib.hid f0
        have F1X := Lib.hid f1
        have F2X := Lib.hid f2
        have F3X := Lib.hid f3
        have F4X := Lib.hid f4
        have F5X := Lib.hid f5
        have F6X := Lib.hid f6
        have F7X := Lib.hid f7
        have F8X := Lib.hid f8
        have F9X := Lib.hid f9
        have F10X := Lib.hid f10
        have F11X := Lib.hid f11
        have F12X := Lib.hid f12
        have F13X := Lib.hid f13
        have F14X := Lib.hid f14
        have F15X := Lib.hid f15
        have F16X := Lib.hid f16
        have F17X := Lib.hid f17
        have QX := Lib.hid q
        have RX := Lib.hid r
        have RRX := Lib.hid rr
        clear f0 f1 f2 f3 f4 f5 f6 f7 f8 f9 f10 f11 f12 f13 f14 f15 f16 f17 q r rr hd ho hL l17 l16 l3 l8 l11 l15
        go_simp
        refine hK _ _ ?_
        exact ⟨_, _, _, _, _, _, _, _, _, _, _, _, _, _, _, _, _, _, rfl, F0X.out, F1X.out, F2X.out, F3X.out, F4X.out, F5X.out, F6X.out, F7X.out, F8X.out, F9X.out, F10X.out, F11X.out, F12X.out, F13X.out, F14X.out, F15X.out, F16X.out, F17X.out, nofun, fun _ => ⟨_, HQ.out, rfl⟩, fun _ => LL.out⟩
      · simp at ho
    · rintro L _ W ⟨t13, t14, t15, t16, t17, t18, t19, t20, t21, t22, t23, t24, t25, t26, t27, t28, t29, t30, rfl, f0, f1, f2, f3, f4, f5, f6, f7, f8, f9, f10, f11, f12, f13, f14, f15, f16, f17, q, r, rr⟩ hall
      obtain rfl := f0 (hall 0 (by decide))
      obtain rfl := f1 (hall 1 (by decide))
      obtain rfl := f2 (hall 2 (by decide))
      obtain rfl := f3 (hall 3 (by decide))
      obtain rfl := f4 (hall 4 (by decide))
      obtain rfl := f5 (hall 5 (by decide))
      obtain rfl := f6 (hall 6 (by decide))
      obtain rfl := f7 (hall 7 (by decide))
      obtain rfl := f8 (hall 8 (by decide))
      obtain rfl := f9 (hall 9 (by decide))
      obtain rfl := f10 (hall 10 (by decide))
      obtain rfl := f11 (hall 11 (by decide))
      obtain rfl := f12 (hall 12 (by decide))
      obtain rfl := f13 (hall 13 (by decide))
      obtain rfl := f14 (hall 14 (by decide))
      obtain rfl := f15 (hall 15 (by decide))
      obtain rfl := f16 (hall 16 (by decide))
      obtain rfl := f17 (hall 17 (by decide))
      obtain ⟨W2, hb2, rfl⟩ := r (hall 18 (by decide))
      have HB2 := Lib.hid hb2
      have hw2 : E.lies W2 := HA.out.next hb2
      have hw3 := hw2.told ho (List.getElem?_eq_getElem hil |>.trans (congrArg some hk))
      simp only [Tm.s, Tm.n] at hw3
      have hoth : Oth V.heap.size E.gb V (W2.setCell ⟨E.gb, i, none⟩ (.string ⟨⟨Cy.kb E.c s n⟩⟩)) := (Oth.of hb2).told
      have hgb2 := heap_setCell_same _ _ i _ _ (.string ⟨⟨Cy.kb E.c s n⟩⟩) ((hb2.block E.gb HGL.out).trans hB2)
      have g2 := (cell3 hw3.cells).2.2
      have hbi : (W2.setCell ⟨E.gb, i, none⟩ (.string ⟨⟨Cy.kb E.c s n⟩⟩)).cell? ⟨E.gb, i, none⟩ = some (.string ⟨⟨Cy.kb E.c s n⟩⟩) := by
        rw [cell_of_row _ _ _ _ _ _ hgb2]
        simp [hB1, hil]
      have HW3 := Lib.hid hw3
      have HOT := Lib.hid hoth
      generalize W2.setCell ⟨E.gb, i, none⟩ (.string ⟨⟨Cy.kb E.c s n⟩⟩) = W3 at *
      clear q r rr hall hb2 hw2 hw3 hoth hgb2 HB2 hbc hB2 hB3 hB1 hb r0 r1 r2 d0 d1 d2 d3
      go_wp2
      go_ret
      exact ⟨rfl, HW3.out, HOT.out⟩
  · have hv := (hB3 i b _ hb hk).resolve_left hb0
    have hne : (b == []) = false := by simp [hb0]
    have HV := Lib.hid hv
    have HA := Lib.hid h
    clear hk ho h hB1 hB2 hB3 hb hv hsl hb0
    go_enter Tryz.func176, Tryz.ntmps176
    go_wp2
    go_ret
    exact ⟨by rw [← HV.out]; rfl, HA.out, Oth.refl _ _ _⟩
end Go.Proofs.YticofjbngfjjlaaGreatDoor.Cy

