/- The law's digits. -/
import Derived.Test.YtfhcfaflggiacaaDoorTmV1
namespace Go.Proofs.YtfhcfaflggiacaaDoor
open Go.RowKit
open Tt

def dgc (i : Nat) (c : UInt8) : Bool := (decide (48 ≤ c.toNat) && decide (c.toNat ≤ 57)) || (decide (i = 0) && decide (c.toNat = 45))
def pfx (s : List UInt8) (i : Nat) : Bool := (List.range i).all fun j => dgc j (s.getD j 0)
theorem pfx_succ (s : List UInt8) (i : Nat) (h : i < s.length) : pfx s (i + 1) = (pfx s i && dgc i s[i]) := by
  rw [pfx, List.range_succ, List.all_append]
  simp [pfx, h]
mutual
/-- Has it a name that reads as a number? -/
def dg : Tm → Bool
  | .mk k s _ l => (decide (k = 0) && decide (s ≠ []) && pfx s s.length) || dgl l
def dgl : List Tm → Bool
  | [] => false
  | x :: r => dg x || dgl r
end
theorem dgl_any : ∀ l, dgl l = l.any dg
  | [] => by simp [dgl]
  | x :: r => by simp [dgl, dgl_any r]
theorem byteAt2 (s : List UInt8) (k : Nat) (h : k < s.length) : (ByteArray.mk ⟨s⟩)[k]'h = s[k] := rfl
theorem ret_b2 {a b : Bool} (h : a = b) : Ending.returned (.bool a) = .returned (.bool b) := by rw [h]

def DigitsSaid (x : Tm) : Prop := ∀ (S : Nat → Prop) (v : Value) (w : World), bk x ≤ 4000000 → Rep w S x v → (∀ b, S b → b < w.heap.size) →
  Calls Tryd.prog 42 #[v] w fun e w' => e = .returned (.bool (dg x)) ∧ Below w.heap.size w w'

/-- The first part: what follows from the loop over the terms within. -/
def Rest (q : List Tm) (R : Bool) : Prop := R = dgl q

set_option maxHeartbeats 4000000 in
set_option maxRecDepth 100000 in
theorem digits_any : ∀ x, DigitsSaid x := Tm.ind (by
  intro k s m q ih S v w hsz hr hS
  obtain ⟨A, ca, rfl, -, hrow⟩ := rep_mk.1 hr
  rw [bk] at hsz
  have hql := bks_len q
  obtain ⟨R, hR⟩ : ∃ R, R = dg (.mk k s m q) := ⟨_, rfl⟩
  rw [← hR]
  rw [dg] at hR
  have HRR := Lib.hid hR
  obtain ⟨z, hz⟩ : ∃ z, z = w.heap.size := ⟨_, rfl⟩
  obtain ⟨n, hn⟩ : ∃ n, n = q.length := ⟨_, rfl⟩
  have hg0 := heap_alloc_new w (.cells #[.int .i64 k, .string ⟨⟨s⟩⟩, .int .i64 m, .slice A n ca] 25)
  have hb0 : Below w.heap.size w (w.alloc (.cells #[.int .i64 k, .string ⟨⟨s⟩⟩, .int .i64 m, .slice A n ca] 25)) := (Below.refl _ _).alloc (Nat.le_refl _) _
  rw [← hz] at hg0
  have HG0 := Lib.hid hg0
  have HB0 := Lib.hid hb0
  have HR := Lib.hid hrow
  have HS := Lib.hid hS
  have HI := Lib.hid ih
  have HZ := Lib.hid hz
  have HN := Lib.hid hn
  rw [← hn] at hql ⊢
  obtain ⟨c0, c1, c2, c3⟩ := cell4 hg0
  -- the loop over what is within, from a frame whose other slots are as they are
  clear hr hrow hS ih hb0 hR hn
  by_cases hname : k = 0 ∧ s ≠ []
  · obtain ⟨rfl, hs⟩ := hname
    have hse : (s == ([] : List UInt8)) = false := by simp [hs]
    have hk0 : (decide ((0 : Int) = 0) && decide (s ≠ [])) = true := by simp [hs]
    have HK0 := Lib.hid hk0
    clear hg0 hk0
    go_enter Tryd.func42, Tryd.ntmps42
    rw [hz] at c0 c1 c2 c3
    obtain ⟨W0, hW0⟩ : ∃ W0, W0 = w.alloc (.cells #[.int .i64 0, .string ⟨⟨s⟩⟩, .int .i64 m, .slice A n ca] 25) := ⟨_, rfl⟩
    have HBW := Lib.hid HB0.out
    have HGW := Lib.hid HG0.out
    rw [← hW0] at HBW HGW
    have HW0 := Lib.hid hW0
    clear hz hW0
    go_wp2
    rw [← HZ.out, ← HW0.out]
    clear c0 c1 c2 c3
    go_loopw [3, 4] (fun bv iv wr => ∃ i : Nat, i ≤ s.length ∧ iv = .int .i64 (i : Nat) ∧ (∃ B, bv = .bool B ∧ Hid (B = pfx s i)) ∧ wr = W0) (fun _ iv _ => s.length - (intOf iv).toNat)
    case atStart => exact ⟨0, by omega, rfl, ⟨true, rfl, rfl⟩, rfl⟩
    case round =>
      obtain ⟨i, hi, rfl, ⟨C, rfl, HC⟩, rfl⟩ := hrel
      obtain ⟨c0, c1, c2, c3⟩ := cell4 HGW.out
      by_cases hlt : i < s.length
      · have hil : (i : Int) < (s.length : Int) := by omega
        have hba := byteAt2 s i hlt
        have hp := pfx_succ s i hlt
        obtain ⟨cn, hcn⟩ : ∃ cn, cn = s[i].toNat := ⟨_, rfl⟩
        have hidx : ∀ W, (Instr.index 9 (.string ⟨⟨s⟩⟩) (.int .i64 (i : Int))).run Tryd.prog W = .ok (.int .u8 (cn : Int)) W := fun W => by
          have hsz2 : (⟨⟨s⟩⟩ : ByteArray).size = s.length := rfl
          rw [run_index_string W 9 _ _ _ Tryd.underlying9, dif_pos ⟨by omega, by rw [hsz2]; omega⟩, hcn]
          simp only [Int.toNat_natCast, hba]
        rw [dgc, ← hcn] at hp
        clear hba hcn
        cases C
        · have HP : Hid (false = pfx s (i + 1)) := by rw [Hid, hp, ← HC.out]; rfl
          clear hp
          go_wp2
          go_roundw
          case rel => exact ⟨i + 1, by omega, by go_num, ⟨false, rfl, HP⟩, trivial⟩
          case measure => simp [intOf]; omega
        · rw [← HC.out] at hp
          have hcase : (48 ≤ cn ∧ cn ≤ 57) ∨ (cn < 48 ∧ cn ≠ 45) ∨ cn = 45 ∨ 57 < cn := by omega
          rcases hcase with ⟨h1, h2⟩ | ⟨h1, h2⟩ | h1 | h1
          · have HP : Hid (true = pfx s (i + 1)) := by rw [Hid, hp]; simp [h1, h2]
            have i1 : (48 : Int) ≤ (cn : Int) := by omega
            have i2 : (cn : Int) ≤ 57 := by omega
            clear hp
            go_wp2
            go_roundw
            case rel => exact ⟨i + 1, by omega, by first | go_num | (congr 1; omega), ⟨true, rfl, HP⟩, trivial⟩
            case measure => simp [intOf]; omega
          · have HP : Hid (false = pfx s (i + 1)) := by rw [Hid, hp]; simp [h2]; omega
            have i1 : ¬ (48 : Int) ≤ (cn : Int) := by omega
            have i2 : ((cn : Int) == 45) = false := by simp; omega
            clear hp
            by_cases h0 : (i : Int) = 0
            · have hidx0 : ∀ W, (Instr.index 9 (.string ⟨⟨s⟩⟩) (.int .i64 0)).run Tryd.prog W = .ok (.int .u8 (cn : Int)) W := fun W => by have := hidx W; rwa [h0] at this
              go_wp2
              go_roundw
              case rel => exact ⟨i + 1, by omega, by first | go_num | (congr 1; omega), ⟨false, rfl, HP⟩, trivial⟩
              case measure => simp [intOf]; omega
            · go_wp2
              go_roundw
              case rel => exact ⟨i + 1, by omega, by first | go_num | (congr 1; omega), ⟨false, rfl, HP⟩, trivial⟩
              case measure => simp [intOf]; omega
          · have i1 : ¬ (48 : Int) ≤ (cn : Int) := by omega
            have i2 : (cn : Int) = 45 := by omega
            by_cases h0 : (i : Int) = 0
            · have hidx0 : ∀ W, (Instr.index 9 (.string ⟨⟨s⟩⟩) (.int .i64 0)).run Tryd.prog W = .ok (.int .u8 (cn : Int)) W := fun W => by have := hidx W; rwa [h0] at this
              have HP : Hid (true = pfx s (i + 1)) := by rw [Hid, hp]; simp [h1]; omega
              clear hp
              go_wp2
              go_roundw
              case rel => exact ⟨i + 1, by omega, by first | go_num | (congr 1; omega), ⟨true, rfl, HP⟩, trivial⟩
              case measure => simp [intOf]; omega
            · have HP : Hid (false = pfx s (i + 1)) := by rw [Hid, hp]; simp [h1]; omega
              clear hp
              go_wp2
              go_roundw
              case rel => exact ⟨i + 1, by omega, by first | go_num | (congr 1; omega), ⟨false, rfl, HP⟩, trivial⟩
              case measure => simp [intOf]; omega
          · have HP : Hid (false = pfx s (i + 1)) := by rw [Hid, hp]; simp; omega
            have i1 : (48 : Int) ≤ (cn : Int) := by omega
            have i2 : ¬ (cn : Int) ≤ 57 := by omega
            have i3 : ((cn : Int) == 45) = false := by simp; omega
            clear hp
            by_cases h0 : (i : Int) = 0
            · have hidx0 : ∀ W, (Instr.index 9 (.string ⟨⟨s⟩⟩) (.int .i64 0)).run Tryd.prog W = .ok (.int .u8 (cn : Int)) W := fun W => by have := hidx W; rwa [h0] at this
              go_wp2
              go_roundw
              case rel => exact ⟨i + 1, by omega, by first | go_num | (congr 1; omega), ⟨false, rfl, HP⟩, trivial⟩
              case measure => simp [intOf]; omega
            · go_wp2
              go_roundw
              case rel => exact ⟨i + 1, by omega, by first | go_num | (congr 1; omega), ⟨false, rfl, HP⟩, trivial⟩
              case measure => simp [intOf]; omega
      · obtain rfl : i = s.length := by omega
        have hil : ¬ (s.length : Int) < (s.length : Int) := by omega
        cases C
        · have HNO : Hid ((decide ((0 : Int) = 0) && decide (s ≠ []) && pfx s s.length) = false) := by rw [Hid, ← HC.out]; simp
          go_wp2
          go_loopw [5] (fun iv wr => ∃ i : Nat, i ≤ n ∧ iv = .int .i64 (i : Nat) ∧ Hid ((q.take i).any dg = false) ∧ Hid (Below w.heap.size w wr) ∧ Hid (wr.heap[z]? = some (.cells #[.int .i64 0, .string ⟨⟨s⟩⟩, .int .i64 m, .slice A n ca] 25 (0, 0)))) (fun iv _ => n - (intOf iv).toNat)
          case atStart => exact ⟨0, by omega, rfl, Lib.hid (by simp), HBW, HGW⟩
          case round =>
            obtain ⟨i, hi, rfl, HA, HB, HG⟩ := hrel
            obtain ⟨c0, c1, c2, c3⟩ := cell4 HG.out
            by_cases hlt : i < n
            · have hlt1 : i < q.length := by rw [← HN.out]; exact hlt
              have hil : (i : Int) < (n : Int) := by omega
              obtain ⟨b, o, k1, s1, m1, q1, B1, cb1, rfl, hSb, hx, d0, d1, d2, d3, hrep⟩ := trow_get HR.out HB.out HS.out hlt1
              have hmem : q[i] ∈ q := List.getElem_mem hlt1
              have hszm := bks_mem q _ hmem
              have hc := HI.out _ hmem
              have hta := List.take_succ_eq_append_getElem hlt1
              rw [hx] at hmem hc hszm hta
              have hcall := hc S _ wr (by omega) hrep (fun b hb => Nat.lt_of_lt_of_le (HS.out b hb) HB.out.size)
              have hzl := (Array.getElem?_eq_some_iff.1 HG.out).1
              cases hdg : dg (.mk k1 s1 m1 q1)
              · rw [hdg] at hcall
                have HC := Lib.hid hcall
                have HA2 : Hid ((q.take (i + 1)).any dg = false) := by rw [Hid, hta, List.any_append, HA.out]; simp [hdg]
                clear hcall hc hx hrep hmem hszm hta hdg HA
                go_wp2_with fail
                refine HC.out.mono ?_
                rintro _ w1 ⟨rfl, b1⟩
                have HB1 : Hid (Below w.heap.size w w1) := HB.out.trans (b1.mono HB.out.size)
                have HG1 := Lib.hid ((b1.block z hzl).trans HG.out)
                clear b1 HC HB HG c0 c1 c2 c3 d0 d1 d2 d3
                go_wp2
                go_roundw
                case rel => exact ⟨i + 1, by omega, by go_num, HA2, HB1, HG1⟩
                case measure => simp [intOf]; omega
              · rw [hdg] at hcall
                have HC := Lib.hid hcall
                have HT : Hid (R = true) := by
                  rw [Hid, HRR.out, dgl_any]
                  have : q.any dg = true := List.any_eq_true.2 ⟨_, hmem, hdg⟩
                  rw [this, Bool.or_true]
                clear hcall hc hx hrep hmem hszm hta hdg HA
                go_wp2_with fail
                refine HC.out.mono ?_
                rintro _ w1 ⟨rfl, b1⟩
                have HB1 : Hid (Below w.heap.size w w1) := HB.out.trans (b1.mono HB.out.size)
                clear b1 HC HB HG c0 c1 c2 c3 d0 d1 d2 d3
                go_wp2
                go_ret
                exact ⟨ret_b2 HT.out.symm, HB1.out⟩
            · have hie : q.take i = q := List.take_of_length_le (by rw [← HN.out]; omega)
              have hA := HA.out
              rw [hie] at hA
              have HT : Hid (R = false) := by
                rw [Hid, HRR.out, dgl_any, hA, HNO.out]
                rfl
              have hil : ¬ (i : Int) < (n : Int) := by omega
              clear hA HA hie
              go_wp2
              go_ret
              exact ⟨ret_b2 HT.out.symm, HB.out⟩

        · have HT : Hid (R = true) := by rw [Hid, HRR.out, HK0.out, ← HC.out]; simp
          go_wp2
          go_ret
          exact ⟨ret_b2 HT.out.symm, HBW.out⟩
  · have HNO : Hid ((decide (k = 0) && decide (s ≠ []) && pfx s s.length) = false) := by
      rw [Hid]
      by_cases h1 : k = 0
      · have h2 : s = [] := Decidable.byContradiction fun h2 => hname ⟨h1, h2⟩
        simp [h2]
      · simp [h1]
    rw [hz] at c0 c1 c2 c3
    have hs2 : k = 0 → (s == ([] : List UInt8)) = true := fun h1 => by
      have h2 : s = [] := Decidable.byContradiction fun h2 => hname ⟨h1, h2⟩
      simp [h2]
    clear hname hg0 hz
    by_cases hk : k = 0
    · subst hk
      have hse := hs2 rfl
      clear hs2
      go_enter Tryd.func42, Tryd.ntmps42
      go_wp2
      rw [← HZ.out]
      go_loopw [5] (fun iv wr => ∃ i : Nat, i ≤ n ∧ iv = .int .i64 (i : Nat) ∧ Hid ((q.take i).any dg = false) ∧ Hid (Below w.heap.size w wr) ∧ Hid (wr.heap[z]? = some (.cells #[.int .i64 0, .string ⟨⟨s⟩⟩, .int .i64 m, .slice A n ca] 25 (0, 0)))) (fun iv _ => n - (intOf iv).toNat)
      case atStart => exact ⟨0, by omega, rfl, Lib.hid (by simp), HB0, HG0⟩
      case round =>
        obtain ⟨i, hi, rfl, HA, HB, HG⟩ := hrel
        obtain ⟨c0, c1, c2, c3⟩ := cell4 HG.out
        by_cases hlt : i < n
        · have hlt1 : i < q.length := by rw [← HN.out]; exact hlt
          have hil : (i : Int) < (n : Int) := by omega
          obtain ⟨b, o, k1, s1, m1, q1, B1, cb1, rfl, hSb, hx, d0, d1, d2, d3, hrep⟩ := trow_get HR.out HB.out HS.out hlt1
          have hmem : q[i] ∈ q := List.getElem_mem hlt1
          have hszm := bks_mem q _ hmem
          have hc := HI.out _ hmem
          have hta := List.take_succ_eq_append_getElem hlt1
          rw [hx] at hmem hc hszm hta
          have hcall := hc S _ wr (by omega) hrep (fun b hb => Nat.lt_of_lt_of_le (HS.out b hb) HB.out.size)
          have hzl := (Array.getElem?_eq_some_iff.1 HG.out).1
          cases hdg : dg (.mk k1 s1 m1 q1)
          · rw [hdg] at hcall
            have HC := Lib.hid hcall
            have HA2 : Hid ((q.take (i + 1)).any dg = false) := by rw [Hid, hta, List.any_append, HA.out]; simp [hdg]
            clear hcall hc hx hrep hmem hszm hta hdg HA
            go_wp2_with fail
            refine HC.out.mono ?_
            rintro _ w1 ⟨rfl, b1⟩
            have HB1 : Hid (Below w.heap.size w w1) := HB.out.trans (b1.mono HB.out.size)
            have HG1 := Lib.hid ((b1.block z hzl).trans HG.out)
            clear b1 HC HB HG c0 c1 c2 c3 d0 d1 d2 d3
            go_wp2
            go_roundw
            case rel => exact ⟨i + 1, by omega, by go_num, HA2, HB1, HG1⟩
            case measure => simp [intOf]; omega
          · rw [hdg] at hcall
            have HC := Lib.hid hcall
            have HT : Hid (R = true) := by
              rw [Hid, HRR.out, dgl_any]
              have : q.any dg = true := List.any_eq_true.2 ⟨_, hmem, hdg⟩
              rw [this, Bool.or_true]
            clear hcall hc hx hrep hmem hszm hta hdg HA
            go_wp2_with fail
            refine HC.out.mono ?_
            rintro _ w1 ⟨rfl, b1⟩
            have HB1 : Hid (Below w.heap.size w w1) := HB.out.trans (b1.mono HB.out.size)
            clear b1 HC HB HG c0 c1 c2 c3 d0 d1 d2 d3
            go_wp2
            go_ret
            exact ⟨ret_b2 HT.out.symm, HB1.out⟩
        · have hie : q.take i = q := List.take_of_length_le (by rw [← HN.out]; omega)
          have hA := HA.out
          rw [hie] at hA
          have HT : Hid (R = false) := by
            rw [Hid, HRR.out, dgl_any, hA, HNO.out]
            rfl
          have hil : ¬ (i : Int) < (n : Int) := by omega
          clear hA HA hie
          go_wp2
          go_ret
          exact ⟨ret_b2 HT.out.symm, HB.out⟩

    · clear hs2
      go_enter Tryd.func42, Tryd.ntmps42
      go_wp2
      rw [← HZ.out]
      go_loopw [5] (fun iv wr => ∃ i : Nat, i ≤ n ∧ iv = .int .i64 (i : Nat) ∧ Hid ((q.take i).any dg = false) ∧ Hid (Below w.heap.size w wr) ∧ Hid (wr.heap[z]? = some (.cells #[.int .i64 k, .string ⟨⟨s⟩⟩, .int .i64 m, .slice A n ca] 25 (0, 0)))) (fun iv _ => n - (intOf iv).toNat)
      case atStart => exact ⟨0, by omega, rfl, Lib.hid (by simp), HB0, HG0⟩
      case round =>
        obtain ⟨i, hi, rfl, HA, HB, HG⟩ := hrel
        obtain ⟨c0, c1, c2, c3⟩ := cell4 HG.out
        by_cases hlt : i < n
        · have hlt1 : i < q.length := by rw [← HN.out]; exact hlt
          have hil : (i : Int) < (n : Int) := by omega
          obtain ⟨b, o, k1, s1, m1, q1, B1, cb1, rfl, hSb, hx, d0, d1, d2, d3, hrep⟩ := trow_get HR.out HB.out HS.out hlt1
          have hmem : q[i] ∈ q := List.getElem_mem hlt1
          have hszm := bks_mem q _ hmem
          have hc := HI.out _ hmem
          have hta := List.take_succ_eq_append_getElem hlt1
          rw [hx] at hmem hc hszm hta
          have hcall := hc S _ wr (by omega) hrep (fun b hb => Nat.lt_of_lt_of_le (HS.out b hb) HB.out.size)
          have hzl := (Array.getElem?_eq_some_iff.1 HG.out).1
          cases hdg : dg (.mk k1 s1 m1 q1)
          · rw [hdg] at hcall
            have HC := Lib.hid hcall
            have HA2 : Hid ((q.take (i + 1)).any dg = false) := by rw [Hid, hta, List.any_append, HA.out]; simp [hdg]
            clear hcall hc hx hrep hmem hszm hta hdg HA
            go_wp2_with fail
            refine HC.out.mono ?_
            rintro _ w1 ⟨rfl, b1⟩
            have HB1 : Hid (Below w.heap.size w w1) := HB.out.trans (b1.mono HB.out.size)
            have HG1 := Lib.hid ((b1.block z hzl).trans HG.out)
            clear b1 HC HB HG c0 c1 c2 c3 d0 d1 d2 d3
            go_wp2
            go_roundw
            case rel => exact ⟨i + 1, by omega, by go_num, HA2, HB1, HG1⟩
            case measure => simp [intOf]; omega
          · rw [hdg] at hcall
            have HC := Lib.hid hcall
            have HT : Hid (R = true) := by
              rw [Hid, HRR.out, dgl_any]
              have : q.any dg = true := List.any_eq_true.2 ⟨_, hmem, hdg⟩
              rw [this, Bool.or_true]
            clear hcall hc hx hrep hmem hszm hta hdg HA
            go_wp2_with fail
            refine HC.out.mono ?_
            rintro _ w1 ⟨rfl, b1⟩
            have HB1 : Hid (Below w.heap.size w w1) := HB.out.trans (b1.mono HB.out.size)
            clear b1 HC HB HG c0 c1 c2 c3 d0 d1 d2 d3
            go_wp2
            go_ret
            exact ⟨ret_b2 HT.out.symm, HB1.out⟩
        · have hie : q.take i = q := List.take_of_length_le (by rw [← HN.out]; omega)
          have hA := HA.out
          rw [hie] at hA
          have HT : Hid (R = false) := by
            rw [Hid, HRR.out, dgl_any, hA, HNO.out]
            rfl
          have hil : ¬ (i : Int) < (n : Int) := by omega
          clear hA HA hie
          go_wp2
          go_ret
          exact ⟨ret_b2 HT.out.symm, HB.out⟩)
end Go.Proofs.YtfhcfaflggiacaaDoor
