import Derived.Test.YtmjpjbnaahdcmaaW6
import Derived.Test.YtmjpjbnaahdcmaaMemB
namespace Go.Proofs.Ytmjpjbnaahdcmaa
open Go.RowKit
open Wr

/-- A row lies where it lay, or in a new block. -/
def Far (w : World) (v v' : Value) : Prop := v'.ownBlock = v.ownBlock ∨ ∃ g, v'.ownBlock = some g ∧ w.heap.size ≤ g

theorem far_trans {w w1 w2 : World} {v v1 v2 : Value} (h1 : w.grownBy w1 v.ownBlock) (f1 : Far w v v1) (h2 : w1.grownBy w2 v1.ownBlock) (f2 : Far w1 v1 v2) : w.grownBy w2 v.ownBlock ∧ Far w v v2 := by
  refine ⟨⟨h2.os.trans h1.os, h2.tape.trans h1.tape, h2.output.trans h1.output, Nat.le_trans h1.size h2.size, fun k hk hne => ?_⟩, ?_⟩
  · rw [h2.block k (Nat.lt_of_lt_of_le hk h1.size) ?_, h1.block k hk hne]
    rcases f1 with f | ⟨g, f, hg⟩
    · rw [f]; exact hne
    · rw [f]; intro e; injection e with e; omega
  · rcases f2 with f | ⟨g, f, hg⟩
    · unfold Far; rw [f]; exact f1
    · exact .inr ⟨g, f, Nat.le_trans h1.size hg⟩

/-- What a call that lays bytes behind a row leaves. -/
def Grew (base : Nat) (w : World) (v : Value) (k : Nat) (xs : List Value) (l : List UInt8) (e : Ending) (w' : World) : Prop :=
  ∃ v', e = .returned v' ∧ OwnB w' base v' (k + l.length) (xs ++ Lib.byteCells l) ∧ w.grownBy w' v.ownBlock ∧ Far w v v'

theorem la_lt {n : Nat} (h : n < 128) : la n = [UInt8.ofNat (n + 128)] := by rw [la, dif_pos h]
theorem la_ge {n : Nat} (h : ¬ n < 128) : la n = la (n / 128) ++ [UInt8.ofNat (n % 128 + 128)] := by rw [la, dif_neg h]
theorem la_le (n : Nat) : (la n).length ≤ n + 1 := by
  induction n using Nat.strongRecOn with
  | ind n ih =>
    by_cases h : n < 128
    · rw [la_lt h]; simp
    · rw [la_ge h]
      have := ih (n / 128) (by omega)
      simp; omega

theorem own_one {base : Nat} {w : World} {v : Value} {k : Nat} {xs : List Value} {t : TypeId} {u : Value} (h : OwnB w base v k xs) : Hid (OwnB (w.alloc (.cells #[u] t)) base v k xs) := h.alloc _

/-- One byte more behind what is there. -/
theorem grew_one {base : Nat} {w w1 w2 : World} {v v1 v2 : Value} {k k1 : Nat} {xs xs1 : List Value} {l : List UInt8} {c : UInt8} {u : Value} {o : Obj} (hu : u = .int .u8 c.toNat) (hk : k1 = k + l.length) (hx : xs1 = xs ++ Lib.byteCells l)
    (hg : w.grownBy w1 v.ownBlock) (hf : Far w v v1) (hown : OwnB w2 base v2 (k1 + 1) (xs1 ++ [u])) (hg2 : (w1.alloc o).grownBy w2 v1.ownBlock) (hat : v2.ownBlock = v1.ownBlock ∨ v2.ownBlock = some (w1.alloc o).heap.size) :
    Grew base w v k xs (l ++ [c]) (.returned v2) w2 := by
  subst hu hk hx
  have hg12 : w1.grownBy w2 v1.ownBlock := (World.grownBy_alloc w1 o _).trans hg2
  have hf2 : Far w1 v1 v2 := by
    rcases hat with h | h
    · exact .inl h
    · exact .inr ⟨_, h, by simp⟩
  obtain ⟨h1, h2⟩ := far_trans hg hf hg12 hf2
  refine ⟨v2, rfl, ?_, h1, h2⟩
  rw [Lib.byteCells_append, List.length_append, ← List.append_assoc]
  exact hown

set_option maxHeartbeats 1000000 in
set_option maxRecDepth 100000 in
theorem writeAhead_any : ∀ (n : Nat) (ni : Int) (base : Nat) (w : World) (v : Value) (k : Nat) (xs : List Value), ni = n → n ≤ 2000000 → k ≤ 4000000 → base ≤ w.heap.size → OwnB w base v k xs →
    Calls Try.prog 36 #[v, .int .i64 ni] w (Grew base w v k xs (la n)) := by
  intro n
  induction n using Nat.strongRecOn with
  | ind n ih =>
    intro ni base w v k xs hni hn hk hbase hown
    obtain ⟨bs, hbs⟩ : ∃ bs, bs = la n := ⟨_, rfl⟩
    rw [← hbs]
    by_cases h : n < 128
    · have hni1 : 0 ≤ ni ∧ ni < 128 := by omega
      have HB : Hid (bs = [] ++ [UInt8.ofNat (n + 128)]) := by rw [hbs, la_lt h]; rfl
      have HC : Hid (Value.int .u8 (ni % 128 + 128) = .int .u8 ((UInt8.ofNat (n + 128)).toNat : Int)) := by
        show _ = _
        congr 1
        simp
        omega
      have HO := own_one (t := 5) (u := .int .u8 (ni % 128 + 128)) hown
      clear hbs ih hni hown
      go_enter Try.func36, Try.ntmps36
      go_wp2_with (
        at_builtin
        go_must (
          refine wpList_appendB _ rfl (.tmp 11) (.tmp 16) rfl base v k xs rfl HO.out ⟨w.heap.size, 0, none⟩ 1 1 [.int .u8 (ni % 128 + 128)] rfl rfl (cell_one_new _ _ _) (by simp [Value.oneCell']) (by omega) (by simp; omega) ?_
          intro v2 w2 hown2 hg2 hat
          have HG2 := Lib.hid hg2
          have HAT := Lib.hid hat
          have HO2 := Lib.hid hown2
          clear hg2 hat hown2))
      go_ret
      rw [HB.out]
      exact grew_one HC.out rfl (by simp [Lib.byteCells]) (World.grownBy.refl _ _) (.inl rfl) HO2.out HG2.out HAT.out
    · have hni1 : 128 ≤ ni ∧ ni ≤ 2000000 := by omega
      have HB : Hid (bs = la (n / 128) ++ [UInt8.ofNat (n % 128 + 128)]) := by rw [hbs, la_ge h]; rfl
      have HC : Hid (Value.int .u8 (ni % 128 + 128) = .int .u8 ((UInt8.ofNat (n % 128 + 128)).toNat : Int)) := by
        show _ = _
        congr 1
        simp
        omega
      have HNI := Lib.hid hni
      have HIH := Lib.hid (ih (n / 128) (by omega))
      have HO := Lib.hid hown
      have hle := la_le (n / 128)
      clear hbs ih hni hown
      go_enter Try.func36, Try.ntmps36
      go_wp2_with fail
      refine (HIH.out _ base _ v k xs (by have := HNI.out; omega) (by omega) hk hbase HO.out).mono ?_
      rintro _ w1 ⟨v1, rfl, hown1, hg1, hf1⟩
      have HO1 := own_one (t := 5) (u := .int .u8 (ni % 128 + 128)) hown1
      have HG1 := Lib.hid hg1
      have HF1 := Lib.hid hf1
      have hbase1 : base ≤ w1.heap.size := Nat.le_trans hbase hg1.size
      clear hown1 hg1 hf1
      go_wp2_with (
        at_builtin
        go_must (
          refine wpList_appendB _ rfl (.tmp 11) (.tmp 16) rfl base v1 (k + (la (n / 128)).length) (xs ++ Lib.byteCells (la (n / 128))) rfl HO1.out ⟨w1.heap.size, 0, none⟩ 1 1 [.int .u8 (ni % 128 + 128)] rfl rfl (cell_one_new _ _ _) (by simp [Value.oneCell']) (by omega) (by simp; omega) ?_
          intro v2 w2 hown2 hg2 hat
          have HG2 := Lib.hid hg2
          have HAT := Lib.hid hat
          have HO2 := Lib.hid hown2
          clear hg2 hat hown2))
      go_ret
      rw [HB.out]
      exact grew_one HC.out rfl rfl HG1.out HF1.out HO2.out HG2.out HAT.out

set_option maxHeartbeats 1000000 in
set_option maxRecDepth 100000 in
theorem writeLength_any (n : Nat) (ni : Int) (base : Nat) (w : World) (v : Value) (k : Nat) (xs : List Value) (hni : ni = n) (hn : n ≤ 2000000) (hk : k ≤ 4000000) (hbase : base ≤ w.heap.size) (hown : OwnB w base v k xs) :
    Calls Try.prog 27 #[v, .int .i64 ni] w (Grew base w v k xs (lb n)) := by
  obtain ⟨bs, hbs⟩ : ∃ bs, bs = lb n := ⟨_, rfl⟩
  rw [← hbs]
  have HC : Hid (Value.int .u8 (ni % 128) = .int .u8 ((UInt8.ofNat (n % 128)).toNat : Int)) := by
    show _ = _
    congr 1
    simp
    omega
  by_cases h : n < 128
  · have hni1 : 0 ≤ ni ∧ ni < 128 := by omega
    have HB : Hid (bs = [] ++ [UInt8.ofNat (n % 128)]) := by rw [hbs, lb, if_pos h]; rfl
    have HO := own_one (t := 5) (u := .int .u8 (ni % 128)) hown
    clear hbs hni hown
    go_enter Try.func27, Try.ntmps27
    go_wp2_with (
      at_builtin
      go_must (
        refine wpList_appendB _ rfl (.tmp 11) (.tmp 15) rfl base v k xs rfl HO.out ⟨w.heap.size, 0, none⟩ 1 1 [.int .u8 (ni % 128)] rfl rfl (cell_one_new _ _ _) (by simp [Value.oneCell']) (by omega) (by simp; omega) ?_
        intro v2 w2 hown2 hg2 hat
        have HG2 := Lib.hid hg2
        have HAT := Lib.hid hat
        have HO2 := Lib.hid hown2
        clear hg2 hat hown2))
    go_ret
    rw [HB.out]
    exact grew_one HC.out rfl (by simp [Lib.byteCells]) (World.grownBy.refl _ _) (.inl rfl) HO2.out HG2.out HAT.out
  · have hni1 : 128 ≤ ni ∧ ni ≤ 2000000 := by omega
    have HB : Hid (bs = la (n / 128) ++ [UInt8.ofNat (n % 128)]) := by rw [hbs, lb, if_neg h]; rfl
    have HNI := Lib.hid hni
    have HO := Lib.hid hown
    have hle := la_le (n / 128)
    clear hbs hni hown
    go_enter Try.func27, Try.ntmps27
    go_wp2_with fail
    refine (writeAhead_any (n / 128) _ base _ v k xs (by have := HNI.out; omega) (by omega) hk hbase HO.out).mono ?_
    rintro _ w1 ⟨v1, rfl, hown1, hg1, hf1⟩
    have HO1 := own_one (t := 5) (u := .int .u8 (ni % 128)) hown1
    have HG1 := Lib.hid hg1
    have HF1 := Lib.hid hf1
    have hbase1 : base ≤ w1.heap.size := Nat.le_trans hbase hg1.size
    clear hown1 hg1 hf1
    go_wp2_with (
      at_builtin
      go_must (
        refine wpList_appendB _ rfl (.tmp 11) (.tmp 15) rfl base v1 (k + (la (n / 128)).length) (xs ++ Lib.byteCells (la (n / 128))) rfl HO1.out ⟨w1.heap.size, 0, none⟩ 1 1 [.int .u8 (ni % 128)] rfl rfl (cell_one_new _ _ _) (by simp [Value.oneCell']) (by omega) (by simp; omega) ?_
        intro v2 w2 hown2 hg2 hat
        have HG2 := Lib.hid hg2
        have HAT := Lib.hid hat
        have HO2 := Lib.hid hown2
        clear hg2 hat hown2))
    go_ret
    rw [HB.out]
    exact grew_one HC.out rfl rfl HG1.out HF1.out HO2.out HG2.out HAT.out
end Go.Proofs.Ytmjpjbnaahdcmaa
