/- carry: the reader's key, readName, readNum. (Laid with NS=1.) -/
import Derived.Test.YticofjbngfjjlaaGreatDoorGACyU2
namespace Go.Proofs.YticofjbngfjjlaaGreatDoor.Cy
open Go.RowKit
open Te Te.Tt
open Wi.Wr (It wr wrs)

/-- Blocks made since the world had m of them. -/
def Nw (m : Nat) (w' : World) (b : Nat) : Prop := m ≤ b ∧ b < w'.heap.size
/-- What the reader's functions leave. -/
def RPost (E : Rd) (V : World) (r : Except Int Tm) (e : Ending) (w' : World) : Prop :=
  (match r with
  | .error x => e = .returned (.tuple #[.agg zeroT, .int .i64 x])
  | .ok t => ∃ v0 v1 v2 v3, e = .returned (.tuple #[.agg #[v0, v1, v2, v3], .int .i64 0]) ∧ Rep w' (Nw V.heap.size w') t (.agg #[v0, v1, v2, v3])) ∧ E.lies w' ∧ Oth V.heap.size E.gb V w'

set_option maxRecDepth 100000 in
theorem keyIn_any (b s : List UInt8) (sb : Nat) (W : World) (hb : b.length ≤ 100000) (h : W.heap[sb]? = some (.cells #[.string ⟨⟨s⟩⟩] 9 (0, 0))) :
    Calls Tryz.prog 144 #[.string ⟨⟨b⟩⟩, .pointer (some ⟨sb, 0, none⟩)] W fun e w' => e = .returned (.bool (decide (b = s))) ∧ Below W.heap.size W w' := by
  have hc : W.cell? ⟨sb, 0, none⟩ = some (.string ⟨⟨s⟩⟩) := by rw [cell_of_row _ _ _ _ _ _ h]; rfl
  have HE := Lib.hid (Equal_any b s W (by omega))
  clear h
  go_enter Tryz.func144, Tryz.ntmps144
  go_wp2_with fail
  refine HE.out.mono ?_
  rintro _ w1 ⟨rfl, b1⟩
  have HB := Lib.hid b1
  clear b1 HE
  go_wp2
  go_ret
  exact ⟨rfl, HB.out⟩

theorem oth_one {E : Rd} {V W : World} (h : Ot2 V.heap.size E.gb E.gb V W) (hl : E.lies W) (hv : Below E.w0.heap.size E.w0 V) : Oth V.heap.size E.gb V W :=
  ⟨hl.below.os.trans hv.os.symm, hl.below.tape.trans hv.tape.symm, hl.below.output.trans hv.output.symm, h.size, fun k hk hg => h.block k hk hg hg⟩

set_option maxHeartbeats 2000000 in
set_option maxRecDepth 100000 in
theorem rkey_any (E : Rd) (ho : E.ok) (s : List UInt8) (V : World) (hV : E.lies V) :
    Calls Tryz.prog 113 #[.pointer (some ⟨E.R, 0, none⟩), .string ⟨⟨s⟩⟩] V (RPost E V (match fnd E.c (fun b => decide (b = s)) E.ks with | none => .error 21 | some k => .ok k)) := by
  have hb1 : Below V.heap.size V ((V.alloc (.cells #[.string ⟨⟨s⟩⟩] 9)).alloc (.cells zeroT 25)) := ((Below.refl _ _).alloc (Nat.le_refl _) _).alloc (by simp) _
  have hg1 : ((V.alloc (.cells #[.string ⟨⟨s⟩⟩] 9)).alloc (.cells zeroT 25)).heap[V.heap.size]? = some (.cells #[.string ⟨⟨s⟩⟩] 9 (0, 0)) := by
    rw [heap_alloc_old _ _ (by simp)]; exact heap_alloc_new _ _
  have hg2 : ((V.alloc (.cells #[.string ⟨⟨s⟩⟩] 9)).alloc (.cells zeroT 25)).heap[V.heap.size + 1]? = some (.cells zeroT 25 (0, 0)) := by
    have h := heap_alloc_new (V.alloc (.cells #[.string ⟨⟨s⟩⟩] 9)) (.cells zeroT 25)
    rw [World.size_alloc] at h
    exact h
  have hsz : ((V.alloc (.cells #[.string ⟨⟨s⟩⟩] 9)).alloc (.cells zeroT 25)).heap.size = V.heap.size + 2 := by simp
  have hV1 := hV.next hb1
  have hFI := first_key E ho (fun b => decide (b = s)) (fun W => W.heap[V.heap.size]? = some (.cells #[.string ⟨⟨s⟩⟩] 9 (0, 0))) (fun _ _ => True) E.gb (.pointer (some ⟨V.heap.size, 0, none⟩)) _ hV1 hg1
    (fun W W' h hh => (hh.block _ (by omega) (by have := hV.blt; omega)).trans h) (fun _ _ _ _ _ => trivial) hV1.blt
    (fun b W hb hl hj => (keyIn_any b s V.heap.size W (by omega) hj).mono fun _ _ ⟨he, hbl⟩ => ⟨he, hl.next hbl, (hbl.block _ (Array.getElem?_eq_some_iff.1 hj).1).trans hj, fun _ => trivial, Oth.of hbl⟩)
  unfold zeroT at *
  have HFI := Lib.hid hFI
  have HB1 := Lib.hid hb1
  have HG2 := Lib.hid hg2
  have HSZ := Lib.hid hsz
  have HV := Lib.hid hV
  have HGL := Lib.hid hV.blt
  obtain ⟨F, hF⟩ : ∃ F, F = fnd E.c (fun b => decide (b = s)) E.ks := ⟨_, rfl⟩
  rw [← hF]
  have HFF := Lib.hid hF
  have HKF : Hid (∀ k, F = some k → ∀ (W : World) (S : Nat → Prop) (KB : Option Addr) (kcb : Nat), InR k.n → Rep W S k (.agg #[.int .i64 2, .string ⟨⟨k.s⟩⟩, .int .i64 k.n, .slice KB 0 kcb])) := by
    intro k hk W S KB kcb hin
    rw [hF] at hk
    obtain ⟨h1, h2, -⟩ := ho.keys k (fnd_mem hk).1
    obtain ⟨kk, ks, kn, kl⟩ := k
    simp only [Tm.k, Tm.l, Tm.s, Tm.n] at *
    subst h1
    subst h2
    exact rep_mk.2 ⟨KB, kcb, rfl, hin, .inl rfl⟩
  clear hb1 hg1 hg2 hsz hV1 hFI hF
  go_enter Tryz.func113, Tryz.ntmps113
  go_wp2_with fail
  refine HFI.out.mono ?_
  rintro e w1 hp
  unfold FirstPost zeroT keyV at hp
  rw [← HFF.out] at hp
  obtain ⟨hp, hl1, -, ho1⟩ := hp
  have hoo : Oth V.heap.size E.gb V w1 := (Oth.of HB1.out).trans ((oth_one ho1 hl1 (HV.out.below.trans (HB1.out.mono HV.out.below.size))).mono (by have := HSZ.out; omega))
  have hgz := (ho1.block (V.heap.size + 1) (by have := HSZ.out; omega) (by have := HGL.out; omega) (by have := HGL.out; omega)).trans HG2.out
  have HL1 := Lib.hid hl1
  have HOO := Lib.hid hoo
  have HGZ := Lib.hid hgz
  have HS1 := Lib.hid (show V.heap.size + 2 ≤ w1.heap.size by have := ho1.size; have := HSZ.out; omega)
  clear hl1 ho1 hoo hgz HB1 HG2 HSZ HFI HFF
  cases F with
  | none =>
    simp only at hp
    subst hp
    have hw := (HL1.out.next ((Below.refl _ _).alloc (Nat.le_refl _) (.cells #[.int .i64 0, .string ⟨⟨[]⟩⟩, .int .i64 0, .slice none 0 0] 25)))
    have hbw : Below w1.heap.size w1 (w1.alloc (.cells #[.int .i64 0, .string ⟨⟨[]⟩⟩, .int .i64 0, .slice none 0 0] 25)) := (Below.refl _ _).alloc (Nat.le_refl _) _
    have hgw := (hbw.block (V.heap.size + 1) (by have := HS1.out; omega)).trans HGZ.out
    have hbn := heap_alloc_new w1 (.cells #[.int .i64 0, .string ⟨⟨[]⟩⟩, .int .i64 0, .slice none 0 0] 25)
    have hso := set4_below (v0 := .int .i64 0) (v1 := .string ⟨⟨[]⟩⟩) (v2 := .int .i64 0) (v3 := .slice none 0 0) (Below.refl (V.heap.size + 1) (w1.alloc (.cells #[.int .i64 0, .string ⟨⟨[]⟩⟩, .int .i64 0, .slice none 0 0] 25))) (Nat.le_refl (V.heap.size + 1))
    have HRES := Lib.hid (set4_self' (v0 := .int .i64 0) (v1 := .string ⟨⟨[]⟩⟩) (v2 := .int .i64 0) (v3 := .slice none 0 0) hgw)
    have HLF := Lib.hid (hw.keep4 ho hso (by have := HGL.out; omega) (by have := HV.out.rlt; omega) (by have := HV.out.gk; omega))
    have HOF := Lib.hid ((HOO.out.trans (Oth.of (hbw.mono (by have := HS1.out; omega)))).trans (Oth.of (hso.mono (by omega))))
    obtain ⟨x0, x1, x2, x3⟩ := cell4 hbn
    obtain ⟨y0, y1, y2, y3⟩ := cell4 hgw
    have f0 := fun j => frozen_of_row _ _ j _ _ hgw
    clear hw hbw hgw hbn hso HL1 HOO HGZ HS1
    go_wp2
    obtain ⟨y0, y1, y2, y3⟩ := cell4 HRES.out
    exact bodyPost_ret (v := .tuple #[.agg #[.int .i64 0, .string ⟨⟨[]⟩⟩, .int .i64 0, .slice none 0 0], .int .i64 21]) (by simp [results, Tryz.results113, go_sem, y0, y1, y2, y3]) rfl ⟨rfl, HLF.out, HOF.out⟩
  | some k =>
    obtain ⟨⟨KB, kcb, he⟩, hin, -⟩ := hp
    subst he
    have HIN := Lib.hid hin
    clear hin
    have hw := (HL1.out.next ((Below.refl _ _).alloc (Nat.le_refl _) (.cells #[.int .i64 2, .string ⟨⟨k.s⟩⟩, .int .i64 k.n, .slice KB 0 kcb] 25)))
    have hbw : Below w1.heap.size w1 (w1.alloc (.cells #[.int .i64 2, .string ⟨⟨k.s⟩⟩, .int .i64 k.n, .slice KB 0 kcb] 25)) := (Below.refl _ _).alloc (Nat.le_refl _) _
    have hgw := (hbw.block (V.heap.size + 1) (by have := HS1.out; omega)).trans HGZ.out
    have hbn := heap_alloc_new w1 (.cells #[.int .i64 2, .string ⟨⟨k.s⟩⟩, .int .i64 k.n, .slice KB 0 kcb] 25)
    have hso := set4_below (v0 := .int .i64 2) (v1 := .string ⟨⟨k.s⟩⟩) (v2 := .int .i64 k.n) (v3 := .slice KB 0 kcb) (Below.refl (V.heap.size + 1) (w1.alloc (.cells #[.int .i64 2, .string ⟨⟨k.s⟩⟩, .int .i64 k.n, .slice KB 0 kcb] 25))) (Nat.le_refl (V.heap.size + 1))
    have HRES := Lib.hid (set4_self' (v0 := .int .i64 2) (v1 := .string ⟨⟨k.s⟩⟩) (v2 := .int .i64 k.n) (v3 := .slice KB 0 kcb) hgw)
    have HLF := Lib.hid (hw.keep4 ho hso (by have := HGL.out; omega) (by have := HV.out.rlt; omega) (by have := HV.out.gk; omega))
    have HOF := Lib.hid ((HOO.out.trans (Oth.of (hbw.mono (by have := HS1.out; omega)))).trans (Oth.of (hso.mono (by omega))))
    obtain ⟨x0, x1, x2, x3⟩ := cell4 hbn
    obtain ⟨y0, y1, y2, y3⟩ := cell4 hgw
    have f0 := fun j => frozen_of_row _ _ j _ _ hgw
    clear hw hbw hgw hbn hso HL1 HOO HGZ HS1
    go_wp2
    obtain ⟨y0, y1, y2, y3⟩ := cell4 HRES.out
    exact bodyPost_ret (v := .tuple #[.agg #[.int .i64 2, .string ⟨⟨k.s⟩⟩, .int .i64 k.n, .slice KB 0 kcb], .int .i64 0]) (by simp [results, Tryz.results113, go_sem, y0, y1, y2, y3]) rfl ⟨⟨_, _, _, _, rfl, HKF.out _ rfl _ _ KB kcb HIN.out⟩, HLF.out, HOF.out⟩
end Go.Proofs.YticofjbngfjjlaaGreatDoor.Cy

/- carry: readNumber, readNum, readName. (Laid with NS=1.) -/

namespace Go.Proofs.YticofjbngfjjlaaGreatDoor.Cy
open Go.RowKit
open Te Te.Tt
open Wi.Wr (It wr wrs)

theorem rv_snoc (s : List UInt8) (b : UInt8) : rv (s ++ [b]) = (rv s * 256 + b.toNat) % 18446744073709551616 := by simp [rv, List.foldl_append]
theorem rv_lt (s : List UInt8) : rv s < 18446744073709551616 := by
  rcases List.eq_nil_or_concat s with rfl | ⟨l, b, rfl⟩
  · decide
  · rw [List.concat_eq_append, rv_snoc]; omega

set_option maxRecDepth 100000 in
theorem or_step (r : Nat) (b : UInt8) : bits BinOp.or IntKind.u64 (IntKind.u64.wrap ((r : Int) * 256)) (b.toNat : Int) = (((r * 256 + b.toNat) % 18446744073709551616 : Nat) : Int) := by
  have hb := UInt8.toNat_lt b
  have h1 : IntKind.u64.wrap ((r : Int) * 256) = ((r % 72057594037927936 * 256 : Nat) : Int) := by rw [IntKind.wrap_u64]; omega
  rw [h1]
  have h2 : r % 72057594037927936 * 256 = (r % 72057594037927936) <<< 8 := by rw [Nat.shiftLeft_eq]
  have h3 : (r % 72057594037927936 * 256) ||| b.toNat = (r * 256 + b.toNat) % 18446744073709551616 := by
    rw [h2, ← Nat.shiftLeft_add_eq_or_of_lt (by omega), Nat.shiftLeft_eq]; omega
  rw [u64_or_nat _ _ (by omega) (by omega), h3]

set_option maxHeartbeats 1000000 in
set_option maxRecDepth 100000 in
theorem readNumber_any (s : List UInt8) (w : World) :
    Calls Tryz.prog 142 #[.string ⟨⟨s⟩⟩] w fun e w' => e = .returned (.tuple (if s.length = 8 then #[.int .i64 (rn s), .bool true] else #[.int .i64 0, .bool false])) ∧ Below w.heap.size w w' := by
  by_cases h8 : s.length = 8
  · rw [if_pos h8]
    have e1 : (((s.length : Nat) : Int) != 8) = false := by simp [h8]
    have H8 := Lib.hid h8
    have HRN : Hid (rn s = wrap64 ((rv s : Nat) : Int)) := rfl
    go_enter Tryz.func142, Tryz.ntmps142
    go_wp2
    go_loopw [4, 11] (fun v iv wr => ∃ i : Nat, i ≤ 8 ∧ iv = .int .i64 (i : Nat) ∧ v = .int .u64 ((rv (s.take i) : Nat) : Int) ∧ Hid (Below w.heap.size w wr)) (fun _ iv _ => 8 - (intOf iv).toNat)
    case atStart => exact ⟨0, by omega, rfl, rfl, Below.refl _ _⟩
    case round =>
      obtain ⟨i, hi, rfl, rfl, HB⟩ := hrel
      by_cases hlt : i < s.length
      · have hil : (i : Int) < (s.length : Int) := by omega
        have hba := byte_at s i hlt
        have hta : rv (s.take (i + 1)) = (rv (s.take i) * 256 + s[i].toNat) % 18446744073709551616 := by rw [List.take_succ_eq_append_getElem hlt, rv_snoc]
        have hcb : s[i].toNat < 256 := UInt8.toNat_lt _
        have hrl := rv_lt (s.take i)
        generalize rv (s.take i) = r at *
        have HTA := Lib.hid hta
        clear hta
        have hos := or_step r s[i]
        have HOS := Lib.hid hos
        clear hos
        go_wp2
        go_roundw
        case rel => exact ⟨i + 1, by omega, by go_num, by rw [HOS.out, HTA.out], HB⟩
        case measure => simp [intOf]; omega
      · have hie : s.take i = s := List.take_of_length_le (by omega)
        rw [hie]
        obtain ⟨r, hr⟩ : ∃ r, r = rv s := ⟨_, rfl⟩
        have HR := Lib.hid hr
        rw [← hr] at HRN ⊢
        clear hie hr
        go_wp2
        go_ret2
        exact ⟨by rw [HRN.out]; rfl, HB.out⟩
  · rw [if_neg h8]
    have e1 : (((s.length : Nat) : Int) != 8) = true := by simp; omega
    go_enter Tryz.func142, Tryz.ntmps142
    go_wp2
    go_ret2
    exact ⟨rfl, Below.refl _ _⟩

set_option maxHeartbeats 1000000 in
set_option maxRecDepth 100000 in
theorem readNum_any (s : List UInt8) (w : World) :
    Calls Tryz.prog 112 #[.string ⟨⟨s⟩⟩] w fun e w' => e = .returned (.tuple (if s.length = 8 then #[.agg #[.int .i64 1, .string ⟨⟨[]⟩⟩, .int .i64 (rn s), .slice none 0 0], .int .i64 0] else #[.agg #[.int .i64 0, .string ⟨⟨[]⟩⟩, .int .i64 0, .slice none 0 0], .int .i64 13])) ∧ Below w.heap.size w w' := by
  have hg0 := heap_alloc_new w (.cells #[.int .i64 0, .string ⟨#[]⟩, .int .i64 0, .slice none 0 0] 25)
  have hb0 : Below w.heap.size w (w.alloc (.cells #[.int .i64 0, .string ⟨#[]⟩, .int .i64 0, .slice none 0 0] 25)) := (Below.refl _ _).alloc (Nat.le_refl _) _
  have hs0 : (w.alloc (.cells #[.int .i64 0, .string ⟨#[]⟩, .int .i64 0, .slice none 0 0] 25)).heap.size = w.heap.size + 1 := by simp
  have HN := Lib.hid (readNumber_any s)
  have HM := Lib.hid (Num_any (rn s))
  have HG0 := Lib.hid hg0
  have HB0 := Lib.hid hb0
  have HS0 := Lib.hid hs0
  clear hg0 hb0 hs0
  by_cases h8 : s.length = 8
  · simp only [h8, if_true] at HN ⊢
    clear h8
    generalize rn s = r at *
    go_enter Tryz.func112, Tryz.ntmps112
    go_wp2_with fail
    refine (HN.out _).mono ?_
    rintro _ w1 ⟨rfl, b1⟩
    have HG1 := Lib.hid ((b1.block w.heap.size (by have := HS0.out; omega)).trans HG0.out)
    have HB1 := Lib.hid (HB0.out.trans (b1.mono (by have := HS0.out; omega)))
    clear b1 HG0 HB0 HS0 HN
    go_wp2_with fail
    refine (HM.out _).mono ?_
    rintro _ w2 ⟨rfl, b2⟩
    have hw1 := (Array.getElem?_eq_some_iff.1 HG1.out).1
    have hg2 := (b2.block w.heap.size hw1).trans HG1.out
    have HB2 := Lib.hid (HB1.out.trans (b2.mono (Nat.le_of_lt hw1)))
    obtain ⟨y0, y1, y2, y3⟩ := cell4 hg2
    have f0 := fun j => frozen_of_row _ _ j _ _ hg2
    have HRES := Lib.hid (set4_self' (v0 := .int .i64 1) (v1 := .string ⟨#[]⟩) (v2 := .int .i64 r) (v3 := .slice none 0 0) hg2)
    have HBF := Lib.hid (set4_below (v0 := .int .i64 1) (v1 := .string ⟨#[]⟩) (v2 := .int .i64 r) (v3 := .slice none 0 0) HB2.out (Nat.le_refl w.heap.size))
    clear b2 hw1 hg2 HG1 HB1 HB2 HM
    go_wp2
    obtain ⟨y0, y1, y2, y3⟩ := cell4 HRES.out
    exact bodyPost_ret (v := .tuple #[.agg #[.int .i64 1, .string ⟨#[]⟩, .int .i64 r, .slice none 0 0], .int .i64 0]) (by simp [results, Tryz.results112, go_sem, y0, y1, y2, y3]) rfl ⟨rfl, HBF.out⟩
  · simp only [h8, if_false] at HN ⊢
    clear h8 HM
    go_enter Tryz.func112, Tryz.ntmps112
    go_wp2_with fail
    refine (HN.out _).mono ?_
    rintro _ w1 ⟨rfl, b1⟩
    have hg2 := (b1.block w.heap.size (by have := HS0.out; omega)).trans HG0.out
    have HB2 := Lib.hid (HB0.out.trans (b1.mono (by have := HS0.out; omega)))
    obtain ⟨y0, y1, y2, y3⟩ := cell4 hg2
    have f0 := fun j => frozen_of_row _ _ j _ _ hg2
    have HRES := Lib.hid (set4_self' (v0 := .int .i64 0) (v1 := .string ⟨#[]⟩) (v2 := .int .i64 0) (v3 := .slice none 0 0) hg2)
    have HBF := Lib.hid (set4_below (v0 := .int .i64 0) (v1 := .string ⟨#[]⟩) (v2 := .int .i64 0) (v3 := .slice none 0 0) HB2.out (Nat.le_refl w.heap.size))
    clear b1 hg2 HG0 HB0 HB2 HS0 HN
    go_wp2
    obtain ⟨y0, y1, y2, y3⟩ := cell4 HRES.out
    exact bodyPost_ret (v := .tuple #[.agg #[.int .i64 0, .string ⟨#[]⟩, .int .i64 0, .slice none 0 0], .int .i64 13]) (by simp [results, Tryz.results112, go_sem, y0, y1, y2, y3]) rfl ⟨rfl, HBF.out⟩

set_option maxHeartbeats 1000000 in
set_option maxRecDepth 100000 in
theorem readName_any (s : List UInt8) (w : World) :
    Calls Tryz.prog 111 #[.string ⟨⟨s⟩⟩] w fun e w' => e = .returned (.tuple (if isName s = true then #[.agg #[.int .i64 0, .string ⟨⟨s⟩⟩, .int .i64 0, .slice none 0 0], .int .i64 0] else #[.agg #[.int .i64 0, .string ⟨⟨[]⟩⟩, .int .i64 0, .slice none 0 0], .int .i64 13])) ∧ Below w.heap.size w w' := by
  have hg0 := heap_alloc_new w (.cells #[.int .i64 0, .string ⟨#[]⟩, .int .i64 0, .slice none 0 0] 25)
  have hb0 : Below w.heap.size w (w.alloc (.cells #[.int .i64 0, .string ⟨#[]⟩, .int .i64 0, .slice none 0 0] 25)) := (Below.refl _ _).alloc (Nat.le_refl _) _
  have HN := Lib.hid (Name_any s)
  have HM := Lib.hid (Of_any s)
  have HG0 := Lib.hid hg0
  have HB0 := Lib.hid hb0
  clear hg0 hb0
  by_cases h8 : isName s = true
  · simp only [h8, if_true] at HN ⊢
    clear h8
    go_enter Tryz.func111, Tryz.ntmps111
    go_wp2_with fail
    refine (HN.out _).mono ?_
    rintro _ _ ⟨rfl, rfl⟩
    go_wp2_with fail
    refine (HM.out _).mono ?_
    rintro _ w2 ⟨rfl, b2⟩
    have hw1 := (Array.getElem?_eq_some_iff.1 HG0.out).1
    have hg2 := (b2.block w.heap.size hw1).trans HG0.out
    have HB2 := Lib.hid (HB0.out.trans (b2.mono (Nat.le_of_lt hw1)))
    obtain ⟨y0, y1, y2, y3⟩ := cell4 hg2
    have f0 := fun j => frozen_of_row _ _ j _ _ hg2
    have HRES := Lib.hid (set4_self' (v0 := .int .i64 0) (v1 := .string ⟨⟨s⟩⟩) (v2 := .int .i64 0) (v3 := .slice none 0 0) hg2)
    have HBF := Lib.hid (set4_below (v0 := .int .i64 0) (v1 := .string ⟨⟨s⟩⟩) (v2 := .int .i64 0) (v3 := .slice none 0 0) HB2.out (Nat.le_refl w.heap.size))
    clear b2 hw1 hg2 HG0 HB0 HB2 HM HN
    go_wp2
    obtain ⟨y0, y1, y2, y3⟩ := cell4 HRES.out
    exact bodyPost_ret (v := .tuple #[.agg #[.int .i64 0, .string ⟨⟨s⟩⟩, .int .i64 0, .slice none 0 0], .int .i64 0]) (by simp [results, Tryz.results111, go_sem, y0, y1, y2, y3]) rfl ⟨rfl, HBF.out⟩
  · have h9 : isName s = false := by simpa using h8
    simp only [h9, Bool.false_eq_true, if_false] at HN ⊢
    clear h8 h9 HM
    go_enter Tryz.func111, Tryz.ntmps111
    go_wp2_with fail
    refine (HN.out _).mono ?_
    rintro _ _ ⟨rfl, rfl⟩
    clear HG0 HN
    go_wp2
    exact bodyPost_ret (v := .tuple #[.agg #[.int .i64 0, .string ⟨#[]⟩, .int .i64 0, .slice none 0 0], .int .i64 13]) (by simp [results, Tryz.results111, go_sem]) rfl ⟨rfl, HB0.out⟩
end Go.Proofs.YticofjbngfjjlaaGreatDoor.Cy

/- carry: the reader's text, by what its term does. (Laid with NS=1.) -/

namespace Go.Proofs.YticofjbngfjjlaaGreatDoor.Cy
open Go.RowKit
open Te Te.Tt
open Wi.Wr (It wr wrs)

/-- What the reader's term does with an item that stands in 17 - f others. -/
def TermSaid (E : Rd) (f : Nat) : Prop := ∀ (x : It) (S : Nat → Prop) (v : Value) (V : World), Sh9 x → E.lies V → Wi.Rep V S x v → (∀ b, S b → b < V.heap.size ∧ b ≠ E.gb) →
  Calls Tryz.prog 74 #[.pointer (some ⟨E.R, 0, none⟩), v, .int .i64 (17 - (f : Nat))] V (RPost E V (un E.c E.ks f x))
def TextSaid (E : Rd) (f : Nat) : Prop := ∀ (s : List UInt8) (V : World), s.length ≤ 9000 → E.lies V →
  Calls Tryz.prog 38 #[.pointer (some ⟨E.R, 0, none⟩), .string ⟨⟨s⟩⟩, .int .i64 (17 - (f : Nat))] V (RPost E V (unt E.c E.ks f s))

theorem gt_err {s : List UInt8} {x : Int} (h : Wi.gt s = .error x) : x ≠ 0 := by
  unfold Wi.gt at h
  cases hr : Wi.Wr.rd 33 s 0 with
  | error e =>
    rw [hr] at h
    injection h with h
    have := Wi.Wr.rd_err _ _ _ _ hr
    omega
  | ok p =>
    rw [hr] at h
    simp only at h
    split at h
    · injection h with h; omega
    · cases h
theorem lst_err {R : It → Except Int Tm} (hR : ∀ x e, R x = .error e → e ≠ 0) : ∀ (l : List It) (e : Int), lst R l = .error e → e ≠ 0
  | [], e, h => by rw [lst] at h; cases h
  | x :: r, e, h => by
    rw [lst] at h
    cases h1 : R x with
    | error e1 =>
      rw [h1] at h
      injection h with h
      exact h ▸ hR x e1 h1
    | ok t =>
      rw [h1] at h
      simp only at h
      cases h2 : lst R r with
      | error e2 =>
        rw [h2] at h
        injection h with h
        exact h ▸ lst_err hR r e2 h2
      | ok l2 => rw [h2] at h; cases h
theorem un_err (c : List UInt8) (ks : List Tm) : ∀ (f : Nat) (x : It) (e : Int), un c ks f x = .error e → e ≠ 0
  | 0, x, e, h => by rw [un_zero] at h; injection h with h; omega
  | f + 1, .mk nd t s l, e, h => by
    have ih := un_err c ks f
    rw [un_succ, uno.eq_def] at h
    simp only at h
    have k : ∀ {a b : Int}, (Except.error a : Except Int Tm) = .error b → a ≠ 0 → b ≠ 0 := fun h h0 => by injection h with h; exact h ▸ h0
    split at h
    · split at h
      · split at h
        · exact k h (by decide)
        · split at h
          · rename_i e1 he; exact k h (lst_err ih l _ he)
          · cases h
      · split at h
        · split at h
          · exact k h (by decide)
          · split at h
            · rename_i e1 he; exact k h (ih _ _ he)
            · split at h
              · exact k h (by decide)
              · cases h
        · exact k h (by decide)
    · split at h
      · split at h
        · cases h
        · exact k h (by decide)
      · split at h
        · split at h
          · cases h
          · exact k h (by decide)
        · split at h
          · split at h
            · exact k h (by decide)
            · cases h
          · split at h
            · split at h
              · exact k h (by decide)
              · split at h
                · exact k h (by decide)
                · split at h
                  · exact k h (by decide)
                  · split at h
                    · rename_i e1 he; exact k h (gt_err he)
                    · split at h
                      · rename_i e1 he; exact k h (ih _ _ he)
                      · cases h
            · exact k h (by decide)

/-- A term is written to the result's block. -/
theorem fin4 {E : Rd} (ho : E.ok) {V W : World} {z : Nat} {a0 a1 a2 a3 v0 v1 v2 v3 : Value} {T : TypeId} (hV : E.lies V) (hl : E.lies W) (hz : V.heap.size ≤ z) (hg : W.heap[z]? = some (.cells #[a0, a1, a2, a3] T (0, 0))) (ho1 : Oth V.heap.size E.gb V W) :
    ((((W.setCell ⟨z, 0, none⟩ v0).setCell ⟨z, 1, none⟩ v1).setCell ⟨z, 2, none⟩ v2).setCell ⟨z, 3, none⟩ v3).heap[z]? = some (.cells #[v0, v1, v2, v3] T (0, 0)) ∧
    E.lies ((((W.setCell ⟨z, 0, none⟩ v0).setCell ⟨z, 1, none⟩ v1).setCell ⟨z, 2, none⟩ v2).setCell ⟨z, 3, none⟩ v3) ∧
    Oth V.heap.size E.gb V ((((W.setCell ⟨z, 0, none⟩ v0).setCell ⟨z, 1, none⟩ v1).setCell ⟨z, 2, none⟩ v2).setCell ⟨z, 3, none⟩ v3) ∧
    (∀ k, k ≠ z → ((((W.setCell ⟨z, 0, none⟩ v0).setCell ⟨z, 1, none⟩ v1).setCell ⟨z, 2, none⟩ v2).setCell ⟨z, 3, none⟩ v3).heap[k]? = W.heap[k]?) ∧
    ((((W.setCell ⟨z, 0, none⟩ v0).setCell ⟨z, 1, none⟩ v1).setCell ⟨z, 2, none⟩ v2).setCell ⟨z, 3, none⟩ v3).heap.size = W.heap.size := by
  have hb := set4_below (v0 := v0) (v1 := v1) (v2 := v2) (v3 := v3) (Below.refl z W) (Nat.le_refl z)
  have h1 := hV.blt
  have h2 := hV.rlt
  have h3 := hV.gk
  refine ⟨set4_self' hg, hl.keep4 ho hb (by omega) (by omega) (by omega), ho1.trans (Oth.of (hb.mono hz)), fun k hk => ?_, set4_size⟩
  rw [heap_setCell_other _ _ _ _ hk, heap_setCell_other _ _ _ _ hk, heap_setCell_other _ _ _ _ hk, heap_setCell_other _ _ _ _ hk]
/-- The result's block was made, then nothing else. -/
theorem beg4 {E : Rd} {V : World} (hV : E.lies V) (cs : Array Value) (T : TypeId) : E.lies (V.alloc (.cells cs T)) ∧ Oth V.heap.size E.gb V (V.alloc (.cells cs T)) ∧ (V.alloc (.cells cs T)).heap[V.heap.size]? = some (.cells cs T (0, 0)) ∧ (V.alloc (.cells cs T)).heap.size = V.heap.size + 1 :=
  have hb : Below V.heap.size V (V.alloc (.cells cs T)) := (Below.refl _ _).alloc (Nat.le_refl _) _
  ⟨hV.next hb, Oth.of hb, heap_alloc_new _ _, by simp⟩

/-- What was made since stays a term where the result's block is written. -/
theorem rep_fin {W W' : World} {m n z : Nat} {t : Tm} {v : Value} (h : Rep W (Nw m W) t v) (hk : ∀ k, k ≠ z → W'.heap[k]? = W.heap[k]?) (hs : W'.heap.size = W.heap.size) (hz : z < m) (hn : n ≤ m) : Rep W' (Nw n W') t v :=
  rep_keep (fun b hb => ⟨by have := hb.1; omega, by rw [hs]; exact hb.2⟩) (fun b o hb => World.cell?_of_block (hk b (by have := hb.1; omega))) _ _ h

set_option maxHeartbeats 2000000 in
set_option maxRecDepth 100000 in
theorem text_of (E : Rd) (ho : E.ok) (f : Nat) (hT : TermSaid E f) : TextSaid E f := by
  intro s V hs hV
  obtain ⟨hl0, ho0, hg0, hs0⟩ := beg4 hV #[.int .i64 0, .string ⟨#[]⟩, .int .i64 0, .slice none 0 0] 25
  have HL0 := Lib.hid hl0
  have HO0 := Lib.hid ho0
  have HG0 := Lib.hid hg0
  have HS0 := Lib.hid hs0
  have HV := Lib.hid hV
  clear hl0 ho0 hg0 hs0
  cases hg : Wi.gt s with
  | error x =>
    have hx := gt_err hg
    have HGE := Lib.hid (fun W => Wi.get_err s W x (by omega) hg)
    have e1 : (x != 0) = true := by simpa using hx
    have HU : Hid (unt E.c E.ks f s = .error x) := by rw [Hid, unt, hg]
    rw [HU.out]
    clear hg hx hT hV
    go_enter Tryz.func38, Tryz.ntmps38
    go_wp2_with fail
    refine (HGE.out _).mono ?_
    rintro _ w1 ⟨rfl, b1⟩
    have hg1 := (b1.block V.heap.size (by have := HS0.out; omega)).trans HG0.out
    have hb2 : Below w1.heap.size w1 (w1.alloc (.cells #[.bool false, .int .i64 0, .string ⟨⟨[]⟩⟩, .slice none 0 0] 64)) := (Below.refl _ _).alloc (Nat.le_refl _) _
    have hg2 := (hb2.block V.heap.size (Array.getElem?_eq_some_iff.1 hg1).1).trans hg1
    have hl2 := (HL0.out.next b1).next hb2
    have ho2 := (HO0.out.trans (Oth.of (b1.mono (by have := HS0.out; omega)))).trans (Oth.of (hb2.mono (by have := b1.size; have := HS0.out; omega)))
    obtain ⟨q1, q2, q3, -, -⟩ := fin4 (v0 := .int .i64 0) (v1 := .string ⟨#[]⟩) (v2 := .int .i64 0) (v3 := .slice none 0 0) ho HV.out hl2 (Nat.le_refl _) hg2 ho2
    obtain ⟨y0, y1, y2, y3⟩ := cell4 hg2
    have f0 := fun j => frozen_of_row _ _ j _ _ hg2
    have Q1 := Lib.hid q1
    have Q2 := Lib.hid q2
    have Q3 := Lib.hid q3
    clear b1 hg1 hb2 hg2 hl2 ho2 q1 q2 q3 HG0 HL0 HO0 HGE
    go_wp2
    obtain ⟨y0, y1, y2, y3⟩ := cell4 Q1.out
    exact bodyPost_ret (v := .tuple #[.agg #[.int .i64 0, .string ⟨#[]⟩, .int .i64 0, .slice none 0 0], .int .i64 x]) (by simp [results, Tryz.results38, go_sem, y0, y1, y2, y3]) rfl ⟨rfl, Q2.out, Q3.out⟩
  | ok x =>
    have hsh := sh9_get hs hg
    have HGO := Lib.hid (fun W => Wi.get_ok s W x (by omega) hg)
    have HU : Hid (unt E.c E.ks f s = un E.c E.ks f x) := by rw [Hid, unt, hg]
    have HSH := Lib.hid hsh
    have HT := Lib.hid hT
    rw [HU.out]
    clear hg hsh hT hV
    obtain ⟨nd, tg, xs, xl⟩ := x
    go_enter Tryz.func38, Tryz.ntmps38
    go_wp2_with fail
    refine (HGO.out _).mono ?_
    rintro _ w1 ⟨v0, v1, v2, v3, rfl, hrep, b1⟩
    obtain ⟨A, cap, hv, -⟩ := Wi.rep_mk.1 hrep
    injection hv with hv
    simp at hv
    obtain ⟨rfl, rfl, rfl, rfl⟩ := hv
    have hg1 := (b1.block V.heap.size (by have := HS0.out; omega)).trans HG0.out
    have hb2 : Below w1.heap.size w1 (w1.alloc (.cells #[.bool nd, .int .i64 tg, .string ⟨⟨xs⟩⟩, .slice A xl.length cap] 64)) := (Below.refl _ _).alloc (Nat.le_refl _) _
    have hg2 := (hb2.block V.heap.size (Array.getElem?_eq_some_iff.1 hg1).1).trans hg1
    have hi2 := heap_alloc_new w1 (.cells #[.bool nd, .int .i64 tg, .string ⟨⟨xs⟩⟩, .slice A xl.length cap] 64)
    have hl2 := (HL0.out.next b1).next hb2
    have ho2 := (HO0.out.trans (Oth.of (b1.mono (by have := HS0.out; omega)))).trans (Oth.of (hb2.mono (by have := b1.size; have := HS0.out; omega)))
    have hr2 := Wi.rep_below hrep hb2 (fun b hb => hb.2)
    have hS2 : ∀ b, Wi.New (V.alloc (.cells #[.int .i64 0, .string ⟨#[]⟩, .int .i64 0, .slice none 0 0] 25)).heap.size w1 b → b < (w1.alloc (.cells #[.bool nd, .int .i64 tg, .string ⟨⟨xs⟩⟩, .slice A xl.length cap] 64)).heap.size ∧ b ≠ E.gb := fun b hb => by
      have h1 := hb.1
      have h2 := hb.2
      have h3 := HS0.out
      have h4 := HV.out.blt
      have h5 := hb2.size
      exact ⟨by omega, by omega⟩
    have HCT := Lib.hid (HT.out _ _ _ _ HSH.out hl2 hr2 hS2)
    have hsz2 : V.heap.size + 1 < (w1.alloc (.cells #[.bool nd, .int .i64 tg, .string ⟨⟨xs⟩⟩, .slice A xl.length cap] 64)).heap.size := by have := b1.size; have := HS0.out; simp; omega
    obtain ⟨x0, x1, x2, x3⟩ := cell4 hi2
    have HG2 := Lib.hid hg2
    have HO2 := Lib.hid ho2
    have HSZ2 := Lib.hid hsz2
    clear b1 hg1 hb2 hg2 hi2 hl2 ho2 hr2 hS2 hsz2 hrep HG0 HL0 HO0 HGO HT HSH
    go_wp2_with fail
    generalize w1.alloc (.cells #[.bool nd, .int .i64 tg, .string ⟨⟨xs⟩⟩, .slice A xl.length cap] 64) = W2 at *
    refine HCT.out.mono ?_
    rintro e w3 ⟨hp, hl3, ho3⟩
    have hg3 := (ho3.block V.heap.size (by have := HSZ2.out; omega) (by have := HV.out.blt; omega)).trans HG2.out
    have ho3 := HO2.out.trans (ho3.mono (by have := HSZ2.out; omega))
    clear HG2 HO2 HCT x0 x1 x2 x3
    cases hu : un E.c E.ks f (.mk nd tg xs xl) with
    | error y =>
      rw [hu] at hp
      unfold zeroT at hp
      simp only at hp
      subst hp
      have HU2 := Lib.hid hu
      clear hu
      obtain ⟨q1, q2, q3, q4, q5⟩ := fin4 (v0 := .int .i64 0) (v1 := .string ⟨#[]⟩) (v2 := .int .i64 0) (v3 := .slice none 0 0) ho HV.out hl3 (Nat.le_refl _) hg3 ho3
      obtain ⟨y0, y1, y2, y3⟩ := cell4 hg3
      have f0 := fun j => frozen_of_row _ _ j _ _ hg3
      have Q1 := Lib.hid q1
      have Q2 := Lib.hid q2
      have Q3 := Lib.hid q3
      have Q4 := Lib.hid q4
      have Q5 := Lib.hid q5
      clear hl3 hg3 ho3 q1 q2 q3 q4 q5
      go_wp2
      obtain ⟨y0, y1, y2, y3⟩ := cell4 Q1.out
      refine bodyPost_ret (v := .tuple #[.agg #[.int .i64 0, .string ⟨#[]⟩, .int .i64 0, .slice none 0 0], .int .i64 y]) (by simp [results, Tryz.results38, go_sem, y0, y1, y2, y3]) rfl ?_
      unfold RPost
      rw [HU2.out]
      exact ⟨rfl, Q2.out, Q3.out⟩
    | ok t =>
      rw [hu] at hp
      obtain ⟨u0, u1, u2, u3, rfl, hrt⟩ := hp
      obtain ⟨tk, ts, tn, tl⟩ := t
      obtain ⟨TA, tc, hv, -, -⟩ := rep_mk.1 hrt
      injection hv with hv
      simp at hv
      obtain ⟨rfl, rfl, rfl, rfl⟩ := hv
      have HRT := Lib.hid hrt
      have HU2 := Lib.hid hu
      clear hu hrt
      obtain ⟨q1, q2, q3, q4, q5⟩ := fin4 (v0 := .int .i64 tk) (v1 := .string ⟨⟨ts⟩⟩) (v2 := .int .i64 tn) (v3 := .slice TA tl.length tc) ho HV.out hl3 (Nat.le_refl _) hg3 ho3
      obtain ⟨y0, y1, y2, y3⟩ := cell4 hg3
      have f0 := fun j => frozen_of_row _ _ j _ _ hg3
      have Q1 := Lib.hid q1
      have Q2 := Lib.hid q2
      have Q3 := Lib.hid q3
      have Q4 := Lib.hid q4
      have Q5 := Lib.hid q5
      clear hl3 hg3 ho3 q1 q2 q3 q4 q5
      go_wp2
      obtain ⟨y0, y1, y2, y3⟩ := cell4 Q1.out
      refine bodyPost_ret (v := .tuple #[.agg #[.int .i64 tk, .string ⟨⟨ts⟩⟩, .int .i64 tn, .slice TA tl.length tc], .int .i64 0]) (by simp [results, Tryz.results38, go_sem, y0, y1, y2, y3]) rfl ?_
      unfold RPost
      rw [HU2.out]
      exact ⟨⟨_, _, _, _, rfl, rep_fin HRT.out Q4.out Q5.out (by have := HSZ2.out; omega) (by have := HSZ2.out; omega)⟩, Q2.out, Q3.out⟩
end Go.Proofs.YticofjbngfjjlaaGreatDoor.Cy

/- carry: the closure of seal. (Laid with NS=1; written by wip/tools/gen/cyu8.py.) -/

namespace Go.Proofs.YticofjbngfjjlaaGreatDoor.Cy
open Go.RowKit
open Te Te.Tt
open Wi.Wr (It wr wrs)

theorem drop_one (u : UInt8) (t : List UInt8) : (ByteArray.mk ⟨u :: t⟩).extract 1 (t.length + 1) = ⟨⟨t⟩⟩ := by
  apply ByteArray.ext
  rw [ByteArray.data_extract]
  apply Array.toList_inj.1
  simp

set_option maxHeartbeats 2000000 in
set_option maxRecDepth 100000 in
theorem sealIn_any (b t : List UInt8) (u : UInt8) (n : Int) (ub sb bb : Nat) (B0 : List UInt8) (V : World) (HT : Tabs V) (hb : b.length ≤ 10000) (ht : t.length ≤ 9000)
    (h1 : V.heap[ub]? = some (.cells #[.int .i64 n] 3 (0, 0))) (h2 : V.heap[sb]? = some (.cells #[.string ⟨⟨u :: t⟩⟩] 9 (0, 0))) (h3 : V.heap[bb]? = some (.cells #[.string ⟨⟨B0⟩⟩] 9 (0, 0))) :
    Calls Tryz.prog 146 #[.string ⟨⟨b⟩⟩, .pointer (some ⟨ub, 0, none⟩), .pointer (some ⟨sb, 0, none⟩), .pointer (some ⟨bb, 0, none⟩)] V fun e w' => e = .returned (.bool (decide ((Sl.opn b n t).2 = 0))) ∧
      ∃ W2, Below V.heap.size V W2 ∧ w' = W2.setCell ⟨bb, 0, none⟩ (.string ⟨⟨(Sl.opn b n t).1⟩⟩) := by
  have c1 : V.cell? ⟨ub, 0, none⟩ = some (.int .i64 n) := by rw [cell_of_row _ _ _ _ _ _ h1]; rfl
  have c2 : V.cell? ⟨sb, 0, none⟩ = some (.string ⟨⟨u :: t⟩⟩) := by rw [cell_of_row _ _ _ _ _ _ h2]; rfl
  have c3 : V.cell? ⟨bb, 0, none⟩ = some (.string ⟨⟨B0⟩⟩) := by rw [cell_of_row _ _ _ _ _ _ h3]; rfl
  have hop := openIs b t n hb ht
  obtain ⟨X, hX⟩ : ∃ X, X = (Sl.opn b n t).1 := ⟨_, rfl⟩
  obtain ⟨q0, hq0⟩ : ∃ q0, q0 = (Sl.opn b n t).2 := ⟨_, rfl⟩
  rw [← hX, ← hq0] at hop
  rw [← hX, ← hq0]
  have HUL := Lib.hid (Array.getElem?_eq_some_iff.1 h1).1
  have HSL := Lib.hid (Array.getElem?_eq_some_iff.1 h2).1
  have HBL := Lib.hid (Array.getElem?_eq_some_iff.1 h3).1
  have HOP := Lib.hid hop
  have HTV := Lib.hid HT
  have HDR := Lib.hid (drop_one u t)
  have HLE := Lib.hid (show (1 : Int) ≤ (t.length : Int) + 1 by omega)
  have HDQ : Hid (((q0 : Int) == 0) = decide (q0 = 0)) := by rw [Hid, Bool.eq_iff_iff]; simp
  clear hX hq0 hop HT hb ht h1 h2
  go_enter Tryz.func146, Tryz.ntmps146
  go_wp2_with fail
  refine wp_region_inv (by kernel_rfl) (fun L act W => ∃ t8 t9 t10 t11 t12 t7 t13 t14 t6, act = { tmps := #[.string ⟨⟨b⟩⟩, .pointer (some ⟨ub, 0, none⟩), .pointer (some ⟨sb, 0, none⟩), .pointer (some ⟨bb, 0, none⟩), undef, .bool false, t6, t7, t8, t9, t10, t11, t12, t13, t14, undef, undef], defers := [] } ∧ (L 0 = true → (.string ⟨⟨b⟩⟩ : Value) = t8) ∧ (L 1 = true → (.int .i64 n : Value) = t9) ∧ (L 2 = true → (.string ⟨⟨u :: t⟩⟩ : Value) = t10) ∧ (L 3 = true → (.string ⟨⟨t⟩⟩ : Value) = t11) ∧ (L 4 = true → (.tuple #[.string ⟨⟨X⟩⟩, .int .i64 (q0 : Nat)] : Value) = t12) ∧ (L 5 = true → (.tuple #[.string ⟨⟨X⟩⟩, .int .i64 (q0 : Nat)] : Value) = t7) ∧ (L 6 = true → (.string ⟨⟨X⟩⟩ : Value) = t13) ∧ (L 7 = true → (.int .i64 (q0 : Nat) : Value) = t14) ∧ (L 9 = true → (.int .i64 (q0 : Nat) : Value) = t6) ∧ (L 9 = false → (.int .i64 0 : Value) = t6) ∧ (L 8 = false → Below V.heap.size V W) ∧ (L 8 = true → ∃ W2, Below V.heap.size V W2 ∧ W = W2.setCell ⟨bb, 0, none⟩ (.string ⟨⟨X⟩⟩)) ∧ (L 8 = true → L 1 = true ∧ L 2 = true ∧ L 4 = true)) (by kernel_rfl) ?_ ?_ ?_
  · exact ⟨_, _, _, _, _, _, _, _, _, rfl, nofun, nofun, nofun, nofun, nofun, nofun, nofun, nofun, nofun, fun _ => rfl, fun _ => (Below.refl _ _).drew, nofun, nofun⟩
  · rintro L _ W i oo ⟨t8, t9, t10, t11, t12, t7, t13, t14, t6, rfl, f0, f1, f2, f3, f4, f5, f6, f7, f9, u9, q, r, rr⟩ ho hL hd
    rcases i with _ | _ | _ | _ | _ | _ | _ | _ | _ | _ | i
    · obtain rfl := Option.some.inj ho
      refine wpOp_step rfl fun K hK => ?_
      have F0X := Lib.hid f0
      have F1X := Lib.hid f1
      have F2X := Lib.hid f2
      have F3X := Lib.hid f3
      have F4X := Lib.hid f4
      have F5X := Lib.hid f5
      have F6X := Lib.hid f6
      have F7X := Lib.hid f7
      have F9X := Lib.hid f9
      have U9X := Lib.hid u9
      have QX := Lib.hid q
      have RX := Lib.hid r
      have RRX := Lib.hid rr
      clear f0 f1 f2 f3 f4 f5 f6 f7 f9 u9 q r rr hd ho hL
      go_simp
      refine hK _ _ ?_
      exact ⟨_, _, _, _, _, _, _, _, _, rfl, fun _ => rfl, F1X.out, F2X.out, F3X.out, F4X.out, F5X.out, F6X.out, F7X.out, F9X.out, U9X.out, QX.out, RX.out, RRX.out⟩
    · obtain rfl := Option.some.inj ho
      have h8 : L 8 = false := by cases hq : L 8 with | false => rfl | true => rw [(rr hq).1] at hL; cases hL
      have hc := ((q h8).cell (p := ⟨ub, 0, none⟩) HUL.out).trans c1
      clear h8
      refine wpOp_step rfl fun K hK => ?_
      have F0X := Lib.hid f0
      have F1X := Lib.hid f1
      have F2X := Lib.hid f2
      have F3X := Lib.hid f3
      have F4X := Lib.hid f4
      have F5X := Lib.hid f5
      have F6X := Lib.hid f6
      have F7X := Lib.hid f7
      have F9X := Lib.hid f9
      have U9X := Lib.hid u9
      have QX := Lib.hid q
      have RX := Lib.hid r
      have RRX := Lib.hid rr
      clear f0 f1 f2 f3 f4 f5 f6 f7 f9 u9 q r rr hd ho hL
      go_simp
      refine hK _ _ ?_
      exact ⟨_, _, _, _, _, _, _, _, _, rfl, F0X.out, fun _ => rfl, F2X.out, F3X.out, F4X.out, F5X.out, F6X.out, F7X.out, F9X.out, U9X.out, QX.out, RX.out, fun h => ⟨rfl, (RRX.out h).2.1, (RRX.out h).2.2⟩⟩
    · obtain rfl := Option.some.inj ho
      have h8 : L 8 = false := by cases hq : L 8 with | false => rfl | true => rw [(rr hq).2.1] at hL; cases hL
      have hc := ((q h8).cell (p := ⟨sb, 0, none⟩) HSL.out).trans c2
      clear h8
      refine wpOp_step rfl fun K hK => ?_
      have F0X := Lib.hid f0
      have F1X := Lib.hid f1
      have F2X := Lib.hid f2
      have F3X := Lib.hid f3
      have F4X := Lib.hid f4
      have F5X := Lib.hid f5
      have F6X := Lib.hid f6
      have F7X := Lib.hid f7
      have F9X := Lib.hid f9
      have U9X := Lib.hid u9
      have QX := Lib.hid q
      have RX := Lib.hid r
      have RRX := Lib.hid rr
      clear f0 f1 f2 f3 f4 f5 f6 f7 f9 u9 q r rr hd ho hL
      go_simp
      refine hK _ _ ?_
      exact ⟨_, _, _, _, _, _, _, _, _, rfl, F0X.out, F1X.out, fun _ => rfl, F3X.out, F4X.out, F5X.out, F6X.out, F7X.out, F9X.out, U9X.out, QX.out, RX.out, fun h => ⟨(RRX.out h).1, rfl, (RRX.out h).2.2⟩⟩
    · obtain rfl := Option.some.inj ho
      have l2 := hd ⟨2, .data⟩ (by simp) rfl
      obtain rfl := f2 l2
      have hdr := HDR.out
      have hle := HLE.out
      refine wpOp_step rfl fun K hK => ?_
      have F0X := Lib.hid f0
      have F1X := Lib.hid f1
      have F2X := Lib.hid f2
      have F3X := Lib.hid f3
      have F4X := Lib.hid f4
      have F5X := Lib.hid f5
      have F6X := Lib.hid f6
      have F7X := Lib.hid f7
      have F9X := Lib.hid f9
      have U9X := Lib.hid u9
      have QX := Lib.hid q
      have RX := Lib.hid r
      have RRX := Lib.hid rr
      clear f0 f1 f2 f3 f4 f5 f6 f7 f9 u9 q r rr hd ho hL l2
      go_simp
      refine hK _ _ ?_
      exact ⟨_, _, _, _, _, _, _, _, _, rfl, F0X.out, F1X.out, F2X.out, fun _ => rfl, F4X.out, F5X.out, F6X.out, F7X.out, F9X.out, U9X.out, QX.out, RX.out, RRX.out⟩
    · obtain rfl := Option.some.inj ho
      have l0 := hd ⟨0, .data⟩ (by simp) rfl
      have l1 := hd ⟨1, .data⟩ (by simp) rfl
      have l3 := hd ⟨3, .data⟩ (by simp) rfl
      obtain rfl := f0 l0
      obtain rfl := f1 l1
      obtain rfl := f3 l3
      have h8 : L 8 = false := by cases hq : L 8 with | false => rfl | true => rw [(rr hq).2.2] at hL; cases hL
      have H8 := Lib.hid h8
      have HC := Lib.hid (HOP.out W (Tabs.below HTV.out (q h8)))
      refine wpOp_step rfl fun K hK => ?_
      have F0X := Lib.hid f0
      have F1X := Lib.hid f1
      have F2X := Lib.hid f2
      have F3X := Lib.hid f3
      have F4X := Lib.hid f4
      have F5X := Lib.hid f5
      have F6X := Lib.hid f6
      have F7X := Lib.hid f7
      have F9X := Lib.hid f9
      have U9X := Lib.hid u9
      have QX := Lib.hid q
      have RX := Lib.hid r
      have RRX := Lib.hid rr
      clear f0 f1 f2 f3 f4 f5 f6 f7 f9 u9 q r rr hd ho hL l0 l1 l3 h8
      go_simp
      refine HC.out.mono ?_
      rintro _ w1 ⟨rfl, hb1⟩
      refine hK _ _ ?_
      exact ⟨_, _, _, _, _, _, _, _, _, rfl, F0X.out, F1X.out, F2X.out, F3X.out, fun _ => rfl, F5X.out, F6X.out, F7X.out, F9X.out, U9X.out, fun h => (QX.out h).trans (hb1.mono (QX.out h).size), fun h => absurd (show L 8 = true from h) (by simp [H8.out]), fun h => ⟨(RRX.out h).1, (RRX.out h).2.1, rfl⟩⟩
    · obtain rfl := Option.some.inj ho
      have l4 := hd ⟨4, .data⟩ (by simp) rfl
      obtain rfl := f4 l4
      refine wpOp_step rfl fun K hK => ?_
      have F0X := Lib.hid f0
      have F1X := Lib.hid f1
      have F2X := Lib.hid f2
      have F3X := Lib.hid f3
      have F4X := Lib.hid f4
      have F5X := Lib.hid f5
      have F6X := Lib.hid f6
      have F7X := Lib.hid f7
      have F9X := Lib.hid f9
      have U9X := Lib.hid u9
      have QX := Lib.hid q
      have RX := Lib.hid r
      have RRX := Lib.hid rr
      clear f0 f1 f2 f3 f4 f5 f6 f7 f9 u9 q r rr hd ho hL l4
      go_simp
      refine hK _ _ ?_
      exact ⟨_, _, _, _, _, _, _, _, _, rfl, F0X.out, F1X.out, F2X.out, F3X.out, F4X.out, fun _ => rfl, F6X.out, F7X.out, F9X.out, U9X.out, QX.out, RX.out, RRX.out⟩
    · obtain rfl := Option.some.inj ho
      have l5 := hd ⟨5, .data⟩ (by simp) rfl
      obtain rfl := f5 l5
      refine wpOp_step rfl fun K hK => ?_
      have F0X := Lib.hid f0
      have F1X := Lib.hid f1
      have F2X := Lib.hid f2
      have F3X := Lib.hid f3
      have F4X := Lib.hid f4
      have F5X := Lib.hid f5
      have F6X := Lib.hid f6
      have F7X := Lib.hid f7
      have F9X := Lib.hid f9
      have U9X := Lib.hid u9
      have QX := Lib.hid q
      have RX := Lib.hid r
      have RRX := Lib.hid rr
      clear f0 f1 f2 f3 f4 f5 f6 f7 f9 u9 q r rr hd ho hL l5
      go_simp
      refine hK _ _ ?_
      exact ⟨_, _, _, _, _, _, _, _, _, rfl, F0X.out, F1X.out, F2X.out, F3X.out, F4X.out, F5X.out, fun _ => rfl, F7X.out, F9X.out, U9X.out, QX.out, RX.out, RRX.out⟩
    · obtain rfl := Option.some.inj ho
      have l5 := hd ⟨5, .data⟩ (by simp) rfl
      obtain rfl := f5 l5
      refine wpOp_step rfl fun K hK => ?_
      have F0X := Lib.hid f0
      have F1X := Lib.hid f1
      have F2X := Lib.hid f2
      have F3X := Lib.hid f3
      have F4X := Lib.hid f4
      have F5X := Lib.hid f5
      have F6X := Lib.hid f6
      have F7X := Lib.hid f7
      have F9X := Lib.hid f9
      have U9X := Lib.hid u9
      have QX := Lib.hid q
      have RX := Lib.hid r
      have RRX := Lib.hid rr
      clear f0 f1 f2 f3 f4 f5 f6 f7 f9 u9 q r rr hd ho hL l5
      go_simp
      refine hK _ _ ?_
      exact ⟨_, _, _, _, _, _, _, _, _, rfl, F0X.out, F1X.out, F2X.out, F3X.out, F4X.out, F5X.out, F6X.out, fun _ => rfl, F9X.out, U9X.out, QX.out, RX.out, RRX.out⟩
    · obtain rfl := Option.some.inj ho
      have l6 := hd ⟨6, .data⟩ (by simp) rfl
      have l1 := hd ⟨1, .phase⟩ (by simp) rfl
      have l2 := hd ⟨2, .phase⟩ (by simp) rfl
      have l4 := hd ⟨4, .phase⟩ (by simp) rfl
      obtain rfl := f6 l6
      obtain rfl := f1 l1
      obtain rfl := f2 l2
      obtain rfl := f4 l4
      have hq := q hL
      have hf := fun k => frozen_of_row _ _ k _ _ ((hq.block bb HBL.out).trans h3)
      have hcb := (hq.cell (p := ⟨bb, 0, none⟩) HBL.out).trans c3
      have LL := Lib.hid (And.intro l1 (And.intro l2 l4))
      have HQ := Lib.hid hq
      clear hq
      refine wpOp_step rfl fun K hK => ?_
      have F0X := Lib.hid f0
      have F1X := Lib.hid f1
      have F2X := Lib.hid f2
      have F3X := Lib.hid f3
      have F4X := Lib.hid f4
      have F5X := Lib.hid f5
      have F6X := Lib.hid f6
      have F7X := Lib.hid f7
      have F9X := Lib.hid f9
      have U9X := Lib.hid u9
      have QX := Lib.hid q
      have RX := Lib.hid r
      have RRX := Lib.hid rr
      clear f0 f1 f2 f3 f4 f5 f6 f7 f9 u9 q r rr hd ho hL l6 l1 l2 l4
      go_simp
      refine hK _ _ ?_
      exact ⟨_, _, _, _, _, _, _, _, _, rfl, F0X.out, F1X.out, F2X.out, F3X.out, F4X.out, F5X.out, F6X.out, F7X.out, F9X.out, U9X.out, nofun, fun _ => ⟨_, HQ.out, rfl⟩, fun _ => LL.out⟩
    · obtain rfl := Option.some.inj ho
      have l7 := hd ⟨7, .data⟩ (by simp) rfl
      obtain rfl := f7 l7
      refine wpOp_step rfl fun K hK => ?_
      have F0X := Lib.hid f0
      have F1X := Lib.hid f1
      have F2X := Lib.hid f2
      have F3X := Lib.hid f3
      have F4X := Lib.hid f4
      have F5X := Lib.hid f5
      have F6X := Lib.hid f6
      have F7X := Lib.hid f7
      have F9X := Lib.hid f9
      have U9X := Lib.hid u9
      have QX := Lib.hid q
      have RX := Lib.hid r
      have RRX := Lib.hid rr
      clear f0 f1 f2 f3 f4 f5 f6 f7 f9 u9 q r rr hd ho hL l7
      go_simp
      refine hK _ _ ?_
      exact ⟨_, _, _, _, _, _, _, _, _, rfl, F0X.out, F1X.out, F2X.out, F3X.out, F4X.out, F5X.out, F6X.out, F7X.out, fun _ => rfl, nofun, QX.out, RX.out, RRX.out⟩
    · simp at ho
  · rintro L _ W ⟨t8, t9, t10, t11, t12, t7, t13, t14, t6, rfl, f0, f1, f2, f3, f4, f5, f6, f7, f9, u9, q, r, rr⟩ hall
    obtain rfl := f0 (hall 0 (by decide))
    obtain rfl := f1 (hall 1 (by decide))
    obtain rfl := f2 (hall 2 (by decide))
    obtain rfl := f3 (hall 3 (by decide))
    obtain rfl := f4 (hall 4 (by decide))
    obtain rfl := f5 (hall 5 (by decide))
    obtain rfl := f6 (hall 6 (by decide))
    obtain rfl := f7 (hall 7 (by decide))
    obtain rfl := f9 (hall 9 (by decide))
    obtain ⟨W2, hb2, rfl⟩ := r (hall 8 (by decide))
    have HB2 := Lib.hid hb2
    clear q r rr hall hb2 c1 c2 c3 h3
    generalize hW3 : W2.setCell ⟨bb, 0, none⟩ (.string ⟨⟨X⟩⟩) = W3 at *
    have HW3 := Lib.hid hW3
    clear hW3
    go_wp2
    go_ret
    exact ⟨by rw [← HDQ.out]; rfl, W2, HB2.out, HW3.out.symm⟩
end Go.Proofs.YticofjbngfjjlaaGreatDoor.Cy

