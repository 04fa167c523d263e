import Derived.Test.YticofjbngfjjlaaGreatDoorGAWiW2
import Derived.BigRegion
namespace Go.Proofs.YticofjbngfjjlaaGreatDoor.Wi
open Go.RowKit
open Wr

set_option maxHeartbeats 1000000 in
set_option maxRecDepth 100000 in
theorem read_deep (ai di : Int) (s : List UInt8) (w : World) (h : 32 < di) :
    Calls Tryz.prog 139 #[.string ⟨⟨s⟩⟩, .agg #[.int .i64 ai, .int .i64 di]] w fun e w' => e = .returned (.tuple #[.agg #[.bool false, .int .i64 0, .string ⟨⟨[]⟩⟩, .slice none 0 0], .int .i64 0, .int .i64 12]) ∧ Below w.heap.size w w' := by
  go_enter Tryz.func139, Tryz.ntmps139
  go_wp2
  exact bodyPost_ret (v := .tuple #[.agg #[.bool false, .int .i64 0, .string ⟨⟨[]⟩⟩, .slice none 0 0], .int .i64 0, .int .i64 12]) (by simp [results, Tryz.results139, go_sem]) rfl ⟨rfl, ((Below.refl _ _).alloc (Nat.le_refl _) _).alloc (by simp) _⟩

set_option maxHeartbeats 1000000 in
set_option maxRecDepth 100000 in
theorem read_empty (ai di : Int) (w : World) (h : di ≤ 32) :
    Calls Tryz.prog 139 #[.string ⟨⟨[]⟩⟩, .agg #[.int .i64 ai, .int .i64 di]] w fun e w' => e = .returned (.tuple #[.agg #[.bool false, .int .i64 0, .string ⟨⟨[]⟩⟩, .slice none 0 0], .int .i64 0, .int .i64 10]) ∧ Below w.heap.size w w' := by
  go_enter Tryz.func139, Tryz.ntmps139
  go_wp2
  exact bodyPost_ret (v := .tuple #[.agg #[.bool false, .int .i64 0, .string ⟨⟨[]⟩⟩, .slice none 0 0], .int .i64 0, .int .i64 10]) (by simp [results, Tryz.results139, go_sem]) rfl ⟨rfl, ((Below.refl _ _).alloc (Nat.le_refl _) _).alloc (by simp) _⟩

theorem bcell {W w1 : World} (hb : Below W.heap.size W w1) : (∀ b o, b < W.heap.size → w1.cell? ⟨b, o, none⟩ = W.cell? ⟨b, o, none⟩) ∧ (∀ b o, b < W.heap.size → w1.frozen? ⟨b, o, none⟩ = W.frozen? ⟨b, o, none⟩) :=
  ⟨fun b o h => hb.cell (p := ⟨b, o, none⟩) h, fun b o h => hb.frozen (p := ⟨b, o, none⟩) h⟩

theorem row_keep {w w' : World} {S S' : Nat → Prop} {l : List It} {A : Option Addr} (hS : ∀ b, S b → S' b) (hc : ∀ b o, S b → w'.cell? ⟨b, o, none⟩ = w.cell? ⟨b, o, none⟩) (h : Row w S l A) : Row w' S' l A := by
  have h1 := rep_keep hS hc (.mk true 0 [] l) _ (rep_mk.2 ⟨A, 0, rfl, h⟩)
  obtain ⟨A', cap', hv, hr⟩ := rep_mk.1 h1
  injection hv with hv
  simp at hv
  rw [hv.1]
  exact hr

/-- What read answers. -/
def RdPost (r : Except Int (It × Nat)) (w : World) (e : Ending) (w' : World) : Prop :=
  match r with
  | .error x => e = .returned (.tuple #[.agg #[.bool false, .int .i64 0, .string ⟨⟨[]⟩⟩, .slice none 0 0], .int .i64 0, .int .i64 x]) ∧ Below w.heap.size w w'
  | .ok (x, n) => ReadPost x n w e w'

set_option maxHeartbeats 2000000 in
set_option maxRecDepth 100000 in
theorem read_step (f : Nat) (he : ReadErr f) (ho : ReadOk f) (d a : Nat) (di ai : Int) (b : UInt8) (r : List UInt8) (w : World) (hd : d + (f + 1) = 33) (hdi : di = d) (hai : ai = a) (hs : (b :: r).length ≤ 65536) (ha : a ≤ 65536) :
    Calls Tryz.prog 139 #[.string ⟨⟨b :: r⟩⟩, .agg #[.int .i64 ai, .int .i64 di]] w (RdPost (rd (f + 1) (b :: r) a) w) := by
  have hdi' : 0 ≤ di ∧ di ≤ 32 := by omega
  have hai' : 0 ≤ ai ∧ ai ≤ 65536 := by omega
  have HD := Lib.hid hdi
  have HA := Lib.hid hai
  clear hdi hai
  have hlt8 : b.toNat < 256 := UInt8.toNat_lt b
  have hby : (ByteArray.mk ⟨b :: r⟩)[0]'(by show 0 < (b :: r).length; simp) = b := rfl
  have hrl : r.length + 1 ≤ 65536 := by simpa using hs
  by_cases h0 : b.toNat % 128 = 0
  · have HF : Hid (rd (f + 1) (b :: r) a = .error 13) := by show _ = _; rw [rd, if_pos h0]
    have ht0 : ((b.toNat : Int) % 128 == 0) = true := by simp; omega
    clear h0
    go_enter Tryz.func139, Tryz.ntmps139
    go_wp2
    go_region
    go_wp2
    refine bodyPost_ret (v := .tuple #[.agg #[.bool false, .int .i64 0, .string ⟨⟨[]⟩⟩, .slice none 0 0], .int .i64 0, .int .i64 13]) (by simp [results, Tryz.results139, go_sem]) rfl ?_
    rw [HF.out]
    exact ⟨rfl, ((((Below.refl _ _).alloc (Nat.le_refl _) _).alloc (by simp) _).alloc (by simp; omega) _).drew⟩
  have ht0 : ((b.toNat : Int) % 128 == 0) = false := by simp; omega
  cases hR : rl 0 0 r with
  | error e =>
    have HF : Hid (rd (f + 1) (b :: r) a = .error e) := by show _ = _; rw [rd, if_neg h0, hR]
    have hee := rl_err _ _ _ _ hR
    have hne : (e != 0) = true := by simp; omega
    have HRL := Lib.hid hR
    clear hR h0
    go_enter Tryz.func139, Tryz.ntmps139
    go_wp2
    go_region
    go_wp2_with fail
    rw [cut_str, List.take_of_length_le (by simp)]
    refine (readLength_any _ _ (by simp; omega)).mono ?_
    rintro _ w1 ⟨rfl, rfl⟩
    rw [List.drop_one, List.tail_cons, HRL.out]
    simp only [rlVal]
    go_wp2
    refine bodyPost_ret (v := .tuple #[.agg #[.bool false, .int .i64 0, .string ⟨⟨[]⟩⟩, .slice none 0 0], .int .i64 0, .int .i64 e]) (by simp [results, Tryz.results139, go_sem]) rfl ?_
    rw [HF.out]
    exact ⟨rfl, ((((Below.refl _ _).alloc (Nat.le_refl _) _).alloc (by simp) _).alloc (by simp; omega) _).drew⟩
  | ok p =>
    obtain ⟨n, k⟩ := p
    have hbd := rl_bound _ _ _ _ _ hR
    have hF0 : rd (f + 1) (b :: r) a = if a + (1 + k) + n > 65536 then .error 11 else if n > r.length - k then .error 10 else
      if b.toNat < 128 then .ok (.mk false (b.toNat % 128 : Nat) ((r.drop k).take n) [], 1 + k + n) else
      match rda (rd f) n ((r.drop k).take n) (a + (1 + k)) with
      | .error e => .error e
      | .ok l => .ok (.mk true (b.toNat % 128 : Nat) [] l, 1 + k + n) := by rw [rd, if_neg h0, hR]; rfl
    have HRL := Lib.hid hR
    clear hR h0
    by_cases h1 : a + (1 + k) + n > 65536
    · rw [if_pos h1] at hF0
      have HF := Lib.hid hF0
      have h1' : 65536 < ai + (1 + (k : Int)) + n := by have := HA.out; omega
      clear hF0 h1
      go_enter Tryz.func139, Tryz.ntmps139
      go_wp2
      go_region
      go_wp2_with fail
      rw [cut_str, List.take_of_length_le (by simp)]
      refine (readLength_any _ _ (by simp; omega)).mono ?_
      rintro _ w1 ⟨rfl, rfl⟩
      rw [List.drop_one, List.tail_cons, HRL.out]
      simp only [rlVal]
      go_wp2
      refine bodyPost_ret (v := .tuple #[.agg #[.bool false, .int .i64 0, .string ⟨⟨[]⟩⟩, .slice none 0 0], .int .i64 0, .int .i64 11]) (by simp [results, Tryz.results139, go_sem]) rfl ?_
      rw [HF.out]
      exact ⟨rfl, ((((Below.refl _ _).alloc (Nat.le_refl _) _).alloc (by simp) _).alloc (by simp; omega) _).drew⟩
    rw [if_neg h1] at hF0
    have h1' : ai + (1 + (k : Int)) + n ≤ 65536 := by have := HA.out; omega
    by_cases h2 : n > r.length - k
    · rw [if_pos h2] at hF0
      have HF := Lib.hid hF0
      have h2' : ((r.length : Int) + 1) - (1 + (k : Int)) < n := by omega
      clear hF0 h1 h2
      go_enter Tryz.func139, Tryz.ntmps139
      go_wp2
      go_region
      go_wp2_with fail
      rw [cut_str, List.take_of_length_le (by simp)]
      refine (readLength_any _ _ (by simp; omega)).mono ?_
      rintro _ w1 ⟨rfl, rfl⟩
      rw [List.drop_one, List.tail_cons, HRL.out]
      simp only [rlVal]
      go_wp2
      refine bodyPost_ret (v := .tuple #[.agg #[.bool false, .int .i64 0, .string ⟨⟨[]⟩⟩, .slice none 0 0], .int .i64 0, .int .i64 10]) (by simp [results, Tryz.results139, go_sem]) rfl ?_
      rw [HF.out]
      exact ⟨rfl, ((((Below.refl _ _).alloc (Nat.le_refl _) _).alloc (by simp) _).alloc (by simp; omega) _).drew⟩
    rw [if_neg h2] at hF0
    have h2' : (n : Int) ≤ ((r.length : Int) + 1) - (1 + (k : Int)) := by omega
    by_cases hb : b.toNat < 128
    · rw [if_pos hb] at hF0
      have HF := Lib.hid hF0
      have hn : decide (128 ≤ (b.toNat : Int)) = false := by simp; omega
      clear hF0 h1 h2
      go_enter Tryz.func139, Tryz.ntmps139
      go_wp2
      go_region
      go_wp2_with fail
      rw [cut_str, List.take_of_length_le (by simp)]
      refine (readLength_any _ _ (by simp; omega)).mono ?_
      rintro _ w1 ⟨rfl, rfl⟩
      rw [List.drop_one, List.tail_cons, HRL.out]
      simp only [rlVal]
      go_wp2_with fail
      have hcut : (ByteArray.mk ⟨b :: r⟩).extract (1 + k) (1 + k + n) = ⟨⟨(r.drop k).take n⟩⟩ := by
        rw [cut_str, show 1 + k + n - (1 + k) = n by omega, Nat.add_comm 1 k, List.drop_succ_cons]
      rw [hcut]
      clear hcut
      generalize hbody : (r.drop k).take n = body at *
      have HBD := Lib.hid hbody
      have hbl : body.length ≤ 65536 := by rw [← hbody]; simp; omega
      clear hbody
      refine (sclone_any _ _ (by omega)).mono ?_
      rintro _ w1 ⟨rfl, hb1⟩
      obtain ⟨hc, hf⟩ := bcell hb1
      have hz := hb1.size
      go_wp2
      refine bodyPost_ret (v := .tuple #[.agg #[.bool false, .int .i64 ((b.toNat : Int) % 128), .string ⟨⟨body⟩⟩, .slice none 0 0], .int .i64 (1 + (k : Int) + n), .int .i64 0]) (by simp [results, Tryz.results139, go_sem, hc]) rfl ?_
      have hbel : Below w.heap.size w w1 := (((((Below.refl _ _).alloc (Nat.le_refl _) _).alloc (by simp) _).alloc (by simp; omega) _).drew).trans (hb1.mono (by simp; omega))
      rw [HF.out, show (1 + (k : Int) + n) = ((1 + k + n : Nat) : Int) by omega, show ((b.toNat : Int) % 128) = ((b.toNat % 128 : Nat) : Int) by omega]
      refine ⟨_, _, _, _, rfl, rep_mk.2 ⟨none, 0, rfl, .inl rfl⟩, ?_⟩
      exact ((((hbel.setCell (p := ⟨w.heap.size + 1 + 1, 2, none⟩) (by show _ ≤ w.heap.size + 1 + 1; omega) _).setCell (p := ⟨w.heap.size + 1, 0, none⟩) (by show _ ≤ w.heap.size + 1; omega) _).setCell (p := ⟨w.heap.size + 1, 1, none⟩) (by show _ ≤ w.heap.size + 1; omega) _).setCell (p := ⟨w.heap.size + 1, 2, none⟩) (by show _ ≤ w.heap.size + 1; omega) _).setCell (p := ⟨w.heap.size + 1, 3, none⟩) (by show _ ≤ w.heap.size + 1; omega) _
    · rw [if_neg hb] at hF0
      have hn : decide (128 ≤ (b.toNat : Int)) = true := by simp; omega
      have HF := Lib.hid hF0
      clear hF0 h1 h2
      go_enter Tryz.func139, Tryz.ntmps139
      go_wp2
      go_region
      go_wp2_with fail
      rw [cut_str, List.take_of_length_le (by simp)]
      refine (readLength_any _ _ (by simp; omega)).mono ?_
      rintro _ w1 ⟨rfl, rfl⟩
      rw [List.drop_one, List.tail_cons, HRL.out]
      simp only [rlVal]
      go_wp2_with fail
      refine (within_any _ _ _ _ (by omega) (by omega) (by omega) (by omega) (by omega) (by omega)).mono ?_
      rintro _ w1 ⟨rfl, hb1⟩
      go_wp2_with fail
      have hcut : (ByteArray.mk ⟨b :: r⟩).extract (1 + k) (1 + k + n) = ⟨⟨(r.drop k).take n⟩⟩ := by
        rw [cut_str, show 1 + k + n - (1 + k) = n by omega, Nat.add_comm 1 k, List.drop_succ_cons]
      rw [hcut]
      clear hcut
      generalize hbody : (r.drop k).take n = body at *
      have HBD := Lib.hid hbody
      have hbl : body.length = n := by rw [← hbody]; simp; omega
      have HBL := Lib.hid hbl
      clear hbody hbl
      refine (readAll_any f he ho (d + 1) (a + (1 + k)) _ _ body _ (by omega) (by have := HD.out; omega) (by have := HA.out; omega) (by have := HBL.out; have := HA.out; omega)).mono ?_
      rintro e w2 hpost
      rw [HBL.out] at hpost
      have hF := HF.out
      cases hra : rda (rd f) n body (a + (1 + k)) with
      | error x =>
        rw [hra] at hpost hF
        have HF2 := Lib.hid hF
        have hx := rda_err_of (rd_err f) _ _ _ _ hra
        have hne : (x != 0) = true := by simp; omega
        obtain ⟨rfl, hb2⟩ := hpost
        clear hF hra HF
        have hbel : Below w.heap.size w w2 := (((((Below.refl _ _).alloc (Nat.le_refl _) _).alloc (by simp) _).alloc (by simp; omega) _).drew).trans ((hb1.trans (hb2.mono hb1.size)).mono (by simp; omega))
        obtain ⟨hc, hf⟩ := bcell (hb1.trans (hb2.mono hb1.size))
        clear hb1 hb2
        go_wp2
        refine bodyPost_ret (v := .tuple #[.agg #[.bool false, .int .i64 0, .string ⟨⟨[]⟩⟩, .slice none 0 0], .int .i64 0, .int .i64 x]) (by simp [results, Tryz.results139, go_sem, hc]) rfl ?_
        rw [HF2.out]
        exact ⟨rfl, ((((hbel.setCell (p := ⟨w.heap.size + 1 + 1, 3, none⟩) (by show _ ≤ w.heap.size + 1 + 1; omega) _).setCell (p := ⟨w.heap.size + 1, 0, none⟩) (by show _ ≤ w.heap.size + 1; omega) _).setCell (p := ⟨w.heap.size + 1, 1, none⟩) (by show _ ≤ w.heap.size + 1; omega) _).setCell (p := ⟨w.heap.size + 1, 2, none⟩) (by show _ ≤ w.heap.size + 1; omega) _).setCell (p := ⟨w.heap.size + 1, 3, none⟩) (by show _ ≤ w.heap.size + 1; omega) _⟩
      | ok l =>
        rw [hra] at hpost hF
        have HF2 := Lib.hid hF
        obtain ⟨A, cap, rfl, hrow, hb2⟩ := hpost
        clear hF hra HF
        have hbel : Below w.heap.size w w2 := (((((Below.refl _ _).alloc (Nat.le_refl _) _).alloc (by simp) _).alloc (by simp; omega) _).drew).trans ((hb1.trans (hb2.mono hb1.size)).mono (by simp; omega))
        obtain ⟨hc, hf⟩ := bcell (hb1.trans (hb2.mono hb1.size))
        have hw1 : w.heap.size + 1 + 1 < w1.heap.size := by have := hb1.size; simp at this; omega
        have HW1 := Lib.hid hw1
        clear hb1 hb2 hw1
        go_wp2
        refine bodyPost_ret (v := .tuple #[.agg #[.bool true, .int .i64 ((b.toNat : Int) % 128), .string ⟨⟨[]⟩⟩, .slice A l.length cap], .int .i64 (1 + (k : Int) + n), .int .i64 0]) (by simp [results, Tryz.results139, go_sem, hc]) rfl ?_
        rw [HF2.out, show (1 + (k : Int) + n) = ((1 + k + n : Nat) : Int) by omega, show ((b.toNat : Int) % 128) = ((b.toNat % 128 : Nat) : Int) by omega]
        refine ⟨_, _, _, _, rfl, rep_mk.2 ⟨A, cap, rfl, ?_⟩, ?_⟩
        · have hw1 := HW1.out
          refine row_keep (S := New w1.heap.size w2) (w := w2) ?_ ?_ hrow
          · intro c hc
            exact ⟨by have := hc.1; omega, by have := hc.2; simpa [World.setCell] using this⟩
          · intro c o hc
            have hcc := hc.1
            refine World.cell?_of_block ?_
            rw [Below.heap_setCell _ _ _ _ (by show c ≠ w.heap.size + 1; omega), Below.heap_setCell _ _ _ _ (by show c ≠ w.heap.size + 1; omega), Below.heap_setCell _ _ _ _ (by show c ≠ w.heap.size + 1; omega), Below.heap_setCell _ _ _ _ (by show c ≠ w.heap.size + 1; omega), Below.heap_setCell _ _ _ _ (by show c ≠ w.heap.size + 1 + 1; omega)]
        · exact ((((hbel.setCell (p := ⟨w.heap.size + 1 + 1, 3, none⟩) (by show _ ≤ w.heap.size + 1 + 1; omega) _).setCell (p := ⟨w.heap.size + 1, 0, none⟩) (by show _ ≤ w.heap.size + 1; omega) _).setCell (p := ⟨w.heap.size + 1, 1, none⟩) (by show _ ≤ w.heap.size + 1; omega) _).setCell (p := ⟨w.heap.size + 1, 2, none⟩) (by show _ ≤ w.heap.size + 1; omega) _).setCell (p := ⟨w.heap.size + 1, 3, none⟩) (by show _ ≤ w.heap.size + 1; omega) _

theorem read_all : ∀ f, ReadErr f ∧ ReadOk f
  | 0 => by
    refine ⟨fun d a di ai s w x hd hdi hai hs ha hr => ?_, fun d a di ai s w x n hd hdi hai hs ha hr => ?_⟩
    · rw [rd] at hr
      injection hr with hr
      subst hr
      exact read_deep ai di s w (by omega)
    · rw [rd] at hr
      cases hr
  | f + 1 => by
    obtain ⟨he, ho⟩ := read_all f
    refine ⟨fun d a di ai s w x hd hdi hai hs ha hr => ?_, fun d a di ai s w x n hd hdi hai hs ha hr => ?_⟩
    · cases s with
      | nil =>
        rw [rd] at hr
        injection hr with hr
        subst hr
        exact read_empty ai di w (by omega)
      | cons b r =>
        have h := read_step f he ho d a di ai b r w hd hdi hai hs ha
        rw [hr] at h
        exact h
    · cases s with
      | nil =>
        rw [rd] at hr
        cases hr
      | cons b r =>
        have h := read_step f he ho d a di ai b r w hd hdi hai hs ha
        rw [hr] at h
        exact h
end Go.Proofs.YticofjbngfjjlaaGreatDoor.Wi

