import Derived.Test.YtmjpjbnaahdcmaaW5
namespace Go.Proofs.Ytmjpjbnaahdcmaa
open Go.RowKit
open Wr

mutual
/-- How many items and bytes. -/
def bk : It → Nat
  | .mk _ _ s l => 1 + s.length + bks l
def bks : List It → Nat
  | [] => 0
  | x :: r => bk x + bks r
end

theorem bks_mem : ∀ (l : List It) (x : It), x ∈ l → bk x ≤ bks l
  | y :: r, x, h => by
    rw [bks]
    rcases List.mem_cons.1 h with rfl | h
    · omega
    · have := bks_mem r x h; omega
theorem bk_pos (x : It) : 1 ≤ bk x := by cases x; rw [bk]; omega
theorem bks_len : ∀ (l : List It), l.length ≤ bks l
  | [] => by rw [bks]; simp
  | x :: r => by have := bks_len r; have := bk_pos x; rw [bks]; simp; omega

/-- What size answers. -/
def SzPost (r : Option Nat) (w : World) (e : Ending) (w' : World) : Prop :=
  match r with
  | none => e = .returned (.tuple #[.int .i64 0, .bool false]) ∧ Below w.heap.size w w'
  | some m => e = .returned (.tuple #[.int .i64 m, .bool true]) ∧ Below w.heap.size w w'

def SizeSaid (x : It) : Prop := ∀ (d : Nat) (di : Int) (S : Nat → Prop) (v : Value) (w : World), di = d → d ≤ 40 → bk x ≤ 2000000 → Rep w S x v → (∀ b, S b → b < w.heap.size) →
  Calls Try.prog 24 #[v, .int .i64 di] w (SzPost (sz x d) w)

set_option maxHeartbeats 1000000 in
set_option maxRecDepth 100000 in
theorem bodySize_loop (t : Int) (l : List It) (ih : ∀ y ∈ l, SizeSaid y) (d : Nat) (di : Int) (S : Nat → Prop) (A : Option Addr) (cap : Nat) (w : World) (hdi : di = d) (hd : d ≤ 39) (hk : bks l ≤ 2000000) (hrow : Row w S l A) (hS : ∀ b, S b → b < w.heap.size) :
    Calls Try.prog 30 #[.agg #[.bool true, .int .i64 t, .string ⟨⟨[]⟩⟩, .slice A l.length cap], .int .i64 di] w (SzPost (szs l (d + 1) 0) w) := by
  have hdi' : 0 ≤ di ∧ di ≤ 39 := by omega
  have HD := Lib.hid hdi
  have hll := bks_len l
  have HROW := Lib.hid hrow
  clear hdi hrow
  go_enter Try.func30, Try.ntmps30
  go_wp2
  go_loopw [6, 27] (fun nv iv wr => ∃ (i acc : Nat), nv = .int .i64 acc ∧ iv = .int .i64 i ∧ i ≤ l.length ∧ acc ≤ 65536 ∧ Hid (szs l (d + 1) 0 = szs (l.drop i) (d + 1) acc) ∧ Below w.heap.size w wr) (fun _ iv _ => l.length - (intOf iv).toNat)
  case atStart => exact ⟨0, 0, rfl, rfl, by omega, by omega, Lib.hid rfl, (Below.refl _ _).alloc (Nat.le_refl _) _⟩
  case round =>
    obtain ⟨i, acc, rfl, rfl, hi, hacc, HE, hb⟩ := hrel
    by_cases hlt : i < l.length
    · have hgi : l[i]? = some l[i] := List.getElem?_eq_getElem hlt
      rcases HROW.out with h | ⟨b, o, rfl, hSb, hreps⟩
      · rw [h] at hlt; simp at hlt
      obtain ⟨v0, v1, v2, v3, c0, c1, c2, c3, hrep⟩ := reps_at l b o i _ hreps hgi
      have hdrop : l.drop i = l[i] :: l.drop (i + 1) := List.drop_eq_getElem_cons hlt
      have hmem : l[i] ∈ l := List.getElem_mem hlt
      have hbk := bks_mem l _ hmem
      have hih := ih _ hmem
      generalize hxe : l[i] = x at *
      have HE2 := HE.out
      rw [hdrop, szs] at HE2
      have HEE := Lib.hid HE2
      have HIH := Lib.hid hih
      clear HE HE2 hdrop hgi hmem hxe hih
      have hrep0 := hrep
      obtain ⟨xn, xt, xs0, xl⟩ := x
      obtain ⟨A', cap', hv, hrow'⟩ := rep_mk.1 hrep
      injection hv with hv
      simp at hv
      obtain ⟨rfl, rfl, rfl, rfl⟩ := hv
      have hbS := hS b hSb
      have hq0 := (hb.cell (p := ⟨b, o + i * 4, none⟩) hbS).trans c0
      have hq1 := (hb.cell (p := ⟨b, o + i * 4 + 1, none⟩) hbS).trans c1
      have hq2 := (hb.cell (p := ⟨b, o + i * 4 + 2, none⟩) hbS).trans c2
      have hq3 := (hb.cell (p := ⟨b, o + i * 4 + 3, none⟩) hbS).trans c3
      clear c0 c1 c2 c3
      have hrepw : Rep (wr.alloc (.cells #[.bool xn, .int .i64 xt, .string ⟨⟨xs0⟩⟩, .slice A' xl.length cap'] 24)) S (.mk xn xt xs0 xl) (.agg #[.bool xn, .int .i64 xt, .string ⟨⟨xs0⟩⟩, .slice A' xl.length cap']) :=
        rep_alloc (S := S) (rep_keep (fun _ h => h) (fun c o hc => hb.cell (p := ⟨c, o, none⟩) (hS c hc)) _ _ hrep0) _ (fun c hc => ⟨by have := hS c hc; have := hb.size; omega, hc⟩)
      have hSw : ∀ c, S c → c < (wr.alloc (.cells #[.bool xn, .int .i64 xt, .string ⟨⟨xs0⟩⟩, .slice A' xl.length cap'] 24)).heap.size := fun c hc => by have := hS c hc; have := hb.size; simp; omega
      have HRW := Lib.hid hrepw
      have HSW := Lib.hid hSw
      have HSS := Lib.hid hS
      clear hrepw hSw hS hrep hrep0 hrow' hreps
      go_wp2_with fail
      refine (HIH.out (d + 1) _ S _ _ (by have := HD.out; omega) (by omega) (by omega) HRW.out HSW.out).mono ?_
      rintro e w1 hpost
      have hE := HEE.out
      cases hz : sz (.mk xn xt xs0 xl) (d + 1) with
      | none =>
        rw [hz] at hpost hE
        obtain ⟨rfl, hb1⟩ := hpost
        have HE := Lib.hid hE
        clear hE hz HEE
        go_wp2
        go_ret2
        rw [HE.out]
        exact ⟨rfl, (hb.alloc hb.size _).trans (hb1.mono (by have := hb.size; simp; omega))⟩
      | some m =>
        rw [hz] at hpost hE
        simp only at hE
        obtain ⟨rfl, hb1⟩ := hpost
        have hm : m ≤ 65536 := by
          have hh := hz
          rw [sz] at hh
          split at hh
          · cases hh
          split at hh
          · cases hh
          split at hh
          · cases hh
          · injection hh with hh; omega
        by_cases hgt : acc + m > 65536
        · rw [if_pos hgt] at hE
          have HE := Lib.hid hE
          have hgt' : (65536 : Int) < (acc : Int) + m := by omega
          clear hE hz HEE hgt
          go_wp2
          go_ret2
          rw [HE.out]
          exact ⟨rfl, (hb.alloc hb.size _).trans (hb1.mono (by have := hb.size; simp; omega))⟩
        · rw [if_neg hgt] at hE
          have HE := Lib.hid hE
          have hgt' : (acc : Int) + m ≤ 65536 := by omega
          clear hE hz HEE hgt
          go_wp2
          refine ⟨⟨i + 1, acc + m, by go_num, by go_num, by omega, by omega, HE, (hb.alloc hb.size _).trans (hb1.mono (by have := hb.size; simp; omega))⟩, ?_⟩
          simp [intOf]; omega
    · have hie : i = l.length := by omega
      have hE := HE.out
      rw [hie, List.drop_length, szs] at hE
      have HE2 := Lib.hid hE
      clear hE HE hie
      go_wp2
      go_ret2
      rw [HE2.out]
      exact ⟨rfl, hb⟩

/-- What bodySize answers. -/
def bz (n : Bool) (s : List UInt8) (l : List It) (d : Nat) : Nat × Bool :=
  if n = false then (s.length, decide (l.length = 0)) else if s.length = 0 then (match szs l (d + 1) 0 with | none => (0, false) | some b => (b, true)) else (0, false)

theorem szs_le : ∀ (l : List It) (d a b : Nat), a ≤ 65536 → szs l d a = some b → b ≤ 65536
  | [], d, a, b, ha, h => by rw [szs] at h; injection h with h; omega
  | x :: r, d, a, b, ha, h => by
    rw [szs] at h
    split at h
    · cases h
    split at h
    · cases h
    · exact szs_le r d _ b (by omega) h

theorem bz_le (n : Bool) (s : List UInt8) (l : List It) (d : Nat) (hs : s.length ≤ 2000000) : (bz n s l d).1 ≤ 2000000 := by
  unfold bz
  split
  · exact hs
  split
  · split
    · simp
    · rename_i h
      have := szs_le _ _ _ _ (by omega) h
      simp; omega
  · simp

set_option maxHeartbeats 1000000 in
set_option maxRecDepth 100000 in
theorem bodySize_any (n : Bool) (t : Int) (s : List UInt8) (l : List It) (ih : ∀ y ∈ l, SizeSaid y) (d : Nat) (di : Int) (S : Nat → Prop) (A : Option Addr) (cap : Nat) (w : World) (hdi : di = d) (hd : d ≤ 39) (hk : bks l ≤ 2000000) (hs : s.length ≤ 2000000) (hrow : Row w S l A) (hS : ∀ b, S b → b < w.heap.size) :
    Calls Try.prog 30 #[.agg #[.bool n, .int .i64 t, .string ⟨⟨s⟩⟩, .slice A l.length cap], .int .i64 di] w fun e w' => e = .returned (.tuple #[.int .i64 (bz n s l d).1, .bool (bz n s l d).2]) ∧ Below w.heap.size w w' := by
  cases n with
  | false =>
    have hz : bz false s l d = (s.length, decide (l.length = 0)) := by simp [bz]
    rw [hz]
    clear hz
    have hb : (((l.length : Nat) : Int) == 0) = decide (l.length = 0) := by
      rw [Bool.eq_iff_iff]; simp
    have HB := Lib.hid hb
    clear hb hrow hS ih
    go_enter Try.func30, Try.ntmps30
    go_wp2
    go_region
    go_wp2
    go_ret2
    exact ⟨by rw [← HB.out]; rfl, ((Below.refl _ _).alloc (Nat.le_refl _) _).drew⟩
  | true =>
    cases s with
    | nil =>
      have h := bodySize_loop t l ih d di S A cap w hdi hd hk hrow hS
      refine h.mono ?_
      intro e w' hp
      cases hz : szs l (d + 1) 0 with
      | none =>
        rw [hz] at hp
        have : bz true [] l d = (0, false) := by simp [bz, hz]
        rw [this]
        exact hp
      | some b =>
        rw [hz] at hp
        have : bz true [] l d = (b, true) := by simp [bz, hz]
        rw [this]
        exact hp
    | cons c r =>
      have hz : bz true (c :: r) l d = (0, false) := by simp [bz]
      rw [hz]
      clear hz hrow hS ih
      go_enter Try.func30, Try.ntmps30
      go_wp2
      go_ret2
      exact ⟨rfl, (Below.refl _ _).alloc (Nat.le_refl _) _⟩

theorem sz_bz (n : Bool) (t : Int) (s : List UInt8) (l : List It) (d : Nat) : sz (.mk n t s l) d = if d > 32 ∨ t < 1 ∨ t ≥ 128 then none else if (bz n s l d).2 = false ∨ (bz n s l d).1 + 1 + dg (bz n s l d).1 > 65536 then none else some ((bz n s l d).1 + 1 + dg (bz n s l d).1) := by
  rw [sz]
  split
  · rfl
  · unfold bz
    cases n with
    | false =>
      by_cases h : l.length = 0
      · simp [h]
      · simp [h]
    | true =>
      by_cases h : s.length = 0
      · cases hz : szs l (d + 1) 0 with
        | none => simp [h]
        | some b => simp [h]
      · simp [h]

set_option maxHeartbeats 1000000 in
set_option maxRecDepth 100000 in
theorem size_any : ∀ x, SizeSaid x := It.ind (by
  intro n t s l ih d di S v w hdi hd hk hrep hS
  obtain ⟨A, cap, rfl, hrow⟩ := rep_mk.1 hrep
  rw [bk] at hk
  rw [sz_bz]
  by_cases h1 : d > 32 ∨ t < 1 ∨ t ≥ 128
  · rw [if_pos h1]
    by_cases ha : d > 32
    · have ha' : 32 < di := by omega
      clear hrow hS hrep ih h1
      go_enter Try.func24, Try.ntmps24
      go_wp2
      go_ret2
      exact ⟨rfl, (Below.refl _ _).alloc (Nat.le_refl _) _⟩
    · have ha' : di ≤ 32 := by omega
      by_cases hb : t < 1
      · clear hrow hS hrep ih h1
        go_enter Try.func24, Try.ntmps24
        go_wp2
        go_ret2
        exact ⟨rfl, (Below.refl _ _).alloc (Nat.le_refl _) _⟩
      · have hb' : 1 ≤ t := by omega
        have hc' : 128 ≤ t := by omega
        clear hrow hS hrep ih h1
        go_enter Try.func24, Try.ntmps24
        go_wp2
        go_ret2
        exact ⟨rfl, (Below.refl _ _).alloc (Nat.le_refl _) _⟩
  · rw [if_neg h1]
    have h1' : 0 ≤ di ∧ di ≤ 32 ∧ 1 ≤ t ∧ t < 128 := by omega
    obtain ⟨h10, h11, h12, h13⟩ := h1'
    have hd32 : d ≤ 32 := by omega
    have HROW : Hid (Row (w.alloc (.cells #[.bool n, .int .i64 t, .string ⟨⟨s⟩⟩, .slice A l.length cap] 24)) S l A) :=
      row_keep (fun _ h => h) (fun c o hc => World.cell?_of_block (Below.heap_alloc _ _ _ (hS c hc))) hrow
    have HS : Hid (∀ b, S b → b < (w.alloc (.cells #[.bool n, .int .i64 t, .string ⟨⟨s⟩⟩, .slice A l.length cap] 24)).heap.size) := fun b hb => by have := hS b hb; simp; omega
    have HD := Lib.hid hdi
    have hbl := bz_le n s l d (by omega)
    have hdl := dg_le (bz n s l d).1
    clear hrow hS hrep h1 hdi
    generalize hbz : bz n s l d = r at *
    have HBZ := Lib.hid hbz
    clear hbz
    obtain ⟨m, ok⟩ := r
    simp only at hbl hdl ⊢
    obtain ⟨R, hR⟩ : ∃ R, R = (if ok = false ∨ m + 1 + dg m > 65536 then none else some (m + 1 + dg m)) := ⟨_, rfl⟩
    rw [← hR]
    have HR := Lib.hid hR
    clear hR
    have hih := Lib.hid ih
    clear ih
    go_enter Try.func24, Try.ntmps24
    go_wp2_with fail
    refine (bodySize_any n t s l hih.out d di S A cap _ HD.out (by omega) (by omega) (by omega) HROW.out HS.out).mono ?_
    rintro e w1 ⟨rfl, hb1⟩
    rw [HBZ.out]
    go_wp2_with fail
    refine (digits_any m _ (by omega)).mono ?_
    rintro e w2 ⟨rfl, rfl⟩
    generalize dg m = g at *
    have hbel : Below w.heap.size w w1 := ((Below.refl _ _).alloc (Nat.le_refl _) _).trans (hb1.mono (by simp))
    cases ok with
    | false =>
      have HR2 : Hid (R = none) := HR.out.trans (if_pos (Or.inl rfl))
      clear HR
      go_wp2
      go_ret2
      rw [HR2.out]
      exact ⟨rfl, hbel⟩
    | true =>
      by_cases hgt : m + 1 + g > 65536
      · have hgt' : (65536 : Int) < (m : Int) + (1 + g) := by omega
        have HG := Lib.hid hgt
        clear hgt
        go_wp2
        go_ret2
        rw [HR.out.trans (if_pos (Or.inr HG.out))]
        exact ⟨rfl, hbel⟩
      · have hgt' : (m : Int) + (1 + g) ≤ 65536 := by omega
        have HG := Lib.hid hgt
        clear hgt
        go_wp2
        go_ret2
        rw [HR.out.trans (if_neg (by have := HG.out; simp; omega))]
        exact ⟨by simp; omega, hbel⟩)

set_option maxHeartbeats 1000000 in
set_option maxRecDepth 100000 in
theorem valid_any (x : It) (S : Nat → Prop) (v : Value) (w : World) (hk : bk x ≤ 2000000) (hrep : Rep w S x v) (hS : ∀ b, S b → b < w.heap.size) :
    Calls Try.prog 16 #[v] w fun e w' => e = .returned (.bool (sz x 0).isSome) ∧ Below w.heap.size w w' := by
  obtain ⟨n, t, s, l⟩ := x
  have hrep0 := hrep
  obtain ⟨A, cap, rfl, hrow⟩ := rep_mk.1 hrep
  have HR : Hid (Rep (w.alloc (.cells #[.bool n, .int .i64 t, .string ⟨⟨s⟩⟩, .slice A l.length cap] 24)) S (.mk n t s l) (.agg #[.bool n, .int .i64 t, .string ⟨⟨s⟩⟩, .slice A l.length cap])) := rep_alloc hrep0 _ (fun c hc => ⟨hS c hc, hc⟩)
  have HS : Hid (∀ b, S b → b < (w.alloc (.cells #[.bool n, .int .i64 t, .string ⟨⟨s⟩⟩, .slice A l.length cap] 24)).heap.size) := fun b hb => by have := hS b hb; simp; omega
  clear hrep hrep0 hrow hS
  go_enter Try.func16, Try.ntmps16
  go_wp2_with fail
  refine (size_any (.mk n t s l) 0 0 S _ _ rfl (by omega) hk HR.out HS.out).mono ?_
  intro e w1 hp
  cases hz : sz (.mk n t s l) 0 with
  | none =>
    rw [hz] at hp
    obtain ⟨rfl, hb1⟩ := hp
    have HZ := Lib.hid hz
    clear hz
    go_wp2
    go_ret
    exact ⟨by rw [HZ.out]; rfl, ((Below.refl _ _).alloc (Nat.le_refl _) _).trans (hb1.mono (by simp))⟩
  | some m =>
    rw [hz] at hp
    obtain ⟨rfl, hb1⟩ := hp
    have HZ := Lib.hid hz
    clear hz
    go_wp2
    go_ret
    exact ⟨by rw [HZ.out]; rfl, ((Below.refl _ _).alloc (Nat.le_refl _) _).trans (hb1.mono (by simp))⟩
end Go.Proofs.Ytmjpjbnaahdcmaa
