import Derived.Test.YtmjpjbnaahdcmaaL4
namespace Go.Proofs.Ytmjpjbnaahdcmaa
open Go.RowKit
open Wr

/-- The digits ahead of the last one, none for nought. -/
def lz (n : Nat) : List UInt8 := if n = 0 then [] else la n

theorem lb_lz (n : Nat) : lb n = lz (n / 128) ++ [UInt8.ofNat (n % 128)] := by
  unfold lb lz
  by_cases h : n < 128
  · rw [if_pos h, if_pos (by omega)]
  · rw [if_neg h, if_neg (by omega)]

theorem lz_step {n : Nat} (h : 0 < n) : lz n = lz (n / 128) ++ [UInt8.ofNat (n % 128 + 128)] := by
  unfold lz
  rw [if_neg (by omega)]
  by_cases h1 : n < 128
  · rw [la_lt' h1, if_pos (by omega), Nat.mod_eq_of_lt h1]; rfl
  · rw [la_ge' h1, if_neg (by omega)]

theorem dg_cases4 {b : Nat} (h : b < 2097152) : dg b ≤ 3 := by
  by_cases h1 : b < 128
  · rw [dg_lt' h1]; omega
  · rw [dg_ge' h1]
    by_cases h2 : b / 128 < 128
    · rw [dg_lt' h2]; omega
    · rw [dg_ge' h2, dg_lt' (by omega)]; omega

/-- One byte as a text. -/
theorem run_byteB (w : World) (z : UInt8) : (convert 39 9 (.slice (some ⟨w.heap.size, 0, none⟩) 1 1)).run Try.prog (w.alloc (.cells #[.int .u8 (z.toNat : Int)] 5)) = .ok (.string ⟨⟨[z]⟩⟩) (w.alloc (.cells #[.int .u8 (z.toNat : Int)] 5)) :=
  run_convert_bytes_back (P := Try.prog) _ 39 9 5 ⟨w.heap.size, 0, none⟩ 1 [z] Try.underlying39 Try.underlying5 Try.underlying9 (fun j hj => by
    have h0 : j = 0 := by simpa using hj
    subst h0
    exact cell_one_new w _ 5 0 _ rfl)

set_option maxHeartbeats 1000000 in
set_option maxRecDepth 100000 in
theorem length_any (n : Nat) (ni : Int) (w : World) (hni : ni = n) (hn : n ≤ 2000000) :
    Calls Try.prog 28 #[.int .i64 ni] w fun e w' => e = .returned (.string ⟨⟨lb n⟩⟩) ∧ Below w.heap.size w w' := by
  obtain ⟨out, hout⟩ : ∃ out, out = lb n := ⟨_, rfl⟩
  rw [← hout]
  have HO := Lib.hid hout
  have hni1 : 0 ≤ ni ∧ ni ≤ 2000000 := by omega
  have hz : (UInt8.ofNat (n % 128)).toNat = n % 128 := ofNat_toNat _ (by omega)
  have hz2 : ni % 128 = ((UInt8.ofNat (n % 128)).toNat : Int) := by rw [hz]; omega
  generalize hzz : UInt8.ofNat (n % 128) = z at *
  have HZZ := Lib.hid hzz
  have hr := run_byteB w z
  have HNI := Lib.hid hni
  have hol := lb_len n
  have hdl := dg_le n
  rw [← hout] at hol
  have holl : out.length ≤ 2000001 := by omega
  clear hout hni hz hzz hol hdl
  go_enter Try.func28, Try.ntmps28
  go_wp2
  go_loopw [0, 3] (fun nv sv wr => ∃ (m : Nat) (u : List UInt8), nv = .int .i64 m ∧ sv = .string ⟨⟨u⟩⟩ ∧ m ≤ 2000000 ∧ Hid (out = lz m ++ u) ∧ Below w.heap.size w wr) (fun nv _ _ => (intOf nv).toNat)
  case atStart => exact ⟨n / 128, [z], by have := HNI.out; congr 1; omega, rfl, by omega, Lib.hid (by rw [HO.out, lb_lz, HZZ.out]), (Below.refl _ _).alloc (Nat.le_refl _) _⟩
  case round =>
    obtain ⟨m, u, rfl, rfl, hm, HU, hb⟩ := hrel
    by_cases hpos : 0 < m
    · have hy : (UInt8.ofNat (m % 128 + 128)).toNat = m % 128 + 128 := ofNat_toNat _ (by omega)
      have hy2 : (128 : Int) + (m : Int) % 128 = ((UInt8.ofNat (m % 128 + 128)).toNat : Int) := by rw [hy]; omega
      have hst := lz_step hpos
      generalize hyy : UInt8.ofNat (m % 128 + 128) = y at *
      have hr2 := run_byteB wr y
      have hul : u.length ≤ 2000001 := by
        have := congrArg List.length HU.out
        rw [List.length_append] at this
        omega
      have HU2 : Hid (out = lz (m / 128) ++ (y :: u)) := by
        show _ = _
        rw [HU.out, hst, List.append_assoc]; rfl
      clear hst hyy hy HU
      go_wp2
      rw [app_str]
      exact ⟨⟨m / 128, y :: u, by congr 1, rfl, by omega, HU2, hb.alloc hb.size _⟩, by simp [intOf]; omega⟩
    · have hm0 : m = 0 := by omega
      subst hm0
      have HF : Hid (out = u) := HU.out
      clear HU
      go_wp2
      go_ret
      exact ⟨by rw [HF.out]; rfl, hb⟩

mutual
/-- The document's shape. -/
def sh : It → Nat → Bool
  | .mk n t s l, d => if d > 32 ∨ t < 1 ∨ 127 < t ∨ (n = true ∧ s.length ≠ 0) ∨ (n = false ∧ l.length ≠ 0) then false else shs l (d + 1)
def shs : List It → Nat → Bool
  | [], _ => true
  | x :: r, d => sh x d && shs r d
end

theorem shs_mem : ∀ (l : List It) (d : Nat), shs l d = true → ∀ x ∈ l, sh x d = true
  | [], _, _, x, hx => by simp at hx
  | y :: r, d, h, x, hx => by
    rw [shs, Bool.and_eq_true] at h
    rcases List.mem_cons.1 hx with rfl | hx
    · exact h.1
    · exact shs_mem r d h.2 x hx

theorem shs_drop (l : List It) (d i : Nat) (h : i < l.length) : shs (l.drop i) d = (sh l[i] d && shs (l.drop (i + 1)) d) := by
  rw [List.drop_eq_getElem_cons h, shs]

theorem sh_mk {n : Bool} {t : Int} {s : List UInt8} {l : List It} {d : Nat} (h : sh (.mk n t s l) d = true) : d ≤ 32 ∧ 1 ≤ t ∧ t < 128 ∧ ((n = true ∧ s = []) ∨ (n = false ∧ l = [])) ∧ shs l (d + 1) = true := by
  rw [sh] at h
  split at h
  · cases h
  · rename_i hc
    refine ⟨by omega, by omega, by omega, ?_, h⟩
    cases n with
    | true => exact .inl ⟨rfl, List.eq_nil_of_length_eq_zero (by simp at hc; simp [hc])⟩
    | false => exact .inr ⟨rfl, List.eq_nil_of_length_eq_zero (by simp at hc; simp [hc])⟩

mutual
theorem sz_sh : ∀ (x : It) (d m : Nat), sz x d = some m → sh x d = true
  | .mk n t s l, d, m, h => by
    obtain ⟨hd, ht1, ht2, hm, hc⟩ := sz_some h
    rw [sh, if_neg ?_]
    · rcases hc with ⟨_, rfl, _⟩ | ⟨_, _, b, hb, _⟩
      · rw [shs]
      · exact szs_sh l _ _ _ hb
    · rcases hc with ⟨rfl, rfl, _⟩ | ⟨rfl, rfl, _⟩
      · simp; omega
      · simp; omega
theorem szs_sh : ∀ (l : List It) (d a b : Nat), szs l d a = some b → shs l d = true
  | [], _, _, _, _ => by rw [shs]
  | x :: r, d, a, b, h => by
    obtain ⟨m, hm, _, hr⟩ := szs_cons h
    rw [shs, sz_sh x d m hm, szs_sh r d _ b hr]
    rfl
end

mutual
theorem sh_sz : ∀ (x : It) (d : Nat), sh x d = true → (wr x).length ≤ 65536 → sz x d = some (wr x).length
  | .mk n t s l, d, h, hl => by
    obtain ⟨hd, ht1, ht2, hc, hs⟩ := sh_mk h
    have hw := wr_mk n t s l
    have hlw : (wr (.mk n t s l)).length = 1 + dg (s ++ wrs l).length + (s ++ wrs l).length := by rw [hw]; simp [lb_len]; omega
    rw [sz, if_neg (by omega)]
    rcases hc with ⟨rfl, rfl⟩ | ⟨rfl, rfl⟩
    · simp only [List.nil_append] at hlw
      have h2 := shs_szs l (d + 1) 0 hs (by omega)
      rw [Nat.zero_add] at h2
      simp [h2]
      omega
    · simp only [wrs_nil, List.append_nil] at hlw
      simp
      omega
theorem shs_szs : ∀ (l : List It) (d a : Nat), shs l d = true → a + (wrs l).length ≤ 65536 → szs l d a = some (a + (wrs l).length)
  | [], d, a, _, _ => by rw [szs, wrs_nil]; rfl
  | x :: r, d, a, h, hl => by
    rw [shs, Bool.and_eq_true] at h
    rw [wrs_cons, List.length_append] at hl ⊢
    rw [szs, sh_sz x d h.1 (by omega)]
    simp only
    rw [if_neg (by omega), shs_szs r d _ h.2 (by omega)]
    congr 1
    omega
end

theorem valid_eq (x : It) : (sz x 0).isSome = (sh x 0 && decide ((wr x).length ≤ 65536)) := by
  cases h : sz x 0 with
  | some m =>
    have h1 := sz_sh x 0 m h
    have h2 := sz_len x 0 m h
    have h3 : m ≤ 65536 := by cases x; exact (sz_some h).2.2.2.1
    rw [h1, h2]
    simp [h3]
  | none =>
    by_cases h1 : sh x 0 = true
    · by_cases h2 : (wr x).length ≤ 65536
      · rw [sh_sz x 0 h1 h2] at h; cases h
      · simp [h2]
    · simp [h1]

mutual
theorem wr_bk : ∀ x : It, bk x ≤ 500000 → (wr x).length ≤ 4 * bk x
  | .mk n t s l, h => by
    rw [bk] at h ⊢
    have h1 := wrs_bk l (by omega)
    have h2 := dg_cases4 (b := (s ++ wrs l).length) (by rw [List.length_append]; omega)
    rw [wr_mk]
    simp only [List.length_cons, List.length_append, lb_len] at h2 ⊢
    omega
theorem wrs_bk : ∀ l : List It, bks l ≤ 500000 → (wrs l).length ≤ 4 * bks l
  | [], _ => by rw [wrs_nil]; simp
  | x :: r, h => by
    rw [bks] at h ⊢
    have h1 := wr_bk x (by omega)
    have h2 := wrs_bk r (by omega)
    rw [wrs_cons, List.length_append]
    omega
end
end Go.Proofs.Ytmjpjbnaahdcmaa
