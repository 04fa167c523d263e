/- The plain mathematics of SHA-256: bounds. -/
import Derived.Test.YtdjehpbkkbahcaaDoorShaPure
namespace Sh

theorem pow_split (n : Nat) (hn : n ≤ 32) : 2 ^ n * 2 ^ (32 - n) = 4294967296 := by
  rw [← Nat.pow_add, show n + (32 - n) = 32 by omega]
theorem rot_parts (x n : Nat) (hx : x < 4294967296) (hn : n ≤ 32) : x / 2 ^ n < 2 ^ (32 - n) ∧ x % 2 ^ n < 2 ^ n := by
  have h := pow_split n hn
  refine ⟨?_, Nat.mod_lt _ (Nat.two_pow_pos n)⟩
  rw [Nat.div_lt_iff_lt_mul (Nat.two_pow_pos n), Nat.mul_comm, h]
  exact hx
theorem rot_lt {x n : Nat} (hx : x < 4294967296) (hn : n ≤ 32) : rot x n < 4294967296 := by
  obtain ⟨h1, h2⟩ := rot_parts x n hx hn
  have h := pow_split n hn
  unfold rot
  have h3 : (x % 2 ^ n + 1) * 2 ^ (32 - n) ≤ 2 ^ n * 2 ^ (32 - n) := Nat.mul_le_mul_right _ h2
  rw [h, Nat.add_mul, Nat.one_mul] at h3
  omega
theorem rot_or (x n : Nat) (hx : x < 4294967296) (hn : n ≤ 32) : (x * 2 ^ (32 - n) % 4294967296) ||| (x / 2 ^ n) = rot x n := by
  obtain ⟨h1, h2⟩ := rot_parts x n hx hn
  have h := pow_split n hn
  rw [← h, Nat.mul_mod_mul_right, ← Nat.shiftLeft_eq, ← Nat.shiftLeft_add_eq_or_of_lt h1, Nat.shiftLeft_eq]
  unfold rot
  omega
theorem xor_lt {x y : Nat} (hx : x < 4294967296) (hy : y < 4294967296) : x ^^^ y < 4294967296 := Nat.xor_lt_two_pow (n := 32) hx hy
theorem and_lt {x y : Nat} (hy : y < 4294967296) : x &&& y < 4294967296 := Nat.and_lt_two_pow (n := 32) x hy
theorem s0_lt {x : Nat} (hx : x < 4294967296) : s0 x < 4294967296 := xor_lt (xor_lt (rot_lt hx (by decide)) (rot_lt hx (by decide))) (by omega)
theorem s1_lt {x : Nat} (hx : x < 4294967296) : s1 x < 4294967296 := xor_lt (xor_lt (rot_lt hx (by decide)) (rot_lt hx (by decide))) (by omega)
theorem S0_lt {x : Nat} (hx : x < 4294967296) : S0 x < 4294967296 := xor_lt (xor_lt (rot_lt hx (by decide)) (rot_lt hx (by decide))) (rot_lt hx (by decide))
theorem S1_lt {x : Nat} (hx : x < 4294967296) : S1 x < 4294967296 := xor_lt (xor_lt (rot_lt hx (by decide)) (rot_lt hx (by decide))) (rot_lt hx (by decide))
theorem ch_lt {e f g : Nat} (hf : f < 4294967296) (hg : g < 4294967296) : ch e f g < 4294967296 := xor_lt (and_lt hf) (and_lt hg)
theorem ma_lt {a b c : Nat} (hb : b < 4294967296) (hc : c < 4294967296) : ma a b c < 4294967296 := xor_lt (xor_lt (and_lt hb) (and_lt hc)) (and_lt hc)

theorem num_snoc (s : List UInt8) (c : UInt8) : num (s ++ [c]) = num s * 256 + c.toNat := by simp [num]
theorem num_lt (s : List UInt8) : num s < 256 ^ s.length := by
  induction h : s.length generalizing s with
  | zero =>
    have : s = [] := List.eq_nil_of_length_eq_zero h
    subst this
    decide
  | succ n ih =>
    obtain ⟨l, c, rfl⟩ : ∃ l c, s = l ++ [c] := ⟨s.dropLast, s.getLast (by intro e; simp [e] at h), (List.dropLast_concat_getLast _).symm⟩
    have hl : l.length = n := by simpa using h
    have := ih l hl
    rw [num_snoc, Nat.pow_succ]
    have hc : c.toNat < 256 := UInt8.toNat_lt c
    omega
theorem word_lt (s : List UInt8) : word s < 4294967296 := by
  have h := num_lt (s.take 4)
  have hl : (s.take 4).length ≤ 4 := List.length_take_le _ _
  have h2 : 256 ^ (s.take 4).length ≤ 256 ^ 4 := Nat.pow_le_pow_right (by decide) hl
  have h3 : (256 : Nat) ^ 4 = 4294967296 := by decide
  unfold word
  omega

theorem sp_length (b : List UInt8) (t : Nat) : (sp b t).length = t := by
  induction t with
  | zero => rfl
  | succ t ih => simp [sp, ih]
theorem nxt_lt (l : List Nat) (t : Nat) : nxt l t < 4294967296 := Nat.mod_lt _ (by decide)
theorem sp_lt (b : List UInt8) (t : Nat) : ∀ x ∈ sp b t, x < 4294967296 := by
  induction t with
  | zero => intro x hx; cases hx
  | succ t ih =>
    intro x hx
    simp only [sp, List.mem_append, List.mem_singleton] at hx
    rcases hx with hx | hx
    · exact ih x hx
    · subst hx
      split
      · exact word_lt _
      · exact nxt_lt _ _
theorem getD_lt {l : List Nat} (h : ∀ x ∈ l, x < 4294967296) (i : Nat) : l.getD i 0 < 4294967296 := by
  rw [List.getD_eq_getElem?_getD]
  cases hq : l[i]? with
  | none => decide
  | some x => exact h x (List.mem_of_getElem? hq)

structure St.Ok (v : St) : Prop where
  a : v.a < 4294967296
  b : v.b < 4294967296
  c : v.c < 4294967296
  d : v.d < 4294967296
  e : v.e < 4294967296
  f : v.f < 4294967296
  g : v.g < 4294967296
  h : v.h < 4294967296
theorem start_ok : start.Ok := ⟨by decide, by decide, by decide, by decide, by decide, by decide, by decide, by decide⟩
theorem rnd_ok {v : St} (h : v.Ok) (k w : Nat) : (rnd k w v).Ok := ⟨Nat.mod_lt _ (by decide), h.a, h.b, h.c, Nat.mod_lt _ (by decide), h.e, h.f, h.g⟩
theorem rn_ok {v : St} (h : v.Ok) (ws : List Nat) (t : Nat) : (rn ws v t).Ok := by
  induction t with
  | zero => exact h
  | succ t ih => exact rnd_ok ih _ _
theorem plus_ok (v u : St) : (plus v u).Ok := ⟨Nat.mod_lt _ (by decide), Nat.mod_lt _ (by decide), Nat.mod_lt _ (by decide), Nat.mod_lt _ (by decide), Nat.mod_lt _ (by decide), Nat.mod_lt _ (by decide), Nat.mod_lt _ (by decide), Nat.mod_lt _ (by decide)⟩
theorem beh_ok (v : St) (b : List UInt8) : (beh v b).Ok := plus_ok _ _
theorem thr_ok {v : St} (h : v.Ok) (s : List UInt8) (k : Nat) : (thr v s k).Ok := by
  cases k with
  | zero => exact h
  | succ k => exact beh_ok _ _
theorem rds_ok (s : List UInt8) : (rds s).Ok := ⟨word_lt _, word_lt _, word_lt _, word_lt _, word_lt _, word_lt _, word_lt _, word_lt _⟩
theorem txt_length (v : St) : (txt v).length = 32 := rfl
theorem pad_length (n : Nat) : (pad n).length = noughts n + 9 := by simp [pad, cnt]
theorem KK_lt : ∀ x ∈ KK, x < 4294967296 := by decide
theorem SQ_lt : ∀ x ∈ SQ, x < 4294967296 := by decide
end Sh
