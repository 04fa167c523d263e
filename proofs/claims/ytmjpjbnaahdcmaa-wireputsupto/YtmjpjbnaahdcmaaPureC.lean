/- Plain mathematics: what is written is read again, and what is read is written so. -/
import Derived.Test.YtmjpjbnaahdcmaaPureB
namespace Go.Proofs.Ytmjpjbnaahdcmaa
namespace Wr

theorem ofNat_toNat (n : Nat) (h : n < 256) : (UInt8.ofNat n).toNat = n := by simp; omega
theorem dg_lt' {n : Nat} (h : n < 128) : dg n = 1 := by rw [dg, dif_pos h]
theorem dg_ge' {n : Nat} (h : ¬ n < 128) : dg n = dg (n / 128) + 1 := by rw [dg, dif_neg h]
theorem dg_pos (n : Nat) : 1 ≤ dg n := by rw [dg]; split <;> omega
theorem la_lt' {n : Nat} (h : n < 128) : la n = [UInt8.ofNat (n + 128)] := by rw [la, dif_pos h]
theorem la_ge' {n : Nat} (h : ¬ n < 128) : la n = la (n / 128) ++ [UInt8.ofNat (n % 128 + 128)] := by rw [la, dif_neg h]

theorem rl_cons {n k : Nat} {b : UInt8} {r : List UInt8} (h1 : n ≤ 512) (h2 : ¬ (k = 0 ∧ b.toNat = 128)) :
    rl n k (b :: r) = if b.toNat ≥ 128 then rl (n * 128 + b.toNat % 128) (k + 1) r else .ok (n * 128 + b.toNat % 128, k + 1) := by
  rw [rl, if_neg (by omega), if_neg h2]

theorem rl_la : ∀ (m : Nat) (rest : List UInt8), 1 ≤ m → m ≤ 65663 → rl 0 0 (la m ++ rest) = rl m (dg m) rest := by
  intro m
  induction m using Nat.strongRecOn with
  | ind m ih =>
    intro rest h1 h2
    by_cases h : m < 128
    · have hb := ofNat_toNat (m + 128) (by omega)
      rw [la_lt' h, dg_lt' h, List.singleton_append, rl_cons (by omega) (by omega), if_pos (by omega), hb]
      congr 1
      omega
    · have hb := ofNat_toNat (m % 128 + 128) (by omega)
      rw [la_ge' h, dg_ge' h, List.append_assoc, List.singleton_append, ih (m / 128) (by omega) _ (by omega) (by omega)]
      have := dg_pos (m / 128)
      rw [rl_cons (by omega) (by omega), if_pos (by omega), hb]
      congr 1
      omega

theorem rl_lb (n : Nat) (rest : List UInt8) (h : n ≤ 65536) : rl 0 0 (lb n ++ rest) = .ok (n, dg n) := by
  unfold lb
  have hb := ofNat_toNat (n % 128) (by omega)
  by_cases h1 : n < 128
  · rw [if_pos h1, List.nil_append, List.singleton_append, rl_cons (by omega) (by omega), if_neg (by omega), hb, dg_lt' h1]
    congr 2
    omega
  · rw [if_neg h1, List.append_assoc, List.singleton_append, rl_la _ _ (by omega) (by omega)]
    have := dg_pos (n / 128)
    rw [rl_cons (by omega) (by omega), if_neg (by omega), hb, dg_ge' h1]
    congr 2
    omega

theorem rl_la_short : ∀ (m j : Nat), 1 ≤ m → m ≤ 512 → j ≤ dg m → rl 0 0 ((la m).take j) = .error 10 := by
  intro m
  induction m using Nat.strongRecOn with
  | ind m ih =>
    intro j h1 h2 hj
    by_cases hf : j = dg m
    · have hl := la_len m
      rw [hf, ← hl, List.take_length]
      have := rl_la m [] h1 (by omega)
      rw [List.append_nil] at this
      rw [this, rl, if_neg (by omega)]
    · by_cases h : m < 128
      · rw [dg_lt' h] at hj hf
        have : j = 0 := by omega
        subst this
        simp [rl]
      · rw [la_ge' h]
        rw [dg_ge' h] at hj hf
        have hl := la_len (m / 128)
        rw [List.take_append_of_le_length (by omega)]
        exact ih (m / 128) (by omega) j (by omega) (by omega) (by omega)

theorem rl_lb_short (n j : Nat) (h : n ≤ 65536) (hj : j < dg n) : rl 0 0 ((lb n).take j) = .error 10 := by
  unfold lb
  by_cases h1 : n < 128
  · rw [dg_lt' h1] at hj
    have : j = 0 := by omega
    subst this
    simp [rl]
  · rw [if_neg h1]
    rw [dg_ge' h1] at hj
    have hl := la_len (n / 128)
    rw [List.take_append_of_le_length (by omega)]
    exact rl_la_short _ _ (by omega) (by omega) (by omega)

theorem ofNat_eq (b : UInt8) (n : Nat) (h : n = b.toNat) : UInt8.ofNat n = b := by
  subst h
  simp

theorem rl_inv : ∀ (s : List UInt8) (n k m j : Nat), 1 ≤ n → rl n k s = .ok (m, j) → 1 ≤ k → ∃ i, j = k + i ∧ 1 ≤ i ∧ i ≤ s.length ∧ la n ++ s.take i = lb m ∧ dg m = dg n + i
  | [], n, k, m, j, hn, h, hk => by
    rw [rl] at h
    split at h <;> cases h
  | b :: r, n, k, m, j, hn, h, hk => by
    have hb : b.toNat < 256 := UInt8.toNat_lt b
    by_cases h5 : n > 512
    · rw [rl, if_pos h5] at h; cases h
    rw [rl_cons (by omega) (by omega)] at h
    split at h
    · rename_i hge
      obtain ⟨i, hi1, hi2, hi3, hi4, hi5⟩ := rl_inv r _ _ _ _ (by omega) h (by omega)
      have hla : la (n * 128 + b.toNat % 128) = la n ++ [b] := by
        rw [la_ge' (by omega), show (n * 128 + b.toNat % 128) / 128 = n by omega]
        congr 2
        exact ofNat_eq _ _ (by omega)
      have hdg : dg (n * 128 + b.toNat % 128) = dg n + 1 := by
        rw [dg_ge' (by omega), show (n * 128 + b.toNat % 128) / 128 = n by omega]
      refine ⟨i + 1, by omega, by omega, by simp; omega, ?_, by omega⟩
      rw [← hi4, hla]
      simp
    · rename_i hlt
      injection h with h
      injection h with h1 h2
      refine ⟨1, by omega, by omega, by simp, ?_, ?_⟩
      · subst h1
        unfold lb
        rw [if_neg (by omega), show (n * 128 + b.toNat % 128) / 128 = n by omega]
        simp only [List.take_succ_cons, List.take_zero]
        congr 2
        exact (ofNat_eq _ _ (by omega)).symm
      · subst h1
        rw [dg_ge' (by omega), show (n * 128 + b.toNat % 128) / 128 = n by omega]

theorem rl_back {s : List UInt8} {m j : Nat} (h : rl 0 0 s = .ok (m, j)) : j ≤ s.length ∧ s.take j = lb m ∧ j = dg m := by
  cases s with
  | nil => rw [rl] at h; split at h <;> cases h
  | cons b r =>
    have hb : b.toNat < 256 := UInt8.toNat_lt b
    by_cases h0 : b.toNat = 128
    · rw [rl, if_neg (by omega), if_pos ⟨rfl, h0⟩] at h; cases h
    rw [rl_cons (by omega) (by omega)] at h
    split at h
    · rename_i hge
      obtain ⟨i, hi1, hi2, hi3, hi4, hi5⟩ := rl_inv r _ _ _ _ (by omega) h (by omega)
      have hla : la (0 * 128 + b.toNat % 128) = [b] := by
        rw [la_lt' (by omega)]
        congr 1
        exact ofNat_eq _ _ (by omega)
      have hdg : dg (0 * 128 + b.toNat % 128) = 1 := dg_lt' (by omega)
      refine ⟨by simp; omega, ?_, by omega⟩
      rw [← hi4, hla, hi1, Nat.add_comm, Nat.zero_add, List.take_succ_cons]
      rfl
    · rename_i hlt
      injection h with h
      injection h with h1 h2
      subst h1 h2
      refine ⟨by simp, ?_, ?_⟩
      · unfold lb
        rw [if_pos (by omega)]
        simp only [List.take_succ_cons, List.take_zero, List.nil_append, Nat.zero_add]
        congr 1
        exact (ofNat_eq _ _ (by omega)).symm
      · exact (dg_lt' (by omega)).symm

theorem tb_toNat (n : Bool) (t : Int) (h1 : 1 ≤ t) (h2 : t < 128) : ((tb n t).toNat : Int) = if n then t + 128 else t := by
  unfold tb
  cases n <;> simp <;> omega

theorem tb_of (b : UInt8) : tb (decide (b.toNat ≥ 128)) ((b.toNat % 128 : Nat) : Int) = b := by
  have hb : b.toNat < 256 := UInt8.toNat_lt b
  unfold tb
  apply ofNat_eq
  by_cases h : b.toNat ≥ 128
  · simp [h]; omega
  · simp [h]; omega

theorem rda_back {f d : Nat} (ih : ∀ s a x n, rd f s a = .ok (x, n) → wr x = s.take n ∧ sz x d = some n) :
    ∀ (g : Nat) (s : List UInt8) (a : Nat) (l : List It), rda (rd f) g s a = .ok l → wrs l = s ∧ ∀ acc, acc + s.length ≤ 65536 → szs l d acc = some (acc + s.length)
  | g, [], a, l, h => by
    rw [rda_nil] at h
    injection h with h
    subst h
    exact ⟨wrs_nil, fun acc _ => by rw [szs]; rfl⟩
  | 0, b :: s, a, l, h => by rw [rda] at h; cases h
  | g + 1, b :: s, a, l, h => by
    rw [rda] at h
    split at h
    · cases h
    · rename_i x n hx
      split at h
      · cases h
      · rename_i l' hl'
        injection h with h
        subst h
        obtain ⟨h1, h2⟩ := ih _ _ _ _ hx
        have hbd := rd_bound hx
        obtain ⟨h3, h4⟩ := rda_back ih g _ _ _ hl'
        refine ⟨by rw [wrs_cons, h1, h3, List.take_append_drop], fun acc hacc => ?_⟩
        have hld : ((b :: s).drop n).length + n = (b :: s).length := by rw [List.length_drop]; omega
        rw [szs, h2]
        simp only
        rw [if_neg (by omega), h4 (acc + n) (by omega)]
        congr 1
        omega

theorem rd_back : ∀ (f d : Nat) (s : List UInt8) (a : Nat) (x : It) (n : Nat), d + f = 33 → rd f s a = .ok (x, n) → wr x = s.take n ∧ sz x d = some n
  | 0, _, _, _, _, _, _, h => by rw [rd] at h; cases h
  | _ + 1, _, [], _, _, _, _, h => by rw [rd] at h; cases h
  | f + 1, d, b :: r, a, x, n, hd, h => by
    have hb : b.toNat < 256 := UInt8.toNat_lt b
    rw [rd] at h
    split at h
    · cases h
    rename_i h0
    split at h
    · cases h
    rename_i m k hr
    obtain ⟨hk1, hk2, hk3⟩ := rl_back hr
    have hbd := rl_bound _ _ _ _ _ hr
    split at h
    · cases h
    rename_i hlong
    split at h
    · cases h
    rename_i hshort
    have hml : ((r.drop k).take m).length = m := by simp; omega
    have htb := tb_of b
    split at h
    · rename_i hlt
      injection h with h
      injection h with h1 h2
      subst h1 h2
      have hdec : decide (b.toNat ≥ 128) = false := by simp; omega
      rw [hdec] at htb
      refine ⟨?_, ?_⟩
      · rw [wr_mk, wrs_nil, List.append_nil, hml, htb, ← hk2, Nat.add_assoc, Nat.add_comm 1, List.take_succ_cons, List.take_add]
      · rw [sz, if_neg (by omega)]
        simp only [if_true, List.length_nil, hml]
        rw [if_neg (by omega)]
        congr 1
        omega
    · rename_i hge
      split at h
      · cases h
      · rename_i l hl
        injection h with h
        injection h with h1 h2
        subst h1 h2
        obtain ⟨h3, h4⟩ := rda_back (d := d + 1) (fun s a x n hx => rd_back f (d + 1) s a x n (by omega) hx) _ _ _ _ hl
        have hdec : decide (b.toNat ≥ 128) = true := by simp; omega
        rw [hdec] at htb
        refine ⟨?_, ?_⟩
        · rw [wr_mk, h3, List.nil_append, hml, htb, ← hk2, Nat.add_assoc, Nat.add_comm 1, List.take_succ_cons, List.take_add]
        · rw [sz, if_neg (by omega)]
          have h5 := h4 0 (by omega)
          rw [hml, Nat.zero_add] at h5
          simp only [List.length_nil, if_true, h5]
          simp
          omega

theorem rda_wr {f d : Nat} : ∀ (l : List It) (g a acc b : Nat), (∀ x ∈ l, ∀ (m a : Nat) (rest : List UInt8), sz x d = some m → a + m ≤ 65536 → rd f (wr x ++ rest) a = .ok (x, m)) → szs l d acc = some b → (wrs l).length ≤ g → a + (wrs l).length ≤ 65536 → rda (rd f) g (wrs l) a = .ok l
  | [], g, a, acc, b, _, _, _, _ => by rw [wrs_nil, rda_nil]
  | x :: r, g, a, acc, b, hx, hs, hg, ha => by
    obtain ⟨m, hm, _, hr⟩ := szs_cons hs
    have hlen := sz_len x d m hm
    have hp := wr_pos x
    rw [wrs_cons] at hg ha ⊢
    simp only [List.length_append] at hg ha
    obtain ⟨g', rfl⟩ : ∃ g', g = g' + 1 := ⟨g - 1, by omega⟩
    have h1 := hx x (by simp) m a (wrs r) hm (by omega)
    have h2 := rda_wr r g' (a + m) _ b (fun y hy => hx y (by simp [hy])) hr (by omega) (by omega)
    have hd : (wr x ++ wrs r).drop m = wrs r := by rw [← hlen]; exact List.drop_left
    cases hw : wr x ++ wrs r with
    | nil =>
      have := congrArg List.length hw
      rw [List.length_append, List.length_nil] at this
      omega
    | cons c t =>
      rw [hw] at h1 hd
      rw [rda_ok h1, hd, h2]
      rfl

theorem rd_wr : ∀ (x : It) (f d m a : Nat) (rest : List UInt8), d + f = 33 → sz x d = some m → a + m ≤ 65536 → rd f (wr x ++ rest) a = .ok (x, m) := It.ind (by
  intro n t s l ih f d m a rest hd hz ha
  obtain ⟨hd32, ht1, ht2, hm, hc⟩ := sz_some hz
  have hlen := sz_len _ _ _ hz
  obtain ⟨f', rfl⟩ : ∃ f', f = f' + 1 := ⟨f - 1, by omega⟩
  rw [wr_mk] at hlen ⊢
  have htn := tb_toNat n t ht1 ht2
  generalize hbody : s ++ wrs l = body at *
  have hm2 : m = 1 + dg body.length + body.length := by
    rw [← hlen]; simp [lb_len]; omega
  rw [List.cons_append, List.append_assoc, rd, if_neg (by cases n <;> simp at htn <;> omega), rl_lb _ _ (by omega)]
  simp only
  have hdrop : (lb body.length ++ (body ++ rest)).drop (dg body.length) = body ++ rest := by rw [← lb_len]; exact List.drop_left
  rw [if_neg (by omega), if_neg (by simp [lb_len]), hdrop, List.take_left]
  rcases hc with ⟨rfl, rfl, _⟩ | ⟨rfl, rfl, b, hb, _⟩
  · rw [wrs_nil, List.append_nil] at hbody
    subst hbody
    simp at htn
    rw [if_pos (by omega), show ((tb false t).toNat % 128 : Nat) = t.toNat by omega, show ((t.toNat : Nat) : Int) = t by omega]
    congr 2
    omega
  · rw [List.nil_append] at hbody
    subst hbody
    simp at htn
    rw [if_neg (by omega), rda_wr l _ _ 0 b (fun y hy m a rest hz ha => ih y hy f' (d + 1) m a rest (by omega) hz ha) hb (Nat.le_refl _) (by omega)]
    simp only
    rw [show ((tb true t).toNat % 128 : Nat) = t.toNat by omega, show ((t.toNat : Nat) : Int) = t by omega]
    congr 2
    omega)

theorem rd_short (x : It) (f d m a cut : Nat) (hd : d + f = 33) (hz : sz x d = some m) (ha : a + m ≤ 65536) (hc : cut < m) : rd f ((wr x).take cut) a = .error 10 := by
  obtain ⟨n, t, s, l⟩ := x
  obtain ⟨hd32, ht1, ht2, hm, _⟩ := sz_some hz
  have hlen := sz_len _ _ _ hz
  obtain ⟨f', rfl⟩ : ∃ f', f = f' + 1 := ⟨f - 1, by omega⟩
  rw [wr_mk] at hlen ⊢
  have htn := tb_toNat n t ht1 ht2
  generalize hbody : s ++ wrs l = body at *
  have hm2 : m = 1 + dg body.length + body.length := by
    rw [← hlen]; simp [lb_len]; omega
  cases cut with
  | zero => rw [List.take_zero, rd]
  | succ c =>
    rw [List.take_succ_cons, rd, if_neg (by cases n <;> simp at htn <;> omega)]
    by_cases h1 : c < dg body.length
    · rw [List.take_append_of_le_length (by rw [lb_len]; omega), rl_lb_short _ _ (by omega) h1]
    · have ht : (lb body.length ++ body).take c = lb body.length ++ body.take (c - dg body.length) := by
        rw [List.take_append, lb_len, List.take_of_length_le (by rw [lb_len]; omega)]
      rw [ht, rl_lb _ _ (by omega)]
      simp only
      rw [if_neg (by omega), if_pos (by simp [lb_len]; omega)]

theorem wr_inj {x y : It} {d m k : Nat} (hd : d ≤ 33) (hx : sz x d = some m) (hy : sz y d = some k) (h : wr x = wr y) : x = y := by
  have h0 : m ≤ 65536 := by cases x; exact (sz_some hx).2.2.2.1
  have h0' : k ≤ 65536 := by cases y; exact (sz_some hy).2.2.2.1
  have h1 := rd_wr x (33 - d) d m 0 [] (by omega) hx (by omega)
  have h2 := rd_wr y (33 - d) d k 0 [] (by omega) hy (by omega)
  rw [h] at h1
  rw [h1] at h2
  injection h2 with h2
  injection h2
end Wr
end Go.Proofs.Ytmjpjbnaahdcmaa
