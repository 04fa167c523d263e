/- carry: Unpack. (Laid with NS=1; written by wip/tools/gen/cyu16.py.) -/
import Derived.Test.YticofjbngfjjlaaGreatDoorGACyU15
namespace Go.Proofs.YticofjbngfjjlaaGreatDoor.Cy
open Go.RowKit
open Te Te.Tt
open Wi.Wr (It wr wrs)

/-- What Unpack leaves. -/
def UPost (V : World) (r : Except Int Tm) (e : Ending) (w' : World) : Prop :=
  (match r with
  | .error x => e = .returned (.tuple #[.agg zeroT, .int .i64 x])
  | .ok t => ∃ v0 v1 v2 v3, e = .returned (.tuple #[.agg #[v0, v1, v2, v3], .int .i64 0]) ∧ Rep w' (Nw V.heap.size w') t (.agg #[v0, v1, v2, v3])) ∧ Below V.heap.size V w'
/-- What bytes are unpacked as. -/
def upk (c : List UInt8) (ks : List Tm) (s : List UInt8) : Except Int Tm := unt c (kfl ks) 17 s

set_option maxHeartbeats 4000000 in
set_option maxRecDepth 100000 in
theorem Unpack_any (s c : List UInt8) (ks : List Tm) (A : Option Addr) (ca : Nat) (S : Nat → Prop) (V : World) (hs : s.length ≤ 9000) (hc : c.length ≤ 10000) (hk : ks.length ≤ 100000) (hz : ∀ k ∈ ks, sz k ≤ 262144) (HT : Tabs V) (htab : TabB V.heap.size V) (hr : TRow V S ks A) (hS : ∀ b, S b → b < V.heap.size) :
    Calls Tryz.prog 16 #[.string ⟨⟨s⟩⟩, .string ⟨⟨c⟩⟩, .slice A ks.length ca] V (UPost V (upk c ks s)) := by
  obtain ⟨V0, hV0⟩ : ∃ V0, V0 = V.alloc (.cells #[.int .i64 0, .string ⟨#[]⟩, .int .i64 0, .slice none 0 0] 25) := ⟨_, rfl⟩
  have hb0 : Below V.heap.size V V0 := by rw [hV0]; exact (Below.refl _ _).alloc (Nat.le_refl _) _
  have hg0 : V0.heap[V.heap.size]? = some (.cells #[.int .i64 0, .string ⟨#[]⟩, .int .i64 0, .slice none 0 0] 25 (0, 0)) := by rw [hV0]; exact heap_alloc_new _ _
  have hs0 : V0.heap.size = V.heap.size + 1 := by rw [hV0]; simp
  have HN := Lib.hid (newReader_any c ks A ca S V0 hk hz (trow_below hr hb0 hS) (fun b hb => by have := hS b hb; omega))
  have HT0 := Lib.hid (Tabs.below HT hb0)
  have HTB := Lib.hid (htab.up hb0)
  have HC := Lib.hid hc
  have HSL := Lib.hid hs
  have HV0 := Lib.hid hV0
  have HB0 := Lib.hid hb0
  have HG0 := Lib.hid hg0
  have HS0 := Lib.hid hs0
  clear hV0 hb0 hg0 hs0 hr hS hz hk HT htab hs hc
  go_enter Tryz.func16, Tryz.ntmps16
  go_wp2_with fail
  rw [← HV0.out]
  refine HN.out.mono ?_
  rintro _ w1 ⟨rfl, E, hE0, hEc, hEk, hER, hok, hlies⟩
  have ho : E.ok := hok HT0.out HTB.out HC.out
  have hTX := text_of E ho 17 (term_said E ho 17 (Nat.le_refl _)) s w1 HSL.out hlies
  rw [hER, show (17 : Int) - ((17 : Nat) : Int) = 0 from rfl] at hTX
  have HTX := Lib.hid hTX
  have hw1 := hlies.below.size
  rw [hE0] at hw1
  have HW1 := Lib.hid hw1
  have HE0 := Lib.hid hE0
  have HU : Hid (upk c ks s = unt E.c E.ks 17 s) := by rw [Hid, upk, hEc, hEk]
  clear hTX hok hlies hE0 hEc hEk hER hw1 HN
  go_wp2_with fail
  refine HTX.out.mono ?_
  rintro e w2 ⟨hp, hl2, ho2⟩
  have hb2 := hl2.below
  rw [HE0.out] at hb2
  have hs0 := HS0.out
  have hbF : Below V.heap.size V w2 := HB0.out.trans (hb2.mono (by omega))
  have hgF := (hb2.block V.heap.size (by omega)).trans HG0.out
  have HWW := Lib.hid (show V.heap.size + 1 ≤ w1.heap.size by have := HW1.out; omega)
  clear hl2 ho2 hb2 hs0 HTX HB0 HG0
  obtain ⟨r, hr⟩ : ∃ r, r = unt E.c E.ks 17 s := ⟨_, rfl⟩
  have HR : Hid (upk c ks s = r) := by rw [Hid, HU.out, hr]
  rw [← hr] at hp
  clear hr HU
  cases r with
  | error x =>
    unfold zeroT at hp
    simp only at hp
    subst hp
    have hb5 := set4_below (v0 := .int .i64 0) (v1 := .string ⟨#[]⟩) (v2 := .int .i64 0) (v3 := .slice none 0 0) hbF (Nat.le_refl V.heap.size)
    have hr5 := set4_self' (v0 := .int .i64 0) (v1 := .string ⟨#[]⟩) (v2 := .int .i64 0) (v3 := .slice none 0 0) hgF
    obtain ⟨y0, y1, y2, y3⟩ := cell4 hgF
    have f0 := fun j => frozen_of_row _ _ j _ _ hgF
    have Q1 := Lib.hid hr5
    have Q2 := Lib.hid hb5
    clear hbF hgF hb5 hr5
    go_wp2
    obtain ⟨y0, y1, y2, y3⟩ := cell4 Q1.out
    refine bodyPost_ret (v := .tuple #[.agg #[.int .i64 0, .string ⟨#[]⟩, .int .i64 0, .slice none 0 0], .int .i64 x]) (by simp [results, Tryz.results16, go_sem, y0, y1, y2, y3]) rfl ?_
    unfold UPost
    rw [HR.out]
    exact ⟨rfl, Q2.out⟩
  | ok t =>
    obtain ⟨u0, u1, u2, u3, rfl, hrt⟩ := hp
    obtain ⟨tk, ts, tn, tl⟩ := t
    obtain ⟨TA, tc, hv, -, -⟩ := rep_mk.1 hrt
    injection hv with hv
    simp at hv
    obtain ⟨rfl, rfl, rfl, rfl⟩ := hv
    have HRT := Lib.hid hrt
    clear hrt
    have hb5 := set4_below (v0 := .int .i64 tk) (v1 := .string ⟨⟨ts⟩⟩) (v2 := .int .i64 tn) (v3 := .slice TA tl.length tc) hbF (Nat.le_refl V.heap.size)
    have hr5 := set4_self' (v0 := .int .i64 tk) (v1 := .string ⟨⟨ts⟩⟩) (v2 := .int .i64 tn) (v3 := .slice TA tl.length tc) hgF
    obtain ⟨y0, y1, y2, y3⟩ := cell4 hgF
    have f0 := fun j => frozen_of_row _ _ j _ _ hgF
    have Q1 := Lib.hid hr5
    have Q2 := Lib.hid hb5
    clear hbF hgF hb5 hr5
    go_wp2
    obtain ⟨y0, y1, y2, y3⟩ := cell4 Q1.out
    refine bodyPost_ret (v := .tuple #[.agg #[.int .i64 tk, .string ⟨⟨ts⟩⟩, .int .i64 tn, .slice TA tl.length tc], .int .i64 0]) (by simp [results, Tryz.results16, go_sem, y0, y1, y2, y3]) rfl ?_
    unfold UPost
    rw [HR.out]
    exact ⟨⟨_, _, _, _, rfl, rep_fin (z := V.heap.size) HRT.out (fun k hk => by rw [heap_setCell_other _ _ _ _ hk, heap_setCell_other _ _ _ _ hk, heap_setCell_other _ _ _ _ hk, heap_setCell_other _ _ _ _ hk]) set4_size (by have := HWW.out; omega) (by have := HWW.out; omega)⟩, Q2.out⟩
end Go.Proofs.YticofjbngfjjlaaGreatDoor.Cy

/- Plain mathematics of packing and unpacking: what is packed is unpacked again, where the right keys are found. No program in here. (Laid with NS=1.) -/

namespace Go.Proofs.YticofjbngfjjlaaGreatDoor.Cy
open Go.RowKit
open Te Te.Tt
open Wi.Wr (It wr wrs)

theorem rv_num (u : Nat) (h : u < 18446744073709551616) : rv (De.num u) = u := by
  rw [De.num_eq]
  have hb : ∀ x : Nat, (Sh.byt x).toNat = x % 256 := fun x => by rw [Sh.byt, UInt8.toNat_ofNat']
  simp only [rv, List.foldl, hb, Nat.reducePow]
  omega
theorem rn_nm8 (n : Int) (h : InR n) : rn (nm8 n) = n := by
  rw [rn, nm8, rv_num _ (De.un_lt n), De.un_cast]
  unfold wrap64
  unfold InR at h
  omega

mutual
/-- All numbers are ints. -/
def inr : Tm → Prop
  | .mk _ _ n l => InR n ∧ inrs l
def inrs : List Tm → Prop
  | [] => True
  | x :: r => inr x ∧ inrs r
end
theorem inrs_mem : ∀ (l : List Tm), inrs l → ∀ x ∈ l, inr x
  | [], _, x, hx => by simp at hx
  | y :: r, h, x, hx => by
    rw [inrs] at h
    rcases List.mem_cons.1 hx with rfl | hx
    · exact h.1
    · exact inrs_mem r h.2 x hx
mutual
/-- For each key the first that fits is that key, and so for what is sealed, and summed. -/
def cln (c : List UInt8) (ks : List Tm) : Tm → Prop
  | .mk k s n l => (k = 2 → fnd c (fun b => decide (b = Cy.kb c s n)) ks = some (.mk k s n l)) ∧
    (k = 4 → fnd c (fun b => decide ((Sl.opn b n (Sl.sld (kf c l) n (nonce c (text (.mk k s n l))) (wr (snd (pks c l))))).2 = 0)) ks = l.head?) ∧
    (k = 5 → fnd c (fun b => decide (Sl.chk b n (wr (snd (pks c l))) = Sl.chk (kf c l) n (wr (snd (pks c l))))) ks = l.head?) ∧ clns c ks (decide (k = 4 ∨ k = 5)) l
/-- Of a row, but for its first where that is a key that seals or sums. -/
def clns (c : List UInt8) (ks : List Tm) : Bool → List Tm → Prop
  | _, [] => True
  | b, x :: r => (b = false → cln c ks x) ∧ clns c ks false r
end
theorem clns_mem (c : List UInt8) (ks : List Tm) : ∀ (l : List Tm), clns c ks false l → ∀ x ∈ l, cln c ks x
  | [], _, x, hx => by simp at hx
  | y :: r, h, x, hx => by
    rw [clns] at h
    rcases List.mem_cons.1 hx with rfl | hx
    · exact h.1 rfl
    · exact clns_mem c ks r h.2 x hx
theorem gt_wr {x : It} {m : Nat} (h : Wi.Wr.sz x 0 = some m) (hm : m ≤ 65536) : Wi.gt (wr x) = .ok x := by
  have h1 := Wi.Wr.rd_wr x 33 0 m 0 [] rfl h (by omega)
  rw [List.append_nil] at h1
  have h2 := Wi.Wr.sz_len _ _ _ h
  unfold Wi.gt
  rw [h1]
  simp only
  rw [if_neg (by omega)]
theorem lst_ok {U : It → Except Int Tm} (c : List UInt8) : ∀ (l : List Tm), (∀ x ∈ l, U (pk c x) = .ok x) → lst U (pks c l) = .ok l
  | [], _ => by rw [pks, lst]
  | x :: r, h => by
    rw [pks, lst, h x (by simp)]
    simp only
    rw [lst_ok c r (fun y hy => h y (by simp [hy]))]
theorem un_pk (c : List UInt8) (ks : List Tm) : ∀ (x : Tm) (d f : Nat), vld d x = true → inr x → cln c ks x → d + f = 17 → sz x ≤ 100 → un c ks f (pk c x) = .ok x := Tm.ind (by
  intro k s n l ih d f hv hin hcl hdf hsz
  obtain ⟨hmis, hall⟩ := vld_own hv
  have hd : d ≤ 16 := by
    rw [vld_mk] at hv
    simp only [Bool.and_eq_true, decide_eq_true_eq] at hv
    exact hv.1.1
  obtain ⟨f', rfl⟩ : ∃ f', f = f' + 1 := ⟨f - 1, by omega⟩
  rw [inr] at hin
  rw [cln] at hcl
  obtain ⟨hk2, hk4, hk5, hcs⟩ := hcl
  rw [sz] at hsz
  rw [un_succ, uno.eq_def]
  rcases mis_kinds hmis with ⟨rfl, h1, rfl, rfl⟩ | ⟨rfl, rfl, rfl⟩ | ⟨rfl, h1, rfl⟩ | ⟨rfl, rfl, rfl⟩ | ⟨rfl, rfl, y0, y1, rfl⟩ | ⟨rfl, rfl, y0, y1, rfl⟩
  · rw [pk]
    simp [leaf, h1]
  · rw [pk]
    simp [leaf, nm8_length, rn_nm8 n hin.1]
  · rw [pk]
    have := hk2 rfl
    simp only [leaf, show (2 : Int) ≠ 0 by decide, show (2 : Int) ≠ 1 by decide, if_false, if_true, Bool.false_eq_true, show (3 : Int) ≠ 1 by decide, show (3 : Int) ≠ 2 by decide]
    rw [this]
  · have hlen : l.length ≤ 64 := by
      rw [mis] at hmis
      simp only [show ¬ (3 : Int) = 0 by decide, show ¬ (3 : Int) = 1 by decide, show ¬ (3 : Int) = 2 by decide, if_false, if_true, Bool.or_eq_false_iff, decide_eq_false_iff_not] at hmis
      omega
    have hl := lst_ok (U := un c ks f') c l (fun x hx => ih x hx (d + 1) f' (hall x hx) (inrs_mem l hin.2 x hx) (clns_mem c ks l (by simpa using hcs) x hx) (by omega) (by have := szs_mem l x hx; omega))
    rw [pk]
    simp only [show (3 : Int) ≠ 0 by decide, show (3 : Int) ≠ 1 by decide, show (3 : Int) ≠ 2 by decide, if_false, if_true]
    rw [if_neg (by rw [pks_map, List.length_map]; omega), hl]
  · have hn2 := mis_use (.inl rfl) hmis
    simp only [szs] at hsz
    have hy1 := hall y1 (by simp)
    obtain ⟨m, hm, hm2, hml, -⟩ := pk_puts c y1 (d + 1) hy1 (by have := sz_pos y0; omega)
    have hcy : cln c ks y1 := by
      simp only [clns] at hcs
      exact hcs.2.1 trivial
    have hiny : inr y1 := inrs_mem _ hin.2 y1 (by simp)
    have hrec := ih y1 (by simp) (d + 1) f' hy1 hiny hcy (by omega) (by have := sz_pos y0; omega)
    have hu : (UInt8.ofNat n.toNat).toNat = n.toNat := by rw [UInt8.toNat_ofNat', Nat.mod_eq_of_lt (by omega)]
    have hun : ((n.toNat : Nat) : Int) = n := by omega
    have hf4 := hk4 rfl
    have hob := Sl.opn_back (kf c [y0, y1]) n (o := nonce c (text (.mk 4 [] n [y0, y1]))) (x := wr (snd (pks c [y0, y1]))) (nonce_length _ _) (by show (wr (pk c y1)).length ≤ _; omega)
    rw [pk]
    simp only [leaf, show (4 : Int) ≠ 0 by decide, show (4 : Int) ≠ 1 by decide, show (4 : Int) ≠ 2 by decide, show (4 : Int) ≠ 3 by decide, if_false, if_true, Bool.false_eq_true, show (5 : Int) ≠ 1 by decide, show (5 : Int) ≠ 2 by decide, show (5 : Int) ≠ 3 by decide]
    rw [hu, hun, if_neg (by omega), hf4]
    simp only [List.head?_cons]
    have hkf : Cy.kb c y0.s y0.n = kf c [y0, y1] := rfl
    rw [hkf, hob]
    have hg : Wi.gt (wr (snd (pks c [y0, y1]))) = .ok (pk c y1) := gt_wr hm (by omega)
    rw [hg]
    simp only
    rw [hrec]
  · have hn2 := mis_use (.inr rfl) hmis
    simp only [szs] at hsz
    have hy1 := hall y1 (by simp)
    have hcy : cln c ks y1 := by
      simp only [clns] at hcs
      exact hcs.2.1 trivial
    have hiny : inr y1 := inrs_mem _ hin.2 y1 (by simp)
    have hrec := ih y1 (by simp) (d + 1) f' hy1 hiny hcy (by omega) (by have := sz_pos y0; omega)
    have hf5 := hk5 rfl
    have hsm : smu [leaf 2 (nm8 n), snd (pks c [y0, y1]), leaf 7 (Sl.chk (kf c [y0, y1]) n (wr (snd (pks c [y0, y1]))))] = some n := by
      simp [smu, leaf, isLf, ist, nm8_length, rn_nm8 n hin.1, hn2.1, hn2.2]
    rw [pk]
    simp only [show (5 : Int) ≠ 0 by decide, show (5 : Int) ≠ 1 by decide, show (5 : Int) ≠ 2 by decide, show (5 : Int) ≠ 3 by decide, show (5 : Int) ≠ 4 by decide, if_false, if_true, show (6 : Int) ≠ 4 by decide]
    rw [hsm]
    simp only
    have hs2 : snd [leaf 2 (nm8 n), snd (pks c [y0, y1]), leaf 7 (Sl.chk (kf c [y0, y1]) n (wr (snd (pks c [y0, y1]))))] = pk c y1 := rfl
    have hh : ist ([leaf 2 (nm8 n), snd (pks c [y0, y1]), leaf 7 (Sl.chk (kf c [y0, y1]) n (wr (snd (pks c [y0, y1]))))].getD 2 (leaf 0 [])) = Sl.chk (kf c [y0, y1]) n (wr (snd (pks c [y0, y1]))) := rfl
    rw [hs2, hrec, hh]
    simp only
    have hs3 : snd (pks c [y0, y1]) = pk c y1 := rfl
    rw [hs3] at hf5 ⊢
    rw [hf5]
    rfl)
theorem upk_pk (c : List UInt8) (ks : List Tm) (x : Tm) (hv : vld 0 x = true) (hin : inr x) (hc : cln c (kfl ks) x) (hz : sz x ≤ 100) : upk c ks (wr (pk c x)) = .ok x := by
  obtain ⟨m, hm, hm2, -, -⟩ := pk_puts c x 0 hv hz
  rw [upk, unt, gt_wr hm (by omega)]
  exact un_pk c (kfl ks) x 0 17 hv hin hc rfl hz
end Go.Proofs.YticofjbngfjjlaaGreatDoor.Cy

