/- The example of the carry law: which of its keys opens it; bob by the kernel. (Laid with NS=1.) -/
import Derived.Test.YticofjbngfjjlaaGreatDoorGACyU16
namespace Go.Proofs.YticofjbngfjjlaaGreatDoor.Cy
open Go.RowKit
open Te Te.Tt
open Wi.Wr (It wr wrs)
def annK : Tm := .mk 2 [97, 110, 110] 1 []
def bobK : Tm := .mk 2 [98, 111, 98] 1 []
def exT : Tm := .mk 4 [] 2 [annK, .mk 1 [] 7 []]
theorem ex_wr (c : List UInt8) : wr (snd (pks c [annK, .mk 1 [] 7 []])) = [2, 8, 0, 0, 0, 0, 0, 0, 0, 7] := by
  have h : snd (pks c [annK, .mk 1 [] 7 []]) = leaf 2 (nm8 7) := rfl
  rw [h, leaf, Wi.Wr.wr_mk, Wi.Wr.wrs_nil, List.append_nil, nm8_length]
  have h2 : Wi.Wr.lb 8 = [8] := by rw [Wi.Wr.lb]; decide
  rw [h2]
  decide
theorem ex_bob : (Sl.opn (Cy.kb [115] [98, 111, 98] 1) 2 (Sl.sld (Cy.kb [115] [97, 110, 110] 1) 2 (nonce [115] (text exT)) [2, 8, 0, 0, 0, 0, 0, 0, 0, 7])).2 ≠ 0 := by decide +kernel
theorem fnd_two {c : List UInt8} {p : List UInt8 → Bool} {k1 k2 : Tm} {ks : List Tm} (h1 : p (Cy.kb c k1.s k1.n) = false) (h2 : p (Cy.kb c k2.s k2.n) = true) : fnd c p (k1 :: k2 :: ks) = some k2 := by
  unfold fnd
  rw [List.find?_cons, List.find?_cons, h1, h2]
theorem ex_cln : cln [115] [bobK, annK] exT := by
  have hb : decide ((Sl.opn (Cy.kb [115] [98, 111, 98] 1) 2 (Sl.sld (kf [115] [annK, .mk 1 [] 7 []]) 2 (nonce [115] (text exT)) (wr (snd (pks [115] [annK, .mk 1 [] 7 []]))))).2 = 0) = false := by
    rw [ex_wr]
    exact decide_eq_false ex_bob
  have ha : decide ((Sl.opn (Cy.kb [115] [97, 110, 110] 1) 2 (Sl.sld (kf [115] [annK, .mk 1 [] 7 []]) 2 (nonce [115] (text exT)) (wr (snd (pks [115] [annK, .mk 1 [] 7 []]))))).2 = 0) = true := by
    have h := Sl.opn_back (Cy.kb [115] [97, 110, 110] 1) 2 (o := nonce [115] (text exT)) (x := wr (snd (pks [115] [annK, .mk 1 [] 7 []]))) (nonce_length _ _) (by rw [ex_wr]; decide)
    have hk : kf [115] [annK, .mk 1 [] 7 []] = Cy.kb [115] [97, 110, 110] 1 := rfl
    rw [hk, h]
    rfl
  have hx : exT = .mk 4 [] 2 [annK, .mk 1 [] 7 []] := rfl
  rw [hx] at hb ha ⊢
  rw [cln]
  refine ⟨fun h => absurd h (by decide), fun _ => ?_, fun h => absurd h (by decide), ?_⟩
  · exact fnd_two (k1 := bobK) (k2 := annK) hb ha
  · rw [clns, clns, clns]
    refine ⟨fun h => absurd h (by decide), fun _ => ?_, trivial⟩
    rw [cln, clns]
    exact ⟨fun h => absurd h (by decide), fun h => absurd h (by decide), fun h => absurd h (by decide), trivial⟩
theorem ex_upk : upk [115] [bobK, annK] (wr (pk [115] exT)) = .ok exT := by
  have h1 : (decide (bobK.k = 2) && vld 0 bobK) = true := by decide
  have h2 : (decide (annK.k = 2) && vld 0 annK) = true := by decide
  have hk : kfl [bobK, annK] = [bobK, annK] := by
    unfold kfl
    simp only [List.filter_cons, h1, h2, if_true, List.filter_nil]
  refine upk_pk [115] [bobK, annK] exT (by decide) ?_ (by rw [hk]; exact ex_cln) (by decide)
  unfold exT annK
  simp [inr, inrs, InR]
theorem ex_hi : wr (pk [115] (.mk 0 [104, 105] 0 [])) = [1, 2, 104, 105] := by
  have h : pk [115] (.mk 0 [104, 105] 0 []) = leaf 1 [104, 105] := by rw [pk]; rfl
  rw [h, leaf, Wi.Wr.wr_mk, Wi.Wr.wrs_nil, List.append_nil]
  have h2 : Wi.Wr.lb 2 = [2] := by rw [Wi.Wr.lb]; decide
  show Wi.Wr.tb false 1 :: (Wi.Wr.lb 2 ++ [104, 105]) = _
  rw [h2]
  decide
end Go.Proofs.YticofjbngfjjlaaGreatDoor.Cy

