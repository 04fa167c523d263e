/- carry: the reader's seal, by what its text does. (Laid with NS=1; written by wip/tools/gen/cyu9.py.) -/
import Derived.Test.YticofjbngfjjlaaGreatDoorGACyU5
import Derived.Test.YticofjbngfjjlaaGreatDoorGACyU2
import Derived.Lib.QuietBelow
import Derived.Test.YticofjbngfjjlaaGreatDoorGAWiMemB
namespace Go.Proofs.YticofjbngfjjlaaGreatDoor.Cy
open Go.RowKit
open Te Te.Tt
open Wi.Wr (It wr wrs)

/-- A seal of what was read. -/
def slT (k : Tm) (n : Int) (r : Except Int Tm) : Except Int Tm :=
  match r with
  | .error e => .error e
  | .ok x => .ok (.mk 4 [] n [k, x])
def slF (c : List UInt8) (ks : List Tm) (f : Nat) (n : Int) (t : List UInt8) (F : Option Tm) : Except Int Tm :=
  match F with
  | none => .error 20
  | some k => slT k n (unt c ks f (Sl.opn (Cy.kb c k.s k.n) n t).1)
/-- What a seal is opened as. -/
def slR (c : List UInt8) (ks : List Tm) (f : Nat) (s : List UInt8) : Except Int Tm :=
  match s with
  | [] => .error 13
  | u :: r => if u.toNat < 1 then .error 13 else slF c ks f (u.toNat : Nat) r (fnd c (fun b => decide ((Sl.opn b (u.toNat : Nat) r).2 = 0)) ks)

theorem newrow_rep {S S' : Nat → Prop} {m : Nat} {w' w'' : World} {l : List Tm} {u : Value} (h : NewRow S m w' l u) (hS : ∀ b, S b → S' b) (hk : ∀ b, S b ∨ (m ≤ b ∧ b < w'.heap.size) → w''.heap[b]? = w'.heap[b]?) (hg : ∀ g, m ≤ g → g < w'.heap.size → S' g) (k : Int) (s : List UInt8) (n : Int) (hn : InR n) :
    Rep w'' S' (.mk k s n l) (.agg #[.int .i64 k, .string ⟨⟨s⟩⟩, .int .i64 n, u]) := by
  obtain ⟨g, xs, rfl, hgm, hc, he⟩ := h
  have hlt : g < w'.heap.size := (Array.getElem?_eq_some_iff.1 hc).1
  refine rep_mk.2 ⟨_, _, rfl, hn, .inr ⟨g, 0, rfl, hg g hgm hlt, ?_⟩⟩
  refine els_reps l xs 0 (els_keep hS (fun b o hb => World.cell?_of_block (a := ⟨b, o, none⟩) (hk b (.inl hb))) l xs he) fun j u hj => ?_
  rw [Nat.zero_add, cell_of_row _ _ _ _ _ _ ((hk g (.inr ⟨hgm, hlt⟩)).trans hc)]
  simpa using hj

theorem unt_err (c : List UInt8) (ks : List Tm) (f : Nat) (s : List UInt8) (e : Int) (h : unt c ks f s = .error e) : e ≠ 0 := by
  unfold unt at h
  cases hg : Wi.gt s with
  | error x =>
    rw [hg] at h
    injection h with h
    exact h ▸ gt_err hg
  | ok y =>
    rw [hg] at h
    exact un_err c ks f y e h

/-- Three cells of one block each, and the result's. -/
theorem alloc4 (V : World) (c0 c1 c2 c3 : Array Value) (t0 t1 t2 t3 : TypeId) : ∀ W, W = (((V.alloc (.cells c0 t0)).alloc (.cells c1 t1)).alloc (.cells c2 t2)).alloc (.cells c3 t3) →
    Below V.heap.size V W ∧ W.heap.size = V.heap.size + 4 ∧ W.heap[V.heap.size]? = some (.cells c0 t0 (0, 0)) ∧ W.heap[V.heap.size + 1]? = some (.cells c1 t1 (0, 0)) ∧ W.heap[V.heap.size + 2]? = some (.cells c2 t2 (0, 0)) ∧ W.heap[V.heap.size + 3]? = some (.cells c3 t3 (0, 0)) := by
  rintro W rfl
  have s1 : (V.alloc (.cells c0 t0)).heap.size = V.heap.size + 1 := by simp
  have s2 : ((V.alloc (.cells c0 t0)).alloc (.cells c1 t1)).heap.size = V.heap.size + 2 := by simp
  have s3 : (((V.alloc (.cells c0 t0)).alloc (.cells c1 t1)).alloc (.cells c2 t2)).heap.size = V.heap.size + 3 := by simp
  have h0 := heap_alloc_new V (.cells c0 t0)
  have h1 := heap_alloc_new (V.alloc (.cells c0 t0)) (.cells c1 t1)
  have h2 := heap_alloc_new ((V.alloc (.cells c0 t0)).alloc (.cells c1 t1)) (.cells c2 t2)
  have h3 := heap_alloc_new (((V.alloc (.cells c0 t0)).alloc (.cells c1 t1)).alloc (.cells c2 t2)) (.cells c3 t3)
  rw [s1] at h1
  rw [s2] at h2
  rw [s3] at h3
  refine ⟨((((Below.refl _ _).alloc (Nat.le_refl _) _).alloc (by omega) _).alloc (by omega) _).alloc (by omega) _, by simp, ?_, ?_, ?_, h3⟩
  · rw [heap_alloc_old _ _ (by omega), heap_alloc_old _ _ (by omega), heap_alloc_old _ _ (by omega)]; exact h0
  · rw [heap_alloc_old _ _ (by omega), heap_alloc_old _ _ (by omega)]; exact h1
  · rw [heap_alloc_old _ _ (by omega)]; exact h2
/-- One block that is not the reader's may change. -/
theorem Rd.lies.one {E : Rd} {W : World} (h : E.lies W) {bb i : Nat} {v : Value} (h0 : E.w0.heap.size ≤ bb) (hR : E.R ≠ bb) (hG : E.gb ≠ bb) (hK : E.gk ≠ bb) : E.lies (W.setCell ⟨bb, i, none⟩ v) := by
  refine ⟨h.below.setCell (p := ⟨bb, i, none⟩) h0 _, (heap_setCell_other _ _ _ _ hR).trans h.cells, trow_keep (fun _ h => h) (fun b o hb' => by subst hb'; exact World.cell?_of_block (heap_setCell_other _ _ _ _ hK)) h.keys, by simpa using h.gk, ?_⟩
  obtain ⟨B, h1, h2, h3⟩ := h.bases
  exact ⟨B, h1, (heap_setCell_other _ _ _ _ hG).trans h2, h3⟩

set_option maxHeartbeats 8000000 in
set_option maxRecDepth 100000 in
theorem rseal_of (E : Rd) (ho : E.ok) (f : Nat) (d : Int) (hd0 : 0 ≤ d) (hd1 : d ≤ 16) (hd : d + 1 = 17 - (f : Nat)) (hT : TextSaid E f) (s : List UInt8) (V : World) (hs : s.length ≤ 9000) (hV : E.lies V) :
    Calls Tryz.prog 114 #[.pointer (some ⟨E.R, 0, none⟩), .string ⟨⟨s⟩⟩, .int .i64 d] V (RPost E V (slR E.c E.ks f s)) := by
  have HV := Lib.hid hV
  have hb2 : Below V.heap.size V ((V.alloc (.cells #[.string ⟨⟨s⟩⟩] 9)).alloc (.cells #[.int .i64 0, .string ⟨#[]⟩, .int .i64 0, .slice none 0 0] 25)) := ((Below.refl _ _).alloc (Nat.le_refl _) _).alloc (by simp) _
  have hg2 := heap_alloc_new (V.alloc (.cells #[.string ⟨⟨s⟩⟩] 9)) (.cells #[.int .i64 0, .string ⟨#[]⟩, .int .i64 0, .slice none 0 0] 25)
  rw [World.size_alloc] at hg2
  have HB2 := Lib.hid hb2
  have HG2 := Lib.hid hg2
  clear hb2 hg2
  cases s with
  | nil =>
    have HR : Hid (slR E.c E.ks f [] = .error 13) := rfl
    clear hT hs hd hd0 hd1 hV
    go_enter Tryz.func114, Tryz.ntmps114
    go_wp2
    refine bodyPost_ret (v := .tuple #[.agg #[.int .i64 0, .string ⟨#[]⟩, .int .i64 0, .slice none 0 0], .int .i64 13]) (by simp [results, Tryz.results114, go_sem]) rfl ?_
    unfold RPost
    rw [HR.out]
    exact ⟨rfl, HV.out.next HB2.out, Oth.of HB2.out⟩
  | cons u t =>
    have hcu : u.toNat < 256 := UInt8.toNat_lt u
    have hne : (u :: t == []) = false := rfl
    have hba : (ByteArray.mk ⟨u :: t⟩)[0]'(by show 0 < (u :: t).length; simp) = u := rfl
    have hwr : wrap64 ((u.toNat : Nat) : Int) = (u.toNat : Nat) := by unfold wrap64; omega
    by_cases hu : u.toNat < 1
    · have HR : Hid (slR E.c E.ks f (u :: t) = .error 13) := by rw [Hid, slR, if_pos hu]
      have hu' : ((u.toNat : Nat) : Int) < 1 := by omega
      generalize hun : ((u.toNat : Nat) : Int) = un at *
      clear hT hs hd hd0 hd1 hV hu hcu hwr
      go_enter Tryz.func114, Tryz.ntmps114
      go_wp2
      refine bodyPost_ret (v := .tuple #[.agg #[.int .i64 0, .string ⟨#[]⟩, .int .i64 0, .slice none 0 0], .int .i64 13]) (by simp [results, Tryz.results114, go_sem]) rfl ?_
      unfold RPost
      rw [HR.out]
      exact ⟨rfl, HV.out.next HB2.out, Oth.of HB2.out⟩
    · have hu' : ¬ ((u.toNat : Nat) : Int) < 1 := by omega
      obtain ⟨W0, hW0⟩ : ∃ W0, W0 = (((V.alloc (.cells #[.string ⟨⟨u :: t⟩⟩] 9)).alloc (.cells #[.int .i64 0, .string ⟨#[]⟩, .int .i64 0, .slice none 0 0] 25)).alloc (.cells #[.int .i64 (u.toNat : Nat)] 3)).alloc (.cells #[.string ⟨#[]⟩] 9) := ⟨_, rfl⟩
      obtain ⟨k1, k2, k3, k4, k5, k6⟩ := alloc4 V _ _ _ _ _ _ _ _ W0 hW0
      have hl1 := hV.next k1
      have hRlt := hV.rlt
      have hGlt := hV.blt
      have hKlt := hV.gk
      have hw0 := hV.below.size
      obtain ⟨n, hn⟩ : ∃ n : Int, n = (u.toNat : Nat) := ⟨_, rfl⟩
      have hFI := first_seal E ho (fun b => decide ((Sl.opn b n t).2 = 0)) (fun W => W.heap[V.heap.size + 2]? = some (.cells #[.int .i64 n] 3 (0, 0)) ∧ W.heap[V.heap.size]? = some (.cells #[.string ⟨⟨u :: t⟩⟩] 9 (0, 0)) ∧ ∃ B0, W.heap[V.heap.size + 3]? = some (.cells #[.string ⟨⟨B0⟩⟩] 9 (0, 0)))
        (fun b W => W.heap[V.heap.size + 3]? = some (.cells #[.string ⟨⟨(Sl.opn b n t).1⟩⟩] 9 (0, 0))) (V.heap.size + 3) (.pointer (some ⟨V.heap.size + 2, 0, none⟩)) (.pointer (some ⟨V.heap.size, 0, none⟩)) (.pointer (some ⟨V.heap.size + 3, 0, none⟩)) W0 hl1 ⟨by rw [hn]; exact k5, k3, [], k6⟩
        (fun W W' ⟨j1, j2, B0, j3⟩ hh => ⟨(hh.block _ (by omega) (by omega)).trans j1, (hh.block _ (by omega) (by omega)).trans j2, B0, (hh.block _ (by omega) (by omega)).trans j3⟩)
        (fun b W W' j3 hh => (hh.block _ (by omega) (by omega)).trans j3) (by omega)
        (fun b W hb hl ⟨j1, j2, B0, j3⟩ => (sealIn_any b t u n (V.heap.size + 2) V.heap.size (V.heap.size + 3) B0 W (hl.tabs ho) (by omega) (by simp at hs; omega) j1 j2 j3).mono fun e w' ⟨he, W2, hb2, hw'⟩ => by
          subst hw'
          have hl2 := hl.next hb2
          have m1 := (hb2.block _ (Array.getElem?_eq_some_iff.1 j1).1).trans j1
          have m2 := (hb2.block _ (Array.getElem?_eq_some_iff.1 j2).1).trans j2
          have m3 := (hb2.block _ (Array.getElem?_eq_some_iff.1 j3).1).trans j3
          have m3' := heap_setCell_same _ _ 0 _ _ (.string ⟨⟨(Sl.opn b n t).1⟩⟩) m3
          exact ⟨he, hl2.one (by omega) (by omega) (by omega) (by omega), ⟨(heap_setCell_other _ _ _ _ (by show V.heap.size + 2 ≠ V.heap.size + 3; omega)).trans m1, (heap_setCell_other _ _ _ _ (by show V.heap.size ≠ V.heap.size + 3; omega)).trans m2, _, m3'⟩, fun _ => m3', (Oth.of hb2).told⟩)
      have HR0 : Hid (slR E.c E.ks f (u :: t) = slF E.c E.ks f n t (fnd E.c (fun b => decide ((Sl.opn b n t).2 = 0)) E.ks)) := by rw [Hid, slR, if_neg hu, hn]
      have HTX : Hid (∀ (b : List UInt8) (W : World), E.lies W → Calls Tryz.prog 38 #[.pointer (some ⟨E.R, 0, none⟩), .string ⟨⟨(Sl.opn b n t).1⟩⟩, .int .i64 (d + 1)] W (RPost E W (unt E.c E.ks f (Sl.opn b n t).1))) := fun b W hl => by
        rw [hd]
        exact hT _ W (by have := opn_le b n t; simp at hs; omega) hl
      have HFI := Lib.hid hFI
      have HK1 := Lib.hid k1
      have HK2 := Lib.hid k2
      have HK4 := Lib.hid k4
      have HKF : Hid (∀ k, fnd E.c (fun b => decide ((Sl.opn b n t).2 = 0)) E.ks = some k → ∀ (W : World) (S : Nat → Prop) (KB : Option Addr) (kcb : Nat), InR k.n → Rep W S k (.agg #[.int .i64 2, .string ⟨⟨k.s⟩⟩, .int .i64 k.n, .slice KB 0 kcb])) := by
        intro k hk W S KB kcb hin
        obtain ⟨h1, h2, -⟩ := ho.keys k (fnd_mem hk).1
        obtain ⟨kk, ks, kn, kl⟩ := k
        simp only [Tm.k, Tm.l, Tm.s, Tm.n] at *
        subst h1
        subst h2
        exact rep_mk.2 ⟨KB, kcb, rfl, hin, .inl rfl⟩
      rw [HR0.out]
      obtain ⟨F, hFd⟩ : ∃ F, F = fnd E.c (fun b => decide ((Sl.opn b n t).2 = 0)) E.ks := ⟨_, rfl⟩
      rw [← hFd] at HR0 HKF ⊢
      have HFD := Lib.hid hFd
      clear hFd
      have hn0 : 0 ≤ n ∧ n < 256 := by omega
      rw [← hn] at hW0
      have hun : ((u.toNat : Nat) : Int) = n := hn.symm
      rw [hun] at hwr hu'
      have HW0 := Lib.hid hW0
      have HN0 := Lib.hid hn0
      clear hT hs hd hV hu hcu k1 k2 k3 k4 k5 k6 hl1 hFI hn HB2 HG2 hRlt hGlt hKlt hw0 hW0 hn0
      go_enter Tryz.func114, Tryz.ntmps114
      go_wp2_with fail
      rw [← HW0.out]
      refine HFI.out.mono ?_
      rintro e w1 hp
      unfold FirstPost zeroT keyV at hp
      rw [← HFD.out] at hp
      obtain ⟨hp, hl1, ⟨j1, j2, B1, j3⟩, ho1⟩ := hp
      have hoo : Oth V.heap.size E.gb V w1 := ⟨hl1.below.os.trans HV.out.below.os.symm, hl1.below.tape.trans HV.out.below.tape.symm, hl1.below.output.trans HV.out.below.output.symm, Nat.le_trans HK1.out.size ho1.size, fun k hk hg => (ho1.block k (by have := HK2.out; omega) hg (by omega)).trans (HK1.out.block k hk)⟩
      have hgz := (ho1.block (V.heap.size + 1) (by have := HK2.out; omega) (by have := HV.out.blt; omega) (by omega)).trans HK4.out
      have hs1 : V.heap.size + 4 ≤ w1.heap.size := by have := ho1.size; have := HK2.out; omega
      have HL1 := Lib.hid hl1
      have HOO := Lib.hid hoo
      have HGZ := Lib.hid hgz
      have HS1 := Lib.hid hs1
      have HJ1 := Lib.hid j1
      clear hl1 hoo hgz hs1 ho1 j1 j2 HK1 HK2 HK4 HFI HW0
      cases F with
      | none =>
        simp only at hp
        subst hp
        have HR : Hid (slF E.c E.ks f n t none = .error 20) := rfl
        have hbw : Below w1.heap.size w1 (w1.alloc (.cells #[.int .i64 0, .string ⟨#[]⟩, .int .i64 0, .slice none 0 0] 25)) := (Below.refl _ _).alloc (Nat.le_refl _) _
        have hlF := HL1.out.next hbw
        have hgF := (hbw.block (V.heap.size + 1) (by have := HS1.out; omega)).trans HGZ.out
        have hoF := HOO.out.trans (Oth.of (hbw.mono (by have := HS1.out; omega)))
        clear hbw HL1 HOO HGZ j3 HJ1 HTX
        obtain ⟨q1, q2, q3, q4, q5⟩ := fin4 (v0 := .int .i64 0) (v1 := .string ⟨#[]⟩) (v2 := .int .i64 0) (v3 := .slice none 0 0) ho HV.out hlF (Nat.le_add_right _ _) hgF hoF
        obtain ⟨y0, y1, y2, y3⟩ := cell4 hgF
        have f0 := fun j => frozen_of_row _ _ j _ _ hgF
        have Q1 := Lib.hid q1
        have Q2 := Lib.hid q2
        have Q3 := Lib.hid q3
        have Q4 := Lib.hid q4
        have Q5 := Lib.hid q5
        clear hlF hgF hoF q1 q2 q3 q4 q5
        go_wp2
        obtain ⟨y0, y1, y2, y3⟩ := cell4 Q1.out
        refine bodyPost_ret (v := .tuple #[.agg #[.int .i64 0, .string ⟨#[]⟩, .int .i64 0, .slice none 0 0], .int .i64 20]) (by simp [results, Tryz.results114, go_sem, y0, y1, y2, y3]) rfl ?_
        unfold RPost
        rw [HR.out]
        exact ⟨rfl, Q2.out, Q3.out⟩
      | some k =>
        obtain ⟨⟨KB, kcb, he⟩, hin, hbody⟩ := hp
        subst he
        have hbw : Below w1.heap.size w1 (w1.alloc (.cells #[.int .i64 2, .string ⟨⟨k.s⟩⟩, .int .i64 k.n, .slice KB 0 kcb] 25)) := (Below.refl _ _).alloc (Nat.le_refl _) _
        have hbn := heap_alloc_new w1 (.cells #[.int .i64 2, .string ⟨⟨k.s⟩⟩, .int .i64 k.n, .slice KB 0 kcb] 25)
        have hbs : (w1.alloc (.cells #[.int .i64 2, .string ⟨⟨k.s⟩⟩, .int .i64 k.n, .slice KB 0 kcb] 25)).heap.size = w1.heap.size + 1 := by simp
        have hl2 := HL1.out.next hbw
        have hg2 := (hbw.block (V.heap.size + 1) (by have := HS1.out; omega)).trans HGZ.out
        have hu2 := (hbw.block (V.heap.size + 2) (by have := HS1.out; omega)).trans HJ1.out
        have hx2 := (hbw.block (V.heap.size + 3) (by have := HS1.out; omega)).trans hbody
        have ho2 := HOO.out.trans (Oth.of (hbw.mono (by have := HS1.out; omega)))
        have HCT := Lib.hid (HTX.out (Cy.kb E.c k.s k.n) _ hl2)
        have cx : (w1.alloc (.cells #[.int .i64 2, .string ⟨⟨k.s⟩⟩, .int .i64 k.n, .slice KB 0 kcb] 25)).cell? ⟨V.heap.size + 3, 0, none⟩ = some (.string ⟨⟨(Sl.opn (Cy.kb E.c k.s k.n) n t).1⟩⟩) := by rw [cell_of_row _ _ _ _ _ _ hx2]; rfl
        have HG2 := Lib.hid hg2
        have HU2 := Lib.hid hu2
        have HO2 := Lib.hid ho2
        have HBN := Lib.hid hbn
        have HBS := Lib.hid hbs
        have HIN := Lib.hid hin
        have HRK := Lib.hid (fun (W : World) (S : Nat → Prop) => HKF.out k rfl W S KB kcb hin)
        have huntE := unt_err E.c E.ks f (Sl.opn (Cy.kb E.c k.s k.n) n t).1
        obtain ⟨r, hr⟩ : ∃ r, r = unt E.c E.ks f (Sl.opn (Cy.kb E.c k.s k.n) n t).1 := ⟨_, rfl⟩
        rw [← hr] at HCT huntE
        have HR1 : Hid (slF E.c E.ks f n t (some k) = slT k n r) := by rw [hr]; rfl
        have HUE := Lib.hid huntE
        clear hbw hbn hbs hl2 hg2 hu2 hx2 ho2 hin hbody j3 hr huntE HL1 HOO HGZ HJ1 HTX HR0
        go_wp2_with fail
        generalize w1.alloc (.cells #[.int .i64 2, .string ⟨⟨k.s⟩⟩, .int .i64 k.n, .slice KB 0 kcb] 25) = W2 at *
        refine HCT.out.mono ?_
        rintro e w3 ⟨hp, hl3, ho3⟩
        have hs2 := HBS.out
        have hs1 := HS1.out
        have hgb := HV.out.blt
        have hs3 := ho3.size
        have hg3 := (ho3.block (V.heap.size + 1) (by omega) (by omega)).trans HG2.out
        have hu3 := (ho3.block (V.heap.size + 2) (by omega) (by omega)).trans HU2.out
        have hk3 := (ho3.block w1.heap.size (by omega) (by omega)).trans HBN.out
        have hoV3 := HO2.out.trans (ho3.mono (by omega))
        clear ho3 HG2 HU2 HO2 HBN HCT cx
        cases r with
        | error x =>
          have hx := HUE.out x rfl
          have e1 : (x != 0) = true := by simpa using hx
          unfold zeroT at hp
          simp only at hp
          subst hp
          have HR : Hid (slF E.c E.ks f n t (some k) = .error x) := by rw [Hid, HR1.out]; rfl
          have hbw : Below w3.heap.size w3 (w3.alloc (.cells #[.int .i64 0, .string ⟨#[]⟩, .int .i64 0, .slice none 0 0] 25)) := (Below.refl _ _).alloc (Nat.le_refl _) _
          have hlF := hl3.next hbw
          have hgF := (hbw.block (V.heap.size + 1) (by omega)).trans hg3
          have hoF := hoV3.trans (Oth.of (hbw.mono (by omega)))
          clear hbw hl3 hg3 hu3 hk3 hoV3 hx HUE HR1 hs2 hs1 hgb hs3
          obtain ⟨q1, q2, q3, q4, q5⟩ := fin4 (v0 := .int .i64 0) (v1 := .string ⟨#[]⟩) (v2 := .int .i64 0) (v3 := .slice none 0 0) ho HV.out hlF (Nat.le_add_right _ _) hgF hoF
          obtain ⟨y0, y1, y2, y3⟩ := cell4 hgF
          have f0 := fun j => frozen_of_row _ _ j _ _ hgF
          have Q1 := Lib.hid q1
          have Q2 := Lib.hid q2
          have Q3 := Lib.hid q3
          have Q4 := Lib.hid q4
          have Q5 := Lib.hid q5
          clear hlF hgF hoF q1 q2 q3 q4 q5
          go_wp2
          obtain ⟨y0, y1, y2, y3⟩ := cell4 Q1.out
          refine bodyPost_ret (v := .tuple #[.agg #[.int .i64 0, .string ⟨#[]⟩, .int .i64 0, .slice none 0 0], .int .i64 x]) (by simp [results, Tryz.results114, go_sem, y0, y1, y2, y3]) rfl ?_
          unfold RPost
          rw [HR.out]
          exact ⟨rfl, Q2.out, Q3.out⟩
        | ok x =>
          obtain ⟨u0, u1, u2, u3, rfl, hrt⟩ := hp
          obtain ⟨tk, ts, tn, tl⟩ := x
          obtain ⟨TA, tc, hv, -, -⟩ := rep_mk.1 hrt
          injection hv with hv
          simp at hv
          obtain ⟨rfl, rfl, rfl, rfl⟩ := hv
          have HR : Hid (slF E.c E.ks f n t (some k) = .ok (.mk 4 [] n [k, .mk tk ts tn tl])) := by rw [Hid, HR1.out]; rfl
          have hbw : Below w3.heap.size w3 (w3.alloc (.cells #[.int .i64 tk, .string ⟨⟨ts⟩⟩, .int .i64 tn, .slice TA tl.length tc] 25)) := (Below.refl _ _).alloc (Nat.le_refl _) _
          have hbn := heap_alloc_new w3 (.cells #[.int .i64 tk, .string ⟨⟨ts⟩⟩, .int .i64 tn, .slice TA tl.length tc] 25)
          have hbs : (w3.alloc (.cells #[.int .i64 tk, .string ⟨⟨ts⟩⟩, .int .i64 tn, .slice TA tl.length tc] 25)).heap.size = w3.heap.size + 1 := by simp
          have hl4 := hl3.next hbw
          have hg4 := (hbw.block (V.heap.size + 1) (by omega)).trans hg3
          have hu4 := (hbw.block (V.heap.size + 2) (by omega)).trans hu3
          have hk4 := (hbw.block w1.heap.size (by omega)).trans hk3
          have ho4 := hoV3.trans (Oth.of (hbw.mono (by omega)))
          have hr4 := rep_below hrt hbw (fun b hb => hb.2)
          have HCS := Lib.hid (Seal_any k (.mk tk ts tn tl) _ _ n (Nw W2.heap.size w3) _ (HRK.out _ _) hr4 (fun b hb => by have := hb.2; omega))
          obtain ⟨x0, x1, x2, x3⟩ := cell4 hk4
          obtain ⟨z0, z1, z2, z3⟩ := cell4 hbn
          have cu : (w3.alloc (.cells #[.int .i64 tk, .string ⟨⟨ts⟩⟩, .int .i64 tn, .slice TA tl.length tc] 25)).cell? ⟨V.heap.size + 2, 0, none⟩ = some (.int .i64 n) := by rw [cell_of_row _ _ _ _ _ _ hu4]; rfl
          have HL4 := Lib.hid hl4
          have HG4 := Lib.hid hg4
          have HO4 := Lib.hid ho4
          have HBS4 := Lib.hid hbs
          have HSS := Lib.hid (show V.heap.size + 4 ≤ W2.heap.size ∧ W2.heap.size ≤ w3.heap.size from ⟨by omega, hs3⟩)
          clear hbw hbn hbs hl4 hg4 hu4 hk4 ho4 hr4 hrt hl3 hg3 hu3 hk3 hoV3 HUE HR1 hs2 hs1 hgb hs3 HBS HS1
          go_wp2_with fail
          generalize w3.alloc (.cells #[.int .i64 tk, .string ⟨⟨ts⟩⟩, .int .i64 tn, .slice TA tl.length tc] 25) = W4 at *
          refine HCS.out.mono ?_
          rintro _ w5 ⟨uu, rfl, hb5, hnr⟩
          have hnr0 := hnr
          obtain ⟨g5, xs5, rfl, -, -, -⟩ := hnr0
          have hlF := HL4.out.next hb5
          have hgF := (hb5.block (V.heap.size + 1) (by have := HBS4.out; have := HSS.out; omega)).trans HG4.out
          have hoF := HO4.out.trans (Oth.of (hb5.mono (by have := HBS4.out; have := HSS.out; omega)))
          have HNR := Lib.hid hnr
          have HSZ5 := Lib.hid hb5.size
          have hin4 : InR n := ⟨by have := HN0.out; omega, by have := HN0.out; omega⟩
          have HIN4 := Lib.hid hin4
          clear hb5 hnr hin4 x0 x1 x2 x3 z0 z1 z2 z3 cu HCS HL4 HG4 HO4
          obtain ⟨q1, q2, q3, q4, q5⟩ := fin4 (v0 := .int .i64 4) (v1 := .string ⟨#[]⟩) (v2 := .int .i64 n) (v3 := .slice (some ⟨g5, 0, none⟩) 2 2) ho HV.out hlF (Nat.le_add_right _ _) hgF hoF
          obtain ⟨y0, y1, y2, y3⟩ := cell4 hgF
          have f0 := fun j => frozen_of_row _ _ j _ _ hgF
          have Q1 := Lib.hid q1
          have Q2 := Lib.hid q2
          have Q3 := Lib.hid q3
          have Q4 := Lib.hid q4
          have Q5 := Lib.hid q5
          clear hlF hgF hoF q1 q2 q3 q4 q5
          go_wp2
          obtain ⟨y0, y1, y2, y3⟩ := cell4 Q1.out
          refine bodyPost_ret (v := .tuple #[.agg #[.int .i64 4, .string ⟨#[]⟩, .int .i64 n, .slice (some ⟨g5, 0, none⟩) 2 2], .int .i64 0]) (by simp [results, Tryz.results114, go_sem, y0, y1, y2, y3]) rfl ?_
          unfold RPost
          rw [HR.out]
          exact ⟨⟨_, _, _, _, rfl, newrow_rep HNR.out (fun b hb => ⟨by have := hb.1; have := HSS.out; omega, by rw [Q5.out]; have := hb.2; have := HBS4.out; have := HSZ5.out; omega⟩) (fun b hb => Q4.out b (by rcases hb with hb | hb <;> (have := hb.1; have := HSS.out; have := HBS4.out; omega))) (fun g h1 h2 => ⟨by have := HSS.out; have := HBS4.out; omega, by rw [Q5.out]; exact h2⟩) 4 [] n HIN4.out⟩, Q2.out, Q3.out⟩
end Go.Proofs.YticofjbngfjjlaaGreatDoor.Cy

/- carry: isLeaf, sumUse, the closure of sum. (Laid with NS=1.) -/

namespace Go.Proofs.YticofjbngfjjlaaGreatDoor.Cy
open Go.RowKit
open Te Te.Tt
open Wi.Wr (It wr wrs)

theorem irow_get {W : World} {S : Nat → Prop} {l : List It} {A : Option Addr} {i : Nat} (h : Wi.Row W S l A) (hi : i < l.length) :
    ∃ b o nd t s q B cb, A = some ⟨b, o, none⟩ ∧ S b ∧ l[i] = .mk nd t s q ∧ W.cell? ⟨b, o + i * 4, none⟩ = some (.bool nd) ∧ W.cell? ⟨b, o + i * 4 + 1, none⟩ = some (.int .i64 t) ∧ W.cell? ⟨b, o + i * 4 + 2, none⟩ = some (.string ⟨⟨s⟩⟩) ∧ W.cell? ⟨b, o + i * 4 + 3, none⟩ = some (.slice B q.length cb) ∧
      Wi.Rep W S (.mk nd t s q) (.agg #[.bool nd, .int .i64 t, .string ⟨⟨s⟩⟩, .slice B q.length cb]) := by
  rcases h with h | ⟨b, o, rfl, hS, hr⟩
  · subst h; simp at hi
  · obtain ⟨v0, v1, v2, v3, c0, c1, c2, c3, hrep⟩ := Wi.reps_at l b o i _ hr (List.getElem?_eq_getElem hi)
    cases hx : l[i] with
    | mk nd t s q =>
      rw [hx] at hrep
      obtain ⟨B, cb, hv, hrow⟩ := Wi.rep_mk.1 hrep
      injection hv with hv
      simp at hv
      obtain ⟨rfl, rfl, rfl, rfl⟩ := hv
      exact ⟨b, o, nd, t, s, q, B, cb, rfl, hS, rfl, c0, c1, c2, c3, hrep⟩

set_option maxRecDepth 100000 in
theorem isLeaf_any (nd : Bool) (t : Int) (s : List UInt8) (A : Option Addr) (m ca : Nat) (l : List It) (u : Int) (w : World) :
    Calls Tryz.prog 197 #[.agg #[.bool nd, .int .i64 t, .string ⟨⟨s⟩⟩, .slice A m ca], .int .i64 u] w fun e w' => e = .returned (.bool (isLf u (.mk nd t s l))) ∧ Below w.heap.size w w' := by
  have HB : Hid (Below w.heap.size w (w.alloc (.cells #[.bool nd, .int .i64 t, .string ⟨⟨s⟩⟩, .slice A m ca] 64))) := (Below.refl _ _).alloc (Nat.le_refl _) _
  cases nd
  · go_enter Tryz.func197, Tryz.ntmps197
    go_wp2
    go_ret
    exact ⟨rfl, HB.out⟩
  · go_enter Tryz.func197, Tryz.ntmps197
    go_wp2
    go_ret
    exact ⟨rfl, HB.out⟩

/-- What sumUse answers. -/
def SumUsePost (m : Option Int) (w : World) (e : Ending) (w' : World) : Prop := ∃ n : Int, e = .returned (.tuple #[.int .i64 n, .bool m.isSome]) ∧ (∀ u, m = some u → n = u) ∧ Below w.heap.size w w'

set_option maxHeartbeats 4000000 in
set_option maxRecDepth 100000 in
theorem sumUse_any (l : List It) (A : Option Addr) (ca : Nat) (S : Nat → Prop) (w : World) (hn : l.length ≤ 100000) (hr : Wi.Row w S l A) (hS : ∀ b, S b → b < w.heap.size) :
    Calls Tryz.prog 172 #[.slice A l.length ca] w (SumUsePost (smu l) w) := by
  by_cases h3 : l.length = 3
  · have h3b : (((l.length : Nat) : Int) != 3) = false := by simp [h3]
    match l, h3 with
    | [x, y, z], _ =>
      obtain ⟨b, o, nd, t, s, q, B, cb, rfl, hSb, hx, c0, c1, c2, c3, -⟩ := irow_get (i := 0) hr (by simp)
      obtain ⟨b', o', nd', t', s', q', B', cb', hbo, -, hz, d0, d1, d2, d3, -⟩ := irow_get (i := 2) hr (by simp)
      simp at hbo
      obtain ⟨rfl, rfl⟩ := hbo
      simp only [List.getElem_cons_zero] at hx
      simp only [List.getElem_cons_succ, List.getElem_cons_zero] at hz
      subst hx
      subst hz
      simp only [Nat.zero_mul, Nat.add_zero] at c0 c1 c2 c3
      have hbl := hS _ hSb
      have HL1 := Lib.hid (isLeaf_any nd t s B q.length cb q 2 w)
      have HL2 := Lib.hid (fun W => isLeaf_any nd' t' s' B' q'.length cb' q' 7 W)
      have HN := Lib.hid (readNumber_any s)
      have hsm : smu [.mk nd t s q, y, .mk nd' t' s' q'] = if isLf 2 (.mk nd t s q) && isLf 7 (.mk nd' t' s' q') && decide (s.length = 8) && decide (1 ≤ rn s) && decide (rn s ≤ 255) then some (rn s) else none := rfl
      obtain ⟨M, hM⟩ : ∃ M, M = smu [.mk nd t s q, y, .mk nd' t' s' q'] := ⟨_, rfl⟩
      rw [← hM]
      rw [hsm] at hM
      have C0 := Lib.hid c0
      have C1 := Lib.hid c1
      have C2 := Lib.hid c2
      have C3 := Lib.hid c3
      have D0 := Lib.hid d0
      have D1 := Lib.hid d1
      have D2 := Lib.hid d2
      have D3 := Lib.hid d3
      generalize isLf 2 (.mk nd t s q) = f1 at *
      generalize isLf 7 (.mk nd' t' s' q') = f2 at *
      generalize rn s = r at *
      have HM := Lib.hid hM
      clear hr hS hSb hsm h3b hn hM
      simp only [List.length_cons, List.length_nil, Nat.zero_add, Nat.reduceAdd]
      go_enter Tryz.func172, Tryz.ntmps172
      go_wp2_with fail
      refine HL1.out.mono ?_
      rintro _ w1 ⟨rfl, b1⟩
      have HB1 := Lib.hid b1
      clear c0 c1 c2 c3 d0 d1 d2 d3 HL1 b1
      cases f1 with
      | false =>
        clear HL2 HN
        obtain rfl : M = none := by rw [HM.out]; simp
        go_wp2
        go_ret2
        exact ⟨0, rfl, fun u hu => (by cases hu), HB1.out⟩
      | true =>
        have d0 := (HB1.out.cell (p := ⟨b, o + 2 * 4, none⟩) hbl).trans D0.out
        have d1 := (HB1.out.cell (p := ⟨b, o + 2 * 4 + 1, none⟩) hbl).trans D1.out
        have d2 := (HB1.out.cell (p := ⟨b, o + 2 * 4 + 2, none⟩) hbl).trans D2.out
        have d3 := (HB1.out.cell (p := ⟨b, o + 2 * 4 + 3, none⟩) hbl).trans D3.out
        simp only [Nat.reduceMul, Nat.add_assoc, Nat.reduceAdd] at d0 d1 d2 d3
        go_wp2_with fail
        refine (HL2.out _).mono ?_
        rintro _ w2 ⟨rfl, b2⟩
        have HB2 := Lib.hid (HB1.out.trans (b2.mono HB1.out.size))
        clear d0 d1 d2 d3 HL2 b2 HB1
        cases f2 with
        | false =>
          clear HN
          obtain rfl : M = none := by rw [HM.out]; simp
          go_wp2
          go_ret2
          exact ⟨0, rfl, fun u hu => (by cases hu), HB2.out⟩
        | true =>
          have c2 := (HB2.out.cell (p := ⟨b, o + 2, none⟩) hbl).trans C2.out
          go_wp2_with fail
          refine (HN.out _).mono ?_
          rintro _ w3 ⟨rfl, b3⟩
          have HB3 := Lib.hid (HB2.out.trans (b3.mono HB2.out.size))
          clear c2 HN b3 HB2
          by_cases h8 : s.length = 8
          · rw [if_pos h8]
            have HM8 := Lib.hid h8
            clear h8
            by_cases g1 : 1 ≤ r
            · have e1 : decide (r ≥ 1) = true := decide_eq_true g1
              have e1' : decide (1 ≤ r) = true := decide_eq_true g1
              by_cases g2 : r ≤ 255
              · have e2 : decide (r ≤ 255) = true := decide_eq_true g2
                obtain rfl : M = some r := by rw [HM.out]; simp [HM8.out, g1, g2]
                clear g1 g2
                go_wp2
                go_ret2
                exact ⟨r, rfl, fun u hu => (by injection hu), HB3.out⟩
              · have e2 : decide (r ≤ 255) = false := decide_eq_false g2
                obtain rfl : M = none := by rw [HM.out]; simp [g2]
                clear g1 g2
                go_wp2
                go_ret2
                exact ⟨r, rfl, fun u hu => (by cases hu), HB3.out⟩
            · have e1 : decide (r ≥ 1) = false := decide_eq_false g1
              have e1' : decide (1 ≤ r) = false := decide_eq_false g1
              obtain rfl : M = none := by rw [HM.out]; simp [g1]
              clear g1
              go_wp2
              go_ret2
              exact ⟨r, rfl, fun u hu => (by cases hu), HB3.out⟩
          · rw [if_neg h8]
            obtain rfl : M = none := by rw [HM.out]; simp [h8]
            clear h8
            go_wp2
            go_ret2
            exact ⟨0, rfl, fun u hu => (by cases hu), HB3.out⟩
  · have h3b : (((l.length : Nat) : Int) != 3) = true := by simp; omega
    have hsm : smu l = none := by
      match l, h3 with
      | [], _ => rfl
      | [_], _ => rfl
      | [_, _], _ => rfl
      | [_, _, _], h => exact absurd rfl h
      | _ :: _ :: _ :: _ :: _, _ => rfl
    rw [hsm]
    clear hr hS hsm h3
    go_enter Tryz.func172, Tryz.ntmps172
    go_wp2
    go_ret2
    exact ⟨0, rfl, fun u hu => (by cases hu), Below.refl _ _⟩
end Go.Proofs.YticofjbngfjjlaaGreatDoor.Cy

/- carry: the closure of sum. (Laid with NS=1.) -/

namespace Go.Proofs.YticofjbngfjjlaaGreatDoor.Cy
open Go.RowKit
open Te Te.Tt
open Wi.Wr (It wr wrs)

theorem chkNo_eq (m s : List UInt8) : (chkNo m s == 0) = decide (m = s) := by
  unfold chkNo
  by_cases h : m = s <;> simp [h]

set_option maxHeartbeats 2000000 in
set_option maxRecDepth 100000 in
theorem sumIn_any (b Y h : List UInt8) (n : Int) (ub yb lb ib io ca : Nat) (V : World) (HT : Tabs V) (hb : b.length ≤ 10000) (hY : Y.length ≤ 10000)
    (h1 : V.heap[ub]? = some (.cells #[.int .i64 n] 3 (0, 0))) (h2 : V.heap[yb]? = some (.cells #[.string ⟨⟨Y⟩⟩] 9 (0, 0))) (h3 : V.heap[lb]? = some (.cells #[.slice (some ⟨ib, io, none⟩) 3 ca] 62 (0, 0))) (h4 : V.cell? ⟨ib, io + 8 + 2, none⟩ = some (.string ⟨⟨h⟩⟩)) :
    Calls Tryz.prog 173 #[.string ⟨⟨b⟩⟩, .pointer (some ⟨ub, 0, none⟩), .pointer (some ⟨yb, 0, none⟩), .pointer (some ⟨lb, 0, none⟩)] V fun e w' => e = .returned (.bool (decide (Sl.chk b n Y = h))) ∧ Below V.heap.size V w' := by
  have c1 : V.cell? ⟨ub, 0, none⟩ = some (.int .i64 n) := by rw [cell_of_row _ _ _ _ _ _ h1]; rfl
  have c2 : V.cell? ⟨yb, 0, none⟩ = some (.string ⟨⟨Y⟩⟩) := by rw [cell_of_row _ _ _ _ _ _ h2]; rfl
  have c3 : V.cell? ⟨lb, 0, none⟩ = some (.slice (some ⟨ib, io, none⟩) 3 ca) := by rw [cell_of_row _ _ _ _ _ _ h3]; rfl
  have c4 : V.cell? ⟨ib, io + 10, none⟩ = some (.string ⟨⟨h⟩⟩) := h4
  have j1 := cell_regrown c1
  have j2 := cell_regrown c2
  have j3 := cell_regrown c3
  have j4 := cell_regrown c4
  have kC := fun d os => Calls.regrown_of (slCheck_any b Y h n (Go.Sort.grow (redrawn V d) os) (Tabs.below HT (below_regrown V d os)) hb hY)
  have HQ := Lib.hid (chkNo_eq (Sl.chk b n Y) h)
  rw [← HQ.out]
  clear HT hb hY h1 h2 h3 h4 c1 c2 c3 c4
  generalize chkNo (Sl.chk b n Y) h = q at *
  go_enter Tryz.func173, Tryz.ntmps173
  go_wp2_with fail
  refine wp_region_quiet_below (by kernel_rfl) (by kernel_rfl) ?_
  repeat (quiet_step (with_reducible exact kC _ _))
  refine wpQuiet_nil ?_
  intro _ hw'
  obtain ⟨⟨dq, osq⟩, hw''⟩ := hw'
  subst hw''
  have HB := Lib.hid (below_regrown V dq osq)
  clear j1 j2 j3 j4 kC
  go_wp2
  go_ret
  exact ⟨rfl, HB.out⟩
end Go.Proofs.YticofjbngfjjlaaGreatDoor.Cy

/- carry: the reader's sum, by what its term does. (Laid with NS=1; written by wip/tools/gen/cyu12.py.) -/

namespace Go.Proofs.YticofjbngfjjlaaGreatDoor.Cy
open Go.RowKit
open Te Te.Tt
open Wi.Wr (It wr wrs)

theorem szs_down {d d' : Nat} : ∀ (l : List It) (a b : Nat), (∀ x ∈ l, ∀ m, Wi.Wr.sz x d = some m → Wi.Wr.sz x d' = some m) → Wi.Wr.szs l d a = some b → Wi.Wr.szs l d' a = some b
  | [], a, b, _, h => by rw [Wi.Wr.szs] at h ⊢; exact h
  | x :: r, a, b, hx, h => by
    obtain ⟨m, h1, h2, h3⟩ := Wi.Wr.szs_cons h
    rw [Wi.Wr.szs, hx x (by simp) m h1]
    simp only
    rw [if_neg (by omega)]
    exact szs_down r _ b (fun y hy => hx y (by simp [hy])) h3
theorem sz_down : ∀ (x : It) (d d' m : Nat), d' ≤ d → Wi.Wr.sz x d = some m → Wi.Wr.sz x d' = some m := Wi.Wr.It.ind (by
  intro n t s l ih d d' m hd h
  obtain ⟨h1, h2, h3, h4, ⟨rfl, rfl, rfl⟩ | ⟨rfl, rfl, b, hb, rfl⟩⟩ := Wi.Wr.sz_some h
  · rw [Wi.Wr.sz] at h ⊢
    rw [if_neg (by omega)] at h ⊢
    exact h
  · have hb' := szs_down (d := d + 1) (d' := d' + 1) l 0 b (fun x hx m hm => ih x hx (d + 1) (d' + 1) m (by omega) hm) hb
    rw [Wi.Wr.sz] at h ⊢
    rw [if_neg (by omega)] at h ⊢
    rw [hb] at h
    rw [hb']
    exact h)

/-- A sum of what was read. -/
def smK (u : Int) (x : Tm) (F : Option Tm) : Except Int Tm :=
  match F with
  | none => .error 62
  | some k => .ok (.mk 5 [] u [k, x])
def smX (c : List UInt8) (ks : List Tm) (u : Int) (Y h : List UInt8) (r : Except Int Tm) : Except Int Tm :=
  match r with
  | .error e => .error e
  | .ok x => smK u x (fnd c (fun b => decide (Sl.chk b u Y = h)) ks)
/-- What a sum is read as. -/
def smR (c : List UInt8) (ks : List Tm) (U : It → Except Int Tm) (l : List It) : Except Int Tm :=
  match smu l with
  | none => .error 13
  | some u => smX c ks u (wr (snd l)) (ist (l.getD 2 (leaf 0 []))) (U (snd l))
theorem smu_three {l : List It} {u : Int} (h : smu l = some u) : ∃ x y z, l = [x, y, z] ∧ 1 ≤ u ∧ u ≤ 255 := by
  match l, h with
  | [], h => cases h
  | [_], h => cases h
  | [_, _], h => cases h
  | [x, y, z], h =>
    refine ⟨x, y, z, rfl, ?_⟩
    simp only [smu] at h
    split at h
    · rename_i hc
      injection h with h
      simp only [Bool.and_eq_true, decide_eq_true_eq] at hc
      omega
    · cases h
  | _ :: _ :: _ :: _ :: _, h => cases h

theorem irow_keep {W W' : World} {S : Nat → Prop} {l : List It} {A : Option Addr} (h : Wi.Row W S l A) (hk : ∀ b, S b → W'.heap[b]? = W.heap[b]?) : Wi.Row W' S l A := by
  rcases h with h | ⟨b, o, rfl, hSb, hreps⟩
  · exact .inl h
  · have h1 := Wi.rep_keep (S := S) (S' := S) (fun _ h => h) (fun b o hb => World.cell?_of_block (hk b hb)) (.mk true 0 [] l) _ (Wi.rep_mk.2 ⟨some ⟨b, o, none⟩, 0, rfl, .inr ⟨b, o, rfl, hSb, hreps⟩⟩)
    obtain ⟨A', c', hv, hrw⟩ := Wi.rep_mk.1 h1
    injection hv with hv
    simp at hv
    rw [hv.1]; exact hrw

set_option maxHeartbeats 8000000 in
set_option maxRecDepth 100000 in
theorem rsum_of (E : Rd) (ho : E.ok) (f : Nat) (d : Int) (hd0 : 0 ≤ d) (hd1 : d ≤ 16) (hd : d + 1 = 17 - (f : Nat)) (hT : TermSaid E f) (l : List It) (A : Option Addr) (ca : Nat) (S : Nat → Prop) (V : World) (hn : l.length ≤ 9000) (hsh : ∀ y ∈ l, Sh9 y) (hV : E.lies V)
    (hr : Wi.Row V S l A) (hS : ∀ b, S b → b < V.heap.size ∧ b ≠ E.gb) :
    Calls Tryz.prog 141 #[.pointer (some ⟨E.R, 0, none⟩), .slice A l.length ca, .int .i64 d] V (RPost E V (smR E.c E.ks (un E.c E.ks f) l)) := by
  have HV := Lib.hid hV
  obtain ⟨W0, hW0⟩ : ∃ W0, W0 = (V.alloc (.cells #[.slice A l.length ca] 62)).alloc (.cells #[.int .i64 0, .string ⟨#[]⟩, .int .i64 0, .slice none 0 0] 25) := ⟨_, rfl⟩
  have hb0 : Below V.heap.size V W0 := by rw [hW0]; exact ((Below.refl _ _).alloc (Nat.le_refl _) _).alloc (by simp) _
  have hg0 : W0.heap[V.heap.size]? = some (.cells #[.slice A l.length ca] 62 (0, 0)) := by rw [hW0, heap_alloc_old _ _ (by simp)]; exact heap_alloc_new _ _
  have hg1 : W0.heap[V.heap.size + 1]? = some (.cells #[.int .i64 0, .string ⟨#[]⟩, .int .i64 0, .slice none 0 0] 25 (0, 0)) := by
    have h := heap_alloc_new (V.alloc (.cells #[.slice A l.length ca] 62)) (.cells #[.int .i64 0, .string ⟨#[]⟩, .int .i64 0, .slice none 0 0] 25)
    rw [World.size_alloc] at h
    rw [hW0]; exact h
  have hs0 : W0.heap.size = V.heap.size + 2 := by rw [hW0]; simp
  have hrow0 : Wi.Row W0 S l A := irow_keep hr (fun b hb => hb0.block b (hS b hb).1)
  have hSU := sumUse_any l A ca S W0 (by omega) hrow0 (fun b hb => by have := (hS b hb).1; omega)
  obtain ⟨M, hM⟩ : ∃ M, M = smu l := ⟨_, rfl⟩
  rw [← hM] at hSU
  have HSU := Lib.hid hSU
  have HW0 := Lib.hid hW0
  have HB0 := Lib.hid hb0
  have HG0 := Lib.hid hg0
  have HG1 := Lib.hid hg1
  have HS0 := Lib.hid hs0
  have HROW := Lib.hid hrow0
  have HSS := Lib.hid hS
  have HT := Lib.hid hT
  have HSH := Lib.hid hsh
  have HM := Lib.hid hM
  have HD := Lib.hid hd
  clear hW0 hb0 hg0 hg1 hs0 hrow0 hSU hr hS hT hsh hM hd hV hn
  go_enter Tryz.func141, Tryz.ntmps141
  go_wp2_with fail
  rw [← HW0.out]
  refine HSU.out.mono ?_
  rintro _ w1 ⟨n, rfl, hu, b1⟩
  have hl1 := (HV.out.next HB0.out).next b1
  have hg1 := (b1.block V.heap.size (by have := HS0.out; omega)).trans HG0.out
  have hz1 := (b1.block (V.heap.size + 1) (by have := HS0.out; omega)).trans HG1.out
  have ho1 : Oth V.heap.size E.gb V w1 := (Oth.of HB0.out).trans (Oth.of (b1.mono (by have := HS0.out; omega)))
  have hs1 := b1.size
  have hbw : Below w1.heap.size w1 (w1.alloc (.cells #[.int .i64 n] 3)) := (Below.refl _ _).alloc (Nat.le_refl _) _
  have hl2 := hl1.next hbw
  have hg2 := (hbw.block V.heap.size (by have := HS0.out; omega)).trans hg1
  have hz2 := (hbw.block (V.heap.size + 1) (by have := HS0.out; omega)).trans hz1
  have hu2 := heap_alloc_new w1 (.cells #[.int .i64 n] 3)
  have hs2 : (w1.alloc (.cells #[.int .i64 n] 3)).heap.size = w1.heap.size + 1 := by simp
  have ho2 := ho1.trans (Oth.of (hbw.mono (by have := HS0.out; omega)))
  have hrow2 : Wi.Row (w1.alloc (.cells #[.int .i64 n] 3)) S l A := irow_keep (irow_keep HROW.out (fun b hb => b1.block b (by have := (HSS.out b hb).1; have := HS0.out; omega))) (fun b hb => hbw.block b (by have := (HSS.out b hb).1; have := HS0.out; omega))
  cases hMM : M with
  | none =>
    have HR : Hid (smR E.c E.ks (un E.c E.ks f) l = .error 13) := by rw [Hid, smR, ← HM.out, hMM]
    have hlF := hl2
    have hgF := hz2
    have hoF := ho2
    clear hl1 hg1 hz1 ho1 hs1 hbw hl2 hg2 hz2 hu2 hs2 ho2 hu b1 HT HSH HROW HSS HB0 HG0 HG1 HSU hrow2 hMM
    simp only [Option.isSome_none]
    obtain ⟨q1, q2, q3, q4, q5⟩ := fin4 (v0 := .int .i64 0) (v1 := .string ⟨#[]⟩) (v2 := .int .i64 0) (v3 := .slice none 0 0) ho HV.out hlF (Nat.le_add_right _ _) hgF hoF
    obtain ⟨y0, y1, y2, y3⟩ := cell4 hgF
    have f0 := fun j => frozen_of_row _ _ j _ _ hgF
    have Q1 := Lib.hid q1
    have Q2 := Lib.hid q2
    have Q3 := Lib.hid q3
    have Q4 := Lib.hid q4
    have Q5 := Lib.hid q5
    clear hlF hgF hoF q1 q2 q3 q4 q5
    go_wp2
    obtain ⟨y0, y1, y2, y3⟩ := cell4 Q1.out
    refine bodyPost_ret (v := .tuple #[.agg #[.int .i64 0, .string ⟨#[]⟩, .int .i64 0, .slice none 0 0], .int .i64 13]) (by simp [results, Tryz.results141, go_sem, y0, y1, y2, y3]) rfl ?_
    unfold RPost
    rw [HR.out]
    exact ⟨rfl, Q2.out, Q3.out⟩
  | some u =>
    obtain rfl : n = u := hu u hMM
    obtain ⟨x0, y, z, rfl, hu1, hu2'⟩ := smu_three (HM.out.symm.trans hMM)
    have HR0 : Hid (smR E.c E.ks (un E.c E.ks f) [x0, y, z] = smX E.c E.ks n (wr y) (ist z) (un E.c E.ks f y)) := by rw [Hid, smR, ← HM.out, hMM]; rfl
    obtain ⟨ib, io, nd, tg, xs, q, B, cb, rfl, hSb, hx, c0, c1, c2, c3, hrep⟩ := irow_get (i := 1) hrow2 (by simp)
    obtain ⟨ib', io', nd', tg', xs', q', B', cb', hbo, -, hz', e0, e1, e2, e3, -⟩ := irow_get (i := 2) hrow2 (by simp)
    simp at hbo
    obtain ⟨rfl, rfl⟩ := hbo
    simp only [List.getElem_cons_succ, List.getElem_cons_zero] at hx hz'
    subst hx
    subst hz'
    simp only [Nat.one_mul, Nat.reduceMul, Nat.add_assoc, Nat.reduceAdd] at c0 c1 c2 c3 e2
    have hib := HSS.out _ hSb
    have hS2 : ∀ b, S b → b < (w1.alloc (.cells #[.int .i64 n] 3)).heap.size ∧ b ≠ E.gb := fun b hb => ⟨by have := (HSS.out b hb).1; have := HS0.out; omega, (HSS.out b hb).2⟩
    have hsy := HSH.out (.mk nd tg xs q) (by simp)
    have HCT := HT.out (.mk nd tg xs q) S _ _ hsy hl2 hrep hS2
    rw [← HD.out] at HCT
    have HCT := Lib.hid HCT
    have c4 : (w1.alloc (.cells #[.int .i64 n] 3)).cell? ⟨V.heap.size, 0, none⟩ = some (.slice (some ⟨ib, io, none⟩) 3 ca) := by rw [cell_of_row _ _ _ _ _ _ hg2]; rfl
    have C0 := Lib.hid c0
    have C1 := Lib.hid c1
    have C2 := Lib.hid c2
    have C3 := Lib.hid c3
    have E2 := Lib.hid e2
    have HG2 := Lib.hid hg2
    have HZ2 := Lib.hid hz2
    have HU2 := Lib.hid hu2
    have HO2 := Lib.hid ho2
    have HREP := Lib.hid hrep
    have HSY := Lib.hid hsy
    have HSZ := Lib.hid (show V.heap.size + 2 ≤ w1.heap.size ∧ (w1.alloc (.cells #[.int .i64 n] 3)).heap.size = w1.heap.size + 1 from ⟨by have := HS0.out; omega, hs2⟩)
    have HIB := Lib.hid hib
    have HUB := Lib.hid (And.intro hu1 hu2')
    clear hl1 hg1 hz1 ho1 hs1 hbw hl2 hg2 hz2 hu2 hs2 ho2 hu b1 HT HSH HROW HB0 HG0 HG1 HSU hrow2 hMM hrep hsy hS2 e0 e1 e2 e3 hib hSb HM HD hu1 hu2'
    simp only [Option.isSome_some, List.length_cons, List.length_nil, Nat.zero_add, Nat.reduceAdd]
    go_wp2_with fail
    generalize w1.alloc (.cells #[.int .i64 n] 3) = W2 at *
    refine HCT.out.mono ?_
    rintro e w3 ⟨hp, hl3, ho3⟩
    have hs2 := HSZ.out
    have hgb := HV.out.blt
    have hs3 := ho3.size
    have hib := HIB.out
    have hg3 := (ho3.block V.heap.size (by omega) (by omega)).trans HG2.out
    have hz3 := (ho3.block (V.heap.size + 1) (by omega) (by omega)).trans HZ2.out
    have hu3 := (ho3.block w1.heap.size (by omega) (by omega)).trans HU2.out
    have hoV3 := HO2.out.trans (ho3.mono (by omega))
    have hrep3 := Wi.rep_keep (S' := S) (fun _ h => h) (fun b o hb => ho3.cell (p := ⟨b, o, none⟩) (by have := (HSS.out b hb).1; show b < W2.heap.size; omega) (HSS.out b hb).2) _ _ HREP.out
    have i0 := (ho3.cell (p := ⟨ib, io + 4, none⟩) (by show ib < W2.heap.size; omega) hib.2).trans C0.out
    have i1 := (ho3.cell (p := ⟨ib, io + 5, none⟩) (by show ib < W2.heap.size; omega) hib.2).trans C1.out
    have i2 := (ho3.cell (p := ⟨ib, io + 6, none⟩) (by show ib < W2.heap.size; omega) hib.2).trans C2.out
    have i3 := (ho3.cell (p := ⟨ib, io + 7, none⟩) (by show ib < W2.heap.size; omega) hib.2).trans C3.out
    have k2 := (ho3.cell (p := ⟨ib, io + 10, none⟩) (by show ib < W2.heap.size; omega) hib.2).trans E2.out
    obtain ⟨r, hr⟩ : ∃ r, r = un E.c E.ks f (.mk nd tg xs q) := ⟨_, rfl⟩
    have hue := un_err E.c E.ks f (.mk nd tg xs q)
    rw [← hr] at hp hue
    have HR1 : Hid (smR E.c E.ks (un E.c E.ks f) [x0, .mk nd tg xs q, .mk nd' tg' xs' q'] = smX E.c E.ks n (wr (.mk nd tg xs q)) xs' r) := by rw [Hid, HR0.out, ← hr]; rfl
    clear ho3 HG2 HZ2 HU2 HO2 HREP HCT c0 c1 c2 c3 c4 C0 C1 C2 C3 E2 hr HR0
    cases r with
    | error x =>
      have hx := hue x rfl
      have e1 : (x != 0) = true := by simpa using hx
      unfold zeroT at hp
      simp only at hp
      subst hp
      have HR : Hid (smR E.c E.ks (un E.c E.ks f) [x0, .mk nd tg xs q, .mk nd' tg' xs' q'] = .error x) := by rw [Hid, HR1.out]; rfl
      have hbw : Below w3.heap.size w3 (w3.alloc (.cells #[.int .i64 0, .string ⟨#[]⟩, .int .i64 0, .slice none 0 0] 25)) := (Below.refl _ _).alloc (Nat.le_refl _) _
      have hlF := hl3.next hbw
      have hgF := (hbw.block (V.heap.size + 1) (by omega)).trans hz3
      have hoF := hoV3.trans (Oth.of (hbw.mono (by omega)))
      clear hbw hl3 hg3 hz3 hu3 hoV3 hrep3 hx hue hs2 hgb hs3 hib i0 i1 i2 i3 k2
      obtain ⟨q1, q2, q3, q4, q5⟩ := fin4 (v0 := .int .i64 0) (v1 := .string ⟨#[]⟩) (v2 := .int .i64 0) (v3 := .slice none 0 0) ho HV.out hlF (Nat.le_add_right _ _) hgF hoF
      obtain ⟨y0, y1, y2, y3⟩ := cell4 hgF
      have f0 := fun j => frozen_of_row _ _ j _ _ hgF
      have Q1 := Lib.hid q1
      have Q2 := Lib.hid q2
      have Q3 := Lib.hid q3
      have Q4 := Lib.hid q4
      have Q5 := Lib.hid q5
      clear hlF hgF hoF q1 q2 q3 q4 q5
      go_wp2
      obtain ⟨y0, y1, y2, y3⟩ := cell4 Q1.out
      refine bodyPost_ret (v := .tuple #[.agg #[.int .i64 0, .string ⟨#[]⟩, .int .i64 0, .slice none 0 0], .int .i64 x]) (by simp [results, Tryz.results141, go_sem, y0, y1, y2, y3]) rfl ?_
      unfold RPost
      rw [HR.out]
      exact ⟨rfl, Q2.out, Q3.out⟩
    | ok t =>
      obtain ⟨u0, u1, u2, u3, rfl, hrt⟩ := hp
      obtain ⟨tk, ts, tn, tl⟩ := t
      obtain ⟨TA, tc, hv, -, -⟩ := rep_mk.1 hrt
      injection hv with hv
      simp at hv
      obtain ⟨rfl, rfl, rfl, rfl⟩ := hv
      have hbw : Below w3.heap.size w3 (w3.alloc (.cells #[.int .i64 tk, .string ⟨⟨ts⟩⟩, .int .i64 tn, .slice TA tl.length tc] 25)) := (Below.refl _ _).alloc (Nat.le_refl _) _
      have hl4 := hl3.next hbw
      have hg4 := (hbw.block V.heap.size (by omega)).trans hg3
      have hz4 := (hbw.block (V.heap.size + 1) (by omega)).trans hz3
      have hu4 := (hbw.block w1.heap.size (by omega)).trans hu3
      have ht4 := heap_alloc_new w3 (.cells #[.int .i64 tk, .string ⟨⟨ts⟩⟩, .int .i64 tn, .slice TA tl.length tc] 25)
      have hs4 : (w3.alloc (.cells #[.int .i64 tk, .string ⟨⟨ts⟩⟩, .int .i64 tn, .slice TA tl.length tc] 25)).heap.size = w3.heap.size + 1 := by simp
      have ho4 := hoV3.trans (Oth.of (hbw.mono (by omega)))
      have hrt4 := rep_below hrt hbw (fun b hb => hb.2)
      have hSlt : ∀ b, S b → b < w3.heap.size := fun b hb => by have := (HSS.out b hb).1; omega
      have hrep4 := Wi.rep_below hrep3 hbw hSlt
      have j0 := (hbw.cell (p := ⟨ib, io + 4, none⟩) (by show ib < w3.heap.size; omega)).trans i0
      have j1 := (hbw.cell (p := ⟨ib, io + 5, none⟩) (by show ib < w3.heap.size; omega)).trans i1
      have j2 := (hbw.cell (p := ⟨ib, io + 6, none⟩) (by show ib < w3.heap.size; omega)).trans i2
      have j3 := (hbw.cell (p := ⟨ib, io + 7, none⟩) (by show ib < w3.heap.size; omega)).trans i3
      have k4 := (hbw.cell (p := ⟨ib, io + 10, none⟩) (by show ib < w3.heap.size; omega)).trans k2
      have c4 : (w3.alloc (.cells #[.int .i64 tk, .string ⟨⟨ts⟩⟩, .int .i64 tn, .slice TA tl.length tc] 25)).cell? ⟨V.heap.size, 0, none⟩ = some (.slice (some ⟨ib, io, none⟩) 3 ca) := by rw [cell_of_row _ _ _ _ _ _ hg4]; rfl
      obtain ⟨em, mm, hm1, hm2⟩ := HSY.out
      have hwl := Wi.Wr.sz_len _ _ _ hm1
      have hbk := Wi.bk_le (.mk nd tg xs q)
      have HCP := Lib.hid (Wi.put_ok (.mk nd tg xs q) S _ _ mm (by omega) hrep4 (fun b hb => by have := hSlt b hb; omega) (sz_down _ em 0 mm (Nat.zero_le _) hm1))
      have HYL := Lib.hid (show (wr (.mk nd tg xs q)).length ≤ 10000 by omega)
      have HL4 := Lib.hid hl4
      have HG4 := Lib.hid hg4
      have HZ4 := Lib.hid hz4
      have HU4 := Lib.hid hu4
      have HT4 := Lib.hid ht4
      have HO4 := Lib.hid ho4
      have HRT4 := Lib.hid hrt4
      have HK4 := Lib.hid k4
      have HSZ4 := Lib.hid (show (w3.alloc (.cells #[.int .i64 tk, .string ⟨⟨ts⟩⟩, .int .i64 tn, .slice TA tl.length tc] 25)).heap.size = w3.heap.size + 1 ∧ W2.heap.size ≤ w3.heap.size from ⟨hs4, hs3⟩)
      clear hbw hl4 hg4 hz4 hu4 ht4 hs4 ho4 hrt4 hSlt hrep4 k4 hm1 hm2 hwl hbk hrt hl3 hg3 hz3 hu3 hoV3 hrep3 hue hs2 hgb hs3 hib i0 i1 i2 i3 k2
      go_wp2_with fail
      generalize w3.alloc (.cells #[.int .i64 tk, .string ⟨⟨ts⟩⟩, .int .i64 tn, .slice TA tl.length tc] 25) = W4 at *
      refine HCP.out.mono ?_
      rintro _ w5 ⟨rfl, b5⟩
      obtain ⟨Y, hY⟩ : ∃ Y, Y = wr (.mk nd tg xs q) := ⟨_, rfl⟩
      rw [← hY] at HYL HR1 ⊢
      have hs2 := HSZ.out
      have hs4 := HSZ4.out
      have hs5 := b5.size
      have hgb := HV.out.blt
      have hib := HIB.out
      have hbw : Below w5.heap.size w5 (w5.alloc (.cells #[.string ⟨⟨Y⟩⟩] 9)) := (Below.refl _ _).alloc (Nat.le_refl _) _
      have hl6 := (HL4.out.next b5).next hbw
      have hg6 := (hbw.block V.heap.size (by omega)).trans ((b5.block V.heap.size (by omega)).trans HG4.out)
      have hz6 := (hbw.block (V.heap.size + 1) (by omega)).trans ((b5.block (V.heap.size + 1) (by omega)).trans HZ4.out)
      have hu6 := (hbw.block w1.heap.size (by omega)).trans ((b5.block w1.heap.size (by omega)).trans HU4.out)
      have ht6 := (hbw.block w3.heap.size (by omega)).trans ((b5.block w3.heap.size (by omega)).trans HT4.out)
      have hy6 := heap_alloc_new w5 (.cells #[.string ⟨⟨Y⟩⟩] 9)
      have hs6 : (w5.alloc (.cells #[.string ⟨⟨Y⟩⟩] 9)).heap.size = w5.heap.size + 1 := by simp
      have ho6 := (HO4.out.trans (Oth.of (b5.mono (by omega)))).trans (Oth.of (hbw.mono (by omega)))
      have hrt6 := rep_keep (S' := Nw W2.heap.size w3) (fun _ h => h) (fun b o hb => (hbw.cell (p := ⟨b, o, none⟩) (by have := hb.2; show b < w5.heap.size; omega)).trans (b5.cell (p := ⟨b, o, none⟩) (by have := hb.2; show b < W4.heap.size; omega))) _ _ HRT4.out
      have k6 := (hbw.cell (p := ⟨ib, io + 10, none⟩) (by show ib < w5.heap.size; omega)).trans ((b5.cell (p := ⟨ib, io + 10, none⟩) (by show ib < W4.heap.size; omega)).trans HK4.out)
      have hFI := first_sum E ho (fun b => decide (Sl.chk b n Y = xs')) (fun W => W.heap[w1.heap.size]? = some (.cells #[.int .i64 n] 3 (0, 0)) ∧ W.heap[w5.heap.size]? = some (.cells #[.string ⟨⟨Y⟩⟩] 9 (0, 0)) ∧ W.heap[V.heap.size]? = some (.cells #[.slice (some ⟨ib, io, none⟩) 3 ca] 62 (0, 0)) ∧ W.cell? ⟨ib, io + 8 + 2, none⟩ = some (.string ⟨⟨xs'⟩⟩))
        (fun _ _ => True) E.gb (.pointer (some ⟨w1.heap.size, 0, none⟩)) (.pointer (some ⟨w5.heap.size, 0, none⟩)) (.pointer (some ⟨V.heap.size, 0, none⟩)) (w5.alloc (.cells #[.string ⟨⟨Y⟩⟩] 9)) hl6 ⟨hu6, hy6, hg6, k6⟩
        (fun W W' ⟨m1, m2, m3, m4⟩ hh => ⟨(hh.block _ (by omega) (by omega)).trans m1, (hh.block _ (by omega) (by omega)).trans m2, (hh.block _ (by omega) (by omega)).trans m3, (hh.cell (p := ⟨ib, io + 8 + 2, none⟩) (by show ib < (w5.alloc (.cells #[.string ⟨⟨Y⟩⟩] 9)).heap.size; omega) hib.2).trans m4⟩)
        (fun _ _ _ _ _ => trivial) hl6.blt
        (fun b W hb hl ⟨m1, m2, m3, m4⟩ => (sumIn_any b Y xs' n w1.heap.size w5.heap.size V.heap.size ib io ca W (hl.tabs ho) (by omega) HYL.out m1 m2 m3 m4).mono fun _ _ ⟨he, hbl⟩ => ⟨he, hl.next hbl, ⟨(hbl.block _ (Array.getElem?_eq_some_iff.1 m1).1).trans m1, (hbl.block _ (Array.getElem?_eq_some_iff.1 m2).1).trans m2, (hbl.block _ (Array.getElem?_eq_some_iff.1 m3).1).trans m3, (hbl.cell (World.block_lt_of_cell? _ _ m4)).trans m4⟩, fun _ => trivial, Oth.of hbl⟩)
      have HFI := Lib.hid hFI
      have HL6 := Lib.hid hl6
      have HZ6 := Lib.hid hz6
      have HU6 := Lib.hid hu6
      have HT6 := Lib.hid ht6
      have HO6 := Lib.hid ho6
      have HRT6 := Lib.hid hrt6
      have HSZ6 := Lib.hid (show (w5.alloc (.cells #[.string ⟨⟨Y⟩⟩] 9)).heap.size = w5.heap.size + 1 ∧ W4.heap.size ≤ w5.heap.size from ⟨hs6, hs5⟩)
      clear hbw hl6 hg6 hz6 hu6 ht6 hy6 hs6 ho6 hrt6 k6 hFI b5 hs2 hs4 hs5 hgb hib hY HL4 HG4 HZ4 HU4 HT4 HO4 HRT4 HK4 HCP j0 j1 j2 j3 c4
      go_wp2_with fail
      generalize w5.alloc (.cells #[.string ⟨⟨Y⟩⟩] 9) = W6 at *
      refine HFI.out.mono ?_
      rintro e w7 hp
      unfold FirstPost zeroT keyV at hp
      obtain ⟨F, hFd⟩ : ∃ F, F = fnd E.c (fun b => decide (Sl.chk b n Y = xs')) E.ks := ⟨_, rfl⟩
      rw [← hFd] at hp
      have HR2 : Hid (smR E.c E.ks (un E.c E.ks f) [x0, .mk nd tg xs q, .mk nd' tg' xs' q'] = smK n (.mk tk ts tn tl) F) := by rw [Hid, HR1.out, hFd]; rfl
      have HKF : Hid (∀ k, F = some k → ∀ (W : World) (S : Nat → Prop) (KB : Option Addr) (kcb : Nat), InR k.n → Rep W S k (.agg #[.int .i64 2, .string ⟨⟨k.s⟩⟩, .int .i64 k.n, .slice KB 0 kcb])) := by
        intro k hk W S KB kcb hin
        rw [hFd] at hk
        obtain ⟨h1, h2, -⟩ := ho.keys k (fnd_mem hk).1
        obtain ⟨kk, ks, kn, kl⟩ := k
        simp only [Tm.k, Tm.l, Tm.s, Tm.n] at *
        subst h1
        subst h2
        exact rep_mk.2 ⟨KB, kcb, rfl, hin, .inl rfl⟩
      obtain ⟨hp, hl7, -, ho7⟩ := hp
      have hs2 := HSZ.out
      have hs4 := HSZ4.out
      have hs6 := HSZ6.out
      have hgb := HV.out.blt
      have hs7 := ho7.size
      have hz7 := (ho7.block (V.heap.size + 1) (by omega) (by omega) (by omega)).trans HZ6.out
      have hu7 := (ho7.block w1.heap.size (by omega) (by omega) (by omega)).trans HU6.out
      have ht7 := (ho7.block w3.heap.size (by omega) (by omega) (by omega)).trans HT6.out
      have hoo7 : Oth V.heap.size E.gb V w7 := HO6.out.trans ((oth_one ho7 hl7 HL6.out.below).mono (by omega))
      have hrt7 := rep_keep (S' := Nw W2.heap.size w3) (fun _ h => h) (fun b o hb => World.cell?_of_block (a := ⟨b, o, none⟩) (ho7.block b (by have := hb.2; omega) (by have := hb.1; omega) (by have := hb.1; omega))) _ _ HRT6.out
      clear ho7 HFI HL6 HZ6 HU6 HT6 HO6 HRT6 hFd HR1
      cases F with
      | none =>
        simp only at hp
        subst hp
        have HR : Hid (smR E.c E.ks (un E.c E.ks f) [x0, .mk nd tg xs q, .mk nd' tg' xs' q'] = .error 62) := by rw [Hid, HR2.out]; rfl
        have hbw : Below w7.heap.size w7 (w7.alloc (.cells #[.int .i64 0, .string ⟨#[]⟩, .int .i64 0, .slice none 0 0] 25)) := (Below.refl _ _).alloc (Nat.le_refl _) _
        have hlF := hl7.next hbw
        have hgF := (hbw.block (V.heap.size + 1) (by omega)).trans hz7
        have hoF := hoo7.trans (Oth.of (hbw.mono (by omega)))
        clear hbw hl7 hz7 hu7 ht7 hoo7 hrt7 hs2 hs4 hs6 hgb hs7 HR2
        obtain ⟨q1, q2, q3, q4, q5⟩ := fin4 (v0 := .int .i64 0) (v1 := .string ⟨#[]⟩) (v2 := .int .i64 0) (v3 := .slice none 0 0) ho HV.out hlF (Nat.le_add_right _ _) hgF hoF
        obtain ⟨y0, y1, y2, y3⟩ := cell4 hgF
        have f0 := fun j => frozen_of_row _ _ j _ _ hgF
        have Q1 := Lib.hid q1
        have Q2 := Lib.hid q2
        have Q3 := Lib.hid q3
        have Q4 := Lib.hid q4
        have Q5 := Lib.hid q5
        clear hlF hgF hoF q1 q2 q3 q4 q5
        go_wp2
        obtain ⟨y0, y1, y2, y3⟩ := cell4 Q1.out
        refine bodyPost_ret (v := .tuple #[.agg #[.int .i64 0, .string ⟨#[]⟩, .int .i64 0, .slice none 0 0], .int .i64 62]) (by simp [results, Tryz.results141, go_sem, y0, y1, y2, y3]) rfl ?_
        unfold RPost
        rw [HR.out]
        exact ⟨rfl, Q2.out, Q3.out⟩
      | some k =>
        obtain ⟨⟨KB, kcb, he⟩, hin, -⟩ := hp
        subst he
        have HR : Hid (smR E.c E.ks (un E.c E.ks f) [x0, .mk nd tg xs q, .mk nd' tg' xs' q'] = .ok (.mk 5 [] n [k, .mk tk ts tn tl])) := by rw [Hid, HR2.out]; rfl
        have hbw : Below w7.heap.size w7 (w7.alloc (.cells #[.int .i64 2, .string ⟨⟨k.s⟩⟩, .int .i64 k.n, .slice KB 0 kcb] 25)) := (Below.refl _ _).alloc (Nat.le_refl _) _
        have hbn := heap_alloc_new w7 (.cells #[.int .i64 2, .string ⟨⟨k.s⟩⟩, .int .i64 k.n, .slice KB 0 kcb] 25)
        have hs8 : (w7.alloc (.cells #[.int .i64 2, .string ⟨⟨k.s⟩⟩, .int .i64 k.n, .slice KB 0 kcb] 25)).heap.size = w7.heap.size + 1 := by simp
        have hl8 := hl7.next hbw
        have hz8 := (hbw.block (V.heap.size + 1) (by omega)).trans hz7
        have hu8 := (hbw.block w1.heap.size (by omega)).trans hu7
        have ht8 := (hbw.block w3.heap.size (by omega)).trans ht7
        have ho8 := hoo7.trans (Oth.of (hbw.mono (by omega)))
        have hrt8 := rep_below hrt7 hbw (fun b hb => by have := hb.2; omega)
        have HCS := Lib.hid (Te.Sum_any k (.mk tk ts tn tl) _ _ n (Nw W2.heap.size w3) _ (HKF.out k rfl _ _ KB kcb hin) hrt8 (fun b hb => by have := hb.2; omega))
        obtain ⟨x0', x1, x2, x3⟩ := cell4 ht8
        obtain ⟨z0, z1, z2, z3⟩ := cell4 hbn
        have cu : (w7.alloc (.cells #[.int .i64 2, .string ⟨⟨k.s⟩⟩, .int .i64 k.n, .slice KB 0 kcb] 25)).cell? ⟨w1.heap.size, 0, none⟩ = some (.int .i64 n) := by rw [cell_of_row _ _ _ _ _ _ hu8]; rfl
        have HL8 := Lib.hid hl8
        have HZ8 := Lib.hid hz8
        have HO8 := Lib.hid ho8
        have HSZ8 := Lib.hid (show V.heap.size + 2 ≤ W2.heap.size ∧ w3.heap.size ≤ (w7.alloc (.cells #[.int .i64 2, .string ⟨⟨k.s⟩⟩, .int .i64 k.n, .slice KB 0 kcb] 25)).heap.size ∧ W2.heap.size ≤ w3.heap.size from ⟨by omega, by omega, by omega⟩)
        clear hbw hbn hs8 hl8 hz8 hu8 ht8 ho8 hrt8 hin hl7 hz7 hu7 ht7 hoo7 hrt7 hs2 hs4 hs6 hgb hs7 HR2 HKF
        go_wp2_with fail
        generalize w7.alloc (.cells #[.int .i64 2, .string ⟨⟨k.s⟩⟩, .int .i64 k.n, .slice KB 0 kcb] 25) = W8 at *
        refine HCS.out.mono ?_
        rintro _ w9 ⟨uu, rfl, hb9, hnr⟩
        have hnr0 := hnr
        obtain ⟨g5, xs5, rfl, -, -, -⟩ := hnr0
        have hs8 := HSZ8.out
        have hlF := HL8.out.next hb9
        have hgF := (hb9.block (V.heap.size + 1) (by omega)).trans HZ8.out
        have hoF := HO8.out.trans (Oth.of (hb9.mono (by omega)))
        have HNR := Lib.hid hnr
        have HSZ9 := Lib.hid hb9.size
        have hin4 : InR n := ⟨by have := HUB.out; omega, by have := HUB.out; omega⟩
        have HIN4 := Lib.hid hin4
        clear hb9 hnr hin4 hs8 x0' x1 x2 x3 z0 z1 z2 z3 cu HCS HL8 HZ8 HO8
        obtain ⟨q1, q2, q3, q4, q5⟩ := fin4 (v0 := .int .i64 5) (v1 := .string ⟨#[]⟩) (v2 := .int .i64 n) (v3 := .slice (some ⟨g5, 0, none⟩) 2 2) ho HV.out hlF (Nat.le_add_right _ _) hgF hoF
        obtain ⟨y0, y1, y2, y3⟩ := cell4 hgF
        have f0 := fun j => frozen_of_row _ _ j _ _ hgF
        have Q1 := Lib.hid q1
        have Q2 := Lib.hid q2
        have Q3 := Lib.hid q3
        have Q4 := Lib.hid q4
        have Q5 := Lib.hid q5
        clear hlF hgF hoF q1 q2 q3 q4 q5
        go_wp2
        obtain ⟨y0, y1, y2, y3⟩ := cell4 Q1.out
        refine bodyPost_ret (v := .tuple #[.agg #[.int .i64 5, .string ⟨#[]⟩, .int .i64 n, .slice (some ⟨g5, 0, none⟩) 2 2], .int .i64 0]) (by simp [results, Tryz.results141, go_sem, y0, y1, y2, y3]) rfl ?_
        unfold RPost
        rw [HR.out]
        exact ⟨⟨_, _, _, _, rfl, newrow_rep HNR.out (fun b hb => ⟨by have := hb.1; have := HSZ8.out; omega, by rw [Q5.out]; have := hb.2; have := HSZ8.out; have := HSZ9.out; omega⟩) (fun b hb => Q4.out b (by rcases hb with hb | hb <;> (have := hb.1; have := HSZ8.out; omega))) (fun g h1 h2 => ⟨by have := HSZ8.out; omega, by rw [Q5.out]; exact h2⟩) 5 [] n HIN4.out⟩, Q2.out, Q3.out⟩
end Go.Proofs.YticofjbngfjjlaaGreatDoor.Cy

