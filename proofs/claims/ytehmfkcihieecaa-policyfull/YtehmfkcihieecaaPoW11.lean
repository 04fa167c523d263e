/- Add. (Laid with NS=1; written by wip/tools/gen/pow11.py.) -/
import Derived.Test.YtehmfkcihieecaaPoW10
import Derived.Test.YtehmfkcihieecaaTmInv
namespace Go.Proofs.Ytehmfkcihieecaa.Po
open Go.RowKit Go.Sort
open Te Te.Tt
open Go (Lit DataW MemPlace keyOf maxLen)

theorem SP.add {w W w' : World} {F : Nat → Prop} {g bm : Nat} {f : Nm → Sl} {σ : Sto} {n : Nat} {p : Pr} {s : Sl} {D : DataW Value} (h : SP w F g bm f σ n) (hD : w.ownsMap Try.prog 9 tok bm n D) (h2 : Maps.size D = n) (h3 : ∀ kl, Maps.has D kl = true → ∃ a, kl = .string a)
    (h4 : ∀ a, Maps.has D (.string a) = (σ a).isSome ∧ D.atKey (.string a) (.held zP) = .held (pval (gt σ a) (f a))) (hb : RowKit.Below w.heap.size w W) (ho : POwn W p s) (hs : ∀ k, Bl s k → w.heap.size ≤ k)
    (hm : W.mapTurned w' bm) (hw : w'.ownsMap Try.prog 9 tok bm (n + 1) (D.put (.string p.nm) (.held (pval p s)))) (hno : σ p.nm = none) (hv : vp p = true) : Stp w F g bm (up σ p.nm p) (n + 1) w' := by
  refine ⟨_, _, h.set h2 h3 h4 (hD.tidy law) (Turn.of_below hb) ho (fun k hk => .inr (hs k hk)) hw hm (by rw [hno]; rfl) (okp_of hv), ?_, fun k hk => .inl hk, fun k hk => hk.imp (fun h => h) (fun h => h.1)⟩
  exact ⟨hm.grown.os.trans hb.os, hm.grown.tape.trans hb.tape, hm.grown.output.trans hb.output, Nat.le_trans hb.size hm.grown.size, fun k hk hn => (turned_block hm (Nat.lt_of_lt_of_le hk hb.size) (fun e => hn (by rw [e]; exact h.gF.2))).trans (hb.block k hk)⟩

/-- What Add answers, and leaves. -/
def AddPost (w : World) (F : Nat → Prop) (g bm : Nat) (σ : Sto) (n : Nat) (p : Pr) (e : Ending) (w' : World) : Prop := e = .returned (.int .i64 (addE σ n p)) ∧ Stp w F g bm (add σ n p).1 (add σ n p).2 w'
theorem addPost_err {w : World} {F : Nat → Prop} {g bm : Nat} {σ : Sto} {n : Nat} {p : Pr} {w' : World} {k : Int} (hk : addE σ n p = k) (h0 : k ≠ 0) (h : Stp w F g bm σ n w') : AddPost w F g bm σ n p (.returned (.int .i64 k)) w' := by
  refine ⟨by rw [hk], ?_⟩
  have : add σ n p = (σ, n) := by unfold add; rw [hk, if_neg h0]
  rw [this]
  exact h
theorem addPost_ok {w : World} {F : Nat → Prop} {g bm : Nat} {σ : Sto} {n : Nat} {p : Pr} {w' : World} (hk : addE σ n p = 0) (h : Stp w F g bm (up σ p.nm p) (n + 1) w') : AddPost w F g bm σ n p (.returned (.int .i64 0)) w' := by
  refine ⟨by rw [hk], ?_⟩
  have : add σ n p = (up σ p.nm p, n + 1) := by unfold add; rw [hk, if_pos rfl]
  rw [this]
  exact h
set_option maxHeartbeats 4000000 in
set_option maxRecDepth 100000 in
theorem Add_any (w : World) (F : Nat → Prop) (g bm : Nat) (f : Nm → Sl) (σ : Sto) (n : Nat) (h : SP w F g bm f σ n) (p : Pr) (S : Nat → Prop) (v : Value) (hv : PV w S p v) (hS : ∀ b, S b → b < w.heap.size) (k1 : p.al.length ≤ 1000) (k2 : p.ac.length ≤ 1000) (k3 : p.gr.length ≤ 1000) (hnm : p.nm.length ≤ maxLen) (hn : n < maxLen) :
    Calls Try.prog 22 #[.pointer (some ⟨g, 0, none⟩), v] w (AddPost w F g bm σ n p) := by
  have HVA : Hid (∀ W, RowKit.Below w.heap.size w W → Calls Try.prog 39 #[v] W fun e w' => e = .returned (.bool (vp p)) ∧ RowKit.Below W.heap.size W w') := fun W hW => Valid_any p S v W (hv.keep (fun _ h => h) (fun b hb => hW.block b (hS b hb))) (fun b hb => Nat.lt_of_lt_of_le (hS b hb) hW.size)
  have HOW : Hid (∀ W, RowKit.Below w.heap.size w W → Calls Try.prog 27 #[v] W fun e w' => ∃ s, e = .returned (pval p s) ∧ POwn w' p s ∧ (∀ k, Bl s k → W.heap.size ≤ k) ∧ RowKit.Below W.heap.size W w') := fun W hW => own_any p S v W (hv.keep (fun _ h => h) (fun b hb => hW.block b (hS b hb))) (fun b hb => Nat.lt_of_lt_of_le (hS b hb) hW.size) k1 k2 k3
  have HHA : Hid (∀ W, RowKit.Below w.heap.size w W → Calls Try.prog 40 #[.pointer (some ⟨g, 0, none⟩), .string ⟨⟨p.nm⟩⟩] W fun e w' => e = .returned (.bool (σ p.nm).isSome) ∧ RowKit.Below W.heap.size W w') := fun W hW => has_any W F g bm f σ n (h.below hW) p.nm hnm
  have HST : Hid (∀ w', RowKit.Below w.heap.size w w' → Stp w F g bm σ n w') := fun w' hb => h.still hb
  have HKY := Lib.hid (hkey p.nm hnm)
  obtain ⟨D, hD1, hD2, hD3, hD4⟩ := h.mp
  have HDB : Hid (∀ W, RowKit.Below w.heap.size w W → W.ownsMap Try.prog 9 tok bm n D ∧ W.cell? ⟨g, 0, none⟩ = some (.map (some bm))) := fun W hW => ⟨own_keep hD1 (hW.block bm (h.lt bm h.gF.2)), (h.below hW).cell⟩
  have HAD : Hid (∀ W s w', RowKit.Below w.heap.size w W → POwn W p s → (∀ k, Bl s k → w.heap.size ≤ k) → W.mapTurned w' bm → w'.ownsMap Try.prog 9 tok bm (n + 1) (D.put (.string p.nm) (.held (pval p s))) → σ p.nm = none → vp p = true → Stp w F g bm (up σ p.nm p) (n + 1) w') := fun W s w' h1 h2 h3 h4 h5 h6 h7 => h.add hD1 hD2 hD3 hD4 h1 h2 h3 h4 h5 h6 h7
  have HSZ := Lib.hid hD2
  obtain ⟨A, a, C, c, G, g2, rfl, -, -, -, -, -⟩ := hv
  have HSN : Hid ((σ p.nm).isSome = false → σ p.nm = none) := fun e => by simpa using e
  have HE1 : Hid (vp p = false → ∀ w', RowKit.Below w.heap.size w w' → AddPost w F g bm σ n p (.returned (.int .i64 1)) w') := fun e w' hb => addPost_err (by unfold addE; rw [if_pos e]) (by decide) (HST.out w' hb)
  have HE2 : Hid (vp p = true → (σ p.nm).isSome = true → ∀ w', RowKit.Below w.heap.size w w' → AddPost w F g bm σ n p (.returned (.int .i64 41)) w') := fun e e2 w' hb => addPost_err (by unfold addE; rw [if_neg (by rw [e]; decide), if_pos e2]) (by decide) (HST.out w' hb)
  have HE3 : Hid (vp p = true → (σ p.nm).isSome = false → 100 ≤ n → ∀ w', RowKit.Below w.heap.size w w' → AddPost w F g bm σ n p (.returned (.int .i64 53)) w') := fun e e2 e3 w' hb => addPost_err (by unfold addE; rw [if_neg (by rw [e]; decide), if_neg (by rw [e2]; decide), if_pos e3]) (by decide) (HST.out w' hb)
  have HE4 : Hid (vp p = true → (σ p.nm).isSome = false → ¬ 100 ≤ n → ∀ w', Stp w F g bm (up σ p.nm p) (n + 1) w' → AddPost w F g bm σ n p (.returned (.int .i64 0)) w') := fun e e2 e3 w' hs => addPost_ok (by unfold addE; rw [if_neg (by rw [e]; decide), if_neg (by rw [e2]; decide), if_neg e3]) hs
  have HAD2 : Hid (vp p = true → (σ p.nm).isSome = false → ¬ 100 ≤ n → ∀ W s w', RowKit.Below w.heap.size w W → POwn W p s → (∀ k, Bl s k → w.heap.size ≤ k) → W.mapTurned w' bm → w'.ownsMap Try.prog 9 tok bm (n + 1) (D.put (.string p.nm) (.held (pval p s))) → AddPost w F g bm σ n p (.returned (.int .i64 0)) w') := fun e e2 e3 W s w' h1 h2 h3 h4 h5 => HE4.out e e2 e3 w' (HAD.out W s w' h1 h2 h3 h4 h5 (HSN.out e2) e)
  clear h hS k1 k2 k3 hnm hD1 hD2 hD3 hD4 HE4 HAD HST HSN
  have hV1 : RowKit.Below w.heap.size w (w.alloc (.cells #[.string ⟨⟨p.nm⟩⟩, .int .i64 p.ver, .bool p.tr, .bool p.se, .slice A p.al.length a, .slice C p.ac.length c, .slice G p.gr.length g2, .int .i64 p.li] 32)) := (RowKit.Below.refl _ _).alloc (Nat.le_refl _) _
  have hg1 := heap_alloc_new w (.cells #[.string ⟨⟨p.nm⟩⟩, .int .i64 p.ver, .bool p.tr, .bool p.se, .slice A p.al.length a, .slice C p.ac.length c, .slice G p.gr.length g2, .int .i64 p.li] 32)
  obtain ⟨z, hz⟩ : ∃ z, z = w.heap.size := ⟨_, rfl⟩
  rw [← hz] at hg1
  obtain ⟨W1, hW1⟩ : ∃ W1, W1 = w.alloc (.cells #[.string ⟨⟨p.nm⟩⟩, .int .i64 p.ver, .bool p.tr, .bool p.se, .slice A p.al.length a, .slice C p.ac.length c, .slice G p.gr.length g2, .int .i64 p.li] 32) := ⟨_, rfl⟩
  rw [← hW1] at hV1 hg1
  have HB1 := Lib.hid hV1
  have HG1 := Lib.hid hg1
  have HZ := Lib.hid hz
  have HW1 := Lib.hid hW1
  clear hV1 hg1 hz hW1
  generalize hpn : σ p.nm = x at *
  clear hpn
  generalize hvp : vp p = q at *
  clear hvp
  obtain ⟨nm, ver, tr, se, al, ac, gr, li⟩ := p
  simp only [pval] at *
  have hVA := HVA.out W1 HB1.out
  have HVC := Lib.hid hVA
  clear hVA HVA
  generalize hla : al.length = la at *
  generalize hlc : ac.length = lc at *
  generalize hlg : gr.length = lg at *
  have HLA := Lib.hid (And.intro hla (And.intro hlc hlg))
  clear hla hlc hlg
  go_enter Try.func22, Try.ntmps22
  go_wp2_with fail
  rw [← HZ.out, ← HW1.out]
  refine HVC.out.mono ?_
  rintro _ w2 ⟨rfl, b2⟩
  have HB2 := Lib.hid (HB1.out.trans (b2.mono HB1.out.size))
  have hg2 := (b2.block z (Array.getElem?_eq_some_iff.1 HG1.out).1).trans HG1.out
  have HG2 := Lib.hid hg2
  obtain ⟨c0, c1, c2, c3, c4, c5, c6, c7⟩ := cell8 hg2
  clear b2 HVC HB1 HG1 hg2 HW1
  cases q
  case false =>
    have HP := Lib.hid (HE1.out (by first | trivial | rfl) _ HB2.out)
    clear HE1 HE2 HE3 HAD2 HOW HHA HDB
    go_wp2
    go_ret
    exact HP.out
  case true =>
  clear HE1
  have HHC := Lib.hid (HHA.out w2 HB2.out)
  go_wp2_with fail
  refine HHC.out.mono ?_
  rintro _ w3 ⟨rfl, b3⟩
  have HB3 := Lib.hid (HB2.out.trans (b3.mono HB2.out.size))
  have hg3 := (b3.block z (Array.getElem?_eq_some_iff.1 HG2.out).1).trans HG2.out
  have HG3 := Lib.hid hg3
  clear b3 HHC HHA HB2 HG2 c0 c1 c2 c3 c4 c5 c6 c7
  obtain ⟨hm3, d0⟩ := HDB.out w3 HB3.out
  have HM3 := Lib.hid hm3
  clear hm3 hg3
  cases hx : x.isSome
  case true =>
    have HP := Lib.hid (HE2.out (by first | trivial | rfl) hx _ HB3.out)
    clear HE2 HE3 HAD2 HOW HDB
    go_wp2
    go_ret
    exact HP.out
  case false =>
  clear HE2
  by_cases h100 : 100 ≤ n
  case pos =>
    have HP := Lib.hid (HE3.out (by first | trivial | rfl) hx h100 _ HB3.out)
    have i1 : (100 : Int) ≤ (n : Int) := by omega
    clear HE3 HAD2 HOW HDB
    go_wp2_with (first | (at_len; refine wpList_len_own _ rfl (.tmp 18) 59 rfl 9 32 Try.underlying59 tok bm n D rfl HM3.out ?_; rw [HSZ.out]))
    go_ret
    exact HP.out
  case neg =>
  have i1 : ¬ (100 : Int) ≤ (n : Int) := by omega
  have HA3 := Lib.hid (HAD2.out (by first | trivial | rfl) hx h100)
  have HN : Hid (n < maxLen) := hn
  clear HE3 HAD2 hx hn
  go_wp2_with (first | (at_len; refine wpList_len_own _ rfl (.tmp 18) 59 rfl 9 32 Try.underlying59 tok bm n D rfl HM3.out ?_; rw [HSZ.out]))
  refine wp_region_inv (by kernel_rfl) (fun L act W => ∃ t21 t22 t23 t24 t25 t26 t27 t28, act = { tmps := #[.pointer (some ⟨g, 0, none⟩), .agg #[.string ⟨⟨nm⟩⟩, .int .i64 ver, .bool tr, .bool se, .slice A la a, .slice C lc c, .slice G lg g2, .int .i64 li], undef, .pointer (some ⟨z, 0, none⟩), .int .i64 0, .bool false, .agg #[.string ⟨⟨nm⟩⟩, .int .i64 ver, .bool tr, .bool se, .slice A la a, .slice C lc c, .slice G lg g2, .int .i64 li], .bool true, .bool false, .bool false, .pointer (some ⟨g, 0, none⟩), .pointer (some ⟨z, 0, none⟩), .string ⟨⟨nm⟩⟩, .bool false, .bool (decide (100 ≤ (n : Int))), .pointer (some ⟨g, 0, none⟩), .pointer (some ⟨g, 0, none⟩), .pointer (some ⟨g, 0, none⟩), .map (some bm), .int .i64 n, .bool (decide (100 ≤ (n : Int))), t21, t22, t23, t24, t25, t26, t27, t28], defers := [] } ∧ (L 0 = true → (.pointer (some ⟨g, 0, none⟩) : Value) = t21) ∧ (L 1 = true → (.pointer (some ⟨g, 0, none⟩) : Value) = t22) ∧ (L 2 = true → (.pointer (some ⟨g, 0, none⟩) : Value) = t23) ∧ (L 3 = true → (.map (some bm) : Value) = t24) ∧ (L 4 = true → (.pointer (some ⟨z, 0, none⟩) : Value) = t25) ∧ (L 5 = true → (.string ⟨⟨nm⟩⟩ : Value) = t26) ∧ (L 6 = true → (.agg #[.string ⟨⟨nm⟩⟩, .int .i64 ver, .bool tr, .bool se, .slice A la a, .slice C lc c, .slice G lg g2, .int .i64 li] : Value) = t27) ∧ (L 8 = false → RowKit.Below w.heap.size w W ∧ W.heap[z]? = some (.cells #[.string ⟨⟨nm⟩⟩, .int .i64 ver, .bool tr, .bool se, .slice A la a, .slice C lc c, .slice G lg g2, .int .i64 li] 32 (0, 0))) ∧ (L 7 = true → L 8 = false → ∃ A' a' C' c' G' g', (.agg #[.string ⟨⟨nm⟩⟩, .int .i64 ver, .bool tr, .bool se, .slice A' al.length a', .slice C' ac.length c', .slice G' gr.length g', .int .i64 li] : Value) = t28 ∧ POwn W ⟨nm, ver, tr, se, al, ac, gr, li⟩ ⟨.slice A' al.length a', .slice C' ac.length c', .slice G' gr.length g'⟩ ∧ ∀ k, Bl ⟨.slice A' al.length a', .slice C' ac.length c', .slice G' gr.length g'⟩ k → w.heap.size ≤ k) ∧ (L 8 = true → AddPost w F g bm σ n ⟨nm, ver, tr, se, al, ac, gr, li⟩ (.returned (.int .i64 0)) W) ∧ (L 8 = true → L 3 = true ∧ L 5 = true ∧ L 6 = true ∧ L 7 = true)) (by kernel_rfl) ?_ ?_ ?_
  · exact ⟨_, _, _, _, _, _, _, _, rfl, nofun, nofun, nofun, nofun, nofun, nofun, nofun, fun _ => ⟨HB3.out.drew, HG3.out⟩, nofun, nofun, nofun⟩
  · rintro L _ W i oo ⟨t21, t22, t23, t24, t25, t26, t27, t28, rfl, f0, f1, f2, f3, f4, f5, f6, qb, qo, qp, r8⟩ ho hL hd
    rcases i with _ | _ | _ | _ | _ | _ | _ | _ | _ | i
    · obtain rfl := Option.some.inj ho
      refine wpOp_step rfl fun K hK => ?_
      have F0X := Lib.hid f0
      have F1X := Lib.hid f1
      have F2X := Lib.hid f2
      have F3X := Lib.hid f3
      have F4X := Lib.hid f4
      have F5X := Lib.hid f5
      have F6X := Lib.hid f6
      have QBX := Lib.hid qb
      have QOX := Lib.hid qo
      have QPX := Lib.hid qp
      have R8X := Lib.hid r8
      clear f0 f1 f2 f3 f4 f5 f6 qb qo qp r8 hd ho hL
      go_simp
      refine hK _ _ ?_
      exact ⟨_, _, _, _, _, _, _, _, rfl, fun _ => rfl, F1X.out, F2X.out, F3X.out, F4X.out, F5X.out, F6X.out, QBX.out, QOX.out, QPX.out, R8X.out⟩
    · obtain rfl := Option.some.inj ho
      have l0 := hd ⟨0, .data⟩ (by simp) rfl
      obtain rfl := f0 l0
      refine wpOp_step rfl fun K hK => ?_
      have F0X := Lib.hid f0
      have F1X := Lib.hid f1
      have F2X := Lib.hid f2
      have F3X := Lib.hid f3
      have F4X := Lib.hid f4
      have F5X := Lib.hid f5
      have F6X := Lib.hid f6
      have QBX := Lib.hid qb
      have QOX := Lib.hid qo
      have QPX := Lib.hid qp
      have R8X := Lib.hid r8
      clear f0 f1 f2 f3 f4 f5 f6 qb qo qp r8 hd ho hL l0
      go_simp
      refine hK _ _ ?_
      exact ⟨_, _, _, _, _, _, _, _, rfl, F0X.out, fun _ => rfl, F2X.out, F3X.out, F4X.out, F5X.out, F6X.out, QBX.out, QOX.out, QPX.out, R8X.out⟩
    · obtain rfl := Option.some.inj ho
      have l1 := hd ⟨1, .data⟩ (by simp) rfl
      obtain rfl := f1 l1
      refine wpOp_step rfl fun K hK => ?_
      have F0X := Lib.hid f0
      have F1X := Lib.hid f1
      have F2X := Lib.hid f2
      have F3X := Lib.hid f3
      have F4X := Lib.hid f4
      have F5X := Lib.hid f5
      have F6X := Lib.hid f6
      have QBX := Lib.hid qb
      have QOX := Lib.hid qo
      have QPX := Lib.hid qp
      have R8X := Lib.hid r8
      clear f0 f1 f2 f3 f4 f5 f6 qb qo qp r8 hd ho hL l1
      go_simp
      refine hK _ _ ?_
      exact ⟨_, _, _, _, _, _, _, _, rfl, F0X.out, F1X.out, fun _ => rfl, F3X.out, F4X.out, F5X.out, F6X.out, QBX.out, QOX.out, QPX.out, R8X.out⟩
    · obtain rfl := Option.some.inj ho
      have l2 := hd ⟨2, .data⟩ (by simp) rfl
      obtain rfl := f2 l2
      have n8 : L 8 = false := by cases hq : L 8 with | false => rfl | true => (have := r8 hq; simp [hL] at this)
      have e0 := (HDB.out W (qb n8).1).2
      refine wpOp_step rfl fun K hK => ?_
      have F0X := Lib.hid f0
      have F1X := Lib.hid f1
      have F2X := Lib.hid f2
      have F3X := Lib.hid f3
      have F4X := Lib.hid f4
      have F5X := Lib.hid f5
      have F6X := Lib.hid f6
      have QBX := Lib.hid qb
      have QOX := Lib.hid qo
      have QPX := Lib.hid qp
      have R8X := Lib.hid r8
      clear f0 f1 f2 f3 f4 f5 f6 qb qo qp r8 hd ho hL l2
      go_simp
      refine hK _ _ ?_
      exact ⟨_, _, _, _, _, _, _, _, rfl, F0X.out, F1X.out, F2X.out, fun _ => rfl, F4X.out, F5X.out, F6X.out, QBX.out, QOX.out, QPX.out, fun h => ⟨rfl, (R8X.out h).2.1, (R8X.out h).2.2.1, (R8X.out h).2.2.2⟩⟩
    · obtain rfl := Option.some.inj ho
      refine wpOp_step rfl fun K hK => ?_
      have F0X := Lib.hid f0
      have F1X := Lib.hid f1
      have F2X := Lib.hid f2
      have F3X := Lib.hid f3
      have F4X := Lib.hid f4
      have F5X := Lib.hid f5
      have F6X := Lib.hid f6
      have QBX := Lib.hid qb
      have QOX := Lib.hid qo
      have QPX := Lib.hid qp
      have R8X := Lib.hid r8
      clear f0 f1 f2 f3 f4 f5 f6 qb qo qp r8 hd ho hL
      go_simp
      refine hK _ _ ?_
      exact ⟨_, _, _, _, _, _, _, _, rfl, F0X.out, F1X.out, F2X.out, F3X.out, fun _ => rfl, F5X.out, F6X.out, QBX.out, QOX.out, QPX.out, R8X.out⟩
    · obtain rfl := Option.some.inj ho
      have l4 := hd ⟨4, .data⟩ (by simp) rfl
      obtain rfl := f4 l4
      have n8 : L 8 = false := by cases hq : L 8 with | false => rfl | true => (have := r8 hq; simp [hL] at this)
      obtain ⟨e0, e1, e2, e3, e4, e5, e6, e7⟩ := cell8 (qb n8).2
      refine wpOp_step rfl fun K hK => ?_
      have F0X := Lib.hid f0
      have F1X := Lib.hid f1
      have F2X := Lib.hid f2
      have F3X := Lib.hid f3
      have F4X := Lib.hid f4
      have F5X := Lib.hid f5
      have F6X := Lib.hid f6
      have QBX := Lib.hid qb
      have QOX := Lib.hid qo
      have QPX := Lib.hid qp
      have R8X := Lib.hid r8
      clear f0 f1 f2 f3 f4 f5 f6 qb qo qp r8 hd ho hL l4
      go_simp
      refine hK _ _ ?_
      exact ⟨_, _, _, _, _, _, _, _, rfl, F0X.out, F1X.out, F2X.out, F3X.out, F4X.out, fun _ => rfl, F6X.out, QBX.out, QOX.out, QPX.out, fun h => ⟨(R8X.out h).1, rfl, (R8X.out h).2.2.1, (R8X.out h).2.2.2⟩⟩
    · obtain rfl := Option.some.inj ho
      have n8 : L 8 = false := by cases hq : L 8 with | false => rfl | true => (have := r8 hq; simp [hL] at this)
      obtain ⟨e0, e1, e2, e3, e4, e5, e6, e7⟩ := cell8 (qb n8).2
      refine wpOp_step rfl fun K hK => ?_
      have F0X := Lib.hid f0
      have F1X := Lib.hid f1
      have F2X := Lib.hid f2
      have F3X := Lib.hid f3
      have F4X := Lib.hid f4
      have F5X := Lib.hid f5
      have F6X := Lib.hid f6
      have QBX := Lib.hid qb
      have QOX := Lib.hid qo
      have QPX := Lib.hid qp
      have R8X := Lib.hid r8
      clear f0 f1 f2 f3 f4 f5 f6 qb qo qp r8 hd ho hL
      go_simp
      refine hK _ _ ?_
      exact ⟨_, _, _, _, _, _, _, _, rfl, F0X.out, F1X.out, F2X.out, F3X.out, F4X.out, F5X.out, fun _ => rfl, QBX.out, QOX.out, QPX.out, fun h => ⟨(R8X.out h).1, (R8X.out h).2.1, rfl, (R8X.out h).2.2.2⟩⟩
    · obtain rfl := Option.some.inj ho
      have l6 := hd ⟨6, .data⟩ (by simp) rfl
      obtain rfl := f6 l6
      have n8 : L 8 = false := by cases hq : L 8 with | false => rfl | true => (have := r8 hq; simp [hL] at this)
      have N8 := Lib.hid n8
      have HC := Lib.hid (HOW.out W (qb n8).1)
      refine wpOp_step rfl fun K hK => ?_
      have F0X := Lib.hid f0
      have F1X := Lib.hid f1
      have F2X := Lib.hid f2
      have F3X := Lib.hid f3
      have F4X := Lib.hid f4
      have F5X := Lib.hid f5
      have F6X := Lib.hid f6
      have QBX := Lib.hid qb
      have QOX := Lib.hid qo
      have QPX := Lib.hid qp
      have R8X := Lib.hid r8
      clear f0 f1 f2 f3 f4 f5 f6 qb qo qp r8 hd ho hL l6 n8
      go_simp
      refine HC.out.mono ?_
      rintro _ w1 ⟨s, rfl, ho, hl, hb1⟩
      refine hK _ _ ?_
      obtain ⟨A', a', C', c', G', g', rfl⟩ := ho.forms
      have hl2 : ∀ k, Bl ⟨.slice A' al.length a', .slice C' ac.length c', .slice G' gr.length g'⟩ k → w.heap.size ≤ k := fun k hk => Nat.le_trans (QBX.out N8.out).1.size (hl k hk)
      exact ⟨_, _, _, _, _, _, _, _, rfl, F0X.out, F1X.out, F2X.out, F3X.out, F4X.out, F5X.out, F6X.out, fun h => ⟨(QBX.out h).1.trans (hb1.mono (QBX.out h).1.size), (hb1.block z (Array.getElem?_eq_some_iff.1 (QBX.out h).2).1).trans (QBX.out h).2⟩, fun _ _ => ⟨A', a', C', c', G', g', rfl, ho, hl2⟩, fun h => absurd (show L 8 = true from h) (by simp [N8.out]), fun h => ⟨(R8X.out h).1, (R8X.out h).2.1, (R8X.out h).2.2.1, rfl⟩⟩
    · obtain rfl := Option.some.inj ho
      have l3 := hd ⟨3, .data⟩ (by simp) rfl
      have l5 := hd ⟨5, .data⟩ (by simp) rfl
      have l7 := hd ⟨7, .data⟩ (by simp) rfl
      obtain rfl := f3 l3
      obtain rfl := f5 l5
      have LA := Lib.hid (And.intro l3 (And.intro l5 (And.intro (hd ⟨6, .phase⟩ (by simp) rfl) l7)))
      obtain ⟨A', a', C', c', G', g', e28, ho, hl⟩ := qo l7 hL
      subst e28
      have hbW := (qb hL).1
      have ho4 := (HDB.out W hbW).1
      obtain ⟨w5, hrun, ho5, ht5⟩ := ho4.store law Try.underlying59 HN.out HKY.out (tok_mk (.agg #[.string ⟨⟨nm⟩⟩, .int .i64 ver, .bool tr, .bool se, .slice A' al.length a', .slice C' ac.length c', .slice G' gr.length g', .int .i64 li]))
      have HP := Lib.hid (HA3.out W ⟨.slice A' al.length a', .slice C' ac.length c', .slice G' gr.length g'⟩ w5 hbW ho hl ht5 ho5)
      clear ho5 ht5 ho4 ho hl hbW
      refine wpOp_step rfl fun K hK => ?_
      refine op_update_run _ rfl (.tmp 24) (.tmp 26) (.tmp 28) 59 rfl _ _ _ rfl rfl rfl hrun ?_
      have F0X := Lib.hid f0
      have F1X := Lib.hid f1
      have F2X := Lib.hid f2
      have F3X := Lib.hid f3
      have F4X := Lib.hid f4
      have F5X := Lib.hid f5
      have F6X := Lib.hid f6
      have QBX := Lib.hid qb
      have QOX := Lib.hid qo
      have QPX := Lib.hid qp
      have R8X := Lib.hid r8
      clear f0 f1 f2 f3 f4 f5 f6 qb qo qp r8 hd ho hL l3 l5 l7
      refine hK _ _ ?_
      exact ⟨_, _, _, _, _, _, _, _, rfl, F0X.out, F1X.out, F2X.out, F3X.out, F4X.out, F5X.out, F6X.out, nofun, fun _ h => absurd h (by simp), fun _ => HP.out, fun _ => LA.out⟩
    · simp at ho
  · rintro L _ W ⟨t21, t22, t23, t24, t25, t26, t27, t28, rfl, f0, f1, f2, f3, f4, f5, f6, qb, qo, qp, r8⟩ hall
    obtain rfl := f0 (hall 0 (by decide))
    obtain rfl := f1 (hall 1 (by decide))
    obtain rfl := f2 (hall 2 (by decide))
    obtain rfl := f3 (hall 3 (by decide))
    obtain rfl := f4 (hall 4 (by decide))
    obtain rfl := f5 (hall 5 (by decide))
    obtain rfl := f6 (hall 6 (by decide))
    have HP := Lib.hid (qp (hall 8 (by decide)))
    clear qb qo qp r8 hall
    go_wp2
    go_ret
    exact HP.out
end Go.Proofs.Ytehmfkcihieecaa.Po
