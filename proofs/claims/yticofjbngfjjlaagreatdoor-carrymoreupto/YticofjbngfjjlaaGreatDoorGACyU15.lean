/- carry: newReader. (Laid with NS=1; its region by wip/tools/gen/cyu15.py.) -/
import Derived.Test.YticofjbngfjjlaaGreatDoorGACyU14
namespace Go.Proofs.YticofjbngfjjlaaGreatDoor.Cy
open Go.RowKit
open Te Te.Tt
open Wi.Wr (It wr wrs)

/-- The keys that count. -/
def kfl (ks : List Tm) : List Tm := ks.filter fun k => decide (k.k = 2) && vld 0 k
theorem els_split {W : World} {S : Nat → Prop} : ∀ (l m : List Tm) (xs : List Value), Els W S (l ++ m) xs → ∃ a b, xs = a ++ b ∧ Els W S l a ∧ Els W S m b
  | [], m, xs, h => ⟨[], xs, rfl, by rw [Els], h⟩
  | x :: r, m, v0 :: v1 :: v2 :: v3 :: xs, h => by
    rw [List.cons_append, Els] at h
    obtain ⟨a, b, rfl, h1, h2⟩ := els_split r m xs h.2
    exact ⟨v0 :: v1 :: v2 :: v3 :: a, b, rfl, by rw [Els]; exact ⟨h.1, h1⟩, h2⟩
  | x :: r, m, [], h => by simp [Els] at h
  | x :: r, m, [_], h => by simp [Els] at h
  | x :: r, m, [_, _], h => by simp [Els] at h
  | x :: r, m, [_, _, _], h => by simp [Els] at h
/-- The last term of a row of one's own, written over with a key. -/
theorem own_set {W : World} {base g c m : Nat} {l : List Tm} {y : Tm} (s : List UInt8) (n : Int) (hn : InR n) (hm : m = l.length) (h : OwnT (fun _ => False) W base (.slice (some ⟨g, 0, none⟩) (m + 1) c) (l ++ [y])) :
    OwnT (fun _ => False) ((((W.setCell ⟨g, m * 4, none⟩ (.int .i64 2)).setCell ⟨g, m * 4 + 1, none⟩ (.string ⟨⟨s⟩⟩)).setCell ⟨g, m * 4 + 2, none⟩ (.int .i64 n)).setCell ⟨g, m * 4 + 3, none⟩ (.slice none 0 0)) base (.slice (some ⟨g, 0, none⟩) (m + 1) c) (l ++ [.mk 2 s n []]) ∧
    (∀ j, W.frozen? ⟨g, j, none⟩ = false) ∧ (∃ v0 v1 v2 v3, W.cell? ⟨g, m * 4, none⟩ = some v0 ∧ W.cell? ⟨g, m * 4 + 1, none⟩ = some v1 ∧ W.cell? ⟨g, m * 4 + 2, none⟩ = some v2 ∧ W.cell? ⟨g, m * 4 + 3, none⟩ = some v3) := by
  subst hm
  obtain ⟨xs, ⟨hlen, halt⟩, hels⟩ := h
  have hll : (l ++ [y]).length = l.length + 1 := by simp
  have hl2 : (l ++ [Tm.mk 2 s n []]).length = l.length + 1 := by simp
  rw [hll] at hlen halt
  rcases halt with ⟨_, h0⟩ | ⟨g', cap, cur, hv, hb, hg, hnc, hcm, hcs, htk⟩
  · omega
  · injection hv with e1 e2 e3
    injection e1 with e1
    injection e1 with e1
    subst e1
    subst e3
    have hsz : l.length * 4 + 4 ≤ cur.size := by rw [hcs]; omega
    obtain ⟨cur', he, hs', ht'⟩ := set4at hg (o := l.length * 4) hsz (.int .i64 2) (.string ⟨⟨s⟩⟩) (.int .i64 n) (.slice none 0 0)
    obtain ⟨a, b, hab, ha, -⟩ := els_split l [y] xs hels
    have hal := els_len l a ha
    refine ⟨⟨a ++ [.int .i64 2, .string ⟨⟨s⟩⟩, .int .i64 n, .slice none 0 0], ⟨by rw [hl2, List.length_append, hal]; simp; omega, .inr ⟨g, c, cur', by rw [hl2], hb, ?_, by rw [hl2]; exact hnc, hcm, by rw [hs']; exact hcs, ?_⟩⟩, ?_⟩, fun j => frozen_of_row _ _ j _ _ hg, ?_⟩
    · rw [he]; exact setRow_heap _ _ _ _ _ _ hg
    · rw [hl2, show (l.length + 1) * 4 = l.length * 4 + 4 by omega, ht']
      have : cur.toList.take (l.length * 4) = a := by
        have h1 := congrArg (List.take (l.length * 4)) htk
        rw [List.take_take, hab, Nat.min_eq_left (by omega), ← hal, List.take_left] at h1
        rw [← hal]; exact h1
      rw [this]
    · exact els_app l a _ _ (els_keep (fun _ h => h) (fun _ _ h => h.elim) l a ha) (els_one (rep_mk.2 ⟨none, 0, rfl, hn, .inl rfl⟩))
    · obtain ⟨v0, h0⟩ := row_some hg (k := l.length * 4) (by omega)
      obtain ⟨v1, h1⟩ := row_some hg (k := l.length * 4 + 1) (by omega)
      obtain ⟨v2, h2⟩ := row_some hg (k := l.length * 4 + 2) (by omega)
      obtain ⟨v3, h3⟩ := row_some hg (k := l.length * 4 + 3) (by omega)
      exact ⟨v0, v1, v2, v3, h0, h1, h2, h3⟩

theorem run_appT' (W : World) (base B : Nat) (v : Value) (l : List Tm) (y : Tm) (v0 v1 v2 v3 : Value) (S : Nat → Prop) (hB : W.heap[B]? = some (.cells #[v0, v1, v2, v3] 25 (0, 0)))
    (hown : OwnT S W base v l) (hy : Rep W S y (.agg #[v0, v1, v2, v3])) (hS : ∀ b, S b → b < base) (hl : l.length ≤ 1000000) (hbase : base ≤ W.heap.size) :
    ∃ v' w', (Builtin.append_ #[23, 23] 23 #[v, .slice (some ⟨B, 0, none⟩) 1 1]).run Tryz.prog W = .ok v' w' ∧ OwnT S w' base v' (l ++ [y]) ∧ Below base W w' ∧
      (∀ k, k < W.heap.size → v.ownBlock ≠ some k → w'.heap[k]? = W.heap[k]?) ∧ (∀ k, v'.ownBlock = some k → v.ownBlock = some k ∨ W.heap.size ≤ k) ∧ W.heap.size ≤ w'.heap.size := by
  obtain ⟨i, hi, he⟩ := Option.map_eq_some_iff.1 infoT
  simp only [Prod.mk.injEq] at he
  obtain ⟨hz, hsz, hb⟩ := he
  have hlt := hown.lt
  obtain ⟨xs, hrow, hels⟩ := hown
  have hcell : ∀ j u, [v0, v1, v2, v3][j]? = some u → W.cell? ((⟨B, 0, none⟩ : Addr).add j) = some u := by
    intro j u hu
    rw [Addr.add_lit, Nat.zero_add]
    exact (cell_of_row _ _ _ _ _ _ hB).trans (by simpa using hu)
  obtain ⟨v', w', hr, h1, h2, -, h4⟩ := run_append_own_at (P := Tryz.prog) W base 23 23 25 i _ 4 56 Tryz.underlying23 hi hz hsz hb rfl (by omega) v l.length xs hrow ⟨B, 0, none⟩ 1 1 [v0, v1, v2, v3] rfl hcell (one_cells hy) (by simp [maxLen]; omega) (by omega) hbase
  refine ⟨v', w', hr, ⟨_, by rw [List.length_append, List.length_singleton]; exact h1, ?_⟩, Below.grown (Below.refl _ _) h2 hbase (fun k hk => (hlt k hk).1), fun k hk hne => h2.block k hk (fun e => hne e.symm), ?_, h2.size⟩
  · have hblk : ∀ b, S b → w'.heap[b]? = W.heap[b]? := fun b hb' => h2.block b (by have := hS b hb'; omega) (fun e => by have := hlt b e.symm; have := hS b hb'; omega)
    exact els_keep (fun _ h => h) (fun b o hb' => World.cell?_of_block (a := ⟨b, o, none⟩) (hblk b hb')) _ _ (els_app l xs [y] [v0, v1, v2, v3] hels (els_one hy))
  · intro k hk
    rcases h4 with h4 | h4
    · exact .inl (h4 ▸ hk)
    · rw [h4] at hk
      injection hk with hk
      exact .inr (by omega)

theorem own_some {S : Nat → Prop} {W : World} {base : Nat} {v : Value} {l : List Tm} {y : Tm} (h : OwnT S W base v (l ++ [y])) : ∃ g c, v = .slice (some ⟨g, 0, none⟩) (l.length + 1) c ∧ base ≤ g ∧ g < W.heap.size := by
  obtain ⟨xs, ⟨hlen, halt⟩, -⟩ := h
  rcases halt with ⟨_, h0⟩ | ⟨g, cap, cur, hv, hb, hg, -⟩
  · simp at h0
  · exact ⟨g, cap, by rw [hv, List.length_append]; rfl, hb, (Array.getElem?_eq_some_iff.1 hg).1⟩
theorem set4o_below {B g m : Nat} {w W : World} {v0 v1 v2 v3 : Value} (h : Below B w W) (hg : B ≤ g) : Below B w ((((W.setCell ⟨g, m, none⟩ v0).setCell ⟨g, m + 1, none⟩ v1).setCell ⟨g, m + 2, none⟩ v2).setCell ⟨g, m + 3, none⟩ v3) :=
  (((h.setCell (p := ⟨_, m, none⟩) hg _).setCell (p := ⟨_, m + 1, none⟩) hg _).setCell (p := ⟨_, m + 2, none⟩) hg _).setCell (p := ⟨_, m + 3, none⟩) hg _
theorem set4o_other {g k m : Nat} {W : World} {v0 v1 v2 v3 : Value} (h : k ≠ g) : ((((W.setCell ⟨g, m, none⟩ v0).setCell ⟨g, m + 1, none⟩ v1).setCell ⟨g, m + 2, none⟩ v2).setCell ⟨g, m + 3, none⟩ v3).heap[k]? = W.heap[k]? := by
  rw [heap_setCell_other _ _ _ _ h, heap_setCell_other _ _ _ _ h, heap_setCell_other _ _ _ _ h, heap_setCell_other _ _ _ _ h]
theorem vld_key {s : List UInt8} {n : Int} {q : List Tm} (h : vld 0 (.mk 2 s n q) = true) : q = [] := by
  obtain ⟨hmis, -⟩ := vld_own h
  rcases mis_kinds hmis with ⟨h1, _⟩ | ⟨h1, _⟩ | ⟨_, _, h3⟩ | ⟨h1, _⟩ | ⟨h1, _⟩ | ⟨h1, _⟩
  · cases h1
  · cases h1
  · exact h3
  · cases h1
  · cases h1
  · cases h1

theorem made_one (v : Value) (n : Nat) : madeCells #[v] n = Array.replicate n v := by
  apply Array.ext
  · simp [madeCells]
  · intro i h1 h2
    simp [madeCells, Nat.mod_one]
theorem makeB_any (n : Nat) (h : n ≤ 1000000) (W : World) : (Instr.makeSlice 101 (.int .i64 (n : Int)) (.int .i64 (n : Int))).run Tryz.prog W = .ok (.slice (some ⟨W.heap.size, 0, none⟩) n n) (W.alloc (.cells (Array.replicate n (.string ⟨#[]⟩)) 9)) := by
  obtain ⟨i, hi, he⟩ := Option.map_eq_some_iff.1 infoS
  simp only [Prod.mk.injEq] at he
  obtain ⟨hz, hs, hb⟩ := he
  have hr := run_make (P := Tryz.prog) W 101 9 i _ Tryz.underlying101 hi hz .i64 .i64 n n (by omega) (by omega) (by rw [hb]; omega) (by omega)
  rw [hr, hs, Int.toNat_natCast, Nat.mul_one]
  have : madeCells (Value.cells (.string ⟨#[]⟩)) n = Array.replicate n (.string ⟨#[]⟩) := made_one _ n
  rw [this]

/-- What holds at the head of newReader's loop. -/
def NrRel (c : List UInt8) (ks : List Tm) (V : World) (i : Nat) (wr : World) : Prop :=
  ∃ A cp, Below V.heap.size V wr ∧ V.heap.size + 1 ≤ wr.heap.size ∧ wr.heap[V.heap.size]? = some (.cells #[.string ⟨⟨c⟩⟩, .slice A (kfl (ks.take i)).length cp, .slice none 0 0] 103 (0, 0)) ∧
    OwnT (fun _ => False) wr (V.heap.size + 1) (.slice A (kfl (ks.take i)).length cp) (kfl (ks.take i))

set_option maxHeartbeats 8000000 in
set_option maxRecDepth 100000 in
theorem newReader_any (c : List UInt8) (ks : List Tm) (A : Option Addr) (ca : Nat) (S : Nat → Prop) (V : World) (hk : ks.length ≤ 100000) (hz : ∀ k ∈ ks, sz k ≤ 262144) (hr : TRow V S ks A) (hS : ∀ b, S b → b < V.heap.size) :
    Calls Tryz.prog 37 #[.string ⟨⟨c⟩⟩, .slice A ks.length ca] V fun e w' => e = .returned (.pointer (some ⟨V.heap.size, 0, none⟩)) ∧ ∃ E : Rd, E.w0 = V ∧ E.c = c ∧ E.ks = kfl ks ∧ E.R = V.heap.size ∧ (Tabs V → TabB V.heap.size V → c.length ≤ 10000 → E.ok) ∧ E.lies w' := by
  have HR0 : Hid (NrRel c ks V 0 (V.alloc (.cells #[.string ⟨⟨c⟩⟩, .slice none 0 0, .slice none 0 0] 103))) :=
    ⟨none, 0, (Below.refl _ _).alloc (Nat.le_refl _) _, by simp, heap_alloc_new _ _, OwnT.nil _ _ _⟩
  have HROW := Lib.hid hr
  have HSS := Lib.hid hS
  have HZZ := Lib.hid hz
  clear hr hS hz
  go_enter Tryz.func37, Tryz.ntmps37
  go_wp2
  go_loopw [13] (fun kv wr => ∃ i : Nat, i ≤ ks.length ∧ kv = .int .i64 (i : Nat) ∧ Hid (NrRel c ks V i wr)) (fun kv _ => ks.length - (intOf kv).toNat)
  case atStart => exact ⟨0, Nat.zero_le _, rfl, HR0⟩
  case round =>
    obtain ⟨i, hi, rfl, HREL⟩ := hrel
    clear HR0
    obtain ⟨KA, cp, hb, hsz, hR, hown⟩ := HREL.out
    by_cases hlt : i < ks.length
    · have hil : (i : Int) < (ks.length : Int) := by omega
      obtain ⟨b, o, k, s, n, q, B, cb, rfl, hSb, hx, c0, c1, c2, c3, hrep⟩ := trow_get HROW.out hb HSS.out hlt
      have hta := List.take_succ_eq_append_getElem hlt
      have hszk := HZZ.out _ (List.getElem_mem hlt)
      rw [hx] at hta hszk
      have hbw : Below wr.heap.size wr (wr.alloc (.cells #[.int .i64 k, .string ⟨⟨s⟩⟩, .int .i64 n, .slice B q.length cb] 25)) := (Below.refl _ _).alloc (Nat.le_refl _) _
      have hs1 : (wr.alloc (.cells #[.int .i64 k, .string ⟨⟨s⟩⟩, .int .i64 n, .slice B q.length cb] 25)).heap.size = wr.heap.size + 1 := by simp
      have hk1 := heap_alloc_new wr (.cells #[.int .i64 k, .string ⟨⟨s⟩⟩, .int .i64 n, .slice B q.length cb] 25)
      have hR1 := (hbw.block V.heap.size (by omega)).trans hR
      have hrep1 := rep_below hrep hbw (fun b hb => by have := HSS.out b hb; omega)
      have hown1 := hown.below hbw (fun _ h => h.elim)
      have hb1 : Below V.heap.size V _ := hb.trans (hbw.mono (by omega))
      have HV := Lib.hid (Valid_any _ S _ _ hszk hrep1 (fun b hb => by have := HSS.out b hb; omega))
      obtain ⟨x0, x1, x2, x3⟩ := cell4 hk1
      have HTA := Lib.hid hta
      have HSZ := Lib.hid (show V.heap.size + 1 ≤ wr.heap.size ∧ (wr.alloc (.cells #[.int .i64 k, .string ⟨⟨s⟩⟩, .int .i64 n, .slice B q.length cb] 25)).heap.size = wr.heap.size + 1 from ⟨hsz, hs1⟩)
      have HK1 := Lib.hid hk1
      have HRR := Lib.hid hR1
      have HOW := Lib.hid hown1
      have HBB := Lib.hid hb1
      have HINN := Lib.hid ((rep_mk.1 hrep1).choose_spec.choose_spec.2.1)
      clear hbw hs1 hk1 hR1 hrep1 hown1 hb1 hta hszk hrep hx hb hsz hR hown HREL
      by_cases hk2 : k = 2
      · subst hk2
        go_wp2_with fail
        generalize wr.alloc (.cells #[.int .i64 2, .string ⟨⟨s⟩⟩, .int .i64 n, .slice B q.length cb] 25) = W1 at *
        refine HV.out.mono ?_
        rintro _ w2 ⟨rfl, b2⟩
        have hs := HSZ.out
        have HK2 := Lib.hid ((b2.block wr.heap.size (by omega)).trans HK1.out)
        have HR2 := Lib.hid ((b2.block V.heap.size (by omega)).trans HRR.out)
        have HO2 := Lib.hid (HOW.out.below b2 (fun _ h => h.elim))
        have HB2 := Lib.hid (HBB.out.trans (b2.mono (by omega)))
        have HS2 := Lib.hid (show V.heap.size + 1 ≤ wr.heap.size ∧ wr.heap.size < w2.heap.size from ⟨hs.1, by have := b2.size; omega⟩)
        clear b2 hs HK1 HRR HOW HBB HSZ HV x0 x1 x2 x3 c0 c1 c2 c3
        by_cases hv : vld 0 (.mk 2 s n q) = true
        · have HKF : Hid (kfl (ks.take (i + 1)) = kfl (ks.take i) ++ [.mk 2 s n q]) := by rw [Hid, HTA.out, kfl, List.filter_append]; simp [kfl, Tm.k, hv]
          rw [hv]
          have HKS := Lib.hid (show (kfl (ks.take i)).length ≤ ks.length from Nat.le_trans (List.length_filter_le _ _) (by rw [List.length_take]; omega))
          generalize kfl (ks.take i) = KS at *
          go_wp2_with fail
          -- REGION
          have HKF2 : Hid (kfl (ks.take (i + 1)) = KS ++ [.mk 2 s n []]) := by rw [Hid, HKF.out, vld_key hv]
          have HKL := Lib.hid (show KS.length ≤ 1000000 by have h1 := HKS.out; omega)
          have HI2 := Lib.hid (show ((KS.length : Nat) : Int) < ((KS.length : Nat) : Int) + 1 by omega)
          refine wp_region_inv (by kernel_rfl) (fun L act W => ∃ t24 t25 t26 t27 t28 t29 t30 t31 t32 t33 t34 t35 t36 t37 t38, act = { tmps := #[.string ⟨⟨c⟩⟩, .slice (some ⟨b, o, none⟩) ks.length ca, undef, undef, .pointer none, .pointer (some ⟨V.heap.size, 0, none⟩), undef, .pointer (some ⟨wr.heap.size, 0, none⟩), .string ⟨⟨c⟩⟩, .agg #[.string ⟨⟨c⟩⟩, .slice none 0 0, .slice none 0 0], .pointer (some ⟨V.heap.size, 0, none⟩), .slice (some ⟨b, o, none⟩) ks.length ca, .int .i64 (ks.length : Nat), .int .i64 (i : Nat), .bool true, .pointer (some ⟨b, o + i * 4, none⟩), .agg #[.int .i64 2, .string ⟨⟨s⟩⟩, .int .i64 n, .slice B q.length cb], .pointer (some ⟨wr.heap.size, 0, none⟩), .int .i64 2, .bool true, .bool true, .agg #[.int .i64 2, .string ⟨⟨s⟩⟩, .int .i64 n, .slice B q.length cb], .bool true, .bool true, t24, t25, t26, t27, t28, t29, t30, t31, t32, t33, t34, t35, t36, t37, t38, u39, undef, undef, undef, undef, undef, undef, undef, undef, undef, undef], defers := [] } ∧ (L 0 = true → (.pointer (some ⟨V.heap.size, 0, none⟩) : Value) = t24) ∧ (L 1 = true → (.pointer (some ⟨V.heap.size, 0, none⟩) : Value) = t25) ∧ (L 2 = true → (.pointer (some ⟨V.heap.size, 1, none⟩) : Value) = t26) ∧ (L 3 = true → (.slice KA KS.length cp : Value) = t27) ∧ (L 4 = true → (.pointer (some ⟨wr.heap.size, 1, none⟩) : Value) = t28) ∧ (L 5 = true → (.string ⟨⟨s⟩⟩ : Value) = t29) ∧ (L 6 = true → (.pointer (some ⟨wr.heap.size, 2, none⟩) : Value) = t30) ∧ (L 7 = true → (.int .i64 n : Value) = t31) ∧ (L 8 = true → (.agg #[.int .i64 2, .string ⟨⟨s⟩⟩, .int .i64 n, .slice none 0 0] : Value) = t32) ∧ (L 9 = true → (.int .i64 (KS.length : Nat) : Value) = t33) ∧ (L 14 = true → (.pointer (some ⟨V.heap.size, 0, none⟩) : Value) = t37) ∧ (L 15 = true → (.pointer (some ⟨V.heap.size, 1, none⟩) : Value) = t38) ∧ (Below V.heap.size V W) ∧ (L 11 = false → W.heap[wr.heap.size]? = some (.cells #[.int .i64 2, .string ⟨⟨s⟩⟩, .int .i64 n, .slice B q.length cb] 25 (0, 0))) ∧ (L 16 = false → W.heap[V.heap.size]? = some (.cells #[.string ⟨⟨c⟩⟩, .slice KA KS.length cp, .slice none 0 0] 103 (0, 0))) ∧ (L 11 = false → OwnT (fun _ => False) W (V.heap.size + 1) (.slice KA KS.length cp) KS) ∧ (L 10 = true → L 11 = false → ∃ h, (.slice (some ⟨h, 0, none⟩) 1 1 : Value) = t34 ∧ W.heap[h]? = some (.cells #[.int .i64 0, .string ⟨#[]⟩, .int .i64 0, .slice none 0 0] 25 (0, 0))) ∧ (L 11 = true → ∃ g c2, (.slice (some ⟨g, 0, none⟩) (KS.length + 1) c2 : Value) = t35 ∧ V.heap.size + 1 ≤ g) ∧ (L 11 = true → L 13 = false → OwnT (fun _ => False) W (V.heap.size + 1) t35 (KS ++ [.mk 0 [] 0 []])) ∧ (L 13 = true → OwnT (fun _ => False) W (V.heap.size + 1) t35 (KS ++ [.mk 2 s n []])) ∧ (L 12 = true → ∃ g c2, (.slice (some ⟨g, 0, none⟩) (KS.length + 1) c2 : Value) = t35 ∧ (.pointer (some ⟨g, KS.length * 4, none⟩) : Value) = t36) ∧ (L 16 = true → W.heap[V.heap.size]? = some (.cells #[.string ⟨⟨c⟩⟩, t35, .slice none 0 0] 103 (0, 0))) ∧ (L 11 = true → L 3 = true ∧ L 5 = true ∧ L 7 = true ∧ L 8 = true ∧ L 10 = true) ∧ (L 12 = true → L 11 = true) ∧ (L 13 = true → L 12 = true ∧ L 11 = true) ∧ (L 16 = true → L 11 = true)) (by kernel_rfl) ?_ ?_ ?_
          · exact ⟨_, _, _, _, _, _, _, _, _, _, _, _, _, _, _, rfl, nofun, nofun, nofun, nofun, nofun, nofun, nofun, nofun, nofun, nofun, nofun, nofun, HB2.out.drew, fun _ => HK2.out, fun _ => HR2.out, fun _ => HO2.out.below (Below.refl _ _).drew (fun _ h => h.elim), nofun, nofun, nofun, nofun, nofun, nofun, nofun, nofun, nofun, nofun⟩
          · rintro L _ W i oo ⟨t24, t25, t26, t27, t28, t29, t30, t31, t32, t33, t34, t35, t36, t37, t38, rfl, f0, f1, f2, f3, f4, f5, f6, f7, f8, f9, f14, f15, q, qk, qr, qo, g10, s11, ga, gb, g12, g16, r11, r12, r13, r16⟩ ho hL hd
            rcases i with _ | _ | _ | _ | _ | _ | _ | _ | _ | _ | _ | _ | _ | _ | _ | _ | _ | i
            · obtain rfl := Option.some.inj ho
              refine wpOp_step rfl fun K hK => ?_
              have F0X := Lib.hid f0
              have F1X := Lib.hid f1
              have F2X := Lib.hid f2
              have F3X := Lib.hid f3
              have F4X := Lib.hid f4
              have F5X := Lib.hid f5
              have F6X := Lib.hid f6
              have F7X := Lib.hid f7
              have F8X := Lib.hid f8
              have F9X := Lib.hid f9
              have F14X := Lib.hid f14
              have F15X := Lib.hid f15
              have QX := Lib.hid q
              have QKX := Lib.hid qk
              have QRX := Lib.hid qr
              have QOX := Lib.hid qo
              have G10X := Lib.hid g10
              have S11X := Lib.hid s11
              have GAX := Lib.hid ga
              have GBX := Lib.hid gb
              have G12X := Lib.hid g12
              have G16X := Lib.hid g16
              have R11X := Lib.hid r11
              have R12X := Lib.hid r12
              have R13X := Lib.hid r13
              have R16X := Lib.hid r16
              clear f0 f1 f2 f3 f4 f5 f6 f7 f8 f9 f14 f15 q qk qr qo g10 s11 ga gb g12 g16 r11 r12 r13 r16 hd ho hL
              go_simp
              refine hK _ _ ?_
              exact ⟨_, _, _, _, _, _, _, _, _, _, _, _, _, _, _, rfl, fun _ => rfl, F1X.out, F2X.out, F3X.out, F4X.out, F5X.out, F6X.out, F7X.out, F8X.out, F9X.out, F14X.out, F15X.out, QX.out, QKX.out, QRX.out, QOX.out, G10X.out, S11X.out, GAX.out, GBX.out, G12X.out, G16X.out, R11X.out, R12X.out, R13X.out, R16X.out⟩
            · obtain rfl := Option.some.inj ho
              have l0 := hd ⟨0, .data⟩ (by simp) rfl
              obtain rfl := f0 l0
              refine wpOp_step rfl fun K hK => ?_
              have F0X := Lib.hid f0
              have F1X := Lib.hid f1
              have F2X := Lib.hid f2
              have F3X := Lib.hid f3
              have F4X := Lib.hid f4
              have F5X := Lib.hid f5
              have F6X := Lib.hid f6
              have F7X := Lib.hid f7
              have F8X := Lib.hid f8
              have F9X := Lib.hid f9
              have F14X := Lib.hid f14
              have F15X := Lib.hid f15
              have QX := Lib.hid q
              have QKX := Lib.hid qk
              have QRX := Lib.hid qr
              have QOX := Lib.hid qo
              have G10X := Lib.hid g10
              have S11X := Lib.hid s11
              have GAX := Lib.hid ga
              have GBX := Lib.hid gb
              have G12X := Lib.hid g12
              have G16X := Lib.hid g16
              have R11X := Lib.hid r11
              have R12X := Lib.hid r12
              have R13X := Lib.hid r13
              have R16X := Lib.hid r16
              clear f0 f1 f2 f3 f4 f5 f6 f7 f8 f9 f14 f15 q qk qr qo g10 s11 ga gb g12 g16 r11 r12 r13 r16 hd ho hL l0
              go_simp
              refine hK _ _ ?_
              exact ⟨_, _, _, _, _, _, _, _, _, _, _, _, _, _, _, rfl, F0X.out, fun _ => rfl, F2X.out, F3X.out, F4X.out, F5X.out, F6X.out, F7X.out, F8X.out, F9X.out, F14X.out, F15X.out, QX.out, QKX.out, QRX.out, QOX.out, G10X.out, S11X.out, GAX.out, GBX.out, G12X.out, G16X.out, R11X.out, R12X.out, R13X.out, R16X.out⟩
            · obtain rfl := Option.some.inj ho
              have l1 := hd ⟨1, .data⟩ (by simp) rfl
              obtain rfl := f1 l1
              refine wpOp_step rfl fun K hK => ?_
              have F0X := Lib.hid f0
              have F1X := Lib.hid f1
              have F2X := Lib.hid f2
              have F3X := Lib.hid f3
              have F4X := Lib.hid f4
              have F5X := Lib.hid f5
              have F6X := Lib.hid f6
              have F7X := Lib.hid f7
              have F8X := Lib.hid f8
              have F9X := Lib.hid f9
              have F14X := Lib.hid f14
              have F15X := Lib.hid f15
              have QX := Lib.hid q
              have QKX := Lib.hid qk
              have QRX := Lib.hid qr
              have QOX := Lib.hid qo
              have G10X := Lib.hid g10
              have S11X := Lib.hid s11
              have GAX := Lib.hid ga
              have GBX := Lib.hid gb
              have G12X := Lib.hid g12
              have G16X := Lib.hid g16
              have R11X := Lib.hid r11
              have R12X := Lib.hid r12
              have R13X := Lib.hid r13
              have R16X := Lib.hid r16
              clear f0 f1 f2 f3 f4 f5 f6 f7 f8 f9 f14 f15 q qk qr qo g10 s11 ga gb g12 g16 r11 r12 r13 r16 hd ho hL l1
              go_simp
              refine hK _ _ ?_
              exact ⟨_, _, _, _, _, _, _, _, _, _, _, _, _, _, _, rfl, F0X.out, F1X.out, fun _ => rfl, F3X.out, F4X.out, F5X.out, F6X.out, F7X.out, F8X.out, F9X.out, F14X.out, F15X.out, QX.out, QKX.out, QRX.out, QOX.out, G10X.out, S11X.out, GAX.out, GBX.out, G12X.out, G16X.out, R11X.out, R12X.out, R13X.out, R16X.out⟩
            · obtain rfl := Option.some.inj ho
              have l2 := hd ⟨2, .data⟩ (by simp) rfl
              obtain rfl := f2 l2
              have h11 : L 11 = false := by cases hq : L 11 with | false => rfl | true => rw [(r11 hq).1] at hL; cases hL
              have h16 : L 16 = false := by cases hq : L 16 with | false => rfl | true => rw [r16 hq] at h11; cases h11
              have hc := (cell3 (qr h16)).2.1
              clear h11 h16
              refine wpOp_step rfl fun K hK => ?_
              have F0X := Lib.hid f0
              have F1X := Lib.hid f1
              have F2X := Lib.hid f2
              have F3X := Lib.hid f3
              have F4X := Lib.hid f4
              have F5X := Lib.hid f5
              have F6X := Lib.hid f6
              have F7X := Lib.hid f7
              have F8X := Lib.hid f8
              have F9X := Lib.hid f9
              have F14X := Lib.hid f14
              have F15X := Lib.hid f15
              have QX := Lib.hid q
              have QKX := Lib.hid qk
              have QRX := Lib.hid qr
              have QOX := Lib.hid qo
              have G10X := Lib.hid g10
              have S11X := Lib.hid s11
              have GAX := Lib.hid ga
              have GBX := Lib.hid gb
              have G12X := Lib.hid g12
              have G16X := Lib.hid g16
              have R11X := Lib.hid r11
              have R12X := Lib.hid r12
              have R13X := Lib.hid r13
              have R16X := Lib.hid r16
              clear f0 f1 f2 f3 f4 f5 f6 f7 f8 f9 f14 f15 q qk qr qo g10 s11 ga gb g12 g16 r11 r12 r13 r16 hd ho hL l2
              go_simp
              refine hK _ _ ?_
              exact ⟨_, _, _, _, _, _, _, _, _, _, _, _, _, _, _, rfl, F0X.out, F1X.out, F2X.out, fun _ => rfl, F4X.out, F5X.out, F6X.out, F7X.out, F8X.out, F9X.out, F14X.out, F15X.out, QX.out, QKX.out, QRX.out, QOX.out, G10X.out, S11X.out, GAX.out, GBX.out, G12X.out, G16X.out, fun h => ⟨rfl, (R11X.out h).2.1, (R11X.out h).2.2.1, (R11X.out h).2.2.2.1, (R11X.out h).2.2.2.2⟩, R12X.out, R13X.out, R16X.out⟩
            · obtain rfl := Option.some.inj ho
              refine wpOp_step rfl fun K hK => ?_
              have F0X := Lib.hid f0
              have F1X := Lib.hid f1
              have F2X := Lib.hid f2
              have F3X := Lib.hid f3
              have F4X := Lib.hid f4
              have F5X := Lib.hid f5
              have F6X := Lib.hid f6
              have F7X := Lib.hid f7
              have F8X := Lib.hid f8
              have F9X := Lib.hid f9
              have F14X := Lib.hid f14
              have F15X := Lib.hid f15
              have QX := Lib.hid q
              have QKX := Lib.hid qk
              have QRX := Lib.hid qr
              have QOX := Lib.hid qo
              have G10X := Lib.hid g10
              have S11X := Lib.hid s11
              have GAX := Lib.hid ga
              have GBX := Lib.hid gb
              have G12X := Lib.hid g12
              have G16X := Lib.hid g16
              have R11X := Lib.hid r11
              have R12X := Lib.hid r12
              have R13X := Lib.hid r13
              have R16X := Lib.hid r16
              clear f0 f1 f2 f3 f4 f5 f6 f7 f8 f9 f14 f15 q qk qr qo g10 s11 ga gb g12 g16 r11 r12 r13 r16 hd ho hL
              go_simp
              refine hK _ _ ?_
              exact ⟨_, _, _, _, _, _, _, _, _, _, _, _, _, _, _, rfl, F0X.out, F1X.out, F2X.out, F3X.out, fun _ => rfl, F5X.out, F6X.out, F7X.out, F8X.out, F9X.out, F14X.out, F15X.out, QX.out, QKX.out, QRX.out, QOX.out, G10X.out, S11X.out, GAX.out, GBX.out, G12X.out, G16X.out, R11X.out, R12X.out, R13X.out, R16X.out⟩
            · obtain rfl := Option.some.inj ho
              have l4 := hd ⟨4, .data⟩ (by simp) rfl
              obtain rfl := f4 l4
              have h11 : L 11 = false := by cases hq : L 11 with | false => rfl | true => rw [(r11 hq).2.1] at hL; cases hL
              have hc := (cell4 (qk h11)).2.1
              clear h11
              refine wpOp_step rfl fun K hK => ?_
              have F0X := Lib.hid f0
              have F1X := Lib.hid f1
              have F2X := Lib.hid f2
              have F3X := Lib.hid f3
              have F4X := Lib.hid f4
              have F5X := Lib.hid f5
              have F6X := Lib.hid f6
              have F7X := Lib.hid f7
              have F8X := Lib.hid f8
              have F9X := Lib.hid f9
              have F14X := Lib.hid f14
              have F15X := Lib.hid f15
              have QX := Lib.hid q
              have QKX := Lib.hid qk
              have QRX := Lib.hid qr
              have QOX := Lib.hid qo
              have G10X := Lib.hid g10
              have S11X := Lib.hid s11
              have GAX := Lib.hid ga
              have GBX := Lib.hid gb
              have G12X := Lib.hid g12
              have G16X := Lib.hid g16
              have R11X := Lib.hid r11
              have R12X := Lib.hid r12
              have R13X := Lib.hid r13
              have R16X := Lib.hid r16
              clear f0 f1 f2 f3 f4 f5 f6 f7 f8 f9 f14 f15 q qk qr qo g10 s11 ga gb g12 g16 r11 r12 r13 r16 hd ho hL l4
              go_simp
              refine hK _ _ ?_
              exact ⟨_, _, _, _, _, _, _, _, _, _, _, _, _, _, _, rfl, F0X.out, F1X.out, F2X.out, F3X.out, F4X.out, fun _ => rfl, F6X.out, F7X.out, F8X.out, F9X.out, F14X.out, F15X.out, QX.out, QKX.out, QRX.out, QOX.out, G10X.out, S11X.out, GAX.out, GBX.out, G12X.out, G16X.out, fun h => ⟨(R11X.out h).1, rfl, (R11X.out h).2.2.1, (R11X.out h).2.2.2.1, (R11X.out h).2.2.2.2⟩, R12X.out, R13X.out, R16X.out⟩
            · obtain rfl := Option.some.inj ho
              refine wpOp_step rfl fun K hK => ?_
              have F0X := Lib.hid f0
              have F1X := Lib.hid f1
              have F2X := Lib.hid f2
              have F3X := Lib.hid f3
              have F4X := Lib.hid f4
              have F5X := Lib.hid f5
              have F6X := Lib.hid f6
              have F7X := Lib.hid f7
              have F8X := Lib.hid f8
              have F9X := Lib.hid f9
              have F14X := Lib.hid f14
              have F15X := Lib.hid f15
              have QX := Lib.hid q
              have QKX := Lib.hid qk
              have QRX := Lib.hid qr
              have QOX := Lib.hid qo
              have G10X := Lib.hid g10
              have S11X := Lib.hid s11
              have GAX := Lib.hid ga
              have GBX := Lib.hid gb
              have G12X := Lib.hid g12
              have G16X := Lib.hid g16
              have R11X := Lib.hid r11
              have R12X := Lib.hid r12
              have R13X := Lib.hid r13
              have R16X := Lib.hid r16
              clear f0 f1 f2 f3 f4 f5 f6 f7 f8 f9 f14 f15 q qk qr qo g10 s11 ga gb g12 g16 r11 r12 r13 r16 hd ho hL
              go_simp
              refine hK _ _ ?_
              exact ⟨_, _, _, _, _, _, _, _, _, _, _, _, _, _, _, rfl, F0X.out, F1X.out, F2X.out, F3X.out, F4X.out, F5X.out, fun _ => rfl, F7X.out, F8X.out, F9X.out, F14X.out, F15X.out, QX.out, QKX.out, QRX.out, QOX.out, G10X.out, S11X.out, GAX.out, GBX.out, G12X.out, G16X.out, R11X.out, R12X.out, R13X.out, R16X.out⟩
            · obtain rfl := Option.some.inj ho
              have l6 := hd ⟨6, .data⟩ (by simp) rfl
              obtain rfl := f6 l6
              have h11 : L 11 = false := by cases hq : L 11 with | false => rfl | true => rw [(r11 hq).2.2.1] at hL; cases hL
              have hc := (cell4 (qk h11)).2.2.1
              clear h11
              refine wpOp_step rfl fun K hK => ?_
              have F0X := Lib.hid f0
              have F1X := Lib.hid f1
              have F2X := Lib.hid f2
              have F3X := Lib.hid f3
              have F4X := Lib.hid f4
              have F5X := Lib.hid f5
              have F6X := Lib.hid f6
              have F7X := Lib.hid f7
              have F8X := Lib.hid f8
              have F9X := Lib.hid f9
              have F14X := Lib.hid f14
              have F15X := Lib.hid f15
              have QX := Lib.hid q
              have QKX := Lib.hid qk
              have QRX := Lib.hid qr
              have QOX := Lib.hid qo
              have G10X := Lib.hid g10
              have S11X := Lib.hid s11
              have GAX := Lib.hid ga
              have GBX := Lib.hid gb
              have G12X := Lib.hid g12
              have G16X := Lib.hid g16
              have R11X := Lib.hid r11
              have R12X := Lib.hid r12
              have R13X := Lib.hid r13
              have R16X := Lib.hid r16
              clear f0 f1 f2 f3 f4 f5 f6 f7 f8 f9 f14 f15 q qk qr qo g10 s11 ga gb g12 g16 r11 r12 r13 r16 hd ho hL l6
              go_simp
              refine hK _ _ ?_
              exact ⟨_, _, _, _, _, _, _, _, _, _, _, _, _, _, _, rfl, F0X.out, F1X.out, F2X.out, F3X.out, F4X.out, F5X.out, F6X.out, fun _ => rfl, F8X.out, F9X.out, F14X.out, F15X.out, QX.out, QKX.out, QRX.out, QOX.out, G10X.out, S11X.out, GAX.out, GBX.out, G12X.out, G16X.out, fun h => ⟨(R11X.out h).1, (R11X.out h).2.1, rfl, (R11X.out h).2.2.2.1, (R11X.out h).2.2.2.2⟩, R12X.out, R13X.out, R16X.out⟩
            · obtain rfl := Option.some.inj ho
              have l5 := hd ⟨5, .data⟩ (by simp) rfl
              have l7 := hd ⟨7, .data⟩ (by simp) rfl
              obtain rfl := f5 l5
              obtain rfl := f7 l7
              have HC := Lib.hid (Te.Key_any s n W)
              refine wpOp_step rfl fun K hK => ?_
              have F0X := Lib.hid f0
              have F1X := Lib.hid f1
              have F2X := Lib.hid f2
              have F3X := Lib.hid f3
              have F4X := Lib.hid f4
              have F5X := Lib.hid f5
              have F6X := Lib.hid f6
              have F7X := Lib.hid f7
              have F8X := Lib.hid f8
              have F9X := Lib.hid f9
              have F14X := Lib.hid f14
              have F15X := Lib.hid f15
              have QX := Lib.hid q
              have QKX := Lib.hid qk
              have QRX := Lib.hid qr
              have QOX := Lib.hid qo
              have G10X := Lib.hid g10
              have S11X := Lib.hid s11
              have GAX := Lib.hid ga
              have GBX := Lib.hid gb
              have G12X := Lib.hid g12
              have G16X := Lib.hid g16
              have R11X := Lib.hid r11
              have R12X := Lib.hid r12
              have R13X := Lib.hid r13
              have R16X := Lib.hid r16
              clear f0 f1 f2 f3 f4 f5 f6 f7 f8 f9 f14 f15 q qk qr qo g10 s11 ga gb g12 g16 r11 r12 r13 r16 hd ho hL l5 l7
              go_simp
              refine HC.out.mono ?_
              rintro _ w1 ⟨rfl, hb1⟩
              refine hK _ _ ?_
              exact ⟨_, _, _, _, _, _, _, _, _, _, _, _, _, _, _, rfl, F0X.out, F1X.out, F2X.out, F3X.out, F4X.out, F5X.out, F6X.out, F7X.out, fun _ => rfl, F9X.out, F14X.out, F15X.out, QX.out.trans (hb1.mono QX.out.size), fun h => (hb1.block _ (Array.getElem?_eq_some_iff.1 (QKX.out h)).1).trans (QKX.out h), fun h => (hb1.block _ (Array.getElem?_eq_some_iff.1 (QRX.out h)).1).trans (QRX.out h), fun h => (QOX.out h).below hb1 (fun _ h => h.elim), fun h h8 => (by obtain ⟨h1, e1, e2⟩ := G10X.out h h8; exact ⟨h1, e1, (hb1.block h1 (Array.getElem?_eq_some_iff.1 e2).1).trans e2⟩), S11X.out, fun h h2 => (GAX.out h h2).below hb1 (fun _ h => h.elim), fun h => (GBX.out h).below hb1 (fun _ h => h.elim), G12X.out, fun h => (hb1.block _ (Array.getElem?_eq_some_iff.1 (G16X.out h)).1).trans (G16X.out h), fun h => ⟨(R11X.out h).1, (R11X.out h).2.1, (R11X.out h).2.2.1, rfl, (R11X.out h).2.2.2.2⟩, R12X.out, R13X.out, R16X.out⟩
            · obtain rfl := Option.some.inj ho
              have l3 := hd ⟨3, .data⟩ (by simp) rfl
              obtain rfl := f3 l3
              refine wpOp_step rfl fun K hK => ?_
              have F0X := Lib.hid f0
              have F1X := Lib.hid f1
              have F2X := Lib.hid f2
              have F3X := Lib.hid f3
              have F4X := Lib.hid f4
              have F5X := Lib.hid f5
              have F6X := Lib.hid f6
              have F7X := Lib.hid f7
              have F8X := Lib.hid f8
              have F9X := Lib.hid f9
              have F14X := Lib.hid f14
              have F15X := Lib.hid f15
              have QX := Lib.hid q
              have QKX := Lib.hid qk
              have QRX := Lib.hid qr
              have QOX := Lib.hid qo
              have G10X := Lib.hid g10
              have S11X := Lib.hid s11
              have GAX := Lib.hid ga
              have GBX := Lib.hid gb
              have G12X := Lib.hid g12
              have G16X := Lib.hid g16
              have R11X := Lib.hid r11
              have R12X := Lib.hid r12
              have R13X := Lib.hid r13
              have R16X := Lib.hid r16
              clear f0 f1 f2 f3 f4 f5 f6 f7 f8 f9 f14 f15 q qk qr qo g10 s11 ga gb g12 g16 r11 r12 r13 r16 hd ho hL l3
              go_simp
              refine hK _ _ ?_
              exact ⟨_, _, _, _, _, _, _, _, _, _, _, _, _, _, _, rfl, F0X.out, F1X.out, F2X.out, F3X.out, F4X.out, F5X.out, F6X.out, F7X.out, F8X.out, fun _ => rfl, F14X.out, F15X.out, QX.out, QKX.out, QRX.out, QOX.out, G10X.out, S11X.out, GAX.out, GBX.out, G12X.out, G16X.out, R11X.out, R12X.out, R13X.out, R16X.out⟩
            · obtain rfl := Option.some.inj ho
              have h11 : L 11 = false := by cases hq : L 11 with | false => rfl | true => rw [(r11 hq).2.2.2.2] at hL; cases hL
              have H11 := Lib.hid h11
              refine wpOp_step rfl fun K hK => ?_
              have F0X := Lib.hid f0
              have F1X := Lib.hid f1
              have F2X := Lib.hid f2
              have F3X := Lib.hid f3
              have F4X := Lib.hid f4
              have F5X := Lib.hid f5
              have F6X := Lib.hid f6
              have F7X := Lib.hid f7
              have F8X := Lib.hid f8
              have F9X := Lib.hid f9
              have F14X := Lib.hid f14
              have F15X := Lib.hid f15
              have QX := Lib.hid q
              have QKX := Lib.hid qk
              have QRX := Lib.hid qr
              have QOX := Lib.hid qo
              have G10X := Lib.hid g10
              have S11X := Lib.hid s11
              have GAX := Lib.hid ga
              have GBX := Lib.hid gb
              have G12X := Lib.hid g12
              have G16X := Lib.hid g16
              have R11X := Lib.hid r11
              have R12X := Lib.hid r12
              have R13X := Lib.hid r13
              have R16X := Lib.hid r16
              clear f0 f1 f2 f3 f4 f5 f6 f7 f8 f9 f14 f15 q qk qr qo g10 s11 ga gb g12 g16 r11 r12 r13 r16 hd ho hL h11
              go_simp
              refine hK _ _ ?_
              exact ⟨_, _, _, _, _, _, _, _, _, _, _, _, _, _, _, rfl, F0X.out, F1X.out, F2X.out, F3X.out, F4X.out, F5X.out, F6X.out, F7X.out, F8X.out, F9X.out, F14X.out, F15X.out, QX.out.trans (((Below.refl W.heap.size W).alloc (Nat.le_refl _) _).mono QX.out.size), fun h => (((Below.refl W.heap.size W).alloc (Nat.le_refl _) _).block _ (Array.getElem?_eq_some_iff.1 (QKX.out h)).1).trans (QKX.out h), fun h => (((Below.refl W.heap.size W).alloc (Nat.le_refl _) _).block _ (Array.getElem?_eq_some_iff.1 (QRX.out h)).1).trans (QRX.out h), fun h => (QOX.out h).below ((Below.refl W.heap.size W).alloc (Nat.le_refl _) _) (fun _ h => h.elim), fun _ _ => ⟨_, rfl, heap_alloc_new W _⟩, S11X.out, fun h h2 => (GAX.out h h2).below ((Below.refl W.heap.size W).alloc (Nat.le_refl _) _) (fun _ h => h.elim), fun h => (GBX.out h).below ((Below.refl W.heap.size W).alloc (Nat.le_refl _) _) (fun _ h => h.elim), G12X.out, fun h => (((Below.refl W.heap.size W).alloc (Nat.le_refl _) _).block _ (Array.getElem?_eq_some_iff.1 (G16X.out h)).1).trans (G16X.out h), fun h => ⟨(R11X.out h).1, (R11X.out h).2.1, (R11X.out h).2.2.1, (R11X.out h).2.2.2.1, rfl⟩, R12X.out, R13X.out, R16X.out⟩
            · obtain rfl := Option.some.inj ho
              have l3 := hd ⟨3, .data⟩ (by simp) rfl
              have l10 := hd ⟨10, .data⟩ (by simp) rfl
              have l5 := hd ⟨5, .phase⟩ (by simp) rfl
              have l7 := hd ⟨7, .phase⟩ (by simp) rfl
              have l8 := hd ⟨8, .phase⟩ (by simp) rfl
              obtain rfl := f3 l3
              obtain rfl := f5 l5
              obtain rfl := f7 l7
              obtain rfl := f8 l8
              obtain ⟨h, rfl, hh⟩ := g10 l10 hL
              have h16 : L 16 = false := by cases hq : L 16 with | false => rfl | true => rw [r16 hq] at hL; cases hL
              have h13 : L 13 = false := by cases hq : L 13 with | false => rfl | true => rw [(r13 hq).2] at hL; cases hL
              have hz2W : V.heap.size + 1 ≤ W.heap.size := by have := (Array.getElem?_eq_some_iff.1 (qr h16)).1; omega
              obtain ⟨v', w5, hr, ho3, hb3, hk3, how3, hs3⟩ := run_appT' W (V.heap.size + 1) h _ _ (.mk 0 [] 0 []) _ _ _ _ (fun _ => False) hh (qo hL) (rep_mk.2 ⟨none, 0, rfl, ⟨by omega, by omega⟩, .inl rfl⟩) (fun _ h => h.elim) HKL.out hz2W
              obtain ⟨g, c2, hv2, hgz, -⟩ := own_some ho3
              subst hv2
              have hne : (.slice KA KS.length cp : Value).ownBlock ≠ some V.heap.size := fun e => by have := ((qo hL).lt _ e).1; omega
              have hg2 := (hk3 V.heap.size (by omega) hne).trans (qr h16)
              have hbw2 : Below V.heap.size V w5 := q.trans (hb3.mono (by omega))
              have L17 := Lib.hid (And.intro l3 (And.intro l5 (And.intro l7 (And.intro l8 l10))))
              have H13 := Lib.hid h13
              have H16 := Lib.hid h16
              have HLX := Lib.hid hL
              refine wpOp_step rfl fun K hK => ?_
              refine op_append_run _ rfl (.tmp 27) (.tmp 34) 23 23 rfl _ _ rfl rfl hr ?_
              have F0X := Lib.hid f0
              have F1X := Lib.hid f1
              have F2X := Lib.hid f2
              have F3X := Lib.hid f3
              have F4X := Lib.hid f4
              have F5X := Lib.hid f5
              have F6X := Lib.hid f6
              have F7X := Lib.hid f7
              have F8X := Lib.hid f8
              have F9X := Lib.hid f9
              have F14X := Lib.hid f14
              have F15X := Lib.hid f15
              have QX := Lib.hid q
              have QKX := Lib.hid qk
              have QRX := Lib.hid qr
              have QOX := Lib.hid qo
              have G10X := Lib.hid g10
              have S11X := Lib.hid s11
              have GAX := Lib.hid ga
              have GBX := Lib.hid gb
              have G12X := Lib.hid g12
              have G16X := Lib.hid g16
              have R11X := Lib.hid r11
              have R12X := Lib.hid r12
              have R13X := Lib.hid r13
              have R16X := Lib.hid r16
              clear f0 f1 f2 f3 f4 f5 f6 f7 f8 f9 f14 f15 q qk qr qo g10 s11 ga gb g12 g16 r11 r12 r13 r16 hd ho hL l3 l10 l5 l7 l8
              refine hK _ _ ?_
              exact ⟨_, _, _, _, _, _, _, _, _, _, _, _, _, _, _, rfl, F0X.out, F1X.out, F2X.out, F3X.out, F4X.out, F5X.out, F6X.out, F7X.out, F8X.out, F9X.out, F14X.out, F15X.out, hbw2, nofun, fun _ => hg2, nofun, nofun, fun _ => ⟨g, c2, rfl, hgz⟩, fun _ _ => ho3, fun h => absurd (show L 13 = true from h) (by simp [H13.out]), fun h => absurd (R12X.out h) (by simp [HLX.out]), fun h => absurd (show L 16 = true from h) (by simp [H16.out]), fun _ => L17.out, fun _ => rfl, fun h => ⟨(R13X.out h).1, rfl⟩, fun _ => rfl⟩
            · obtain rfl := Option.some.inj ho
              have l11 := hd ⟨11, .data⟩ (by simp) rfl
              have l9 := hd ⟨9, .data⟩ (by simp) rfl
              obtain rfl := f9 l9
              obtain ⟨g, c2, hve, hgz⟩ := s11 l11
              have HVE := Lib.hid hve
              have hi2 := HI2.out
              subst hve
              have L11 := Lib.hid l11
              refine wpOp_step rfl fun K hK => ?_
              have F0X := Lib.hid f0
              have F1X := Lib.hid f1
              have F2X := Lib.hid f2
              have F3X := Lib.hid f3
              have F4X := Lib.hid f4
              have F5X := Lib.hid f5
              have F6X := Lib.hid f6
              have F7X := Lib.hid f7
              have F8X := Lib.hid f8
              have F9X := Lib.hid f9
              have F14X := Lib.hid f14
              have F15X := Lib.hid f15
              have QX := Lib.hid q
              have QKX := Lib.hid qk
              have QRX := Lib.hid qr
              have QOX := Lib.hid qo
              have G10X := Lib.hid g10
              have S11X := Lib.hid s11
              have GAX := Lib.hid ga
              have GBX := Lib.hid gb
              have G12X := Lib.hid g12
              have G16X := Lib.hid g16
              have R11X := Lib.hid r11
              have R12X := Lib.hid r12
              have R13X := Lib.hid r13
              have R16X := Lib.hid r16
              clear f0 f1 f2 f3 f4 f5 f6 f7 f8 f9 f14 f15 q qk qr qo g10 s11 ga gb g12 g16 r11 r12 r13 r16 hd ho hL l11 l9
              go_simp
              refine hK _ _ ?_
              exact ⟨_, _, _, _, _, _, _, _, _, _, _, _, _, _, _, rfl, F0X.out, F1X.out, F2X.out, F3X.out, F4X.out, F5X.out, F6X.out, F7X.out, F8X.out, F9X.out, F14X.out, F15X.out, QX.out, QKX.out, QRX.out, QOX.out, G10X.out, S11X.out, GAX.out, GBX.out, fun _ => ⟨g, c2, rfl, rfl⟩, G16X.out, R11X.out, fun _ => L11.out, fun h => ⟨rfl, (R13X.out h).2⟩, R16X.out⟩
            · obtain rfl := Option.some.inj ho
              have l12 := hd ⟨12, .data⟩ (by simp) rfl
              have l8 := hd ⟨8, .data⟩ (by simp) rfl
              have l11 := hd ⟨11, .chain⟩ (by simp) rfl
              obtain rfl := f8 l8
              obtain ⟨g, c2, hve, hpe⟩ := g12 l12
              have hown := ga l11 hL
              rw [← hve] at hown
              obtain ⟨ho5, hf, v0, v1, v2, v3, d0, d1, d2, d3⟩ := own_set s n HINN.out rfl hown
              have hgz := (hown.lt g rfl).1
              subst hpe
              rw [hve] at ho5
              have HO5 := Lib.hid ho5
              have LL := Lib.hid (And.intro l12 l11)
              have HGZ := Lib.hid hgz
              clear hown ho5
              refine wpOp_step rfl fun K hK => ?_
              have F0X := Lib.hid f0
              have F1X := Lib.hid f1
              have F2X := Lib.hid f2
              have F3X := Lib.hid f3
              have F4X := Lib.hid f4
              have F5X := Lib.hid f5
              have F6X := Lib.hid f6
              have F7X := Lib.hid f7
              have F8X := Lib.hid f8
              have F9X := Lib.hid f9
              have F14X := Lib.hid f14
              have F15X := Lib.hid f15
              have QX := Lib.hid q
              have QKX := Lib.hid qk
              have QRX := Lib.hid qr
              have QOX := Lib.hid qo
              have G10X := Lib.hid g10
              have S11X := Lib.hid s11
              have GAX := Lib.hid ga
              have GBX := Lib.hid gb
              have G12X := Lib.hid g12
              have G16X := Lib.hid g16
              have R11X := Lib.hid r11
              have R12X := Lib.hid r12
              have R13X := Lib.hid r13
              have R16X := Lib.hid r16
              clear f0 f1 f2 f3 f4 f5 f6 f7 f8 f9 f14 f15 q qk qr qo g10 s11 ga gb g12 g16 r11 r12 r13 r16 hd ho hL l12 l8 l11
              go_simp
              refine hK _ _ ?_
              exact ⟨_, _, _, _, _, _, _, _, _, _, _, _, _, _, _, rfl, F0X.out, F1X.out, F2X.out, F3X.out, F4X.out, F5X.out, F6X.out, F7X.out, F8X.out, F9X.out, F14X.out, F15X.out, set4o_below QX.out (by have := HGZ.out; omega), fun h => absurd (show L 11 = false from h) (by simp [LL.out.2]), fun h => (set4o_other (by have := HGZ.out; omega)).trans (QRX.out h), fun h => absurd (show L 11 = false from h) (by simp [LL.out.2]), fun _ h => absurd (show L 11 = false from h) (by simp [LL.out.2]), S11X.out, fun _ h => absurd h (by simp), fun _ => HO5.out, G12X.out, fun h => (set4o_other (by have := HGZ.out; omega)).trans (G16X.out h), R11X.out, R12X.out, fun _ => LL.out, R16X.out⟩
            · obtain rfl := Option.some.inj ho
              have l0 := hd ⟨0, .data⟩ (by simp) rfl
              obtain rfl := f0 l0
              refine wpOp_step rfl fun K hK => ?_
              have F0X := Lib.hid f0
              have F1X := Lib.hid f1
              have F2X := Lib.hid f2
              have F3X := Lib.hid f3
              have F4X := Lib.hid f4
              have F5X := Lib.hid f5
              have F6X := Lib.hid f6
              have F7X := Lib.hid f7
              have F8X := Lib.hid f8
              have F9X := Lib.hid f9
              have F14X := Lib.hid f14
              have F15X := Lib.hid f15
              have QX := Lib.hid q
              have QKX := Lib.hid qk
              have QRX := Lib.hid qr
              have QOX := Lib.hid qo
              have G10X := Lib.hid g10
              have S11X := Lib.hid s11
              have GAX := Lib.hid ga
              have GBX := Lib.hid gb
              have G12X := Lib.hid g12
              have G16X := Lib.hid g16
              have R11X := Lib.hid r11
              have R12X := Lib.hid r12
              have R13X := Lib.hid r13
              have R16X := Lib.hid r16
              clear f0 f1 f2 f3 f4 f5 f6 f7 f8 f9 f14 f15 q qk qr qo g10 s11 ga gb g12 g16 r11 r12 r13 r16 hd ho hL l0
              go_simp
              refine hK _ _ ?_
              exact ⟨_, _, _, _, _, _, _, _, _, _, _, _, _, _, _, rfl, F0X.out, F1X.out, F2X.out, F3X.out, F4X.out, F5X.out, F6X.out, F7X.out, F8X.out, F9X.out, fun _ => rfl, F15X.out, QX.out, QKX.out, QRX.out, QOX.out, G10X.out, S11X.out, GAX.out, GBX.out, G12X.out, G16X.out, R11X.out, R12X.out, R13X.out, R16X.out⟩
            · obtain rfl := Option.some.inj ho
              have l14 := hd ⟨14, .data⟩ (by simp) rfl
              obtain rfl := f14 l14
              refine wpOp_step rfl fun K hK => ?_
              have F0X := Lib.hid f0
              have F1X := Lib.hid f1
              have F2X := Lib.hid f2
              have F3X := Lib.hid f3
              have F4X := Lib.hid f4
              have F5X := Lib.hid f5
              have F6X := Lib.hid f6
              have F7X := Lib.hid f7
              have F8X := Lib.hid f8
              have F9X := Lib.hid f9
              have F14X := Lib.hid f14
              have F15X := Lib.hid f15
              have QX := Lib.hid q
              have QKX := Lib.hid qk
              have QRX := Lib.hid qr
              have QOX := Lib.hid qo
              have G10X := Lib.hid g10
              have S11X := Lib.hid s11
              have GAX := Lib.hid ga
              have GBX := Lib.hid gb
              have G12X := Lib.hid g12
              have G16X := Lib.hid g16
              have R11X := Lib.hid r11
              have R12X := Lib.hid r12
              have R13X := Lib.hid r13
              have R16X := Lib.hid r16
              clear f0 f1 f2 f3 f4 f5 f6 f7 f8 f9 f14 f15 q qk qr qo g10 s11 ga gb g12 g16 r11 r12 r13 r16 hd ho hL l14
              go_simp
              refine hK _ _ ?_
              exact ⟨_, _, _, _, _, _, _, _, _, _, _, _, _, _, _, rfl, F0X.out, F1X.out, F2X.out, F3X.out, F4X.out, F5X.out, F6X.out, F7X.out, F8X.out, F9X.out, F14X.out, fun _ => rfl, QX.out, QKX.out, QRX.out, QOX.out, G10X.out, S11X.out, GAX.out, GBX.out, G12X.out, G16X.out, R11X.out, R12X.out, R13X.out, R16X.out⟩
            · obtain rfl := Option.some.inj ho
              have l15 := hd ⟨15, .data⟩ (by simp) rfl
              have l11 := hd ⟨11, .data⟩ (by simp) rfl
              obtain rfl := f15 l15
              obtain ⟨g, c2, hve, hgz⟩ := s11 l11
              have hqr := qr hL
              have hf := fun k => frozen_of_row _ _ k _ _ hqr
              have hc := (cell3 hqr).2.1
              have hres := heap_setCell_same _ _ 1 _ _ t35 hqr
              have hoa := fun h => (ga l11 h).keep (S' := fun _ => False) (w' := W.setCell ⟨V.heap.size, 1, none⟩ t35) (fun k hk => heap_setCell_other _ _ _ _ (by rw [← hve] at hk; simp [Value.ownBlock] at hk; show k ≠ V.heap.size; omega)) (fun _ h => h) (fun _ h => h.elim)
              have hob := fun h => (gb h).keep (S' := fun _ => False) (w' := W.setCell ⟨V.heap.size, 1, none⟩ t35) (fun k hk => heap_setCell_other _ _ _ _ (by rw [← hve] at hk; simp [Value.ownBlock] at hk; show k ≠ V.heap.size; omega)) (fun _ h => h) (fun _ h => h.elim)
              have HRES := Lib.hid hres
              have HOA := Lib.hid hoa
              have HOB := Lib.hid hob
              have LL := Lib.hid l11
              have HYB := Lib.hid (show True from trivial)
              clear hres hoa hob hqr
              subst hve
              refine wpOp_step rfl fun K hK => ?_
              have F0X := Lib.hid f0
              have F1X := Lib.hid f1
              have F2X := Lib.hid f2
              have F3X := Lib.hid f3
              have F4X := Lib.hid f4
              have F5X := Lib.hid f5
              have F6X := Lib.hid f6
              have F7X := Lib.hid f7
              have F8X := Lib.hid f8
              have F9X := Lib.hid f9
              have F14X := Lib.hid f14
              have F15X := Lib.hid f15
              have QX := Lib.hid q
              have QKX := Lib.hid qk
              have QRX := Lib.hid qr
              have QOX := Lib.hid qo
              have G10X := Lib.hid g10
              have S11X := Lib.hid s11
              have GAX := Lib.hid ga
              have GBX := Lib.hid gb
              have G12X := Lib.hid g12
              have G16X := Lib.hid g16
              have R11X := Lib.hid r11
              have R12X := Lib.hid r12
              have R13X := Lib.hid r13
              have R16X := Lib.hid r16
              clear f0 f1 f2 f3 f4 f5 f6 f7 f8 f9 f14 f15 q qk qr qo g10 s11 ga gb g12 g16 r11 r12 r13 r16 hd ho hL l15 l11
              go_simp
              refine hK _ _ ?_
              exact ⟨_, _, _, _, _, _, _, _, _, _, _, _, _, _, _, rfl, F0X.out, F1X.out, F2X.out, F3X.out, F4X.out, F5X.out, F6X.out, F7X.out, F8X.out, F9X.out, F14X.out, F15X.out, QX.out.setCell (p := ⟨V.heap.size, 1, none⟩) (Nat.le_refl _) _, fun h => absurd (show L 11 = false from h) (by simp [LL.out]), nofun, fun h => absurd (show L 11 = false from h) (by simp [LL.out]), fun _ h => absurd (show L 11 = false from h) (by simp [LL.out]), S11X.out, fun _ h => HOA.out h, fun h => HOB.out h, G12X.out, fun _ => HRES.out, R11X.out, R12X.out, R13X.out, fun _ => LL.out⟩
            · simp at ho
          · rintro L _ W ⟨t24, t25, t26, t27, t28, t29, t30, t31, t32, t33, t34, t35, t36, t37, t38, rfl, f0, f1, f2, f3, f4, f5, f6, f7, f8, f9, f14, f15, q, qk, qr, qo, g10, s11, ga, gb, g12, g16, r11, r12, r13, r16⟩ hall
            obtain rfl := f0 (hall 0 (by decide))
            obtain rfl := f1 (hall 1 (by decide))
            obtain rfl := f2 (hall 2 (by decide))
            obtain rfl := f3 (hall 3 (by decide))
            obtain rfl := f4 (hall 4 (by decide))
            obtain rfl := f5 (hall 5 (by decide))
            obtain rfl := f6 (hall 6 (by decide))
            obtain rfl := f7 (hall 7 (by decide))
            obtain rfl := f8 (hall 8 (by decide))
            obtain rfl := f9 (hall 9 (by decide))
            obtain rfl := f14 (hall 14 (by decide))
            obtain rfl := f15 (hall 15 (by decide))
            have h13 := hall 13 (by decide)
            have h16 := hall 16 (by decide)
            have h11 := hall 11 (by decide)
            obtain ⟨g, c2, hve, hgz⟩ := s11 h11
            have ho6 := gb h13
            have hr6 := g16 h16
            have HQ := Lib.hid q
            subst hve
            have HO6 := Lib.hid ho6
            have HR6 := Lib.hid hr6
            have HS6 := Lib.hid (show V.heap.size + 1 ≤ W.heap.size from (Array.getElem?_eq_some_iff.1 hr6).1)
            clear q qk qr qo g10 s11 ga gb g12 g16 r11 r12 r13 r16 hall ho6 hr6 h13 h16 h11 hgz
            go_wp2
            go_roundw
            case rel => exact ⟨i + 1, by omega, by go_num, ⟨some ⟨g, 0, none⟩, c2, HQ.out, HS6.out, by rw [HKF2.out, List.length_append]; exact HR6.out, by rw [HKF2.out, List.length_append]; exact HO6.out⟩⟩
            case measure => simp [intOf]; omega
        · have hv' : vld 0 (.mk 2 s n q) = false := by simpa using hv
          have HKF : Hid (kfl (ks.take (i + 1)) = kfl (ks.take i)) := by rw [Hid, HTA.out, kfl, List.filter_append]; simp [kfl, Tm.k, hv']
          rw [hv']
          clear hv hv' HTA
          go_wp2
          go_roundw
          case rel => exact ⟨i + 1, by omega, by go_num, ⟨KA, cp, HB2.out, by have := HS2.out; omega, by rw [HKF.out]; exact HR2.out, by rw [HKF.out]; exact HO2.out⟩⟩
          case measure => simp [intOf]; omega
      · have e2 : (k == 2) = false := by simpa using hk2
        have HKF : Hid (kfl (ks.take (i + 1)) = kfl (ks.take i)) := by rw [Hid, HTA.out, kfl, List.filter_append]; simp [kfl, Tm.k, hk2]
        clear HV HTA HK1 x3
        go_wp2
        go_roundw
        case rel => exact ⟨i + 1, by omega, by go_num, ⟨KA, cp, HBB.out, by have := HSZ.out; omega, by rw [HKF.out]; exact HRR.out, by rw [HKF.out]; exact HOW.out⟩⟩
        case measure => simp [intOf]; omega
    · obtain rfl : i = ks.length := by omega
      rw [List.take_length] at hR hown
      have hcm := (cell3 hR).2.1
      have hRlt := (Array.getElem?_eq_some_iff.1 hR).1
      have hkl : (kfl ks).length ≤ 100000 := Nat.le_trans (List.length_filter_le _ _) hk
      have hmk := makeB_any (kfl ks).length (by omega) wr
      obtain ⟨W1, hW1⟩ : ∃ W1, W1 = wr.alloc (.cells (Array.replicate (kfl ks).length (.string ⟨#[]⟩)) 9) := ⟨_, rfl⟩
      have hbw : Below wr.heap.size wr W1 := by rw [hW1]; exact (Below.refl _ _).alloc (Nat.le_refl _) _
      have hs1 : W1.heap.size = wr.heap.size + 1 := by rw [hW1]; simp
      have hB1 : W1.heap[wr.heap.size]? = some (.cells (Array.replicate (kfl ks).length (.string ⟨#[]⟩)) 9 (0, 0)) := by rw [hW1]; exact heap_alloc_new _ _
      have hR1 := (hbw.block V.heap.size hRlt).trans hR
      have hf := fun j => frozen_of_row _ _ j _ _ hR1
      have hc2 := (cell3 hR1).2.2
      have hres := heap_setCell_same _ _ 2 _ _ (.slice (some ⟨wr.heap.size, 0, none⟩) (kfl ks).length (kfl ks).length) hR1
      have hlt := hown.lt
      have hrow : TRow wr (fun b => V.heap.size + 1 ≤ b ∧ b < wr.heap.size ∧ (Value.slice KA (kfl ks).length cp).ownBlock = some b) (kfl ks) KA := hown.row (fun _ h => h.elim) (fun b hb => ⟨(hlt b hb).1, (hlt b hb).2, hb⟩)
      obtain ⟨gk, hgk0, hgk1, hgk2⟩ : ∃ gk, V.heap.size ≤ gk ∧ gk < wr.heap.size ∧ ∀ b, (Value.slice KA (kfl ks).length cp).ownBlock = some b → b = gk := by
        cases hob : (Value.slice KA (kfl ks).length cp).ownBlock with
        | none => exact ⟨V.heap.size, Nat.le_refl _, hRlt, fun b hb => by cases hb⟩
        | some g => exact ⟨g, by have := (hlt g hob).1; omega, (hlt g hob).2, fun b hb => by injection hb with hb; exact hb.symm⟩
      obtain ⟨W2, hW2⟩ : ∃ W2, W2 = W1.setCell ⟨V.heap.size, 2, none⟩ (.slice (some ⟨wr.heap.size, 0, none⟩) (kfl ks).length (kfl ks).length) := ⟨_, rfl⟩
      have hrow2 : TRow W2 (fun b => b = gk) (kfl ks) KA := trow_keep (fun b hb => hgk2 b hb.2.2) (fun b o hb => by rw [hW2]; exact (World.cell?_of_block (a := ⟨b, o, none⟩) (heap_setCell_other _ _ _ _ (by show b ≠ V.heap.size; have := hb.1; omega))).trans (hbw.cell (p := ⟨b, o, none⟩) hb.2.1)) hrow
      have hfin : ∃ E : Rd, E.w0 = V ∧ E.c = c ∧ E.ks = kfl ks ∧ E.R = V.heap.size ∧ (Tabs V → TabB V.heap.size V → c.length ≤ 10000 → E.ok) ∧ E.lies W2 := by
        refine ⟨⟨V, c, kfl ks, V.heap.size, wr.heap.size, gk, KA, cp⟩, rfl, rfl, rfl, rfl, fun h1 h2 h3 => ⟨h1, h2, h3, hkl, fun k hkm => ?_, Nat.le_refl _, by show V.heap.size ≤ wr.heap.size; omega, hgk0, by show V.heap.size ≠ wr.heap.size; omega, by show gk ≠ wr.heap.size; omega⟩, ⟨?_, ?_, hrow2, ?_, ?_⟩⟩
        · have h4 := (List.mem_filter.1 hkm).2
          obtain ⟨kk, s, n, q⟩ := k
          simp only [Tm.k, Bool.and_eq_true] at h4
          obtain ⟨h4, h5⟩ := h4
          have h4 := of_decide_eq_true h4
          subst h4
          exact ⟨rfl, vld_key h5, by have := vld_s h5; show s.length ≤ 5000; omega⟩
        · rw [hW2]; exact (hb.trans (hbw.mono (by omega))).setCell (p := ⟨V.heap.size, 2, none⟩) (Nat.le_refl _) _
        · rw [hW2]; exact hres
        · show gk < W2.heap.size; rw [hW2]; simp; omega
        · refine ⟨List.replicate (kfl ks).length [], by simp, ?_, fun i b k hb _ => .inl ?_⟩
          · show W2.heap[wr.heap.size]? = _
            rw [hW2, heap_setCell_other _ _ _ _ (by show wr.heap.size ≠ V.heap.size; omega), hB1]
            simp
          · rw [List.getElem?_replicate] at hb
            split at hb
            · injection hb with hb; exact hb.symm
            · cases hb
      have HFIN := Lib.hid hfin
      have HW2 := Lib.hid hW2
      have HW1 := Lib.hid hW1
      generalize (kfl ks).length = m at *
      have hmz : m ≤ 100000 := hkl
      clear hfin hrow2 hrow hres hgk2 hlt hB1 hR1 hbw hs1 hown HREL hb hsz hR hW2 hkl
      rw [← hW1] at hmk
      clear hW1
      go_wp2
      go_ret
      rw [← HW2.out]
      exact ⟨rfl, HFIN.out⟩
end Go.Proofs.YticofjbngfjjlaaGreatDoor.Cy

