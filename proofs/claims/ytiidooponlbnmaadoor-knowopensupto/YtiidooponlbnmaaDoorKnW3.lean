/- own: a term that shares nothing with the caller's. (Laid with NS=1.) -/
import Derived.Test.YtiidooponlbnmaaDoorKnApp
import Derived.Test.YtiidooponlbnmaaDoorTmInv
import Derived.Test.YtiidooponlbnmaaDoorTmV2
namespace Go.Proofs.YtiidooponlbnmaaDoor.Kn
open Go.RowKit
open Te Te.Tt
open Go (Lit DataW MemPlace keyOf maxLen)

def OwnSaid (x : Tm) : Prop := ∀ (S : Nat → Prop) (v : Value) (w : World), sz x ≤ 262144 → Rep w S x v → (∀ b, S b → b < w.heap.size) →
  Calls Tryd.prog 34 #[v] w fun e w' => ∃ v', e = .returned v' ∧ RepC w' (fun b => w.heap.size ≤ b ∧ b < w'.heap.size) x v' ∧ Below w.heap.size w w'
theorem QRow.below {w w' : World} {T : Nat → Prop} {q : List Tm} {A : Option Addr} (h : QRow w T q A) (hb : Below w.heap.size w w') (hT : ∀ b, T b → b < w.heap.size) : QRow w' T q A := by
  rcases h with h | ⟨g, o, ys, rfl, h1, h2⟩
  · exact .inl h
  · exact .inr ⟨g, o, ys, rfl, elsc_keep (fun _ h => h) (fun c p hc => hb.cell (p := ⟨c, p, none⟩) (hT c hc)) _ _ h1, fun j u hj => (hb.cell (p := ⟨g, o + j, none⟩) (World.block_lt_of_cell? _ _ (h2 j u hj))).trans (h2 j u hj)⟩
theorem QRow.mono {w : World} {T T' : Nat → Prop} {q : List Tm} {A : Option Addr} (hT : ∀ b, T b → T' b) (h : QRow w T q A) : QRow w T' q A := by
  rcases h with h | ⟨g, o, ys, rfl, h1, h2⟩
  · exact .inl h
  · exact .inr ⟨g, o, ys, rfl, elsc_keep hT (fun _ _ _ => rfl) _ _ h1, h2⟩
theorem QRow.new {w : World} {T : Nat → Prop} {x : Tm} {v0 v1 v2 v3 : Value} (h : RepC w T x (.agg #[v0, v1, v2, v3])) (hT : ∀ b, T b → b < w.heap.size) (t : TypeId) : QRow (w.alloc (.cells #[v0, v1, v2, v3] t)) T [x] (some ⟨w.heap.size, 0, none⟩) :=
  .inr ⟨w.heap.size, 0, [v0, v1, v2, v3], rfl, elsc_one (repc_alloc h _ (fun b hb => ⟨hT b hb, hb⟩)), fun j u hj => by
    rw [Nat.zero_add, cell_of_row _ _ _ _ _ _ (heap_alloc_new w _)]
    simpa using hj⟩
/-- What a round finds: the term under way, and how much of its row stands. -/
def InOwn (z : Nat) (k : Int) (s : List UInt8) (n : Int) (q : List Tm) (i : Nat) (W : World) : Prop :=
  W.heap[z + 1]? = some (.cells #[.int .i64 0, .string ⟨#[]⟩, .int .i64 0, .slice none 0 0] 33 (0, 0)) ∧ ∃ B c, W.heap[z]? = some (.cells #[.int .i64 k, .string ⟨⟨s⟩⟩, .int .i64 n, .slice B i c] 33 (0, 0)) ∧
    OwnC (fun b => z + 2 ≤ b ∧ b < W.heap.size ∧ (Value.slice B i c).ownBlock ≠ some b) W (z + 2) (.slice B i c) (q.take i) ∧ z + 2 ≤ W.heap.size

set_option maxHeartbeats 4000000 in
set_option maxRecDepth 100000 in
theorem own_of (k : Int) (s : List UInt8) (n : Int) (q : List Tm) (ih : ∀ x ∈ q, OwnSaid x) : OwnSaid (.mk k s n q) := by
  intro S v w hsz hr hS
  obtain ⟨A, ca, rfl, hn, hrow⟩ := rep_mk.1 hr
  obtain ⟨z, hz⟩ : ∃ z, z = w.heap.size := ⟨_, rfl⟩
  obtain ⟨m, hm⟩ : ∃ m, m = q.length := ⟨_, rfl⟩
  have hql := szs_len q
  rw [sz] at hsz
  have HM := Lib.hid hm
  have hm64 : m ≤ 262144 := by omega
  have hg0 := heap_alloc_new w (.cells #[.int .i64 k, .string ⟨⟨s⟩⟩, .int .i64 n, .slice none 0 0] 33)
  have hg1 := heap_alloc_new (w.alloc (.cells #[.int .i64 k, .string ⟨⟨s⟩⟩, .int .i64 n, .slice none 0 0] 33)) (.cells #[.int .i64 0, .string ⟨#[]⟩, .int .i64 0, .slice none 0 0] 33)
  have hg0' := (Te.heap_alloc_old (w.alloc (.cells #[.int .i64 k, .string ⟨⟨s⟩⟩, .int .i64 n, .slice none 0 0] 33)) (.cells #[.int .i64 0, .string ⟨#[]⟩, .int .i64 0, .slice none 0 0] 33) (i := w.heap.size) (by simp)).trans hg0
  have hb0 : Below w.heap.size w ((w.alloc (.cells #[.int .i64 k, .string ⟨⟨s⟩⟩, .int .i64 n, .slice none 0 0] 33)).alloc (.cells #[.int .i64 0, .string ⟨#[]⟩, .int .i64 0, .slice none 0 0] 33)) := ((Below.refl _ _).alloc (Nat.le_refl _) _).alloc (by simp) _
  obtain ⟨W0, hW0⟩ : ∃ W0, W0 = (w.alloc (.cells #[.int .i64 k, .string ⟨⟨s⟩⟩, .int .i64 n, .slice none 0 0] 33)).alloc (.cells #[.int .i64 0, .string ⟨#[]⟩, .int .i64 0, .slice none 0 0] 33) := ⟨_, rfl⟩
  have hs0 : W0.heap.size = z + 2 := by rw [hW0, hz]; simp
  have hs1 : (w.alloc (.cells #[.int .i64 k, .string ⟨⟨s⟩⟩, .int .i64 n, .slice none 0 0] 33)).heap.size = z + 1 := by rw [hz]; simp
  rw [← hW0] at hb0
  rw [hs1, ← hW0] at hg1
  rw [← hW0, ← hz] at hg0'
  have HZ := Lib.hid hz
  have HW0 := Lib.hid hW0
  have HB0 := Lib.hid hb0
  have HS0 := Lib.hid hs0
  have HROW := Lib.hid hrow
  have HS := Lib.hid hS
  have HN := Lib.hid hn
  have HIH := Lib.hid ih
  have HSZ := Lib.hid hsz
  have HI0 : Hid (InOwn z k s n q 0 W0) := ⟨hg1, none, 0, hg0', OwnC.nil _ _ _, by rw [hs0]; omega⟩
  rw [← hm]
  clear hr hz hm hg0 hg1 hg0' hb0 hW0 hs0 hs1 hrow hS hn ih hsz hql
  go_enter Tryd.func34, Tryd.ntmps34
  go_wp2_with fail
  rw [← HW0.out, ← HZ.out]
  go_loopw [11] (fun iv wr => ∃ i : Nat, i ≤ m ∧ iv = .int .i64 (i : Nat) ∧ Hid (Below w.heap.size w wr) ∧ Hid (InOwn z k s n q i wr)) (fun iv _ => m - (intOf iv).toNat)
  case atStart => exact ⟨0, by omega, rfl, HB0, HI0⟩
  case round =>
    obtain ⟨i, hi, rfl, HB, HI⟩ := hrel
    by_cases hlt : i < m
    · have hil : (i : Int) < (m : Int) := by omega
      have hlt1 : i < q.length := by have := HM.out; omega
      obtain ⟨b, o, k', s', n', p, C, cb, rfl, hSb, hx, c0, c1, c2, c3, hrep⟩ := trow_get HROW.out HB.out HS.out hlt1
      have hmem : q[i] ∈ q := List.getElem_mem hlt1
      have hszm := szs_mem q _ hmem
      have HW := Lib.hid (HIH.out _ hmem)
      rw [hx] at HW hszm
      have HX := Lib.hid hx
      have HREP := Lib.hid hrep
      obtain ⟨hgz1, B, c, hgz, hown, hz2⟩ := HI.out
      obtain ⟨y, hy⟩ : ∃ y, y = wr.heap.size := ⟨_, rfl⟩
      have HY := Lib.hid hy
      have HGZ1 := Lib.hid hgz1
      have HGZ := Lib.hid hgz
      have HO := Lib.hid hown
      have HZ2 := Lib.hid hz2
      have HSM := Lib.hid hszm
      have HHX := Lib.hid hmem
      clear hx hmem hrep hgz1 hgz hown hz2 hszm hy HI
      go_wp2_with fail
      rw [← HY.out]
      -- REGION
      have hsz1 : (wr.alloc (.cells #[.int .i64 k', .string ⟨⟨s'⟩⟩, .int .i64 n', .slice C p.length cb] 33)).heap.size = y + 1 := by rw [HY.out]; simp
      have HBX : Hid (Below wr.heap.size wr (wr.alloc (.cells #[.int .i64 k', .string ⟨⟨s'⟩⟩, .int .i64 n', .slice C p.length cb] 33))) := (Below.refl _ _).alloc (Nat.le_refl _) _
      have HGY : Hid ((wr.alloc (.cells #[.int .i64 k', .string ⟨⟨s'⟩⟩, .int .i64 n', .slice C p.length cb] 33)).drew.heap[y]? = some (.cells #[.int .i64 k', .string ⟨⟨s'⟩⟩, .int .i64 n', .slice C p.length cb] 33 (0, 0))) := by rw [Hid, HY.out]; exact heap_alloc_new _ _
      have HSX : Hid (y + 1 ≤ (wr.alloc (.cells #[.int .i64 k', .string ⟨⟨s'⟩⟩, .int .i64 n', .slice C p.length cb] 33)).drew.heap.size) := Nat.le_of_eq hsz1.symm
      have HOX : Hid (OwnC (fun b => z + 2 ≤ b ∧ b < y + 1 ∧ (Value.slice B i c).ownBlock ≠ some b) (wr.alloc (.cells #[.int .i64 k', .string ⟨⟨s'⟩⟩, .int .i64 n', .slice C p.length cb] 33)).drew (z + 2) (.slice B i c) (q.take i)) :=
        (HO.out.below (HBX.out.drew) (fun b hb => hb.2.1)).keep (fun _ _ => rfl) (fun b hb => ⟨hb.1, by have := HY.out; omega, hb.2.2⟩) (fun _ _ => rfl)
      have HTK : Hid (q.take (i + 1) = q.take i ++ [(.mk k' s' n' p)]) := by rw [Hid, List.take_succ_eq_append_getElem hlt1, HX.out]
      have HZ2Y : Hid (z + 2 ≤ y) := by rw [Hid, HY.out]; exact HZ2.out
      clear hsz1 c0 c1 c2 c3
      refine wp_region_inv (by kernel_rfl) (fun L act W => ∃ t15 t16 t17 t18 t19 t20 t21, act = { tmps := #[.agg #[.int .i64 k, .string ⟨⟨s⟩⟩, .int .i64 n, .slice (some ⟨b, o, none⟩) m ca], .pointer (some ⟨z, 0, none⟩), .pointer (some ⟨z + 1, 0, none⟩), .slice (some ⟨b, o, none⟩) m ca, undef, .pointer (some ⟨y, 0, none⟩), .pointer (some ⟨z, 3, none⟩), .slice (some ⟨b, o, none⟩) m ca, .pointer (some ⟨z, 3, none⟩), .slice (some ⟨b, o, none⟩) m ca, .int .i64 (m : Nat), .int .i64 (i : Nat), .bool true, .pointer (some ⟨b, o + i * 4, none⟩), .agg #[.int .i64 k', .string ⟨⟨s'⟩⟩, .int .i64 n', .slice C p.length cb], t15, t16, t17, t18, t19, t20, t21, u22, undef], defers := [] } ∧ (L 0 = true → (.pointer (some ⟨z, 3, none⟩) : Value) = t15) ∧ (L 1 = true → (.slice B i c : Value) = t16) ∧ (L 2 = true → (.agg #[.int .i64 k', .string ⟨⟨s'⟩⟩, .int .i64 n', .slice C p.length cb] : Value) = t17) ∧ (L 6 = true → (.pointer (some ⟨z, 3, none⟩) : Value) = t21) ∧ (Below w.heap.size w W) ∧ (W.heap[z + 1]? = some (.cells #[.int .i64 0, .string ⟨#[]⟩, .int .i64 0, .slice none 0 0] 33 (0, 0))) ∧ (L 3 = false → W.heap[y]? = some (.cells #[.int .i64 k', .string ⟨⟨s'⟩⟩, .int .i64 n', .slice C p.length cb] 33 (0, 0))) ∧ (y + 1 ≤ W.heap.size) ∧ (L 7 = false → W.heap[z]? = some (.cells #[.int .i64 k, .string ⟨⟨s⟩⟩, .int .i64 n, .slice B i c] 33 (0, 0))) ∧ (L 5 = false → OwnC (fun b => z + 2 ≤ b ∧ b < y + 1 ∧ (Value.slice B i c).ownBlock ≠ some b) W (z + 2) (.slice B i c) (q.take i)) ∧ (L 3 = true → L 4 = false → ∃ m1, y + 1 ≤ m1 ∧ m1 ≤ W.heap.size ∧ RepC W (fun b => y + 1 ≤ b ∧ b < m1) (.mk k' s' n' p) t18) ∧ (L 4 = true → L 5 = false → ∃ h m1, (.slice (some ⟨h, 0, none⟩) 1 1 : Value) = t19 ∧ y + 1 ≤ m1 ∧ m1 ≤ W.heap.size ∧ QRow W (fun b => (z + 2 ≤ b ∧ b < y + 1 ∧ (Value.slice B i c).ownBlock ≠ some b) ∨ (y + 1 ≤ b ∧ b < m1)) [(.mk k' s' n' p)] (some ⟨h, 0, none⟩)) ∧ (L 5 = true → ∃ B2 c2 m2, (.slice B2 (i + 1) c2 : Value) = t20 ∧ m2 ≤ W.heap.size ∧ OwnC (fun b => z + 2 ≤ b ∧ b < m2 ∧ t20.ownBlock ≠ some b) W (z + 2) t20 (q.take (i + 1))) ∧ (L 7 = true → ∃ B2 c2, (.slice B2 (i + 1) c2 : Value) = t20 ∧ W.heap[z]? = some (.cells #[.int .i64 k, .string ⟨⟨s⟩⟩, .int .i64 n, t20] 33 (0, 0))) ∧ (L 3 = true → L 2 = true) ∧ (L 4 = true → L 3 = true) ∧ (L 5 = true → L 4 = true ∧ L 1 = true) ∧ (L 7 = true → L 5 = true ∧ L 1 = true)) (by kernel_rfl) ?_ ?_ ?_
      · exact ⟨_, _, _, _, _, _, _, rfl, nofun, nofun, nofun, nofun, (HB.out.trans (HBX.out.mono HB.out.size)).drew, (HBX.out.block (z + 1) (by have := HZ2.out; omega)).trans HGZ1.out, fun _ => HGY.out, HSX.out, fun _ => (HBX.out.block z (by have := HZ2.out; omega)).trans HGZ.out, fun _ => HOX.out, nofun, nofun, nofun, nofun, nofun, nofun, nofun, nofun⟩
      · rintro L _ W i oo ⟨t15, t16, t17, t18, t19, t20, t21, rfl, f0, f1, f2, f6, qb, q1, qy, qm, qc, qo, g3, g4, g5, g7, r3, r4, r5, r7⟩ ho hL hd
        rcases i with _ | _ | _ | _ | _ | _ | _ | _ | i
        · obtain rfl := Option.some.inj ho
          refine wpOp_step rfl fun K hK => ?_
          have F0X := Lib.hid f0
          have F1X := Lib.hid f1
          have F2X := Lib.hid f2
          have F6X := Lib.hid f6
          have QBX := Lib.hid qb
          have Q1X := Lib.hid q1
          have QYX := Lib.hid qy
          have QMX := Lib.hid qm
          have QCX := Lib.hid qc
          have QOX := Lib.hid qo
          have G3X := Lib.hid g3
          have G4X := Lib.hid g4
          have G5X := Lib.hid g5
          have G7X := Lib.hid g7
          have R3X := Lib.hid r3
          have R4X := Lib.hid r4
          have R5X := Lib.hid r5
          have R7X := Lib.hid r7
          clear f0 f1 f2 f6 qb q1 qy qm qc qo g3 g4 g5 g7 r3 r4 r5 r7 hd ho hL
          go_simp
          refine hK _ _ ?_
          exact ⟨_, _, _, _, _, _, _, rfl, fun _ => rfl, F1X.out, F2X.out, F6X.out, QBX.out, Q1X.out, QYX.out, QMX.out, QCX.out, QOX.out, G3X.out, G4X.out, G5X.out, G7X.out, R3X.out, R4X.out, R5X.out, R7X.out⟩
        · obtain rfl := Option.some.inj ho
          have l0 := hd ⟨0, .data⟩ (by simp) rfl
          obtain rfl := f0 l0
          have h7 : L 7 = false := by cases hq : L 7 with | false => rfl | true => (have := r7 hq; simp [hL] at this)
          have hcc := (cell4 (qc h7)).2.2.2
          clear h7
          refine wpOp_step rfl fun K hK => ?_
          have F0X := Lib.hid f0
          have F1X := Lib.hid f1
          have F2X := Lib.hid f2
          have F6X := Lib.hid f6
          have QBX := Lib.hid qb
          have Q1X := Lib.hid q1
          have QYX := Lib.hid qy
          have QMX := Lib.hid qm
          have QCX := Lib.hid qc
          have QOX := Lib.hid qo
          have G3X := Lib.hid g3
          have G4X := Lib.hid g4
          have G5X := Lib.hid g5
          have G7X := Lib.hid g7
          have R3X := Lib.hid r3
          have R4X := Lib.hid r4
          have R5X := Lib.hid r5
          have R7X := Lib.hid r7
          clear f0 f1 f2 f6 qb q1 qy qm qc qo g3 g4 g5 g7 r3 r4 r5 r7 hd ho hL l0
          go_simp
          refine hK _ _ ?_
          exact ⟨_, _, _, _, _, _, _, rfl, F0X.out, fun _ => rfl, F2X.out, F6X.out, QBX.out, Q1X.out, QYX.out, QMX.out, QCX.out, QOX.out, G3X.out, G4X.out, G5X.out, G7X.out, R3X.out, R4X.out, fun h => ⟨(R5X.out h).1, rfl⟩, fun h => ⟨(R7X.out h).1, rfl⟩⟩
        · obtain rfl := Option.some.inj ho
          have h3 : L 3 = false := by cases hq : L 3 with | false => rfl | true => (have := r3 hq; simp [hL] at this)
          obtain ⟨x0, x1, x2, x3⟩ := cell4 (qy h3)
          clear h3
          refine wpOp_step rfl fun K hK => ?_
          have F0X := Lib.hid f0
          have F1X := Lib.hid f1
          have F2X := Lib.hid f2
          have F6X := Lib.hid f6
          have QBX := Lib.hid qb
          have Q1X := Lib.hid q1
          have QYX := Lib.hid qy
          have QMX := Lib.hid qm
          have QCX := Lib.hid qc
          have QOX := Lib.hid qo
          have G3X := Lib.hid g3
          have G4X := Lib.hid g4
          have G5X := Lib.hid g5
          have G7X := Lib.hid g7
          have R3X := Lib.hid r3
          have R4X := Lib.hid r4
          have R5X := Lib.hid r5
          have R7X := Lib.hid r7
          clear f0 f1 f2 f6 qb q1 qy qm qc qo g3 g4 g5 g7 r3 r4 r5 r7 hd ho hL
          go_simp
          refine hK _ _ ?_
          exact ⟨_, _, _, _, _, _, _, rfl, F0X.out, F1X.out, fun _ => rfl, F6X.out, QBX.out, Q1X.out, QYX.out, QMX.out, QCX.out, QOX.out, G3X.out, G4X.out, G5X.out, G7X.out, fun _ => rfl, R4X.out, R5X.out, R7X.out⟩
        · obtain rfl := Option.some.inj ho
          have l2 := hd ⟨2, .data⟩ (by simp) rfl
          obtain rfl := f2 l2
          have h4 : L 4 = false := by cases hq : L 4 with | false => rfl | true => (have := r4 hq; simp [hL] at this)
          have h5 : L 5 = false := by cases hq : L 5 with | false => rfl | true => (have := (fun h => (r5 h).1) hq; simp [h4] at this)
          have h7 : L 7 = false := by cases hq : L 7 with | false => rfl | true => (have := (fun h => (r7 h).1) hq; simp [h5] at this)
          have L2X := Lib.hid l2
          have H4X := Lib.hid h4
          clear h4 h5 h7
          have HC := Lib.hid (HW.out S _ W (by have := HSM.out; have := HSZ.out; omega) (rep_keep (fun _ h => h) (fun c o hc => (qb.cell (p := ⟨c, o, none⟩) (HS.out c hc)).trans (HB.out.cell (p := ⟨c, o, none⟩) (HS.out c hc)).symm) _ _ HREP.out) (fun b hb => Nat.lt_of_lt_of_le (HS.out b hb) qb.size))
          refine wpOp_step rfl fun K hK => ?_
          have F0X := Lib.hid f0
          have F1X := Lib.hid f1
          have F2X := Lib.hid f2
          have F6X := Lib.hid f6
          have QBX := Lib.hid qb
          have Q1X := Lib.hid q1
          have QYX := Lib.hid qy
          have QMX := Lib.hid qm
          have QCX := Lib.hid qc
          have QOX := Lib.hid qo
          have G3X := Lib.hid g3
          have G4X := Lib.hid g4
          have G5X := Lib.hid g5
          have G7X := Lib.hid g7
          have R3X := Lib.hid r3
          have R4X := Lib.hid r4
          have R5X := Lib.hid r5
          have R7X := Lib.hid r7
          clear f0 f1 f2 f6 qb q1 qy qm qc qo g3 g4 g5 g7 r3 r4 r5 r7 hd ho hL l2
          go_simp
          refine HC.out.mono ?_
          rintro _ w1 ⟨v5, rfl, hr5, hb1⟩
          refine hK _ _ ?_
          exact ⟨_, _, _, _, _, _, _, rfl, F0X.out, F1X.out, F2X.out, F6X.out, QBX.out.trans (hb1.mono QBX.out.size), (hb1.block (z + 1) (Array.getElem?_eq_some_iff.1 Q1X.out).1).trans Q1X.out, nofun, Nat.le_trans QMX.out hb1.size, fun h => (hb1.block z (Array.getElem?_eq_some_iff.1 (QCX.out h)).1).trans (QCX.out h), fun h => (QOX.out h).below hb1 (fun b hb => Nat.lt_of_lt_of_le hb.2.1 QMX.out), fun _ _ => ⟨_, Nat.le_trans QMX.out hb1.size, Nat.le_refl _, repc_keep (fun b hb => ⟨Nat.le_trans QMX.out hb.1, hb.2⟩) (fun _ _ _ => rfl) _ _ hr5⟩, fun h => absurd (show L 4 = true from h) (by simp [H4X.out]), fun h => (by obtain ⟨B2, c2, m2, e1, e2, e3⟩ := G5X.out h; exact ⟨B2, c2, m2, e1, Nat.le_trans e2 hb1.size, e3.below hb1 (fun b hb => Nat.lt_of_lt_of_le hb.2.1 e2)⟩), fun h => (by obtain ⟨B2, c2, e0, e⟩ := G7X.out h; exact ⟨B2, c2, e0, (hb1.block z (Array.getElem?_eq_some_iff.1 e).1).trans e⟩), fun _ => L2X.out, fun _ => rfl, R5X.out, R7X.out⟩
        · obtain rfl := Option.some.inj ho
          have l3 := hd ⟨3, .data⟩ (by simp) rfl
          obtain ⟨m1, e1, e2, hr⟩ := g3 l3 hL
          obtain ⟨A1, c1', rfl, hn1, hrow1⟩ := repc_mk.1 hr
          have HR := Lib.hid (And.intro e1 (And.intro e2 hr))
          have L3X := Lib.hid l3
          clear e1 e2 hr hn1 hrow1
          refine wpOp_step rfl fun K hK => ?_
          have F0X := Lib.hid f0
          have F1X := Lib.hid f1
          have F2X := Lib.hid f2
          have F6X := Lib.hid f6
          have QBX := Lib.hid qb
          have Q1X := Lib.hid q1
          have QYX := Lib.hid qy
          have QMX := Lib.hid qm
          have QCX := Lib.hid qc
          have QOX := Lib.hid qo
          have G3X := Lib.hid g3
          have G4X := Lib.hid g4
          have G5X := Lib.hid g5
          have G7X := Lib.hid g7
          have R3X := Lib.hid r3
          have R4X := Lib.hid r4
          have R5X := Lib.hid r5
          have R7X := Lib.hid r7
          clear f0 f1 f2 f6 qb q1 qy qm qc qo g3 g4 g5 g7 r3 r4 r5 r7 hd ho hL l3
          go_simp
          refine hK _ _ ?_
          exact ⟨_, _, _, _, _, _, _, rfl, F0X.out, F1X.out, F2X.out, F6X.out, QBX.out.trans (((Below.refl W.heap.size W).alloc (Nat.le_refl _) _).mono QBX.out.size), (((Below.refl W.heap.size W).alloc (Nat.le_refl _) _).block (z + 1) (Array.getElem?_eq_some_iff.1 Q1X.out).1).trans Q1X.out, fun h => (((Below.refl W.heap.size W).alloc (Nat.le_refl _) _).block y (Array.getElem?_eq_some_iff.1 (QYX.out h)).1).trans (QYX.out h), Nat.le_trans QMX.out ((Below.refl W.heap.size W).alloc (Nat.le_refl _) _).size, fun h => (((Below.refl W.heap.size W).alloc (Nat.le_refl _) _).block z (Array.getElem?_eq_some_iff.1 (QCX.out h)).1).trans (QCX.out h), fun h => (QOX.out h).below ((Below.refl W.heap.size W).alloc (Nat.le_refl _) _) (fun b hb => Nat.lt_of_lt_of_le hb.2.1 QMX.out), nofun, fun _ _ => ⟨_, m1, rfl, HR.out.1, Nat.le_trans HR.out.2.1 (by simp), QRow.mono (fun b hb => .inr hb) (QRow.new HR.out.2.2 (fun b hb => Nat.lt_of_lt_of_le hb.2 HR.out.2.1) _)⟩, fun h => (by obtain ⟨B2, c2, m2, e1, e2, e3⟩ := G5X.out h; exact ⟨B2, c2, m2, e1, Nat.le_trans e2 ((Below.refl W.heap.size W).alloc (Nat.le_refl _) _).size, e3.below ((Below.refl W.heap.size W).alloc (Nat.le_refl _) _) (fun b hb => Nat.lt_of_lt_of_le hb.2.1 e2)⟩), fun h => (by obtain ⟨B2, c2, e0, e⟩ := G7X.out h; exact ⟨B2, c2, e0, (((Below.refl W.heap.size W).alloc (Nat.le_refl _) _).block z (Array.getElem?_eq_some_iff.1 e).1).trans e⟩), R3X.out, fun _ => L3X.out, fun h => ⟨rfl, (R5X.out h).2⟩, R7X.out⟩
        · obtain rfl := Option.some.inj ho
          have l1 := hd ⟨1, .data⟩ (by simp) rfl
          have l4 := hd ⟨4, .data⟩ (by simp) rfl
          obtain rfl := f1 l1
          obtain ⟨h, m1, rfl, e1, e2, hq⟩ := g4 l4 hL
          have hown := qo hL
          have h7 : L 7 = false := by cases hq : L 7 with | false => rfl | true => (have := r7 hq; simp [hL] at this)
          have hz2 : z + 2 ≤ y := HZ2Y.out
          have hvo : ∀ b, y + 1 ≤ b → (Value.slice B i c).ownBlock ≠ some b := fun b hb e => by have := (HO.out.lt _ e).2; have := HY.out; omega
          obtain ⟨v', w2, hr, ho3, hG⟩ := run_appQ W (z + 2) (.slice B i c) (q.take i) [(.mk k' s' n' p)] (some ⟨h, 0, none⟩) 1 (fun b => (z + 2 ≤ b ∧ b < y + 1 ∧ (Value.slice B i c).ownBlock ≠ some b) ∨ (y + 1 ≤ b ∧ b < m1)) (hown.keep (fun _ _ => rfl) (fun b hb => .inl hb) (fun _ _ => rfl)) hq (fun b hb => by rcases hb with hb | hb; exact ⟨by omega, hb.2.2⟩; exact ⟨by omega, hvo b hb.1⟩) (by rw [List.length_take]; simp; have := HM.out; omega) (by omega)
          have hbl : Below (z + 2) W w2 := (Below.refl _ _).grown hG.grown (by omega) (fun k hk => (hown.lt k hk).1)
          rw [← HTK.out] at ho3
          obtain ⟨A2, c2', hv2⟩ := ho3.form
          rw [List.length_take, Nat.min_eq_left (by have := HM.out; omega)] at hv2
          subst hv2
          have hT2 : OwnC (fun b => z + 2 ≤ b ∧ b < W.heap.size ∧ (Value.slice A2 (i + 1) c2').ownBlock ≠ some b) w2 (z + 2) (.slice A2 (i + 1) c2') (q.take (i + 1)) := ho3.keep (fun _ _ => rfl) (fun b hb => by
              have hb2 : z + 2 ≤ b ∧ b < W.heap.size ∧ (Value.slice B i c).ownBlock ≠ some b := by rcases hb with hb | hb; exact ⟨hb.1, by omega, hb.2.2⟩; exact ⟨by omega, by omega, hvo b hb.1⟩
              refine ⟨hb2.1, hb2.2.1, fun e => ?_⟩
              rcases hG.lies with h' | h'
              · exact hb2.2.2 (h'.symm.trans e)
              · have := h' b e; omega) (fun _ _ => rfl)
          have HT2 := Lib.hid hT2
          have HBL := Lib.hid hbl
          have HQC := Lib.hid (qc h7)
          have HSZ2 := Lib.hid hG.grown.size
          have L41 := Lib.hid (And.intro l4 l1)
          have H7X := Lib.hid h7
          have HWZ := Lib.hid (show w.heap.size ≤ z + 2 by have := HZ.out; omega)
          clear hown hz2 hvo ho3 hG hbl hT2 h7 hq e1 e2
          refine wpOp_step rfl fun K hK => ?_
          refine op_append_run _ rfl (.tmp 16) (.tmp 19) 22 22 rfl _ _ rfl rfl hr ?_
          have F0X := Lib.hid f0
          have F1X := Lib.hid f1
          have F2X := Lib.hid f2
          have F6X := Lib.hid f6
          have QBX := Lib.hid qb
          have Q1X := Lib.hid q1
          have QYX := Lib.hid qy
          have QMX := Lib.hid qm
          have QCX := Lib.hid qc
          have QOX := Lib.hid qo
          have G3X := Lib.hid g3
          have G4X := Lib.hid g4
          have G5X := Lib.hid g5
          have G7X := Lib.hid g7
          have R3X := Lib.hid r3
          have R4X := Lib.hid r4
          have R5X := Lib.hid r5
          have R7X := Lib.hid r7
          clear f0 f1 f2 f6 qb q1 qy qm qc qo g3 g4 g5 g7 r3 r4 r5 r7 hd ho hL l1 l4
          refine hK _ _ ?_
          exact ⟨_, _, _, _, _, _, _, rfl, F0X.out, F1X.out, F2X.out, F6X.out, QBX.out.trans (HBL.out.mono HWZ.out), (HBL.out.block (z + 1) (by omega)).trans Q1X.out, fun h => absurd (show L 3 = false from h) (by have := R4X.out L41.out.1; simp [this]), Nat.le_trans QMX.out HSZ2.out, fun _ => (HBL.out.block z (by omega)).trans HQC.out, nofun, fun _ h => absurd (show L 4 = false from h) (by simp [L41.out.1]), nofun, fun _ => ⟨_, _, _, rfl, HSZ2.out, HT2.out⟩, fun h => absurd (show L 7 = true from h) (by simp [H7X.out]), R3X.out, R4X.out, fun _ => L41.out, fun h => ⟨rfl, (R7X.out h).2⟩⟩
        · obtain rfl := Option.some.inj ho
          refine wpOp_step rfl fun K hK => ?_
          have F0X := Lib.hid f0
          have F1X := Lib.hid f1
          have F2X := Lib.hid f2
          have F6X := Lib.hid f6
          have QBX := Lib.hid qb
          have Q1X := Lib.hid q1
          have QYX := Lib.hid qy
          have QMX := Lib.hid qm
          have QCX := Lib.hid qc
          have QOX := Lib.hid qo
          have G3X := Lib.hid g3
          have G4X := Lib.hid g4
          have G5X := Lib.hid g5
          have G7X := Lib.hid g7
          have R3X := Lib.hid r3
          have R4X := Lib.hid r4
          have R5X := Lib.hid r5
          have R7X := Lib.hid r7
          clear f0 f1 f2 f6 qb q1 qy qm qc qo g3 g4 g5 g7 r3 r4 r5 r7 hd ho hL
          go_simp
          refine hK _ _ ?_
          exact ⟨_, _, _, _, _, _, _, rfl, F0X.out, F1X.out, F2X.out, fun _ => rfl, QBX.out, Q1X.out, QYX.out, QMX.out, QCX.out, QOX.out, G3X.out, G4X.out, G5X.out, G7X.out, R3X.out, R4X.out, R5X.out, R7X.out⟩
        · obtain rfl := Option.some.inj ho
          have l6 := hd ⟨6, .data⟩ (by simp) rfl
          have l5 := hd ⟨5, .data⟩ (by simp) rfl
          have l1 := hd ⟨1, .phase⟩ (by simp) rfl
          obtain rfl := f6 l6
          obtain rfl := f1 l1
          obtain ⟨B2, c2, m2, rfl, e2, ho5⟩ := g5 l5
          have hcz := qc hL
          obtain ⟨x0, x1, x2, x3⟩ := cell4 hcz
          have hf := fun j => frozen_of_row _ _ j _ _ hcz
          have hs1 := set1L hcz (.slice B2 (i + 1) c2)
          have HCZ := Lib.hid hcz
          have HO5 := Lib.hid (And.intro e2 ho5)
          have LL := Lib.hid (And.intro l5 l1)
          clear hcz ho5 e2
          refine wpOp_step rfl fun K hK => ?_
          have F0X := Lib.hid f0
          have F1X := Lib.hid f1
          have F2X := Lib.hid f2
          have F6X := Lib.hid f6
          have QBX := Lib.hid qb
          have Q1X := Lib.hid q1
          have QYX := Lib.hid qy
          have QMX := Lib.hid qm
          have QCX := Lib.hid qc
          have QOX := Lib.hid qo
          have G3X := Lib.hid g3
          have G4X := Lib.hid g4
          have G5X := Lib.hid g5
          have G7X := Lib.hid g7
          have R3X := Lib.hid r3
          have R4X := Lib.hid r4
          have R5X := Lib.hid r5
          have R7X := Lib.hid r7
          clear f0 f1 f2 f6 qb q1 qy qm qc qo g3 g4 g5 g7 r3 r4 r5 r7 hd ho hL l6 l5 l1
          go_simp
          refine hK _ _ ?_
          exact ⟨_, _, _, _, _, _, _, rfl, F0X.out, F1X.out, F2X.out, F6X.out, below_setRow4 QBX.out (by have := HZ.out; omega) _, (setRow_other _ _ _ _ (by omega)).trans Q1X.out, fun h => absurd (show L 3 = false from h) (by have := R4X.out (R5X.out LL.out.1).1; simp [this]), by rw [setRow_size]; exact QMX.out, nofun, fun h => absurd (show L 5 = false from h) (by simp [LL.out.1]), fun _ h => absurd (show L 4 = false from h) (by have := (R5X.out LL.out.1).1; simp [this]), fun _ h => absurd (show L 5 = false from h) (by simp [LL.out.1]), fun _ => ⟨_, _, m2, rfl, by rw [setRow_size]; exact HO5.out.1, HO5.out.2.keep (fun k hk => setRow_other _ _ _ _ (fun e => by have := (HO5.out.2.lt k hk).1; omega)) (fun _ h => h) (fun b hb => setRow_other _ _ _ _ (fun e => by have := hb.1; omega))⟩, fun _ => ⟨_, _, rfl, setRow_heap _ _ _ _ _ _ HCZ.out⟩, R3X.out, R4X.out, R5X.out, fun _ => LL.out⟩
        · simp at ho
      · rintro L _ W ⟨t15, t16, t17, t18, t19, t20, t21, rfl, f0, f1, f2, f6, qb, q1, qy, qm, qc, qo, g3, g4, g5, g7, r3, r4, r5, r7⟩ hall
        obtain rfl := f0 (hall 0 (by decide))
        obtain rfl := f1 (hall 1 (by decide))
        obtain rfl := f2 (hall 2 (by decide))
        obtain rfl := f6 (hall 6 (by decide))
        have h7 := hall 7 (by decide)
        have h5 := hall 5 (by decide)
        obtain ⟨B5, k5, e5, hg⟩ := g7 h7
        obtain ⟨B6, k6, m6, rfl, hm6, ho⟩ := g5 h5
        injection e5 with e5 _ e6
        subst e5 e6
        have HI2 : Hid (InOwn z k s n q (i + 1) W) := ⟨q1, _, _, hg, ho.keep (fun _ _ => rfl) (fun b hb => ⟨hb.1, by omega, hb.2.2⟩) (fun _ _ => rfl), by have := HZ2Y.out; omega⟩
        have HB2 := Lib.hid qb
        clear qb q1 qy qm qc qo g3 g4 g5 g7 r3 r4 r5 r7 hg ho hall h7 h5 hm6
        go_wp2
        go_roundw
        case rel => exact ⟨i + 1, by omega, by go_num, HB2, HI2⟩
        case measure => simp [intOf]; omega
    · obtain rfl : i = m := by omega
      obtain ⟨hgz1, B, c, hgz, hown, hz2⟩ := HI.out
      have hie : q.take i = q := List.take_of_length_le (by have := HM.out; omega)
      rw [hie] at hown
      obtain ⟨z0, z1, z2, z3⟩ := cell4 hgz
      obtain ⟨y0, y1, y2, y3⟩ := cell4 hgz1
      have f0 := fun k => frozen_of_row _ _ k _ _ hgz1
      have hrow := hown.row (S' := fun b => z + 2 ≤ b ∧ b < wr.heap.size) (fun b h => ⟨h.1, h.2.1⟩) (fun b h => hown.lt b h)
      have HGZ1 := Lib.hid hgz1
      have HRW := Lib.hid hrow
      have hcp : i ≤ c := by
        obtain ⟨A5, c5, e5, h5⟩ := own_cap hown
        injection e5 with _ _ e5
        subst e5
        have := HM.out
        omega
      have HCP := Lib.hid hcp
      clear hown hgz hgz1 hrow HI hz2 hie hcp
      go_wp2
      rw [set4 HGZ1.out]
      have hb := below_setRow4 HB.out (show w.heap.size ≤ z + 1 by rw [HZ.out]; omega) #[.int .i64 k, .string ⟨⟨s⟩⟩, .int .i64 n, .slice B i c]
      refine bodyPost_ret (results_term Tryd.results34 _ _ (z + 1) _ _ _ _ _ _ rfl (setRow_heap _ _ _ _ _ _ HGZ1.out)) rfl ⟨_, rfl, repc_mk.2 ⟨B, c, by rw [← HM.out], ⟨HN.out, by have := HM.out; have := HCP.out; omega⟩, ?_⟩, hb⟩
      exact trowc_keep (fun b hb => by rw [setRow_size]; exact ⟨by have := HZ.out; omega, hb.2⟩) (fun b o hb => cell_setRow_other _ _ _ _ (by show b ≠ z + 1; omega)) HRW.out
theorem own_any : ∀ x, OwnSaid x := Tm.ind (fun k s n q ih => own_of k s n q ih)
end Go.Proofs.YtiidooponlbnmaaDoor.Kn
