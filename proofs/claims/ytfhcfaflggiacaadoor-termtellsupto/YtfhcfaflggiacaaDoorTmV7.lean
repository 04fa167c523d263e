/- The document's Row. -/
import Derived.Test.YtfhcfaflggiacaaDoorTmV6
namespace Go.Proofs.YtfhcfaflggiacaaDoor
open Go.RowKit
open Tt

theorem run_appT (W : World) (base B : Nat) (v : Value) (l : List Tm) (y : Tm) (v0 v1 v2 v3 : Value) (S : Nat → Prop) (hB : W.heap[B]? = some (.cells #[v0, v1, v2, v3] 25 (0, 0)))
    (hown : OwnT S W base v l) (hy : Rep W S y (.agg #[v0, v1, v2, v3])) (hS : ∀ b, S b → b < base) (hl : l.length ≤ 1000000) (hbase : base ≤ W.heap.size) :
    ∃ v' w', (Builtin.append_ #[23, 23] 23 #[v, .slice (some ⟨B, 0, none⟩) 1 1]).run Tryd.prog W = .ok v' w' ∧ OwnT S w' base v' (l ++ [y]) ∧ Below base W w' ∧
      (∀ k, k < W.heap.size → v.ownBlock ≠ some k → w'.heap[k]? = W.heap[k]?) ∧ (∀ k, v'.ownBlock = some k → v.ownBlock = some k ∨ W.heap.size ≤ k) ∧ W.heap.size ≤ w'.heap.size := by
  obtain ⟨i, hi, he⟩ := Option.map_eq_some_iff.1 infoT
  simp only [Prod.mk.injEq] at he
  obtain ⟨hz, hsz, hb⟩ := he
  have hlt := hown.lt
  obtain ⟨xs, hrow, hels⟩ := hown
  have hcell : ∀ j u, [v0, v1, v2, v3][j]? = some u → W.cell? ((⟨B, 0, none⟩ : Addr).add j) = some u := by
    intro j u hu
    rw [Addr.add_lit, Nat.zero_add]
    exact (cell_of_row _ _ _ _ _ _ hB).trans (by simpa using hu)
  obtain ⟨v', w', hr, h1, h2, -, h4⟩ := run_append_own_at (P := Tryd.prog) W base 23 23 25 i _ 4 56 Tryd.underlying23 hi hz hsz hb rfl (by omega) v l.length xs hrow ⟨B, 0, none⟩ 1 1 [v0, v1, v2, v3] rfl hcell (one_cells hy) (by simp [maxLen]; omega) (by omega) hbase
  refine ⟨v', w', hr, ⟨_, by rw [List.length_append, List.length_singleton]; exact h1, ?_⟩, Below.grown (Below.refl _ _) h2 hbase (fun k hk => (hlt k hk).1), fun k hk hne => h2.block k hk (fun e => hne e.symm), ?_, h2.size⟩
  · have hblk : ∀ b, S b → w'.heap[b]? = W.heap[b]? := fun b hb' => h2.block b (by have := hS b hb'; omega) (fun e => by have := hlt b e.symm; have := hS b hb'; omega)
    exact els_keep (fun _ h => h) (fun b o hb' => World.cell?_of_block (a := ⟨b, o, none⟩) (hblk b hb')) _ _ (els_app l xs [y] [v0, v1, v2, v3] hels (els_one hy))
  · intro k hk
    rcases h4 with h4 | h4
    · exact .inl (h4 ▸ hk)
    · rw [h4] at hk
      injection hk with hk
      exact .inr (by omega)

/-- What is so in the loop. -/
def InNames (z : Nat) (l : List (List UInt8)) (i : Nat) (wr : World) : Prop := wr.heap[z]? = some (.cells #[.int .i64 0, .string ⟨#[]⟩, .int .i64 0, .slice none 0 0] 25 (0, 0)) ∧
  ∃ A c, wr.heap[z + 1]? = some (.cells #[.int .i64 3, .string ⟨#[]⟩, .int .i64 0, .slice A i c] 25 (0, 0)) ∧ OwnT (fun _ => False) wr (z + 2) (.slice A i c) ((l.take i).map nm) ∧ z + 2 ≤ wr.heap.size

set_option maxHeartbeats 2000000 in
set_option maxRecDepth 100000 in
theorem refRow_any (l : List (List UInt8)) (A : Option Addr) (ca : Nat) (w : World) (hn6 : l.length ≤ 900000) (hr : SRow w l A) :
    Calls Tryd.prog 34 #[.slice A l.length ca] w fun e w' => ∃ u, e = .returned (.agg #[.int .i64 3, .string ⟨#[]⟩, .int .i64 0, u]) ∧ Below w.heap.size w w' ∧ Rep w' (Lo w') (.mk 3 [] 0 (l.map nm)) (.agg #[.int .i64 3, .string ⟨#[]⟩, .int .i64 0, u]) := by
  obtain ⟨n, hn⟩ : ∃ n, n = l.length := ⟨_, rfl⟩
  obtain ⟨z, hz⟩ : ∃ z, z = w.heap.size := ⟨_, rfl⟩
  rw [← hn] at hn6 ⊢
  obtain ⟨W2, hW2⟩ : ∃ W2, W2 = ((w.alloc (.cells #[.int .i64 0, .string ⟨#[]⟩, .int .i64 0, .slice none 0 0] 25)).alloc (.cells #[.int .i64 3, .string ⟨#[]⟩, .int .i64 0, .slice none 0 0] 25)) := ⟨_, rfl⟩
  have hB2 : Below w.heap.size w W2 := by rw [hW2]; exact ((Below.refl _ _).alloc (Nat.le_refl _) _).alloc (by simp) _
  have hs2 : W2.heap.size = z + 2 := by rw [hW2, hz]; simp
  have HI2 : Hid (InNames z l 0 W2) := by
    refine ⟨?_, none, 0, ?_, by rw [List.take_zero]; exact OwnT.nil _ _ _, by omega⟩
    · rw [hW2, hz, heap_alloc_old _ _ (by simp)]; exact heap_alloc_new w _
    · rw [hW2, hz]
      have := heap_alloc_new (w.alloc (.cells #[.int .i64 0, .string ⟨#[]⟩, .int .i64 0, .slice none 0 0] 25)) (.cells #[.int .i64 3, .string ⟨#[]⟩, .int .i64 0, .slice none 0 0] 25)
      rwa [World.size_alloc] at this
  have HB2 := Lib.hid hB2
  have HW2 := Lib.hid hW2
  have HZ := Lib.hid hz
  have HN := Lib.hid hn
  have HR := Lib.hid hr
  have HOF : Hid (∀ s W, Calls Tryd.prog 28 #[.string ⟨⟨s⟩⟩] W fun e w' => e = .returned (.agg #[.int .i64 0, .string ⟨⟨s⟩⟩, .int .i64 0, .slice none 0 0]) ∧ Below W.heap.size W w') := fun s W => refOf_any s W
  clear hB2 hW2 hz hn hr hs2
  go_enter Tryd.func34, Tryd.ntmps34
  go_wp2
  rw [← HW2.out, ← HZ.out]
  go_loopw [4] (fun iv wr => ∃ i : Nat, i ≤ n ∧ iv = .int .i64 (i : Nat) ∧ Hid (Below w.heap.size w wr) ∧ Hid (InNames z l i wr)) (fun iv _ => n - (intOf iv).toNat)
  case atStart => exact ⟨0, by omega, rfl, HB2, HI2⟩
  case round =>
    obtain ⟨i, hi, rfl, HB, HI⟩ := hrel
    obtain ⟨hgz, B, c, hg1, hown, hz2⟩ := HI.out
    obtain ⟨c0, c1, c2, c3⟩ := cell4 hg1
    by_cases hlt : i < n
    · have hil : (i : Int) < (n : Int) := by omega
      have hiL : i < l.length := by rw [← HN.out]; exact hlt
      rcases HR.out with h0 | ⟨b, o, rfl, hblt, hcell⟩
      · rw [h0] at hiL; simp at hiL
      have d := (HB.out.cell (p := ⟨b, o + i, none⟩) hblt).trans (hcell i hiL)
      obtain ⟨s, hs⟩ : ∃ s, s = l[i] := ⟨_, rfl⟩
      rw [← hs] at d
      have HT : Hid ((l.take (i + 1)).map nm = (l.take i).map nm ++ [nm s]) := by rw [Hid, List.take_succ_eq_append_getElem hiL, List.map_append, hs]; rfl
      have HLN : Hid (((l.take i).map nm).length ≤ 1000000) := by rw [Hid, List.length_map, List.length_take]; omega
      have HO := Lib.hid hown
      have HG1 := Lib.hid hg1
      have HGZ := Lib.hid hgz
      have hbz : b < z := by rw [HZ.out]; exact hblt
      have hzw := HZ.out
      have HZZ := Lib.hid hzw
      clear hzw hs hcell hown hg1 hgz HI hblt
      go_wp2_with fail
      -- REGION
      refine wp_region_inv (by kernel_rfl) (fun L a W => ∃ t12 t13 t14 t15 t16 t17 t18 t19 t20 t21, a = { tmps := #[.slice (some ⟨b, o, none⟩) n ca, undef, .pointer (some ⟨z, 0, none⟩), .pointer (some ⟨z + 1, 0, none⟩), .int .i64 (i : Nat), .agg #[.int .i64 3, .string ⟨#[]⟩, .int .i64 0, .slice none 0 0], .int .i64 (i : Nat), .slice (some ⟨b, o, none⟩) n ca, .int .i64 (n : Nat), .bool true, u10, u11, t12, t13, t14, t15, t16, t17, t18, t19, t20, t21, undef], defers := [] } ∧ (L 0 = true → (.pointer (some ⟨z + 1, 3, none⟩) : Value) = t12) ∧ (L 1 = true → (.slice B i c : Value) = t13) ∧ (L 2 = true → (.slice (some ⟨b, o, none⟩) n ca : Value) = t14) ∧ (L 3 = true → (.int .i64 (i : Nat) : Value) = t15) ∧ (L 4 = true → (.pointer (some ⟨b, o + i, none⟩) : Value) = t16) ∧ (L 5 = true → (.string ⟨⟨s⟩⟩ : Value) = t17) ∧ (L 6 = true → (.agg #[.int .i64 0, .string ⟨⟨s⟩⟩, .int .i64 0, .slice none 0 0] : Value) = t18) ∧ (L 9 = true → (.pointer (some ⟨z + 1, 3, none⟩) : Value) = t21) ∧ (Below w.heap.size w W) ∧ (W.heap[z]? = some (.cells #[.int .i64 0, .string ⟨#[]⟩, .int .i64 0, .slice none 0 0] 25 (0, 0))) ∧ (W.cell? ⟨b, o + i, none⟩ = some (.string ⟨⟨s⟩⟩)) ∧ (L 10 = false → W.heap[z + 1]? = some (.cells #[.int .i64 3, .string ⟨#[]⟩, .int .i64 0, .slice B i c] 25 (0, 0))) ∧ (L 8 = false → OwnT (fun _ => False) W (z + 2) (.slice B i c) ((l.take i).map nm)) ∧ (L 7 = true → L 8 = false → ∃ h, (.slice (some ⟨h, 0, none⟩) 1 1 : Value) = t19 ∧ W.heap[h]? = some (.cells #[.int .i64 0, .string ⟨⟨s⟩⟩, .int .i64 0, .slice none 0 0] 25 (0, 0))) ∧ (L 8 = true → ∃ A2 c2, (.slice A2 (i + 1) c2 : Value) = t20 ∧ OwnT (fun _ => False) W (z + 2) t20 ((l.take (i + 1)).map nm)) ∧ (L 10 = true → ∃ A2 c2, (.slice A2 (i + 1) c2 : Value) = t20 ∧ W.heap[z + 1]? = some (.cells #[.int .i64 3, .string ⟨#[]⟩, .int .i64 0, t20] 25 (0, 0))) ∧ (L 8 = true → L 1 = true ∧ L 7 = true) ∧ (L 10 = true → L 8 = true ∧ L 1 = true ∧ L 6 = true ∧ L 7 = true) ∧ (L 7 = true → L 6 = true)) (by kernel_rfl) ?_ ?_ ?_
      · exact ⟨_, _, _, _, _, _, _, _, _, _, rfl, nofun, nofun, nofun, nofun, nofun, nofun, nofun, nofun, HB.out.drew, HGZ.out, d, fun _ => HG1.out, fun _ => HO.out.below (Below.refl _ _).drew (fun _ h => h.elim), nofun, nofun, nofun, nofun, nofun, nofun⟩
      · rintro L _ W i oo ⟨t12, t13, t14, t15, t16, t17, t18, t19, t20, t21, rfl, f0, f1, f2, f3, f4, f5, f6, f9, qb, qz, qs, qc, qo, g6, g8, g10, r8, r10, r7⟩ ho hL hd
        rcases i with _ | _ | _ | _ | _ | _ | _ | _ | _ | _ | _ | i
        · obtain rfl := Option.some.inj ho
          refine wpOp_step rfl fun K hK => ?_
          have F0X := Lib.hid f0
          have F1X := Lib.hid f1
          have F2X := Lib.hid f2
          have F3X := Lib.hid f3
          have F4X := Lib.hid f4
          have F5X := Lib.hid f5
          have F6X := Lib.hid f6
          have F9X := Lib.hid f9
          have QBX := Lib.hid qb
          have QZX := Lib.hid qz
          have QSX := Lib.hid qs
          have QCX := Lib.hid qc
          have QOX := Lib.hid qo
          have G6X := Lib.hid g6
          have G8X := Lib.hid g8
          have G10X := Lib.hid g10
          have R8X := Lib.hid r8
          have R10X := Lib.hid r10
          have R7X := Lib.hid r7
          clear f0 f1 f2 f3 f4 f5 f6 f9 qb qz qs qc qo g6 g8 g10 r8 r10 r7 hd ho hL
          go_simp
          refine hK _ _ ?_
          exact ⟨_, _, _, _, _, _, _, _, _, _, rfl, fun _ => rfl, F1X.out, F2X.out, F3X.out, F4X.out, F5X.out, F6X.out, F9X.out, QBX.out, QZX.out, QSX.out, QCX.out, QOX.out, G6X.out, G8X.out, G10X.out, R8X.out, R10X.out, R7X.out⟩
        · obtain rfl := Option.some.inj ho
          have l0 := hd ⟨0, .data⟩ (by simp) rfl
          obtain rfl := f0 l0
          have h10 : L 10 = false := by cases hq : L 10 with | false => rfl | true => rw [(r10 hq).2.1] at hL; cases hL
          have hcc := (cell4 (qc h10)).2.2.2
          clear h10
          refine wpOp_step rfl fun K hK => ?_
          have F0X := Lib.hid f0
          have F1X := Lib.hid f1
          have F2X := Lib.hid f2
          have F3X := Lib.hid f3
          have F4X := Lib.hid f4
          have F5X := Lib.hid f5
          have F6X := Lib.hid f6
          have F9X := Lib.hid f9
          have QBX := Lib.hid qb
          have QZX := Lib.hid qz
          have QSX := Lib.hid qs
          have QCX := Lib.hid qc
          have QOX := Lib.hid qo
          have G6X := Lib.hid g6
          have G8X := Lib.hid g8
          have G10X := Lib.hid g10
          have R8X := Lib.hid r8
          have R10X := Lib.hid r10
          have R7X := Lib.hid r7
          clear f0 f1 f2 f3 f4 f5 f6 f9 qb qz qs qc qo g6 g8 g10 r8 r10 r7 hd ho hL l0
          go_simp
          refine hK _ _ ?_
          exact ⟨_, _, _, _, _, _, _, _, _, _, rfl, F0X.out, fun _ => rfl, F2X.out, F3X.out, F4X.out, F5X.out, F6X.out, F9X.out, QBX.out, QZX.out, QSX.out, QCX.out, QOX.out, G6X.out, G8X.out, G10X.out, fun h => ⟨rfl, (R8X.out h).2⟩, fun h => ⟨(R10X.out h).1, rfl, (R10X.out h).2.2⟩, R7X.out⟩
        · obtain rfl := Option.some.inj ho
          refine wpOp_step rfl fun K hK => ?_
          have F0X := Lib.hid f0
          have F1X := Lib.hid f1
          have F2X := Lib.hid f2
          have F3X := Lib.hid f3
          have F4X := Lib.hid f4
          have F5X := Lib.hid f5
          have F6X := Lib.hid f6
          have F9X := Lib.hid f9
          have QBX := Lib.hid qb
          have QZX := Lib.hid qz
          have QSX := Lib.hid qs
          have QCX := Lib.hid qc
          have QOX := Lib.hid qo
          have G6X := Lib.hid g6
          have G8X := Lib.hid g8
          have G10X := Lib.hid g10
          have R8X := Lib.hid r8
          have R10X := Lib.hid r10
          have R7X := Lib.hid r7
          clear f0 f1 f2 f3 f4 f5 f6 f9 qb qz qs qc qo g6 g8 g10 r8 r10 r7 hd ho hL
          go_simp
          refine hK _ _ ?_
          exact ⟨_, _, _, _, _, _, _, _, _, _, rfl, F0X.out, F1X.out, fun _ => rfl, F3X.out, F4X.out, F5X.out, F6X.out, F9X.out, QBX.out, QZX.out, QSX.out, QCX.out, QOX.out, G6X.out, G8X.out, G10X.out, R8X.out, R10X.out, R7X.out⟩
        · obtain rfl := Option.some.inj ho
          refine wpOp_step rfl fun K hK => ?_
          have F0X := Lib.hid f0
          have F1X := Lib.hid f1
          have F2X := Lib.hid f2
          have F3X := Lib.hid f3
          have F4X := Lib.hid f4
          have F5X := Lib.hid f5
          have F6X := Lib.hid f6
          have F9X := Lib.hid f9
          have QBX := Lib.hid qb
          have QZX := Lib.hid qz
          have QSX := Lib.hid qs
          have QCX := Lib.hid qc
          have QOX := Lib.hid qo
          have G6X := Lib.hid g6
          have G8X := Lib.hid g8
          have G10X := Lib.hid g10
          have R8X := Lib.hid r8
          have R10X := Lib.hid r10
          have R7X := Lib.hid r7
          clear f0 f1 f2 f3 f4 f5 f6 f9 qb qz qs qc qo g6 g8 g10 r8 r10 r7 hd ho hL
          go_simp
          refine hK _ _ ?_
          exact ⟨_, _, _, _, _, _, _, _, _, _, rfl, F0X.out, F1X.out, F2X.out, fun _ => rfl, F4X.out, F5X.out, F6X.out, F9X.out, QBX.out, QZX.out, QSX.out, QCX.out, QOX.out, G6X.out, G8X.out, G10X.out, R8X.out, R10X.out, R7X.out⟩
        · obtain rfl := Option.some.inj ho
          have l2 := hd ⟨2, .data⟩ (by simp) rfl
          have l3 := hd ⟨3, .data⟩ (by simp) rfl
          obtain rfl := f2 l2
          obtain rfl := f3 l3
          refine wpOp_step rfl fun K hK => ?_
          have F0X := Lib.hid f0
          have F1X := Lib.hid f1
          have F2X := Lib.hid f2
          have F3X := Lib.hid f3
          have F4X := Lib.hid f4
          have F5X := Lib.hid f5
          have F6X := Lib.hid f6
          have F9X := Lib.hid f9
          have QBX := Lib.hid qb
          have QZX := Lib.hid qz
          have QSX := Lib.hid qs
          have QCX := Lib.hid qc
          have QOX := Lib.hid qo
          have G6X := Lib.hid g6
          have G8X := Lib.hid g8
          have G10X := Lib.hid g10
          have R8X := Lib.hid r8
          have R10X := Lib.hid r10
          have R7X := Lib.hid r7
          clear f0 f1 f2 f3 f4 f5 f6 f9 qb qz qs qc qo g6 g8 g10 r8 r10 r7 hd ho hL l2 l3
          go_simp
          refine hK _ _ ?_
          exact ⟨_, _, _, _, _, _, _, _, _, _, rfl, F0X.out, F1X.out, F2X.out, F3X.out, fun _ => rfl, F5X.out, F6X.out, F9X.out, QBX.out, QZX.out, QSX.out, QCX.out, QOX.out, G6X.out, G8X.out, G10X.out, R8X.out, R10X.out, R7X.out⟩
        · obtain rfl := Option.some.inj ho
          have l4 := hd ⟨4, .data⟩ (by simp) rfl
          obtain rfl := f4 l4
          have hcs := qs
          refine wpOp_step rfl fun K hK => ?_
          have F0X := Lib.hid f0
          have F1X := Lib.hid f1
          have F2X := Lib.hid f2
          have F3X := Lib.hid f3
          have F4X := Lib.hid f4
          have F5X := Lib.hid f5
          have F6X := Lib.hid f6
          have F9X := Lib.hid f9
          have QBX := Lib.hid qb
          have QZX := Lib.hid qz
          have QSX := Lib.hid qs
          have QCX := Lib.hid qc
          have QOX := Lib.hid qo
          have G6X := Lib.hid g6
          have G8X := Lib.hid g8
          have G10X := Lib.hid g10
          have R8X := Lib.hid r8
          have R10X := Lib.hid r10
          have R7X := Lib.hid r7
          clear f0 f1 f2 f3 f4 f5 f6 f9 qb qz qs qc qo g6 g8 g10 r8 r10 r7 hd ho hL l4
          go_simp
          refine hK _ _ ?_
          exact ⟨_, _, _, _, _, _, _, _, _, _, rfl, F0X.out, F1X.out, F2X.out, F3X.out, F4X.out, fun _ => rfl, F6X.out, F9X.out, QBX.out, QZX.out, QSX.out, QCX.out, QOX.out, G6X.out, G8X.out, G10X.out, R8X.out, R10X.out, R7X.out⟩
        · obtain rfl := Option.some.inj ho
          have l5 := hd ⟨5, .data⟩ (by simp) rfl
          obtain rfl := f5 l5
          have HC := Lib.hid (HOF.out s W)
          refine wpOp_step rfl fun K hK => ?_
          have F0X := Lib.hid f0
          have F1X := Lib.hid f1
          have F2X := Lib.hid f2
          have F3X := Lib.hid f3
          have F4X := Lib.hid f4
          have F5X := Lib.hid f5
          have F6X := Lib.hid f6
          have F9X := Lib.hid f9
          have QBX := Lib.hid qb
          have QZX := Lib.hid qz
          have QSX := Lib.hid qs
          have QCX := Lib.hid qc
          have QOX := Lib.hid qo
          have G6X := Lib.hid g6
          have G8X := Lib.hid g8
          have G10X := Lib.hid g10
          have R8X := Lib.hid r8
          have R10X := Lib.hid r10
          have R7X := Lib.hid r7
          clear f0 f1 f2 f3 f4 f5 f6 f9 qb qz qs qc qo g6 g8 g10 r8 r10 r7 hd ho hL l5
          go_simp
          refine HC.out.mono ?_
          rintro _ w1 ⟨rfl, hb1⟩
          refine hK _ _ ?_
          exact ⟨_, _, _, _, _, _, _, _, _, _, rfl, F0X.out, F1X.out, F2X.out, F3X.out, F4X.out, F5X.out, fun _ => rfl, F9X.out, QBX.out.trans (hb1.mono QBX.out.size), (hb1.block z (Array.getElem?_eq_some_iff.1 QZX.out).1).trans QZX.out, (hb1.cell (p := ⟨b, o + i, none⟩) (World.block_lt_of_cell? _ _ QSX.out)).trans QSX.out, fun h => (hb1.block (z + 1) (Array.getElem?_eq_some_iff.1 (QCX.out h)).1).trans (QCX.out h), fun h => (QOX.out h).below hb1 (fun _ h => h.elim), fun h h8 => (by obtain ⟨h1, e1, e2⟩ := G6X.out h h8; exact ⟨h1, e1, (hb1.block h1 (Array.getElem?_eq_some_iff.1 e2).1).trans e2⟩), fun h => (by obtain ⟨A2, c2, e1, e2⟩ := G8X.out h; exact ⟨A2, c2, e1, e2.below hb1 (fun _ h => h.elim)⟩), fun h => (by obtain ⟨A2, c2, e0, e⟩ := G10X.out h; exact ⟨A2, c2, e0, (hb1.block (z + 1) (Array.getElem?_eq_some_iff.1 e).1).trans e⟩), R8X.out, fun h => ⟨(R10X.out h).1, (R10X.out h).2.1, rfl, (R10X.out h).2.2.2⟩, fun _ => rfl⟩
        · obtain rfl := Option.some.inj ho
          have l6 := hd ⟨6, .data⟩ (by simp) rfl
          obtain rfl := f6 l6
          have L6X := Lib.hid l6
          refine wpOp_step rfl fun K hK => ?_
          have F0X := Lib.hid f0
          have F1X := Lib.hid f1
          have F2X := Lib.hid f2
          have F3X := Lib.hid f3
          have F4X := Lib.hid f4
          have F5X := Lib.hid f5
          have F6X := Lib.hid f6
          have F9X := Lib.hid f9
          have QBX := Lib.hid qb
          have QZX := Lib.hid qz
          have QSX := Lib.hid qs
          have QCX := Lib.hid qc
          have QOX := Lib.hid qo
          have G6X := Lib.hid g6
          have G8X := Lib.hid g8
          have G10X := Lib.hid g10
          have R8X := Lib.hid r8
          have R10X := Lib.hid r10
          have R7X := Lib.hid r7
          clear f0 f1 f2 f3 f4 f5 f6 f9 qb qz qs qc qo g6 g8 g10 r8 r10 r7 hd ho hL l6
          go_simp
          refine hK _ _ ?_
          exact ⟨_, _, _, _, _, _, _, _, _, _, rfl, F0X.out, F1X.out, F2X.out, F3X.out, F4X.out, F5X.out, F6X.out, F9X.out, QBX.out.trans (((Below.refl W.heap.size W).alloc (Nat.le_refl _) _).mono QBX.out.size), (((Below.refl W.heap.size W).alloc (Nat.le_refl _) _).block z (Array.getElem?_eq_some_iff.1 QZX.out).1).trans QZX.out, (((Below.refl W.heap.size W).alloc (Nat.le_refl _) _).cell (p := ⟨b, o + i, none⟩) (World.block_lt_of_cell? _ _ QSX.out)).trans QSX.out, fun h => (((Below.refl W.heap.size W).alloc (Nat.le_refl _) _).block (z + 1) (Array.getElem?_eq_some_iff.1 (QCX.out h)).1).trans (QCX.out h), fun h => (QOX.out h).below ((Below.refl W.heap.size W).alloc (Nat.le_refl _) _) (fun _ h => h.elim), fun _ _ => ⟨_, rfl, heap_alloc_new W _⟩, fun h => (by obtain ⟨A2, c2, e1, e2⟩ := G8X.out h; exact ⟨A2, c2, e1, e2.below ((Below.refl W.heap.size W).alloc (Nat.le_refl _) _) (fun _ h => h.elim)⟩), fun h => (by obtain ⟨A2, c2, e0, e⟩ := G10X.out h; exact ⟨A2, c2, e0, (((Below.refl W.heap.size W).alloc (Nat.le_refl _) _).block (z + 1) (Array.getElem?_eq_some_iff.1 e).1).trans e⟩), fun h => ⟨(R8X.out h).1, rfl⟩, fun h => ⟨(R10X.out h).1, (R10X.out h).2.1, (R10X.out h).2.2.1, rfl⟩, fun _ => L6X.out⟩
        · obtain rfl := Option.some.inj ho
          have l1 := hd ⟨1, .data⟩ (by simp) rfl
          have l7 := hd ⟨7, .data⟩ (by simp) rfl
          have l6 := hd ⟨6, .chain⟩ (by simp) rfl
          obtain rfl := f1 l1
          obtain rfl := f6 l6
          obtain ⟨h, rfl, hh⟩ := g6 l7 hL
          have h10 : L 10 = false := by cases hq : L 10 with | false => rfl | true => rw [(r10 hq).1] at hL; cases hL
          have hz2W : z + 2 ≤ W.heap.size := by have := (Array.getElem?_eq_some_iff.1 (qc h10)).1; omega
          obtain ⟨v', w2, hr, ho3, hb3, hk3, how3, hs3⟩ := run_appT W (z + 2) h _ _ (nm s) _ _ _ _ (fun _ => False) hh (qo hL) (rep_nm _ _ s) (fun _ h => h.elim) HLN.out hz2W
          rw [← HT.out] at ho3
          obtain ⟨A2, c2', hv2⟩ := ho3.form
          rw [List.length_map, List.length_take, Nat.min_eq_left (by have := HN.out; omega)] at hv2
          subst hv2
          have hne : (Value.slice B i c).ownBlock ≠ some (z + 1) := fun e => by have := ((qo hL).lt _ e).1; omega
          have hg2 := (hk3 (z + 1) (by omega) hne).trans (qc h10)
          have hnh : (Value.slice B i c).ownBlock ≠ some h ∨ True := .inr trivial
          have hbw2 : Below w.heap.size w w2 := qb.trans (hb3.mono (by have := HZZ.out; omega))
          have hz0 := (hb3.block z (by omega)).trans qz
          have hs2 := (hb3.cell (p := ⟨b, o + i, none⟩) (show b < z + 2 by omega)).trans qs
          have L17 := Lib.hid (And.intro l1 l7)
          have H10 := Lib.hid h10
          refine wpOp_step rfl fun K hK => ?_
          refine op_append_run _ rfl (.tmp 13) (.tmp 19) 23 23 rfl _ _ rfl rfl hr ?_
          have F0X := Lib.hid f0
          have F1X := Lib.hid f1
          have F2X := Lib.hid f2
          have F3X := Lib.hid f3
          have F4X := Lib.hid f4
          have F5X := Lib.hid f5
          have F6X := Lib.hid f6
          have F9X := Lib.hid f9
          have QBX := Lib.hid qb
          have QZX := Lib.hid qz
          have QSX := Lib.hid qs
          have QCX := Lib.hid qc
          have QOX := Lib.hid qo
          have G6X := Lib.hid g6
          have G8X := Lib.hid g8
          have G10X := Lib.hid g10
          have R8X := Lib.hid r8
          have R10X := Lib.hid r10
          have R7X := Lib.hid r7
          clear f0 f1 f2 f3 f4 f5 f6 f9 qb qz qs qc qo g6 g8 g10 r8 r10 r7 hd ho hL l1 l7 l6
          refine hK _ _ ?_
          exact ⟨_, _, _, _, _, _, _, _, _, _, rfl, F0X.out, F1X.out, F2X.out, F3X.out, F4X.out, F5X.out, F6X.out, F9X.out, hbw2, hz0, hs2, fun _ => hg2, nofun, nofun, fun _ => ⟨_, _, rfl, ho3⟩, fun h => absurd (show L 10 = true from h) (by simp [H10.out]), fun _ => L17.out, fun h => ⟨rfl, (R10X.out h).2⟩, R7X.out⟩
        · obtain rfl := Option.some.inj ho
          have l8 := hd ⟨8, .phase⟩ (by simp) rfl
          refine wpOp_step rfl fun K hK => ?_
          have F0X := Lib.hid f0
          have F1X := Lib.hid f1
          have F2X := Lib.hid f2
          have F3X := Lib.hid f3
          have F4X := Lib.hid f4
          have F5X := Lib.hid f5
          have F6X := Lib.hid f6
          have F9X := Lib.hid f9
          have QBX := Lib.hid qb
          have QZX := Lib.hid qz
          have QSX := Lib.hid qs
          have QCX := Lib.hid qc
          have QOX := Lib.hid qo
          have G6X := Lib.hid g6
          have G8X := Lib.hid g8
          have G10X := Lib.hid g10
          have R8X := Lib.hid r8
          have R10X := Lib.hid r10
          have R7X := Lib.hid r7
          clear f0 f1 f2 f3 f4 f5 f6 f9 qb qz qs qc qo g6 g8 g10 r8 r10 r7 hd ho hL l8
          go_simp
          refine hK _ _ ?_
          exact ⟨_, _, _, _, _, _, _, _, _, _, rfl, F0X.out, F1X.out, F2X.out, F3X.out, F4X.out, F5X.out, F6X.out, fun _ => rfl, QBX.out, QZX.out, QSX.out, QCX.out, QOX.out, G6X.out, G8X.out, G10X.out, R8X.out, R10X.out, R7X.out⟩
        · obtain rfl := Option.some.inj ho
          have l9 := hd ⟨9, .data⟩ (by simp) rfl
          have l8 := hd ⟨8, .data⟩ (by simp) rfl
          have l1 := hd ⟨1, .phase⟩ (by simp) rfl
          have l6 := hd ⟨6, .phase⟩ (by simp) rfl
          have l7 := hd ⟨7, .phase⟩ (by simp) rfl
          obtain rfl := f9 l9
          obtain rfl := f1 l1
          obtain rfl := f6 l6
          obtain ⟨A2, c2, rfl, ho3⟩ := g8 l8
          have hcc := cell4 (qc hL)
          obtain ⟨x0, x1, x2, x3⟩ := hcc
          have hf := fun k => frozen_of_row _ _ k _ _ (qc hL)
          have hs1 := set1L (qc hL) (.slice A2 (i + 1) c2)
          have LL := Lib.hid (And.intro l8 (And.intro l1 (And.intro l6 l7)))
          have hgq := qc hL
          have HO3 := Lib.hid ho3
          clear ho3
          have HGQ := Lib.hid hgq
          clear hgq
          refine wpOp_step rfl fun K hK => ?_
          have F0X := Lib.hid f0
          have F1X := Lib.hid f1
          have F2X := Lib.hid f2
          have F3X := Lib.hid f3
          have F4X := Lib.hid f4
          have F5X := Lib.hid f5
          have F6X := Lib.hid f6
          have F9X := Lib.hid f9
          have QBX := Lib.hid qb
          have QZX := Lib.hid qz
          have QSX := Lib.hid qs
          have QCX := Lib.hid qc
          have QOX := Lib.hid qo
          have G6X := Lib.hid g6
          have G8X := Lib.hid g8
          have G10X := Lib.hid g10
          have R8X := Lib.hid r8
          have R10X := Lib.hid r10
          have R7X := Lib.hid r7
          clear f0 f1 f2 f3 f4 f5 f6 f9 qb qz qs qc qo g6 g8 g10 r8 r10 r7 hd ho hL l9 l8 l1 l6 l7
          go_simp
          refine hK _ _ ?_
          exact ⟨_, _, _, _, _, _, _, _, _, _, rfl, F0X.out, F1X.out, F2X.out, F3X.out, F4X.out, F5X.out, F6X.out, F9X.out, below_setRow4 QBX.out (by have := HZZ.out; omega) _, (setRow_other _ _ _ _ (by omega)).trans QZX.out, (cell_setRow_other _ _ _ _ (by show b ≠ z + 1; omega)).trans QSX.out, nofun, fun h => absurd (show L 8 = false from h) (by simp [LL.out.1]), fun _ h => absurd (show L 8 = false from h) (by simp [LL.out.1]), fun _ => ⟨_, _, rfl, HO3.out.keep (fun k hk => setRow_other _ _ _ _ (fun e => by have := (HO3.out.lt k hk).1; omega)) (fun _ h => h) (fun _ h => h.elim)⟩, fun _ => ⟨_, _, rfl, setRow_heap _ _ _ _ _ _ HGQ.out⟩, R8X.out, fun _ => LL.out, R7X.out⟩
        · simp at ho
      · rintro L _ W ⟨t12, t13, t14, t15, t16, t17, t18, t19, t20, t21, rfl, f0, f1, f2, f3, f4, f5, f6, f9, qb, qz, qs, qc, qo, g6, g8, g10, r8, r10, r7⟩ hall
        obtain rfl := f0 (hall 0 (by decide))
        obtain rfl := f1 (hall 1 (by decide))
        obtain rfl := f2 (hall 2 (by decide))
        obtain rfl := f3 (hall 3 (by decide))
        obtain rfl := f4 (hall 4 (by decide))
        obtain rfl := f5 (hall 5 (by decide))
        obtain rfl := f6 (hall 6 (by decide))
        obtain rfl := f9 (hall 9 (by decide))
        have h10 := hall 10 (by decide)
        have h8 := hall 8 (by decide)
        obtain ⟨A5, k5, rfl, hg⟩ := g10 h10
        obtain ⟨A6, k6, e6, ho⟩ := g8 h8
        have HI2 : Hid (InNames z l (i + 1) W) := ⟨qz, A5, k5, hg, ho, by have := (Array.getElem?_eq_some_iff.1 hg).1; omega⟩
        have HB2 := Lib.hid qb
        clear qb qz qs qc qo g6 g8 g10 r8 r10 r7 hg ho hall h10 h8 e6
        clear c0 c1 c2 c3
        go_wp2
        go_roundw
        case rel => exact ⟨i + 1, by omega, by go_num, HB2, HI2⟩
        case measure => simp [intOf]; omega
    · have hie : l.take i = l := List.take_of_length_le (by rw [← HN.out]; omega)
      rw [hie] at hown
      have hil : ¬ (i : Int) < (n : Int) := by omega
      obtain rfl : i = n := by omega
      obtain ⟨z0, z1, z2, z3⟩ := cell4 hgz
      have f0 := fun k => frozen_of_row _ _ k _ _ hgz
      have hrow := hown.row (S' := fun b => z + 2 ≤ b ∧ b < wr.heap.size) (fun _ h => h.elim) (fun b h => hown.lt b h)
      have HGZ := Lib.hid hgz
      have HRW := Lib.hid hrow
      clear hown hg1 hgz hrow HI
      go_wp2
      rw [set4 HGZ.out]
      have hb := below_setRow4 HB.out (show w.heap.size ≤ z by rw [HZ.out]; exact Nat.le_refl _) #[.int .i64 3, .string ⟨#[]⟩, .int .i64 0, .slice B i c]
      refine bodyPost_ret (results_term Tryd.results34 _ _ z _ _ _ _ _ _ rfl (setRow_heap _ _ _ _ _ _ HGZ.out)) rfl ⟨_, rfl, hb, rep_mk.2 ⟨B, c, by rw [List.length_map, ← HN.out], ⟨by omega, by omega⟩, ?_⟩⟩
      exact trow_keep (fun b hb => by rw [Lo, setRow_size]; exact hb.2) (fun b q hb => cell_setRow_other _ _ _ _ (by show b ≠ z; omega)) HRW.out
end Go.Proofs.YtfhcfaflggiacaaDoor
