/- done: an act. (Laid with NS=1; written by wip/tools/gen/pot.py.) -/
import Derived.Test.YtehmfkcihieecaaPoA1
namespace Go.Proofs.Ytehmfkcihieecaa.Po
open Go.RowKit Go.Sort
open Te Te.Tt
open Go (Lit DataW MemPlace keyOf maxLen)

theorem cell12 {w : World} {g : Nat} {v0 v1 v2 v3 v4 v5 v6 v7 v8 v9 v10 v11 : Value} {t : TypeId} {fr : Nat × Nat} (h : w.heap[g]? = some (.cells #[v0, v1, v2, v3, v4, v5, v6, v7, v8, v9, v10, v11] t fr)) :
    w.cell? ⟨g, 0, none⟩ = some v0 ∧ w.cell? ⟨g, 1, none⟩ = some v1 ∧ w.cell? ⟨g, 2, none⟩ = some v2 ∧ w.cell? ⟨g, 3, none⟩ = some v3 ∧ w.cell? ⟨g, 4, none⟩ = some v4 ∧ w.cell? ⟨g, 5, none⟩ = some v5 ∧ w.cell? ⟨g, 6, none⟩ = some v6 ∧ w.cell? ⟨g, 7, none⟩ = some v7 ∧ w.cell? ⟨g, 8, none⟩ = some v8 ∧ w.cell? ⟨g, 9, none⟩ = some v9 ∧ w.cell? ⟨g, 10, none⟩ = some v10 ∧ w.cell? ⟨g, 11, none⟩ = some v11 := by
  refine ⟨?_, ?_, ?_, ?_, ?_, ?_, ?_, ?_, ?_, ?_, ?_, ?_⟩ <;> (rw [cell_of_row _ _ _ _ _ _ h]; rfl)
/-- What an act leaves. -/
def DonePost (w : World) (F : Nat → Prop) (g bm n : Nat) (e : Ending) (w' : World) : Prop := (∃ er : Int, e = .returned (.int .i64 er)) ∧ ∃ σ' n', Stp w F g bm σ' n' w' ∧ n' ≤ n + 1
set_option maxHeartbeats 4000000 in
set_option maxRecDepth 100000 in
theorem done_any (w : World) (F : Nat → Prop) (g bm : Nat) (f : Nm → Sl) (σ : Sto) (n : Nat) (h : SP w F g bm f σ n) (x : Ac) (A : Option Addr) (a : Nat) (C : Option Addr) (c : Nat) (G : Option Addr) (g' : Nat) (S : Nat → Prop)
    (hA : SRd w S x.p.al A) (hC : SRd w S x.p.ac C) (hG : IRd w S x.p.gr G) (la : x.p.al.length ≤ a) (lc : x.p.ac.length ≤ c) (hS : ∀ b, S b → b < w.heap.size) (hx : AOk x) (k1 : x.p.al.length ≤ 60) (k2 : x.p.ac.length ≤ 60) (k3 : x.p.gr.length ≤ 60) (hn : n ≤ 1000) :
    Calls Try.prog 11 #[.pointer (some ⟨g, 0, none⟩), .agg #[.int .i64 x.k, .string ⟨⟨x.p.nm⟩⟩, .int .i64 x.p.ver, .bool x.p.tr, .bool x.p.se, .slice A x.p.al.length a, .slice C x.p.ac.length c, .slice G x.p.gr.length g', .int .i64 x.p.li, .string ⟨⟨x.a⟩⟩, .string ⟨⟨x.b⟩⟩, .bool x.on]] w (DonePost w F g bm n) := by
  obtain ⟨W1, hW1⟩ : ∃ W1, W1 = w.alloc (.cells #[.int .i64 x.k, .string ⟨⟨x.p.nm⟩⟩, .int .i64 x.p.ver, .bool x.p.tr, .bool x.p.se, .slice A x.p.al.length a, .slice C x.p.ac.length c, .slice G x.p.gr.length g', .int .i64 x.p.li, .string ⟨⟨x.a⟩⟩, .string ⟨⟨x.b⟩⟩, .bool x.on] 34) := ⟨_, rfl⟩
  obtain ⟨z, hz⟩ : ∃ z, z = w.heap.size := ⟨_, rfl⟩
  have hb1 : RowKit.Below w.heap.size w W1 := by rw [hW1]; exact (RowKit.Below.refl _ _).alloc (Nat.le_refl _) _
  have hg1 : W1.heap[z]? = some (.cells #[.int .i64 x.k, .string ⟨⟨x.p.nm⟩⟩, .int .i64 x.p.ver, .bool x.p.tr, .bool x.p.se, .slice A x.p.al.length a, .slice C x.p.ac.length c, .slice G x.p.gr.length g', .int .i64 x.p.li, .string ⟨⟨x.a⟩⟩, .string ⟨⟨x.b⟩⟩, .bool x.on] 34 (0, 0)) := by rw [hW1, hz]; exact heap_alloc_new _ _
  have hs := h.below hb1
  have hpv : PV W1 S x.p (.agg #[.string ⟨⟨x.p.nm⟩⟩, .int .i64 x.p.ver, .bool x.p.tr, .bool x.p.se, .slice A x.p.al.length a, .slice C x.p.ac.length c, .slice G x.p.gr.length g', .int .i64 x.p.li]) := ⟨A, a, C, c, G, g', rfl, hA.keep (fun _ h => h) (fun b hb => hb1.block b (hS b hb)), hC.keep (fun _ h => h) (fun b hb => hb1.block b (hS b hb)), hG.keep (fun _ h => h) (fun b hb => hb1.block b (hS b hb)), la, lc⟩
  have hnm : n < maxLen := by unfold maxLen; omega
  have HADD : Hid (Calls Try.prog 22 #[.pointer (some ⟨g, 0, none⟩), .agg #[.string ⟨⟨x.p.nm⟩⟩, .int .i64 x.p.ver, .bool x.p.tr, .bool x.p.se, .slice A x.p.al.length a, .slice C x.p.ac.length c, .slice G x.p.gr.length g', .int .i64 x.p.li]] W1 (DonePost w F g bm n)) :=
    (Add_any W1 F g bm f σ n hs x.p S _ hpv (fun b hb => Nat.lt_of_lt_of_le (hS b hb) hb1.size) (by omega) (by omega) (by omega) hx.n hnm).mono fun e w' h => ⟨⟨_, h.1⟩, _, _, h.2.after hb1, by unfold Po.add; split <;> simp only <;> omega⟩
  have HREK : Hid (Calls Try.prog 17 #[.pointer (some ⟨g, 0, none⟩), .string ⟨⟨x.a⟩⟩] W1 (DonePost w F g bm n)) :=
    (Rekey_any W1 F g bm f σ n hs x.a hx.a hnm).mono fun e w' h => ⟨⟨_, h.1⟩, _, _, h.2.after hb1, by omega⟩
  have HALL : Hid (Calls Try.prog 14 #[.pointer (some ⟨g, 0, none⟩), .string ⟨⟨x.a⟩⟩, .string ⟨⟨x.b⟩⟩, .bool x.on] W1 (DonePost w F g bm n)) :=
    (Allow_any W1 F g bm f σ n hs x.a x.b x.on hx.a hx.b hnm).mono fun e w' h => ⟨⟨_, h.1⟩, _, _, h.2.after hb1, by omega⟩
  have HACT : Hid (Calls Try.prog 24 #[.pointer (some ⟨g, 0, none⟩), .string ⟨⟨x.a⟩⟩, .string ⟨⟨x.b⟩⟩, .bool x.on] W1 (DonePost w F g bm n)) :=
    (Acts_any W1 F g bm f σ n hs x.a x.b x.on hx.a hx.b hnm).mono fun e w' h => ⟨⟨_, h.1⟩, _, _, h.2.after hb1, by omega⟩
  have HTRU : Hid (Calls Try.prog 19 #[.pointer (some ⟨g, 0, none⟩), .string ⟨⟨x.a⟩⟩, .bool x.on] W1 (DonePost w F g bm n)) :=
    (Trust_any W1 F g bm f σ n hs x.a x.on hx.a hnm).mono fun e w' h => ⟨⟨_, h.1⟩, _, _, h.2.after hb1, by omega⟩
  have HSEN : Hid (Calls Try.prog 20 #[.pointer (some ⟨g, 0, none⟩), .string ⟨⟨x.a⟩⟩, .bool x.on] W1 (DonePost w F g bm n)) :=
    (Sense_any W1 F g bm f σ n hs x.a x.on hx.a hnm).mono fun e w' h => ⟨⟨_, h.1⟩, _, _, h.2.after hb1, by omega⟩
  have HGET := Lib.hid (Get_any W1 F g bm f σ n hs x.a hx.a)
  have HSTL : Hid (∀ w', RowKit.Below w.heap.size w w' → ∀ er : Int, DonePost w F g bm n (.returned (.int .i64 er)) w') := fun w' hb er => ⟨⟨_, rfl⟩, σ, n, h.still hb, by omega⟩
  obtain ⟨kk1, kk2⟩ := hx.k
  have HW1 := Lib.hid hW1
  have HZ := Lib.hid hz
  have HB1 := Lib.hid hb1
  clear hs hpv hnm h hA hC hG la lc hS hx k1 k2 k3 hn hW1 hz hb1
  obtain ⟨k, p, xa, xb, on⟩ := x
  obtain ⟨nm, ver, tr, se, al, ac, gr, li⟩ := p
  simp only at *
  generalize al.length = la at *
  generalize ac.length = lc at *
  generalize gr.length = lg at *
  obtain ⟨c0, c1, c2, c3, c4, c5, c6, c7, c8, c9, c10, c11⟩ := cell12 hg1
  rw [HW1.out, HZ.out] at c0 c1 c2 c3 c4 c5 c6 c7 c8 c9 c10 c11
  clear hg1
  go_enter Try.func11, Try.ntmps11
  by_cases h0 : k.tmod 7 = 0
  case pos =>
    clear HREK HALL HACT HTRU HSEN HGET HSTL
    go_wp2_with fail
    rw [← HZ.out, ← HW1.out]
    refine HADD.out.mono ?_
    rintro _ w2 ⟨⟨er, rfl⟩, hp⟩
    have HP := Lib.hid hp
    clear hp HADD
    go_wp2
    go_ret
    exact ⟨⟨er, rfl⟩, HP.out⟩
  clear HADD
  by_cases h1 : k.tmod 7 = 1
  case pos =>
    clear HALL HACT HTRU HSEN HGET HSTL
    go_wp2_with fail
    rw [← HZ.out, ← HW1.out]
    refine HREK.out.mono ?_
    rintro _ w2 ⟨⟨er, rfl⟩, hp⟩
    have HP := Lib.hid hp
    clear hp HREK
    go_wp2
    go_ret
    exact ⟨⟨er, rfl⟩, HP.out⟩
  clear HREK
  by_cases h2 : k.tmod 7 = 2
  case pos =>
    clear HACT HTRU HSEN HGET HSTL
    go_wp2_with fail
    rw [← HZ.out, ← HW1.out]
    refine HALL.out.mono ?_
    rintro _ w2 ⟨⟨er, rfl⟩, hp⟩
    have HP := Lib.hid hp
    clear hp HALL
    go_wp2
    go_ret
    exact ⟨⟨er, rfl⟩, HP.out⟩
  clear HALL
  by_cases h3 : k.tmod 7 = 3
  case pos =>
    clear HTRU HSEN HGET HSTL
    go_wp2_with fail
    rw [← HZ.out, ← HW1.out]
    refine HACT.out.mono ?_
    rintro _ w2 ⟨⟨er, rfl⟩, hp⟩
    have HP := Lib.hid hp
    clear hp HACT
    go_wp2
    go_ret
    exact ⟨⟨er, rfl⟩, HP.out⟩
  clear HACT
  by_cases h4 : k.tmod 7 = 4
  case pos =>
    clear HSEN HGET HSTL
    go_wp2_with fail
    rw [← HZ.out, ← HW1.out]
    refine HTRU.out.mono ?_
    rintro _ w2 ⟨⟨er, rfl⟩, hp⟩
    have HP := Lib.hid hp
    clear hp HTRU
    go_wp2
    go_ret
    exact ⟨⟨er, rfl⟩, HP.out⟩
  clear HTRU
  by_cases h5 : k.tmod 7 = 5
  case pos =>
    clear HGET HSTL
    go_wp2_with fail
    rw [← HZ.out, ← HW1.out]
    refine HSEN.out.mono ?_
    rintro _ w2 ⟨⟨er, rfl⟩, hp⟩
    have HP := Lib.hid hp
    clear hp HSEN
    go_wp2
    go_ret
    exact ⟨⟨er, rfl⟩, HP.out⟩
  clear HSEN
  have n0 : (k.tmod 7 == 0) = false := by simpa using h0
  have n1 : (k.tmod 7 == 1) = false := by simpa using h1
  have n2 : (k.tmod 7 == 2) = false := by simpa using h2
  have n3 : (k.tmod 7 == 3) = false := by simpa using h3
  have n4 : (k.tmod 7 == 4) = false := by simpa using h4
  have n5 : (k.tmod 7 == 5) = false := by simpa using h5
  go_wp2_with fail
  rw [← HZ.out, ← HW1.out]
  refine HGET.out.mono ?_
  rintro _ w2 ⟨s, rfl, ho, hl, b2⟩
  have HB2 := Lib.hid (HB1.out.trans (b2.mono HB1.out.size))
  obtain ⟨A', a', C', c', G', g'', rfl⟩ := ho.forms
  clear ho hl b2 HGET
  simp only [pval]
  generalize gt σ xa = q at *
  generalize errW (σ xa).isSome = er at *
  generalize q.al.length = la' at *
  generalize q.ac.length = lc' at *
  generalize q.gr.length = lg' at *
  go_wp2
  go_ret
  exact HSTL.out _ (HB2.out.alloc HB2.out.size _) er
end Go.Proofs.Ytehmfkcihieecaa.Po
