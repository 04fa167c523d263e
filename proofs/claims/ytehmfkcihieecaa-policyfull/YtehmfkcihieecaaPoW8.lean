/- A list of a principal is changed. (Laid with NS=1; written by wip/tools/gen/pow8.py.) -/
import Derived.Test.YtehmfkcihieecaaPoW7
import Derived.Test.YtehmfkcihieecaaTmInv
namespace Go.Proofs.Ytehmfkcihieecaa.Po
open Go.RowKit Go.Sort
open Te Te.Tt
open Go (Lit DataW MemPlace keyOf maxLen)

theorem al_by {W w' : World} {z : Nat} {p : Pr} {s : Sl} {b : Nm} {on : Bool} (ho : POwn W p s) (hS : ∀ k, Bl s k → k ≠ z) (h : PutMem W z 4 #[.string ⟨⟨p.nm⟩⟩, .int .i64 p.ver, .bool p.tr, .bool p.se, s.a, s.c, s.g, .int .i64 p.li] 32 s.a (put p.al b on) w') : ByPost W z s (allF b on p) (.returned (.int .i64 (put p.al b on).2)) w' := by
  obtain ⟨v', h1, h2, h3, h4, h5⟩ := h
  have hlt := ho.lt
  have hoth : ∀ k, s.c.ownBlock = some k → w'.heap[k]? = W.heap[k]? := fun k hk => h3.block k (hlt k (.inr (.inl hk))) (fun e => e.elim (hS k (.inr (.inl hk))) (fun e => ho.ac k e hk))
  have hgg : ∀ k, s.g.ownBlock = some k → w'.heap[k]? = W.heap[k]? := fun k hk => h3.block k (hlt k (.inr (.inr hk))) (fun e => e.elim (hS k (.inr (.inr hk))) (fun e => ho.ag k e hk))
  refine ⟨rfl, ⟨v', s.c, s.g⟩, h1, ?_, h3.mono (fun k hk => hk.imp (fun h => h) (fun h => .inl h)), ?_, fun h6 => fun k _ _ => (h5 h6).2 k⟩
  · refine ⟨h2, ho.c.keep hoth, ho.g.keep hgg, fun k hk e => ?_, fun k hk e => ?_, ho.cg⟩
    · rcases h4 k hk with h6 | h6
      · exact ho.ac k h6 e
      · have := hlt k (.inr (.inl e)); omega
    · rcases h4 k hk with h6 | h6
      · exact ho.ag k h6 e
      · have := hlt k (.inr (.inr e)); omega
  · rintro k (hk | hk | hk)
    · exact (h4 k hk).imp (fun h => .inl h) (fun h => h)
    · exact .inl (.inr (.inl hk))
    · exact .inl (.inr (.inr hk))

set_option maxHeartbeats 2000000 in
set_option maxRecDepth 100000 in
theorem allow1_by (V : World) (F : Nat → Prop) (y x : Nat) (b : Nm) (on : Bool) (hy : V.cell? ⟨y, 0, none⟩ = some (.string ⟨⟨b⟩⟩)) (hyl : y < V.heap.size) (hx : V.cell? ⟨x, 0, none⟩ = some (.bool on)) (hxl : x < V.heap.size) : ByIs V F 30 #[.pointer (some ⟨y, 0, none⟩), .pointer (some ⟨x, 0, none⟩)] (allF b on) := by
  intro W0 z p s hb hz hg ho hF hl hok
  have d0 : W0.cell? ⟨y, 0, none⟩ = some (.string ⟨⟨b⟩⟩) := (hb.cell (p := ⟨y, 0, none⟩) hyl).trans hy
  have d1 : W0.cell? ⟨x, 0, none⟩ = some (.bool on) := (hb.cell (p := ⟨x, 0, none⟩) hxl).trans hx
  have hS : ∀ k, Bl s k → k ≠ z := fun k hk => by have := hl k (hF k hk); omega
  have HBY : Hid (∀ w', PutMem W0 z 4 #[.string ⟨⟨p.nm⟩⟩, .int .i64 p.ver, .bool p.tr, .bool p.se, s.a, s.c, s.g, .int .i64 p.li] 32 s.a (put p.al b on) w' → ByPost W0 z s (allF b on p) (.returned (.int .i64 (put p.al b on).2)) w') := fun w' h => al_by ho hS h
  have HPUT : Hid (∀ d, Calls Try.prog 31 #[.pointer (some ⟨z, 4, none⟩), .string ⟨⟨b⟩⟩, .bool on] (Go.redrawn W0 d) (PutPost W0 z 4 #[.string ⟨⟨p.nm⟩⟩, .int .i64 p.ver, .bool p.tr, .bool p.se, s.a, s.c, s.g, .int .i64 p.li] 32 s.a (put p.al b on))) := fun d =>
    (put_any (Go.redrawn W0 d) z 4 _ _ hg s.a rfl p.al ho.a hok.la (fun k hk => hS k (.inl hk)) b on).mono fun e w' h => h.redrawn
  clear hb hz hy hyl hx hxl ho hF hl hok hS hg
  show Calls Try.prog _ #[.pointer (some ⟨z, 0, none⟩), .pointer (some ⟨y, 0, none⟩), .pointer (some ⟨x, 0, none⟩)] W0 _
  generalize allF b on p = r at *
  generalize put p.al b on = q at *
  generalize (#[.string ⟨⟨p.nm⟩⟩, .int .i64 p.ver, .bool p.tr, .bool p.se, s.a, s.c, s.g, .int .i64 p.li] : Array Value) = cur at *
  generalize s.a = v at *
  have HD0 := Lib.hid d0
  have HD1 := Lib.hid d1
  clear d0 d1
  go_enter Try.func30, Try.ntmps30
  go_wp2_with fail
  refine wp_region_inv (by kernel_rfl) (fun L act W => ∃ t5 t6 t7 t8 t9 t10 t4, act = { tmps := #[.pointer (some ⟨z, 0, none⟩), .pointer (some ⟨y, 0, none⟩), .pointer (some ⟨x, 0, none⟩), undef, t4, t5, t6, t7, t8, t9, t10], defers := [] } ∧ (L 0 = true → (.pointer (some ⟨z, 0, none⟩) : Value) = t5) ∧ (L 1 = true → (.pointer (some ⟨z, 0, none⟩) : Value) = t6) ∧ (L 2 = true → (.pointer (some ⟨z, 4, none⟩) : Value) = t7) ∧ (L 3 = true → (.string ⟨⟨b⟩⟩ : Value) = t8) ∧ (L 4 = true → (.bool on : Value) = t9) ∧ (L 5 = true → (.int .i64 q.2 : Value) = t10) ∧ (L 6 = true → (.int .i64 q.2 : Value) = t4) ∧ (L 6 = false → (.int .i64 0 : Value) = t4) ∧ (L 5 = false → ∃ d, W = Go.redrawn W0 d) ∧ (L 5 = true → PutMem W0 z 4 cur 32 v q W) ∧ (L 5 = true → L 3 = true ∧ L 4 = true)) (by kernel_rfl) ?_ ?_ ?_
  · exact ⟨_, _, _, _, _, _, _, rfl, nofun, nofun, nofun, nofun, nofun, nofun, nofun, fun _ => rfl, fun _ => ⟨_, rfl⟩, nofun, nofun⟩
  · rintro L _ W i oo ⟨t5, t6, t7, t8, t9, t10, t4, rfl, f0, f1, f2, f3, f4, f5, f6, u6, qw, qp, r5⟩ ho hL hd
    rcases i with _ | _ | _ | _ | _ | _ | _ | i
    · obtain rfl := Option.some.inj ho
      refine wpOp_step rfl fun K hK => ?_
      have F0X := Lib.hid f0
      have F1X := Lib.hid f1
      have F2X := Lib.hid f2
      have F3X := Lib.hid f3
      have F4X := Lib.hid f4
      have F5X := Lib.hid f5
      have F6X := Lib.hid f6
      have U6X := Lib.hid u6
      have QWX := Lib.hid qw
      have QPX := Lib.hid qp
      have R5X := Lib.hid r5
      clear f0 f1 f2 f3 f4 f5 f6 u6 qw qp r5 hd ho hL
      go_simp
      refine hK _ _ ?_
      exact ⟨_, _, _, _, _, _, _, rfl, fun _ => rfl, F1X.out, F2X.out, F3X.out, F4X.out, F5X.out, F6X.out, U6X.out, QWX.out, QPX.out, R5X.out⟩
    · obtain rfl := Option.some.inj ho
      have l0 := hd ⟨0, .data⟩ (by simp) rfl
      obtain rfl := f0 l0
      refine wpOp_step rfl fun K hK => ?_
      have F0X := Lib.hid f0
      have F1X := Lib.hid f1
      have F2X := Lib.hid f2
      have F3X := Lib.hid f3
      have F4X := Lib.hid f4
      have F5X := Lib.hid f5
      have F6X := Lib.hid f6
      have U6X := Lib.hid u6
      have QWX := Lib.hid qw
      have QPX := Lib.hid qp
      have R5X := Lib.hid r5
      clear f0 f1 f2 f3 f4 f5 f6 u6 qw qp r5 hd ho hL l0
      go_simp
      refine hK _ _ ?_
      exact ⟨_, _, _, _, _, _, _, rfl, F0X.out, fun _ => rfl, F2X.out, F3X.out, F4X.out, F5X.out, F6X.out, U6X.out, QWX.out, QPX.out, R5X.out⟩
    · obtain rfl := Option.some.inj ho
      have l1 := hd ⟨1, .data⟩ (by simp) rfl
      obtain rfl := f1 l1
      refine wpOp_step rfl fun K hK => ?_
      have F0X := Lib.hid f0
      have F1X := Lib.hid f1
      have F2X := Lib.hid f2
      have F3X := Lib.hid f3
      have F4X := Lib.hid f4
      have F5X := Lib.hid f5
      have F6X := Lib.hid f6
      have U6X := Lib.hid u6
      have QWX := Lib.hid qw
      have QPX := Lib.hid qp
      have R5X := Lib.hid r5
      clear f0 f1 f2 f3 f4 f5 f6 u6 qw qp r5 hd ho hL l1
      go_simp
      refine hK _ _ ?_
      exact ⟨_, _, _, _, _, _, _, rfl, F0X.out, F1X.out, fun _ => rfl, F3X.out, F4X.out, F5X.out, F6X.out, U6X.out, QWX.out, QPX.out, R5X.out⟩
    · obtain rfl := Option.some.inj ho
      have n5 : L 5 = false := by cases hq : L 5 with | false => rfl | true => (have := r5 hq; simp [hL] at this)
      obtain ⟨dd, rfl⟩ := qw n5
      have e0 : (Go.redrawn W0 dd).cell? ⟨y, 0, none⟩ = some (.string ⟨⟨b⟩⟩) := HD0.out
      refine wpOp_step rfl fun K hK => ?_
      have F0X := Lib.hid f0
      have F1X := Lib.hid f1
      have F2X := Lib.hid f2
      have F3X := Lib.hid f3
      have F4X := Lib.hid f4
      have F5X := Lib.hid f5
      have F6X := Lib.hid f6
      have U6X := Lib.hid u6
      have QWX := Lib.hid qw
      have QPX := Lib.hid qp
      have R5X := Lib.hid r5
      clear f0 f1 f2 f3 f4 f5 f6 u6 qw qp r5 hd ho hL
      go_simp
      refine hK _ _ ?_
      exact ⟨_, _, _, _, _, _, _, rfl, F0X.out, F1X.out, F2X.out, fun _ => rfl, F4X.out, F5X.out, F6X.out, U6X.out, QWX.out, QPX.out, fun h => ⟨rfl, (R5X.out h).2⟩⟩
    · obtain rfl := Option.some.inj ho
      have n5 : L 5 = false := by cases hq : L 5 with | false => rfl | true => (have := r5 hq; simp [hL] at this)
      obtain ⟨dd, rfl⟩ := qw n5
      have e0 : (Go.redrawn W0 dd).cell? ⟨x, 0, none⟩ = some (.bool on) := HD1.out
      refine wpOp_step rfl fun K hK => ?_
      have F0X := Lib.hid f0
      have F1X := Lib.hid f1
      have F2X := Lib.hid f2
      have F3X := Lib.hid f3
      have F4X := Lib.hid f4
      have F5X := Lib.hid f5
      have F6X := Lib.hid f6
      have U6X := Lib.hid u6
      have QWX := Lib.hid qw
      have QPX := Lib.hid qp
      have R5X := Lib.hid r5
      clear f0 f1 f2 f3 f4 f5 f6 u6 qw qp r5 hd ho hL
      go_simp
      refine hK _ _ ?_
      exact ⟨_, _, _, _, _, _, _, rfl, F0X.out, F1X.out, F2X.out, F3X.out, fun _ => rfl, F5X.out, F6X.out, U6X.out, QWX.out, QPX.out, fun h => ⟨(R5X.out h).1, rfl⟩⟩
    · obtain rfl := Option.some.inj ho
      have l2 := hd ⟨2, .data⟩ (by simp) rfl
      have l3 := hd ⟨3, .data⟩ (by simp) rfl
      have l4 := hd ⟨4, .data⟩ (by simp) rfl
      obtain rfl := f2 l2
      obtain rfl := f3 l3
      obtain rfl := f4 l4
      have L34 := Lib.hid (And.intro l3 l4)
      obtain ⟨dd, rfl⟩ := qw hL
      have HC := Lib.hid (HPUT.out dd)
      refine wpOp_step rfl fun K hK => ?_
      have F0X := Lib.hid f0
      have F1X := Lib.hid f1
      have F2X := Lib.hid f2
      have F3X := Lib.hid f3
      have F4X := Lib.hid f4
      have F5X := Lib.hid f5
      have F6X := Lib.hid f6
      have U6X := Lib.hid u6
      have QWX := Lib.hid qw
      have QPX := Lib.hid qp
      have R5X := Lib.hid r5
      clear f0 f1 f2 f3 f4 f5 f6 u6 qw qp r5 hd ho hL l2 l3 l4
      go_simp
      refine HC.out.mono ?_
      rintro _ w1 ⟨rfl, hp⟩
      refine hK _ _ ?_
      exact ⟨_, _, _, _, _, _, _, rfl, F0X.out, F1X.out, F2X.out, F3X.out, F4X.out, fun _ => rfl, F6X.out, U6X.out, nofun, fun _ => hp, fun _ => L34.out⟩
    · obtain rfl := Option.some.inj ho
      have l5 := hd ⟨5, .data⟩ (by simp) rfl
      obtain rfl := f5 l5
      refine wpOp_step rfl fun K hK => ?_
      have F0X := Lib.hid f0
      have F1X := Lib.hid f1
      have F2X := Lib.hid f2
      have F3X := Lib.hid f3
      have F4X := Lib.hid f4
      have F5X := Lib.hid f5
      have F6X := Lib.hid f6
      have U6X := Lib.hid u6
      have QWX := Lib.hid qw
      have QPX := Lib.hid qp
      have R5X := Lib.hid r5
      clear f0 f1 f2 f3 f4 f5 f6 u6 qw qp r5 hd ho hL l5
      go_simp
      refine hK _ _ ?_
      exact ⟨_, _, _, _, _, _, _, rfl, F0X.out, F1X.out, F2X.out, F3X.out, F4X.out, F5X.out, fun _ => rfl, nofun, QWX.out, QPX.out, R5X.out⟩
    · simp at ho
  · rintro L _ W ⟨t5, t6, t7, t8, t9, t10, t4, rfl, f0, f1, f2, f3, f4, f5, f6, u6, qw, qp, r5⟩ hall
    obtain rfl := f0 (hall 0 (by decide))
    obtain rfl := f1 (hall 1 (by decide))
    obtain rfl := f2 (hall 2 (by decide))
    obtain rfl := f3 (hall 3 (by decide))
    obtain rfl := f4 (hall 4 (by decide))
    obtain rfl := f5 (hall 5 (by decide))
    obtain rfl := f6 (hall 6 (by decide))
    have hp := qp (hall 5 (by decide))
    have HP := Lib.hid (HBY.out _ hp)
    clear qw qp r5 hp hall
    go_wp2
    go_ret
    exact HP.out

theorem ac_by {W w' : World} {z : Nat} {p : Pr} {s : Sl} {b : Nm} {on : Bool} (ho : POwn W p s) (hS : ∀ k, Bl s k → k ≠ z) (h : PutMem W z 5 #[.string ⟨⟨p.nm⟩⟩, .int .i64 p.ver, .bool p.tr, .bool p.se, s.a, s.c, s.g, .int .i64 p.li] 32 s.c (put p.ac b on) w') : ByPost W z s (actF b on p) (.returned (.int .i64 (put p.ac b on).2)) w' := by
  obtain ⟨v', h1, h2, h3, h4, h5⟩ := h
  have hlt := ho.lt
  have hoth : ∀ k, s.a.ownBlock = some k → w'.heap[k]? = W.heap[k]? := fun k hk => h3.block k (hlt k (.inl hk)) (fun e => e.elim (hS k (.inl hk)) (fun e => ho.ac k hk e))
  have hgg : ∀ k, s.g.ownBlock = some k → w'.heap[k]? = W.heap[k]? := fun k hk => h3.block k (hlt k (.inr (.inr hk))) (fun e => e.elim (hS k (.inr (.inr hk))) (fun e => ho.cg k e hk))
  refine ⟨rfl, ⟨s.a, v', s.g⟩, h1, ?_, h3.mono (fun k hk => hk.imp (fun h => h) (fun h => .inr (.inl h))), ?_, fun h6 => fun k _ _ => (h5 h6).2 k⟩
  · refine ⟨ho.a.keep hoth, h2, ho.g.keep hgg, fun k e hk => ?_, ho.ag, fun k hk e => ?_⟩
    · rcases h4 k hk with h6 | h6
      · exact ho.ac k e h6
      · have := hlt k (.inl e); omega
    · rcases h4 k hk with h6 | h6
      · exact ho.cg k h6 e
      · have := hlt k (.inr (.inr e)); omega
  · rintro k (hk | hk | hk)
    · exact .inl (.inl hk)
    · exact (h4 k hk).imp (fun h => .inr (.inl h)) (fun h => h)
    · exact .inl (.inr (.inr hk))

set_option maxHeartbeats 2000000 in
set_option maxRecDepth 100000 in
theorem acts1_by (V : World) (F : Nat → Prop) (y x : Nat) (b : Nm) (on : Bool) (hy : V.cell? ⟨y, 0, none⟩ = some (.string ⟨⟨b⟩⟩)) (hyl : y < V.heap.size) (hx : V.cell? ⟨x, 0, none⟩ = some (.bool on)) (hxl : x < V.heap.size) : ByIs V F 43 #[.pointer (some ⟨y, 0, none⟩), .pointer (some ⟨x, 0, none⟩)] (actF b on) := by
  intro W0 z p s hb hz hg ho hF hl hok
  have d0 : W0.cell? ⟨y, 0, none⟩ = some (.string ⟨⟨b⟩⟩) := (hb.cell (p := ⟨y, 0, none⟩) hyl).trans hy
  have d1 : W0.cell? ⟨x, 0, none⟩ = some (.bool on) := (hb.cell (p := ⟨x, 0, none⟩) hxl).trans hx
  have hS : ∀ k, Bl s k → k ≠ z := fun k hk => by have := hl k (hF k hk); omega
  have HBY : Hid (∀ w', PutMem W0 z 5 #[.string ⟨⟨p.nm⟩⟩, .int .i64 p.ver, .bool p.tr, .bool p.se, s.a, s.c, s.g, .int .i64 p.li] 32 s.c (put p.ac b on) w' → ByPost W0 z s (actF b on p) (.returned (.int .i64 (put p.ac b on).2)) w') := fun w' h => ac_by ho hS h
  have HPUT : Hid (∀ d, Calls Try.prog 31 #[.pointer (some ⟨z, 5, none⟩), .string ⟨⟨b⟩⟩, .bool on] (Go.redrawn W0 d) (PutPost W0 z 5 #[.string ⟨⟨p.nm⟩⟩, .int .i64 p.ver, .bool p.tr, .bool p.se, s.a, s.c, s.g, .int .i64 p.li] 32 s.c (put p.ac b on))) := fun d =>
    (put_any (Go.redrawn W0 d) z 5 _ _ hg s.c rfl p.ac ho.c hok.lc (fun k hk => hS k (.inr (.inl hk))) b on).mono fun e w' h => h.redrawn
  clear hb hz hy hyl hx hxl ho hF hl hok hS hg
  show Calls Try.prog _ #[.pointer (some ⟨z, 0, none⟩), .pointer (some ⟨y, 0, none⟩), .pointer (some ⟨x, 0, none⟩)] W0 _
  generalize actF b on p = r at *
  generalize put p.ac b on = q at *
  generalize (#[.string ⟨⟨p.nm⟩⟩, .int .i64 p.ver, .bool p.tr, .bool p.se, s.a, s.c, s.g, .int .i64 p.li] : Array Value) = cur at *
  generalize s.c = v at *
  have HD0 := Lib.hid d0
  have HD1 := Lib.hid d1
  clear d0 d1
  go_enter Try.func43, Try.ntmps43
  go_wp2_with fail
  refine wp_region_inv (by kernel_rfl) (fun L act W => ∃ t5 t6 t7 t8 t9 t10 t4, act = { tmps := #[.pointer (some ⟨z, 0, none⟩), .pointer (some ⟨y, 0, none⟩), .pointer (some ⟨x, 0, none⟩), undef, t4, t5, t6, t7, t8, t9, t10], defers := [] } ∧ (L 0 = true → (.pointer (some ⟨z, 0, none⟩) : Value) = t5) ∧ (L 1 = true → (.pointer (some ⟨z, 0, none⟩) : Value) = t6) ∧ (L 2 = true → (.pointer (some ⟨z, 5, none⟩) : Value) = t7) ∧ (L 3 = true → (.string ⟨⟨b⟩⟩ : Value) = t8) ∧ (L 4 = true → (.bool on : Value) = t9) ∧ (L 5 = true → (.int .i64 q.2 : Value) = t10) ∧ (L 6 = true → (.int .i64 q.2 : Value) = t4) ∧ (L 6 = false → (.int .i64 0 : Value) = t4) ∧ (L 5 = false → ∃ d, W = Go.redrawn W0 d) ∧ (L 5 = true → PutMem W0 z 5 cur 32 v q W) ∧ (L 5 = true → L 3 = true ∧ L 4 = true)) (by kernel_rfl) ?_ ?_ ?_
  · exact ⟨_, _, _, _, _, _, _, rfl, nofun, nofun, nofun, nofun, nofun, nofun, nofun, fun _ => rfl, fun _ => ⟨_, rfl⟩, nofun, nofun⟩
  · rintro L _ W i oo ⟨t5, t6, t7, t8, t9, t10, t4, rfl, f0, f1, f2, f3, f4, f5, f6, u6, qw, qp, r5⟩ ho hL hd
    rcases i with _ | _ | _ | _ | _ | _ | _ | i
    · obtain rfl := Option.some.inj ho
      refine wpOp_step rfl fun K hK => ?_
      have F0X := Lib.hid f0
      have F1X := Lib.hid f1
      have F2X := Lib.hid f2
      have F3X := Lib.hid f3
      have F4X := Lib.hid f4
      have F5X := Lib.hid f5
      have F6X := Lib.hid f6
      have U6X := Lib.hid u6
      have QWX := Lib.hid qw
      have QPX := Lib.hid qp
      have R5X := Lib.hid r5
      clear f0 f1 f2 f3 f4 f5 f6 u6 qw qp r5 hd ho hL
      go_simp
      refine hK _ _ ?_
      exact ⟨_, _, _, _, _, _, _, rfl, fun _ => rfl, F1X.out, F2X.out, F3X.out, F4X.out, F5X.out, F6X.out, U6X.out, QWX.out, QPX.out, R5X.out⟩
    · obtain rfl := Option.some.inj ho
      have l0 := hd ⟨0, .data⟩ (by simp) rfl
      obtain rfl := f0 l0
      refine wpOp_step rfl fun K hK => ?_
      have F0X := Lib.hid f0
      have F1X := Lib.hid f1
      have F2X := Lib.hid f2
      have F3X := Lib.hid f3
      have F4X := Lib.hid f4
      have F5X := Lib.hid f5
      have F6X := Lib.hid f6
      have U6X := Lib.hid u6
      have QWX := Lib.hid qw
      have QPX := Lib.hid qp
      have R5X := Lib.hid r5
      clear f0 f1 f2 f3 f4 f5 f6 u6 qw qp r5 hd ho hL l0
      go_simp
      refine hK _ _ ?_
      exact ⟨_, _, _, _, _, _, _, rfl, F0X.out, fun _ => rfl, F2X.out, F3X.out, F4X.out, F5X.out, F6X.out, U6X.out, QWX.out, QPX.out, R5X.out⟩
    · obtain rfl := Option.some.inj ho
      have l1 := hd ⟨1, .data⟩ (by simp) rfl
      obtain rfl := f1 l1
      refine wpOp_step rfl fun K hK => ?_
      have F0X := Lib.hid f0
      have F1X := Lib.hid f1
      have F2X := Lib.hid f2
      have F3X := Lib.hid f3
      have F4X := Lib.hid f4
      have F5X := Lib.hid f5
      have F6X := Lib.hid f6
      have U6X := Lib.hid u6
      have QWX := Lib.hid qw
      have QPX := Lib.hid qp
      have R5X := Lib.hid r5
      clear f0 f1 f2 f3 f4 f5 f6 u6 qw qp r5 hd ho hL l1
      go_simp
      refine hK _ _ ?_
      exact ⟨_, _, _, _, _, _, _, rfl, F0X.out, F1X.out, fun _ => rfl, F3X.out, F4X.out, F5X.out, F6X.out, U6X.out, QWX.out, QPX.out, R5X.out⟩
    · obtain rfl := Option.some.inj ho
      have n5 : L 5 = false := by cases hq : L 5 with | false => rfl | true => (have := r5 hq; simp [hL] at this)
      obtain ⟨dd, rfl⟩ := qw n5
      have e0 : (Go.redrawn W0 dd).cell? ⟨y, 0, none⟩ = some (.string ⟨⟨b⟩⟩) := HD0.out
      refine wpOp_step rfl fun K hK => ?_
      have F0X := Lib.hid f0
      have F1X := Lib.hid f1
      have F2X := Lib.hid f2
      have F3X := Lib.hid f3
      have F4X := Lib.hid f4
      have F5X := Lib.hid f5
      have F6X := Lib.hid f6
      have U6X := Lib.hid u6
      have QWX := Lib.hid qw
      have QPX := Lib.hid qp
      have R5X := Lib.hid r5
      clear f0 f1 f2 f3 f4 f5 f6 u6 qw qp r5 hd ho hL
      go_simp
      refine hK _ _ ?_
      exact ⟨_, _, _, _, _, _, _, rfl, F0X.out, F1X.out, F2X.out, fun _ => rfl, F4X.out, F5X.out, F6X.out, U6X.out, QWX.out, QPX.out, fun h => ⟨rfl, (R5X.out h).2⟩⟩
    · obtain rfl := Option.some.inj ho
      have n5 : L 5 = false := by cases hq : L 5 with | false => rfl | true => (have := r5 hq; simp [hL] at this)
      obtain ⟨dd, rfl⟩ := qw n5
      have e0 : (Go.redrawn W0 dd).cell? ⟨x, 0, none⟩ = some (.bool on) := HD1.out
      refine wpOp_step rfl fun K hK => ?_
      have F0X := Lib.hid f0
      have F1X := Lib.hid f1
      have F2X := Lib.hid f2
      have F3X := Lib.hid f3
      have F4X := Lib.hid f4
      have F5X := Lib.hid f5
      have F6X := Lib.hid f6
      have U6X := Lib.hid u6
      have QWX := Lib.hid qw
      have QPX := Lib.hid qp
      have R5X := Lib.hid r5
      clear f0 f1 f2 f3 f4 f5 f6 u6 qw qp r5 hd ho hL
      go_simp
      refine hK _ _ ?_
      exact ⟨_, _, _, _, _, _, _, rfl, F0X.out, F1X.out, F2X.out, F3X.out, fun _ => rfl, F5X.out, F6X.out, U6X.out, QWX.out, QPX.out, fun h => ⟨(R5X.out h).1, rfl⟩⟩
    · obtain rfl := Option.some.inj ho
      have l2 := hd ⟨2, .data⟩ (by simp) rfl
      have l3 := hd ⟨3, .data⟩ (by simp) rfl
      have l4 := hd ⟨4, .data⟩ (by simp) rfl
      obtain rfl := f2 l2
      obtain rfl := f3 l3
      obtain rfl := f4 l4
      have L34 := Lib.hid (And.intro l3 l4)
      obtain ⟨dd, rfl⟩ := qw hL
      have HC := Lib.hid (HPUT.out dd)
      refine wpOp_step rfl fun K hK => ?_
      have F0X := Lib.hid f0
      have F1X := Lib.hid f1
      have F2X := Lib.hid f2
      have F3X := Lib.hid f3
      have F4X := Lib.hid f4
      have F5X := Lib.hid f5
      have F6X := Lib.hid f6
      have U6X := Lib.hid u6
      have QWX := Lib.hid qw
      have QPX := Lib.hid qp
      have R5X := Lib.hid r5
      clear f0 f1 f2 f3 f4 f5 f6 u6 qw qp r5 hd ho hL l2 l3 l4
      go_simp
      refine HC.out.mono ?_
      rintro _ w1 ⟨rfl, hp⟩
      refine hK _ _ ?_
      exact ⟨_, _, _, _, _, _, _, rfl, F0X.out, F1X.out, F2X.out, F3X.out, F4X.out, fun _ => rfl, F6X.out, U6X.out, nofun, fun _ => hp, fun _ => L34.out⟩
    · obtain rfl := Option.some.inj ho
      have l5 := hd ⟨5, .data⟩ (by simp) rfl
      obtain rfl := f5 l5
      refine wpOp_step rfl fun K hK => ?_
      have F0X := Lib.hid f0
      have F1X := Lib.hid f1
      have F2X := Lib.hid f2
      have F3X := Lib.hid f3
      have F4X := Lib.hid f4
      have F5X := Lib.hid f5
      have F6X := Lib.hid f6
      have U6X := Lib.hid u6
      have QWX := Lib.hid qw
      have QPX := Lib.hid qp
      have R5X := Lib.hid r5
      clear f0 f1 f2 f3 f4 f5 f6 u6 qw qp r5 hd ho hL l5
      go_simp
      refine hK _ _ ?_
      exact ⟨_, _, _, _, _, _, _, rfl, F0X.out, F1X.out, F2X.out, F3X.out, F4X.out, F5X.out, fun _ => rfl, nofun, QWX.out, QPX.out, R5X.out⟩
    · simp at ho
  · rintro L _ W ⟨t5, t6, t7, t8, t9, t10, t4, rfl, f0, f1, f2, f3, f4, f5, f6, u6, qw, qp, r5⟩ hall
    obtain rfl := f0 (hall 0 (by decide))
    obtain rfl := f1 (hall 1 (by decide))
    obtain rfl := f2 (hall 2 (by decide))
    obtain rfl := f3 (hall 3 (by decide))
    obtain rfl := f4 (hall 4 (by decide))
    obtain rfl := f5 (hall 5 (by decide))
    obtain rfl := f6 (hall 6 (by decide))
    have hp := qp (hall 5 (by decide))
    have HP := Lib.hid (HBY.out _ hp)
    clear qw qp r5 hp hall
    go_wp2
    go_ret
    exact HP.out

end Go.Proofs.Ytehmfkcihieecaa.Po
