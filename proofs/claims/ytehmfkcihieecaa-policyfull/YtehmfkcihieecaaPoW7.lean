/- What changes a principal; change. (Laid with NS=1; written by wip/tools/gen/pot.py.) -/
import Derived.Test.YtehmfkcihieecaaPoW6
namespace Go.Proofs.Ytehmfkcihieecaa.Po
open Go.RowKit Go.Sort
open Te Te.Tt
open Go (Lit DataW MemPlace keyOf maxLen)

/-- What a change leaves of the principal that lies in block z. -/
def ByPost (W : World) (z : Nat) (s : Sl) (r : Pr × Int) (e : Ending) (w' : World) : Prop := e = .returned (.int .i64 r.2) ∧ ∃ s', w'.heap[z]? = some (.cells #[.string ⟨⟨r.1.nm⟩⟩, .int .i64 r.1.ver, .bool r.1.tr, .bool r.1.se, s'.a, s'.c, s'.g, .int .i64 r.1.li] 32 (0, 0)) ∧ POwn w' r.1 s' ∧ Turn (fun k => k = z ∨ Bl s k) W w' ∧
  (∀ k, Bl s' k → Bl s k ∨ W.heap.size ≤ k) ∧ (r.2 ≠ 0 → ∀ k, k < W.heap.size → k ≠ z → w'.heap[k]? = W.heap[k]?)
/-- The function c, with what it has caught, changes a principal as ph says: in any world since V. -/
def ByIs (V : World) (F : Nat → Prop) (fn : FuncId) (cb : Array Value) (ph : Pr → Pr × Int) : Prop := ∀ W z p s, Below V.heap.size V W → V.heap.size ≤ z → W.heap[z]? = some (.cells #[.string ⟨⟨p.nm⟩⟩, .int .i64 p.ver, .bool p.tr, .bool p.se, s.a, s.c, s.g, .int .i64 p.li] 32 (0, 0)) → POwn W p s → (∀ k, Bl s k → F k) → (∀ k, F k → k < V.heap.size) → Okp p.nm p →
  Calls Try.prog fn (#[.pointer (some ⟨z, 0, none⟩)] ++ cb) W (ByPost W z s (ph p))

set_option maxHeartbeats 2000000 in
set_option maxRecDepth 100000 in
theorem rekey1_by (V : World) (F : Nat → Prop) : ByIs V F 35 #[] rekF := by
  intro W z p s _ hz hg ho hF hl hok
  have HG := Lib.hid hg
  have HO := Lib.hid ho
  have HS : Hid (∀ k, Bl s k → k ≠ z) := fun k hk => by have := hl k (hF k hk); omega
  have v1 := hok.v1
  have v2 := hok.v2
  obtain ⟨nm, ver, tr, se, al, ac, gr, li⟩ := p
  simp only at *
  have hf := fun k => frozen_of_row _ _ k _ _ hg
  obtain ⟨c0, c1, c2, c3, c4, c5, c6, c7⟩ := cell8 hg
  have hzl := (Array.getElem?_eq_some_iff.1 hg).1
  clear hg ho hF hl hok
  show Calls Try.prog _ #[.pointer (some ⟨z, 0, none⟩)] W _
  by_cases h : 1000 ≤ ver
  · have e : rekF ⟨nm, ver, tr, se, al, ac, gr, li⟩ = (⟨nm, ver, tr, se, al, ac, gr, li⟩, 53) := by unfold rekF; rw [if_pos h]
    rw [e]
    have HP : Hid (ByPost W z s (⟨nm, ver, tr, se, al, ac, gr, li⟩, 53) (.returned (.int .i64 53)) W) := ⟨rfl, s, HG.out, HO.out, Turn.refl _ _, fun k hk => .inl hk, fun _ _ _ _ => rfl⟩
    clear e HG HO HS
    go_enter Try.func35, Try.ntmps35
    go_wp2
    go_ret
    exact HP.out
  · have e : rekF ⟨nm, ver, tr, se, al, ac, gr, li⟩ = (⟨nm, ver + 1, tr, se, al, ac, gr, li⟩, 0) := by unfold rekF; rw [if_neg h]
    rw [e]
    have HN := Lib.hid (heap_setCell_same _ _ 1 _ _ (.int .i64 (ver + 1)) HG.out)
    have HP : Hid (ByPost W z s (⟨nm, ver + 1, tr, se, al, ac, gr, li⟩, 0) (.returned (.int .i64 0)) (W.setCell ⟨z, 1, none⟩ (.int .i64 (ver + 1)))) := by
      have hk : ∀ k, k ≠ z → (W.setCell ⟨z, 1, none⟩ (.int .i64 (ver + 1))).heap[k]? = W.heap[k]? := fun k hk => heap_setCell_other _ _ _ _ hk
      have ho := HO.out
      refine ⟨rfl, s, HN.out, ?_, ⟨rfl, rfl, rfl, by simp, fun k hk' hn => hk k (fun e => hn (.inl e))⟩, fun k hk => .inl hk, fun h => absurd rfl h⟩
      have := ho.keep (w' := W.setCell ⟨z, 1, none⟩ (.int .i64 (ver + 1))) (fun k hb => hk k (HS.out k hb))
      exact ⟨this.a, this.c, this.g, this.ac, this.ag, this.cg⟩
    clear e HG HO HS HN
    go_enter Try.func35, Try.ntmps35
    go_wp2
    go_ret
    exact HP.out

set_option maxHeartbeats 2000000 in
set_option maxRecDepth 100000 in
theorem trust1_by (V : World) (F : Nat → Prop) (y : Nat) (on : Bool) (hy : V.cell? ⟨y, 0, none⟩ = some (.bool on)) (hyl : y < V.heap.size) : ByIs V F 37 #[.pointer (some ⟨y, 0, none⟩)] (truF on) := by
  intro W z p s hb hz hg ho hF hl _
  have d0 : W.cell? ⟨y, 0, none⟩ = some (.bool on) := (hb.cell (p := ⟨y, 0, none⟩) hyl).trans hy
  have HG := Lib.hid hg
  have HO := Lib.hid ho
  have HS : Hid (∀ k, Bl s k → k ≠ z) := fun k hk => by have := hl k (hF k hk); omega
  obtain ⟨nm, ver, tr, se, al, ac, gr, li⟩ := p
  simp only at *
  have hf := fun k => frozen_of_row _ _ k _ _ hg
  obtain ⟨c0, c1, c2, c3, c4, c5, c6, c7⟩ := cell8 hg
  have hzl := (Array.getElem?_eq_some_iff.1 hg).1
  clear hg ho hF hl hb hz hy hyl
  show Calls Try.prog _ #[.pointer (some ⟨z, 0, none⟩), .pointer (some ⟨y, 0, none⟩)] W _
  have e : truF on ⟨nm, ver, tr, se, al, ac, gr, li⟩ = (⟨nm, ver, on, se, al, ac, gr, li⟩, 0) := rfl
  rw [e]
  have HN := Lib.hid (heap_setCell_same _ _ 2 _ _ (.bool on) HG.out)
  have HP : Hid (ByPost W z s (⟨nm, ver, on, se, al, ac, gr, li⟩, 0) (.returned (.int .i64 0)) (W.setCell ⟨z, 2, none⟩ (.bool on))) := by
    have hk : ∀ k, k ≠ z → (W.setCell ⟨z, 2, none⟩ (.bool on)).heap[k]? = W.heap[k]? := fun k hk => heap_setCell_other _ _ _ _ hk
    have ho := HO.out
    refine ⟨rfl, s, HN.out, ?_, ⟨rfl, rfl, rfl, by simp, fun k hk' hn => hk k (fun e => hn (.inl e))⟩, fun k hk => .inl hk, fun h => absurd rfl h⟩
    have := ho.keep (w' := W.setCell ⟨z, 2, none⟩ (.bool on)) (fun k hb => hk k (HS.out k hb))
    exact ⟨this.a, this.c, this.g, this.ac, this.ag, this.cg⟩
  clear e HG HO HS HN
  go_enter Try.func37, Try.ntmps37
  go_wp2
  go_ret
  exact HP.out

set_option maxHeartbeats 2000000 in
set_option maxRecDepth 100000 in
theorem sense1_by (V : World) (F : Nat → Prop) (y : Nat) (on : Bool) (hy : V.cell? ⟨y, 0, none⟩ = some (.bool on)) (hyl : y < V.heap.size) : ByIs V F 38 #[.pointer (some ⟨y, 0, none⟩)] (senF on) := by
  intro W z p s hb hz hg ho hF hl _
  have d0 : W.cell? ⟨y, 0, none⟩ = some (.bool on) := (hb.cell (p := ⟨y, 0, none⟩) hyl).trans hy
  have HG := Lib.hid hg
  have HO := Lib.hid ho
  have HS : Hid (∀ k, Bl s k → k ≠ z) := fun k hk => by have := hl k (hF k hk); omega
  obtain ⟨nm, ver, tr, se, al, ac, gr, li⟩ := p
  simp only at *
  have hf := fun k => frozen_of_row _ _ k _ _ hg
  obtain ⟨c0, c1, c2, c3, c4, c5, c6, c7⟩ := cell8 hg
  have hzl := (Array.getElem?_eq_some_iff.1 hg).1
  clear hg ho hF hl hb hz hy hyl
  show Calls Try.prog _ #[.pointer (some ⟨z, 0, none⟩), .pointer (some ⟨y, 0, none⟩)] W _
  have e : senF on ⟨nm, ver, tr, se, al, ac, gr, li⟩ = (⟨nm, ver, tr, on, al, ac, gr, li⟩, 0) := rfl
  rw [e]
  have HN := Lib.hid (heap_setCell_same _ _ 3 _ _ (.bool on) HG.out)
  have HP : Hid (ByPost W z s (⟨nm, ver, tr, on, al, ac, gr, li⟩, 0) (.returned (.int .i64 0)) (W.setCell ⟨z, 3, none⟩ (.bool on))) := by
    have hk : ∀ k, k ≠ z → (W.setCell ⟨z, 3, none⟩ (.bool on)).heap[k]? = W.heap[k]? := fun k hk => heap_setCell_other _ _ _ _ hk
    have ho := HO.out
    refine ⟨rfl, s, HN.out, ?_, ⟨rfl, rfl, rfl, by simp, fun k hk' hn => hk k (fun e => hn (.inl e))⟩, fun k hk => .inl hk, fun h => absurd rfl h⟩
    have := ho.keep (w' := W.setCell ⟨z, 3, none⟩ (.bool on)) (fun k hb => hk k (HS.out k hb))
    exact ⟨this.a, this.c, this.g, this.ac, this.ag, this.cg⟩
  clear e HG HO HS HN
  go_enter Try.func38, Try.ntmps38
  go_wp2
  go_ret
  exact HP.out
end Go.Proofs.Ytehmfkcihieecaa.Po
