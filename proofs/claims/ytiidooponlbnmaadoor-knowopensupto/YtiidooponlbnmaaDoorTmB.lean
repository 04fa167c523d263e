/- A buffer of bytes that grows; strconv.AppendInt onto it, with all else left alone. -/
import Derived.Test.YtiidooponlbnmaaDoorTmMem
import Derived.Test.YtiidooponlbnmaaDoorTmAI
import Derived.Lib.AppendStr
import Derived.Maps.AppendAt
import Derived.OwnWalk
namespace Go.Proofs.YtiidooponlbnmaaDoor.Te
open Go.RowKit Go.Sort
open Tt

/-- Nothing but the value v's own row has changed; v' lies there, or in a new block. -/
structure Grw (w : World) (v : Value) (w' : World) (v' : Value) : Prop where
  grown : w.grownBy w' v.ownBlock
  lies : v'.ownBlock = v.ownBlock ∨ ∀ k, v'.ownBlock = some k → w.heap.size ≤ k
theorem Grw.refl (w : World) (v : Value) : Grw w v w v := ⟨⟨rfl, rfl, rfl, Nat.le_refl _, fun _ _ _ => rfl⟩, .inl rfl⟩
theorem Grw.trans {w w1 w2 : World} {v v1 v2 : Value} (h : Grw w v w1 v1) (k : Grw w1 v1 w2 v2) : Grw w v w2 v2 := by
  have hs := h.grown.size
  refine ⟨⟨k.grown.os.trans h.grown.os, k.grown.tape.trans h.grown.tape, k.grown.output.trans h.grown.output, Nat.le_trans hs k.grown.size, fun b hb hne => ?_⟩, ?_⟩
  · refine (k.grown.block b (by omega) fun e => ?_).trans (h.grown.block b hb hne)
    rcases h.lies with h' | h'
    · exact hne (e.trans h')
    · have := h' b e.symm; omega
  · rcases k.lies with k' | k'
    · rcases h.lies with h' | h'
      · exact .inl (k'.trans h')
      · exact .inr fun b hb => h' b (k' ▸ hb)
    · exact .inr fun b hb => Nat.le_trans hs (k' b hb)
theorem Grw.below {w w' : World} {v : Value} (h : Below w.heap.size w w') : Grw w v w' v :=
  ⟨⟨h.os, h.tape, h.output, h.size, fun k hk _ => h.block k hk⟩, .inl rfl⟩
theorem Grw.alloc (w : World) (v : Value) (o : Obj) : Grw w v (w.alloc o) v := .below ((Below.refl _ _).alloc (Nat.le_refl _) _)
/-- A block that is not the buffer's is kept, and is not the new one's either. -/
theorem Grw.keep {w w' : World} {v v' : Value} (h : Grw w v w' v') {b : Nat} {o : Obj} (hb : w.heap[b]? = some o) (hne : some b ≠ v.ownBlock) : w'.heap[b]? = some o ∧ some b ≠ v'.ownBlock := by
  have hlt := (Array.getElem?_eq_some_iff.1 hb).1
  refine ⟨(h.grown.block b hlt hne).trans hb, fun e => ?_⟩
  rcases h.lies with h' | h'
  · exact hne (e.trans h')
  · have := h' b e.symm; omega

/-- The value v is a buffer of the bytes l, from block B on. -/
def Buf (B : Nat) (w : World) (v : Value) (l : List UInt8) : Prop := w.ownsRow B 5 1 v l.length (Lib.byteCells l) ∧ B ≤ w.heap.size
theorem Buf.nil (w : World) (B : Nat) (h : B ≤ w.heap.size) : Buf B w (.slice none 0 0) [] := ⟨World.ownsRow_nil _ _ _ _, h⟩
theorem Buf.bel {B : Nat} {w w' : World} {v : Value} {l : List UInt8} (h : Buf B w v l) (hb : Below w.heap.size w w') : Buf B w' v l := by
  refine ⟨h.1.kept (row := none) ⟨hb.os, hb.tape, hb.output, hb.size, fun k hk _ => hb.block k hk⟩ ?_, Nat.le_trans h.2 hb.size⟩
  cases hv : v.ownBlock with
  | none => exact .inl rfl
  | some k => exact .inr (by simp)
theorem Buf.low {B : Nat} {w w' : World} {v v' : Value} {l : List UInt8} (h : Buf B w v l) (hg : Grw w v w' v') : Below B w w' :=
  (Below.refl B w).grown hg.grown h.2 (fun k hk => (h.1.lt k hk).1)
theorem Buf.own {B : Nat} {w : World} {v : Value} {l : List UInt8} (h : Buf B w v l) {b : Nat} {c : Array Value} {t : TypeId} {fr : Nat × Nat} (hb : w.heap[b]? = some (.cells c t fr)) (ht : t ≠ 5) : some b ≠ v.ownBlock := by
  intro e
  rcases h.1.2 with ⟨h', _⟩ | ⟨g, cap, cur, h', _, hg, _⟩
  · rw [h'] at e; simp [Value.ownBlock] at e
  · rw [h'] at e
    obtain rfl : b = g := by simpa [Value.ownBlock] using e
    rw [hb] at hg
    simp at hg
    exact ht hg.2.1
theorem Buf.old {B : Nat} {w : World} {v : Value} {l : List UInt8} (h : Buf B w v l) {b : Nat} (hb : w.heap.size ≤ b) : some b ≠ v.ownBlock := by
  intro e
  have := (h.1.lt b e.symm).2
  omega
theorem Buf.form {B : Nat} {w : World} {v : Value} {l : List UInt8} (h : Buf B w v l) : ∃ A c, v = .slice A l.length c := by
  rcases h.1.2 with ⟨h', h0⟩ | ⟨g, cap, cur, h', _⟩
  · exact ⟨none, 0, by rw [h', h0]⟩
  · exact ⟨_, _, h'⟩

theorem info5 : (Tryd.prog.info? 5).map (fun i => (i.zero, i.size, i.bytes)) = some (some (.int .u8 0), 1, 1) := by kernel_rfl
theorem bcell_one (l : List UInt8) : ∀ u ∈ Lib.byteCells l, u.oneCell' = true := by
  intro u hu
  simp only [Lib.byteCells, List.mem_map] at hu
  obtain ⟨b, _, rfl⟩ := hu
  rfl

/-- append(v, bytes..) of a slice that lies in its own block h. -/
theorem run_app {B : Nat} {w : World} {v : Value} {l : List UInt8} (h : Buf B w v l) (m : List UInt8) (a : Addr) (c : Nat) (hm : ∀ j u, (Lib.byteCells m)[j]? = some u → w.cell? (a.add j) = some u) (hl : l.length + m.length ≤ 1000000000000) :
    ∃ v' w', (Builtin.append_ #[68, 68] 68 #[v, .slice (some a) m.length c]).run Tryd.prog w = .ok v' w' ∧ Buf B w' v' (l ++ m) ∧ Grw w v w' v' := by
  obtain ⟨i, hi, hz, hs, hb⟩ := info_parts info5
  obtain ⟨v', w', hr, ho, hg, -, hat⟩ := run_append_own_at (P := Tryd.prog) w B 68 68 5 i (.int .u8 0) 1 1 Tryd.underlying68 hi hz hs hb rfl (by decide) v l.length _ h.1 a m.length c (Lib.byteCells m) (by rw [Lib.byteCells_length, Nat.mul_one]) hm (bcell_one m) (by unfold maxLen; omega) (by omega) h.2
  refine ⟨v', w', hr, ⟨by rw [List.length_append, Lib.byteCells_append]; exact ho, Nat.le_trans h.2 hg.size⟩, hg, ?_⟩
  rcases hat with h1 | h1
  · exact .inl h1
  · exact .inr fun k hk => by rw [h1] at hk; cases hk; exact Nat.le_refl _
/-- append(v, text..). -/
theorem run_appS {B : Nat} {w : World} {v : Value} {l : List UInt8} (h : Buf B w v l) (s : List UInt8) (hl : l.length + s.length ≤ 1000000000000) :
    ∃ v' w', (Builtin.append_ #[68, 9] 68 #[v, .string ⟨⟨s⟩⟩]).run Tryd.prog w = .ok v' w' ∧ Buf B w' v' (l ++ s) ∧ Grw w v w' v' := by
  obtain ⟨i, hi, hz, hs, hb⟩ := info_parts info5
  have hsz : (⟨⟨s⟩⟩ : ByteArray).size = s.length := rfl
  obtain ⟨v', w', hr, ho, hg, hnil⟩ := Lib.run_append_own_string (P := Tryd.prog) w B 68 9 68 5 i Tryd.underlying68 Tryd.underlying9 hi hz hs hb v l.length _ h.1 ⟨⟨s⟩⟩ (by rw [hsz]; unfold maxLen; omega) (by rw [hsz]; omega) h.2
  rw [hsz] at ho hnil
  refine ⟨v', w', hr, ⟨by rw [List.length_append, Lib.byteCells_append]; exact ho, Nat.le_trans h.2 hg.size⟩, hg, ?_⟩
  rcases h.1.2 with ⟨rfl, h0⟩ | ⟨g, cap, cur, rfl, hbg, hgc, hnc, hcm, hcs, htake⟩
  · by_cases hm : s.length = 0
    · rw [hnil.2 ⟨rfl, hm⟩]; exact .inl rfl
    · have hr2 := run_append_nil_string (P := Tryd.prog) w 68 9 68 5 i (.int .u8 0) Tryd.underlying68 Tryd.underlying9 hi hz ⟨⟨s⟩⟩ (by rw [hsz]; omega) (by rw [hsz]; omega) (by rw [hb, hsz]; omega)
      rw [hr2] at hr
      injection hr with e1 e2
      subst e1
      exact .inr fun k hk => by cases hk; exact Nat.le_refl _
  · by_cases hroom : l.length + s.length ≤ cap
    · have hr2 := Lib.run_append_room_string (P := Tryd.prog) w 68 9 68 5 i Tryd.underlying68 Tryd.underlying9 hi hs g l.length cap cur hgc ⟨⟨s⟩⟩ hroom (by rw [hcs, hsz, Nat.mul_one]; exact hroom)
      rw [hr2] at hr
      injection hr with e1 e2
      subst e1
      exact .inl rfl
    · have hr2 := Lib.run_append_grow_string (P := Tryd.prog) w 68 9 68 5 i (.int .u8 0) Tryd.underlying68 Tryd.underlying9 hi hz ⟨g, 0, none⟩ l.length cap (Lib.byteCells l) (by rw [hs, Lib.byteCells_length, Nat.mul_one]) (h.1.cells (g := g) rfl) ⟨⟨s⟩⟩ (by rw [hsz]; omega) (by rw [hsz]; omega) (by rw [hb, hsz]; exact growslice_fits (by omega) (by omega))
      rw [hr2] at hr
      injection hr with e1 e2
      subst e1
      exact .inr fun k hk => by cases hk; exact Nat.le_refl _

section
variable {P : Program} {ops : Array Oper} {rest : List Oper} {o : Oper} {a : Act} {Q : Exit → Act → World → Prop} {K : Act → World → Prop} {E : Prop}
theorem wp_append_run (w : World) (s x : Operand) (t u : TypeId) (ho : o.op = .call { callee := .builtin .append, args := #[s, x], argTypes := #[t, u] }) (v y : Value) (hs : a.eval s = v) (hx : a.eval x = y) {v' : Value} {w' : World}
    (hr : (Builtin.append_ #[t, u] o.type #[v, y]).run P w = .ok v' w') (h : K (a.put o.dst v') w') : o.wp P a w K Q := by
  unfold Oper.wp execOp
  simp only [ho, resolve, invoke, builtin, Sem.run_bind, Sem.run_pure, Result.andThen_ok, List.map_toArray, List.map_cons, List.map_nil, hs, hx, hr]
  exact h
theorem wpList_append_run (w : World) (hgd : o.guard = none) (s x : Operand) (t u : TypeId) (ho : o.op = .call { callee := .builtin .append, args := #[s, x], argTypes := #[t, u] }) (v y : Value) (hs : a.eval s = v) (hx : a.eval x = y) {v' : Value} {w' : World}
    (hr : (Builtin.append_ #[t, u] o.type #[v, y]).run P w = .ok v' w') (h : wpList P ops Q rest (a.put o.dst v') w') : wpList P ops Q (o :: rest) a w :=
  wpList_plain hgd fun _ hK => wp_append_run w s x t u ho v y hs hx hr (hK _ _ h)
theorem op_append_run (w : World) (hg : o.guard = none) (s x : Operand) (t u : TypeId) (ho : o.op = .call { callee := .builtin .append, args := #[s, x], argTypes := #[t, u] }) (v y : Value) (hs : a.eval s = v) (hx : a.eval x = y) {v' : Value} {w' : World}
    (hr : (Builtin.append_ #[t, u] o.type #[v, y]).run P w = .ok v' w') (h : K (a.put o.dst v') w') : if Region.wanted o (yielded ops a.tmps) = true then o.wp P a w K Q else E := by
  have hw : Region.wanted o (yielded ops a.tmps) = true := by simp [Region.wanted, hg]
  rw [if_pos hw]
  exact wp_append_run w s x t u ho v y hs hx hr h
end

/-- A new block of one byte. -/
theorem cell_byte (w : World) (c : UInt8) : ∀ j u, (Lib.byteCells [c])[j]? = some u → (w.alloc (.cells #[.int .u8 (c.toNat : Nat)] 5)).cell? ((⟨w.heap.size, 0, none⟩ : Addr).add j) = some u := by
  intro j u hj
  rw [Addr.add_lit, Nat.zero_add, cell_of_row _ _ _ _ _ _ (heap_alloc_new w _)]
  simpa [Lib.byteCells] using hj
theorem cell_byte' {w : World} {h : Nat} {c : UInt8} (hb : w.heap[h]? = some (.cells #[.int .u8 (c.toNat : Nat)] 5 (0, 0))) : ∀ j u, (Lib.byteCells [c])[j]? = some u → w.cell? ((⟨h, 0, none⟩ : Addr).add j) = some u := by
  intro j u hj
  rw [Addr.add_lit, Nat.zero_add, cell_of_row _ _ _ _ _ _ hb]
  simpa [Lib.byteCells] using hj

abbrev TabB (B : Nat) (w : World) : Prop := Lib.TabBelow Tryd.prog B w "internal/strconv.uint64pow10" .u64 Lib.pow10Tab

set_option maxHeartbeats 1000000 in
set_option maxRecDepth 100000 in
theorem appUsmall_any (B u : Nat) (hu : u < 100) (v : Value) (l : List UInt8) (w : World) (h : Buf B w v l) (hl : l.length ≤ 999999999900) :
    Calls Tryd.prog 94 #[v, .int .u64 (u : Nat), .int .i64 10] w fun e w' => ∃ v', e = .returned v' ∧ Buf B w' v' (l ++ Lib.decDigits u) ∧ Grw w v w' v' := by
  have hlen : (Lib.decDigits u).length ≤ 20 := by
    rw [Lib.decDigits_length]
    by_cases h10 : u < 10
    · rw [Lib.nDigits_small h10]; omega
    · rw [Lib.nDigits_big h10, Lib.nDigits_small (show u / 10 < 10 by omega)]; omega
  obtain ⟨v', w', hr, hB, hG⟩ := run_appS h (Lib.decDigits u) (by omega)
  have HS := Lib.hid (Any.internal_strconv_small (P := Tryd.prog) (ρ := laysAI_ren) { laysAI with } u hu w)
  have hui : (u : Int) < 100 := by omega
  have HB := Lib.hid hB
  have HG := Lib.hid hG
  have HR := Lib.hid hr
  clear hB hG h hr
  generalize Lib.decDigits u = ds at *
  go_enter Tryd.func94, Tryd.ntmps94
  go_wp2_with fail
  refine HS.out.mono ?_
  rintro _ _ ⟨rfl, rfl⟩
  go_wp2_with (at_builtin; refine wpList_append_run _ rfl (.tmp 13) (.tmp 16) 68 9 rfl _ _ rfl rfl HR.out ?_)
  go_ret
  exact ⟨_, rfl, HB.out, HG.out⟩

set_option maxHeartbeats 2000000 in
set_option maxRecDepth 100000 in
theorem appUbig_any (B u : Nat) (hu : 100 ≤ u) (hu64 : u < 18446744073709551616) (v : Value) (l : List UInt8) (w : World) (h : Buf B w v l) (hl : l.length ≤ 999999999900) (htab : Lib.TabIs Tryd.prog w "internal/strconv.uint64pow10" .u64 Lib.pow10Tab) :
    Calls Tryd.prog 94 #[v, .int .u64 (u : Nat), .int .i64 10] w fun e w' => ∃ v', e = .returned v' ∧ Buf B w' v' (l ++ Lib.decDigits u) ∧ Grw w v w' v' := by
  have hu1 : 1 ≤ u := by omega
  have hnd20 : Lib.nDigits u ≤ 20 := by have := Lib.numDigits_eq u hu1 hu64; split at this <;> omega
  have hdl := Lib.decDigits_length u
  have hal : Tryd.prog.arrayLen 115 = 24 := by simp [Program.arrayLen, Tryd.underlying115]
  have HF := Lib.hid (Any.internal_strconv_formatBase10 (P := Tryd.prog) (ρ := laysAI_ren) { laysAI with } w.heap.size 0 24 u (Array.replicate (Lib.nDigits u) 0) (w.alloc (.cells Lib.zeros24 115)) (Lib.holds_zero0 w 115 (Lib.nDigits u) (by omega)) (by rw [Array.size_replicate]; exact Lib.lt_pow_nDigits u) hu64 (by rw [Array.size_replicate]; omega))
  have HND := Lib.hid (Any.internal_strconv_numDigits (P := Tryd.prog) (ρ := laysAI_ren) { laysAI with } u hu1 hu64 (w.alloc (.cells Lib.zeros24 115)) (Lib.tabIs_alloc htab _))
  have HH := Lib.hid (Lib.holds_zero0 w 115 (Lib.nDigits u) (by omega))
  have hsl : ∀ W, (Instr.sliceAt 115 (.pointer (some ⟨w.heap.size, 0, none⟩)) none (some (.int .i64 (Lib.nDigits u : Int))) none).run Tryd.prog W = .ok (.slice (some ⟨w.heap.size, 0, none⟩) (Lib.nDigits u) 24) W := fun W => by
    rw [run_sliceAt_array_h W 115 ⟨w.heap.size, 0, none⟩ (by simp [Program.arrayLen, Program.elem, Tryd.underlying115]) .i64 (Lib.nDigits u : Int) (by omega) (by rw [hal]; omega)]
    go_simp
  have hui : ¬ (u : Int) < 100 := by omega
  clear hal htab
  go_enter Tryd.func94, Tryd.ntmps94
  go_wp2_with fail
  refine HND.out.mono ?_
  rintro _ _ ⟨rfl, rfl⟩
  go_wp2_with fail
  have hf := HF.out
  rw [Array.size_replicate] at hf
  refine hf.mono ?_
  rintro _ _ ⟨rfl, k, v1, dk, rfl, hF⟩
  obtain ⟨os, eo⟩ := Lib.fin_at w (.cells Lib.zeros24 115) dk k 0
  have hcells : ∀ j u', (Lib.byteCells (Lib.decDigits u))[j]? = some u' → ((putRow (fun (b : UInt8) => Value.int .u8 (b.toNat : Int)) (w.alloc (.cells Lib.zeros24 115)) w.heap.size 0 dk).drewN k).cell? ((⟨w.heap.size, 0, none⟩ : Addr).add j) = some u' := by
    intro j u' hj
    have hjl : j < (Lib.decDigits u).length := by
      have := (List.getElem?_eq_some_iff.1 hj).1
      rwa [Lib.byteCells_length] at this
    have hj2 : u' = Value.int .u8 ((Lib.decDigits u)[j].toNat : Int) := by
      rw [Lib.byteCells, List.getElem?_map, List.getElem?_eq_getElem hjl] at hj
      simpa using hj.symm
    rw [hj2, Lib.row_is_numeral hF j hjl, Lib.add_plain, World.cell?_drewN]
    exact cell?_putRow (fun (b : UInt8) => Value.int .u8 (b.toNat : Int)) _ w.heap.size 0 _ dk HH.out (by rw [hF.size, Array.size_replicate]) j (by rw [hF.size, ← hdl]; exact hjl)
  have hbel : Below w.heap.size w ((putRow (fun (b : UInt8) => Value.int .u8 (b.toNat : Int)) (w.alloc (.cells Lib.zeros24 115)) w.heap.size 0 dk).drewN k) := by rw [eo]; exact Lib.below_grow w.heap.size w (Nat.le_refl _) k os
  generalize (putRow (fun (b : UInt8) => Value.int .u8 (b.toNat : Int)) (w.alloc (.cells Lib.zeros24 115)) w.heap.size 0 dk).drewN k = W2 at hcells hbel ⊢
  obtain ⟨v', w', hr, hB, hG⟩ := run_app (h.bel hbel) (Lib.decDigits u) ⟨w.heap.size, 0, none⟩ 24 hcells (by omega)
  rw [hdl] at hr
  have HR := Lib.hid hr
  have HB := Lib.hid hB
  have HG := Lib.hid ((Grw.below hbel).trans hG)
  clear eo hcells hbel hr hB hG hF hf
  go_wp2_with (at_builtin; refine wpList_append_run _ rfl (.tmp 24) (.tmp 26) 68 68 rfl _ _ rfl rfl HR.out ?_)
  go_ret
  exact ⟨_, rfl, HB.out, HG.out⟩

set_option maxHeartbeats 2000000 in
set_option maxRecDepth 100000 in
theorem appInt_any (B : Nat) (i : Int) (hi : InR i) (v : Value) (l : List UInt8) (w : World) (h : Buf B w v l) (hl : l.length ≤ 999999999800) (htab : TabB B w) :
    Calls Tryd.prog 89 #[v, .int .i64 i, .int .i64 10] w fun e w' => ∃ v', e = .returned v' ∧ Buf B w' v' (l ++ Lib.itoa i) ∧ Grw w v w' v' := by
  have hU : ∀ (u : Nat) (v : Value) (l : List UInt8) (W : World), u < 18446744073709551616 → Buf B W v l → l.length ≤ 999999999900 → Lib.TabIs Tryd.prog W "internal/strconv.uint64pow10" .u64 Lib.pow10Tab → Calls Tryd.prog 94 #[v, .int .u64 (u : Nat), .int .i64 10] W fun e w' => ∃ v', e = .returned v' ∧ Buf B w' v' (l ++ Lib.decDigits u) ∧ Grw W v w' v' := by
    intro u v l W h1 h2 h3 h4
    by_cases hu : u < 100
    · exact appUsmall_any B u hu v l W h2 h3
    · exact appUbig_any B u (by omega) h1 v l W h2 h3 h4
  have HU := Lib.hid hU
  clear hU
  by_cases hneg : i < 0
  · obtain ⟨u, rfl⟩ : ∃ u : Nat, i = -(u : Int) := ⟨i.natAbs, by omega⟩
    obtain ⟨hi0, hi1⟩ := hi
    have hwr : IntKind.u64.wrap (-IntKind.u64.wrap (-(u : Int))) = (u : Int) := by rw [IntKind.wrap_u64, IntKind.wrap_u64]; omega
    rw [Lib.itoa_neg u (by omega)]
    have hb1 : Below w.heap.size w (w.alloc (.cells #[.int .u8 45] 5)) := (Below.refl _ _).alloc (Nat.le_refl _) _
    obtain ⟨v', w', hr, hB, hG⟩ := run_app (h.bel hb1) [45] ⟨w.heap.size, 0, none⟩ 1 (cell_byte w 45) (by simp; omega)
    have hG2 := (Grw.alloc w v (.cells #[.int .u8 45] 5)).trans hG
    have HC := Lib.hid (HU.out u v' (l ++ [45]) w' (by omega) hB (by simp; omega) (htab w' (h.low hG2)))
    have HR := Lib.hid hr
    have HG := Lib.hid hG2
    clear hr hB hG hG2 hb1 h htab HU
    generalize Lib.decDigits u = ds at *
    go_enter Tryd.func89, Tryd.ntmps89
    go_wp2_with (at_builtin; refine wpList_append_run _ rfl (.tmp 12) (.tmp 13) 68 68 rfl _ _ rfl rfl HR.out ?_)
    refine HC.out.mono ?_
    rintro _ w2 ⟨v2, rfl, hB2, hG2⟩
    have HB2 := Lib.hid hB2
    have HG2 := Lib.hid (HG.out.trans hG2)
    clear hB2 hG2 HC
    go_wp2
    go_ret
    exact ⟨v2, rfl, by have := HB2.out; rwa [List.append_assoc] at this, HG2.out⟩
  · obtain ⟨u, rfl⟩ : ∃ u : Nat, i = u := ⟨i.toNat, by omega⟩
    obtain ⟨hi0, hi1⟩ := hi
    rw [Lib.itoa_nonneg]
    have HC := Lib.hid (HU.out u v l w (by omega) h (by omega) htab.here)
    have hwr : IntKind.u64.wrap (u : Int) = (u : Int) := by rw [IntKind.wrap_u64]; omega
    clear h htab HU
    generalize Lib.decDigits u = ds at *
    go_enter Tryd.func89, Tryd.ntmps89
    go_wp2_with fail
    refine HC.out.mono ?_
    rintro _ w2 ⟨v2, rfl, hB2, hG2⟩
    have HB2 := Lib.hid hB2
    have HG2 := Lib.hid hG2
    clear hB2 hG2 HC
    go_wp2
    go_ret
    exact ⟨v2, rfl, HB2.out, HG2.out⟩

set_option maxHeartbeats 400000 in
set_option maxRecDepth 100000 in
theorem appIntP_any (B : Nat) (i : Int) (hi : InR i) (v : Value) (l : List UInt8) (w : World) (h : Buf B w v l) (hl : l.length ≤ 999999999800) (htab : TabB B w) :
    Calls Tryd.prog 78 #[v, .int .i64 i, .int .i64 10] w fun e w' => ∃ v', e = .returned v' ∧ Buf B w' v' (l ++ Lib.itoa i) ∧ Grw w v w' v' := by
  have HC := Lib.hid (appInt_any B i hi v l w h hl htab)
  clear h htab hi
  go_enter Tryd.func78, Tryd.ntmps78
  go_wp2_with fail
  refine HC.out.mono ?_
  rintro _ w2 ⟨v2, rfl, hB2, hG2⟩
  have HB2 := Lib.hid hB2
  have HG2 := Lib.hid hG2
  clear hB2 hG2 HC
  go_wp2
  go_ret
  exact ⟨v2, rfl, HB2.out, HG2.out⟩

end Go.Proofs.YtiidooponlbnmaaDoor.Te
