import Derived.Test.YticofjbngfjjlaaGreatDoorGATmW8
import Derived.Test.YticofjbngfjjlaaGreatDoorGAWiW2
import Derived.Lib.ConvBytes
import Derived.Test.YticofjbngfjjlaaGreatDoorGAWiW5
import Derived.Test.YticofjbngfjjlaaGreatDoorGATmQ
import Derived.Laws.IdiomStrings
import Derived.Test.YticofjbngfjjlaaGreatDoorGAShaW3
import Derived.Test.YticofjbngfjjlaaGreatDoorGAAePureC
import Derived.WalkMore
import Derived.ScopeJumps
import Derived.Deep.RegionWith
import Derived.Deep.WholeRow
namespace Go.Proofs.YticofjbngfjjlaaGreatDoor.Wi
open Go.RowKit
open Wr

/-- A row of bytes of the call's own, whose mark, if it has one, lies behind its cells. -/
def OwnB (w : World) (base : Nat) (v : Value) (n : Nat) (xs : List Value) : Prop :=
  xs.length = n ∧ ((v = .slice none 0 0 ∧ n = 0) ∨
    ∃ g cap cur fr, v = .slice (some ⟨g, 0, none⟩) n cap ∧ base ≤ g ∧ w.heap[g]? = some (.cells cur 5 fr) ∧ (fr.2 ≤ fr.1 ∨ cur.size ≤ fr.1) ∧ n ≤ cap ∧ cap ≤ maxLen ∧ cur.size = cap ∧ cur.toList.take n = xs)

theorem run_storeCells_mark (P : Program) (g o : Nat) (t : TypeId) (fr : Nat × Nat) : ∀ (vs : List Value) (i : Nat) (cur : Array Value) (w : World), w.heap[g]? = some (.cells cur t fr) → (fr.2 ≤ fr.1 ∨ cur.size ≤ fr.1) → o + i + vs.length ≤ cur.size → (∀ v ∈ vs, v.oneCell' = true) →
    (storeCells ⟨g, o, none⟩ vs i).run P w = .ok () (w.setRow g (cur.toList.take (o + i) ++ vs ++ cur.toList.drop (o + i + vs.length)).toArray)
  | [], i, cur, w, hg, _, _, _ => by
    simp only [storeCells, List.append_nil, List.length_nil, Nat.add_zero, List.take_append_drop, Array.toArray_toList]
    rw [setRow_self w g cur t fr hg]
    rfl
  | v :: rest, i, cur, w, hg, hfr, hl, h1 => by
    have hi : o + i < cur.size := by simp at hl; omega
    have hadd : (⟨g, o, none⟩ : Addr).add i = ⟨g, o + i, none⟩ := by rw [Addr.add_lit]
    have hcell : w.cell? ⟨g, o + i, none⟩ = some cur[o + i] := by simp [World.cell?, hg, hi]
    have hfro : w.frozen? ⟨g, o + i, none⟩ = false := by
      simp only [World.frozen?, hg]
      obtain ⟨lo, hi'⟩ := fr
      simp only at hfr ⊢
      rcases hfr with h | h
      · by_cases h2 : lo ≤ o + i
        · simp; omega
        · simp [h2]
      · simp; omega
    have hst : (store ((⟨g, o, none⟩ : Addr).add i) v).run P w = .ok () (w.setRow g (cur.setIfInBounds (o + i) v)) := by
      rw [hadd, run_store P w _ v _ (h1 v (by simp)), hcell]
      simp [hfro, setCell_eq_setRow w g (o + i) cur t fr v hg]
    have ih := run_storeCells_mark P g o t fr rest (i + 1) (cur.setIfInBounds (o + i) v) (w.setRow g (cur.setIfInBounds (o + i) v)) (setRow_heap w g cur _ t _ hg) (by simpa using hfr) (by simp at hl ⊢; omega) (fun x hx => h1 x (by simp [hx]))
    simp only [storeCells, Sem.run_bind, hst, Result.andThen_ok, ih, setRow_setRow]
    congr 3
    have e := list_seg_step cur.toList (o + i) v rest (by simp at hl ⊢; omega)
    simpa [Array.toList_setIfInBounds, Nat.add_assoc] using e

section
variable {w : World} {base : Nat} {v : Value} {n : Nat} {xs : List Value}

theorem OwnB.nil (w : World) (base : Nat) : OwnB w base (.slice none 0 0) 0 [] := ⟨rfl, .inl ⟨rfl, rfl⟩⟩

theorem OwnB.lt (h : OwnB w base v n xs) : ∀ k, v.ownBlock = some k → base ≤ k ∧ k < w.heap.size := by
  intro k hk
  rcases h.2 with ⟨rfl, _⟩ | ⟨g, cap, cur, fr, rfl, hb, hg, _⟩
  · simp [Value.ownBlock] at hk
  · simp [Value.ownBlock] at hk
    subst hk
    exact ⟨hb, (Array.getElem?_eq_some_iff.1 hg).1⟩

theorem OwnB.kept {w' : World} {row : Option Nat} (h : OwnB w base v n xs) (hg : w.grownBy w' row) (hne : v.ownBlock = none ∨ v.ownBlock ≠ row) : OwnB w' base v n xs := by
  refine ⟨h.1, ?_⟩
  rcases h.2 with hn | ⟨g, cap, cur, fr, rfl, hb, hgg, rest⟩
  · exact .inl hn
  · refine .inr ⟨g, cap, cur, fr, rfl, hb, ?_, rest⟩
    rw [hg.block g (Array.getElem?_eq_some_iff.1 hgg).1 (by simpa [Value.ownBlock] using hne)]
    exact hgg

theorem OwnB.alloc (h : OwnB w base v n xs) (o : Obj) : OwnB (w.alloc o) base v n xs :=
  h.kept (World.grownBy_alloc w o none) (by cases hv : v.ownBlock <;> simp)

theorem OwnB.more {base' : Nat} (h : OwnB w base v n xs) (hb : base' ≤ base) : OwnB w base' v n xs := by
  refine ⟨h.1, ?_⟩
  rcases h.2 with hn | ⟨g, cap, cur, fr, e, hb', rest⟩
  · exact .inl hn
  · exact .inr ⟨g, cap, cur, fr, e, Nat.le_trans hb hb', rest⟩

theorem OwnB.cells (h : OwnB w base v n xs) {g : Nat} (hg : v.ownBlock = some g) : ∀ j u, xs[j]? = some u → w.cell? ((⟨g, 0, none⟩ : Addr).add j) = some u := by
  intro j u hu
  rcases h.2 with ⟨rfl, _⟩ | ⟨g', cap, cur, fr, rfl, _, hgg, _, _, _, _, htake⟩
  · simp [Value.ownBlock] at hg
  · simp [Value.ownBlock] at hg
    subst hg
    rw [Addr.add_lit, cell_of_row w g' _ cur 5 fr hgg]
    rw [← htake, List.getElem?_take] at hu
    split at hu
    · simpa using hu
    · cases hu

theorem OwnB.form (h : OwnB w base v n xs) (hn : 0 < n) : ∃ g cap, v = .slice (some ⟨g, 0, none⟩) n cap := by
  rcases h.2 with ⟨_, h0⟩ | ⟨g, cap, _, _, e, _⟩
  · omega
  · exact ⟨g, cap, e⟩
end

theorem run_appendB (w : World) (base : Nat) (ty : TypeId) (v : Value) (n : Nat) (xs : List Value) (hown : OwnB w base v n xs)
    (a : Addr) (m c : Nat) (news : List Value) (hl : news.length = m) (hnews : ∀ j u, news[j]? = some u → w.cell? (a.add j) = some u) (h1 : ∀ u ∈ news, u.oneCell' = true)
    (hsmall : n + m ≤ 100000000) (hbase : base ≤ w.heap.size) :
    ∃ v' w', (Builtin.append_ #[31, 31] ty #[v, .slice (some a) m c]).run Tryz.prog w = .ok v' w' ∧ OwnB w' base v' (n + m) (xs ++ news) ∧ w.grownBy w' v.ownBlock ∧ (v'.ownBlock = v.ownBlock ∨ v'.ownBlock = some w.heap.size) := by
  obtain ⟨i, hi, hz, hsz, hby⟩ := info_parts info5
  have hlen : (xs ++ news).length = n + m := by rw [List.length_append, hown.1, hl]
  have grown : ∀ (old : Nat), ∀ (row : Option Nat),
      OwnB (w.drew.alloc (.cells (xs.toArray ++ news.toArray ++ Builtin.zeroCells (Value.int .u8 0).cells (grownCap w (n + m) old 5 - (n + m))) 5)) base
        (.slice (some ⟨w.heap.size, 0, none⟩) (n + m) (grownCap w (n + m) old 5)) (n + m) (xs ++ news) ∧
      w.grownBy (w.drew.alloc (.cells (xs.toArray ++ news.toArray ++ Builtin.zeroCells (Value.int .u8 0).cells (grownCap w (n + m) old 5 - (n + m))) 5)) row := by
    intro old row
    have hge := grownCap_ge w (n + m) old 5
    have hcm : grownCap w (n + m) old 5 ≤ maxLen := grownCap_le_maxLen w (n + m) old 5 (by simp only [maxLen]; omega)
    refine ⟨⟨hlen, .inr ⟨w.heap.size, _, _, (0, 0), rfl, hbase, heap_alloc_new w.drew _, .inl (Nat.le_refl _), hge, hcm, ?_, ?_⟩⟩, ⟨rfl, rfl, rfl, by simp, fun k hk _ => Below.heap_alloc w.drew _ k hk⟩⟩
    · simp only [Array.size_append, List.size_toArray, size_zeroCells, hown.1, hl, Value.cells]
      simp
      omega
    · simp only [Array.toList_append, List.append_assoc]
      rw [← List.append_assoc, ← hlen]
      exact List.take_left
  rcases hown.2 with ⟨rfl, rfl⟩ | ⟨g, cap, cur, fr, rfl, hbg, hg, hfr, hnc, hcm, hcs, htake⟩
  · have hx : xs = [] := List.eq_nil_of_length_eq_zero hown.1
    subst hx
    by_cases hm : m = 0
    · subst hm
      have hn : news = [] := List.eq_nil_of_length_eq_zero hl
      subst hn
      refine ⟨.slice none 0 0, w, ?_, OwnB.nil w base, ⟨rfl, rfl, rfl, Nat.le_refl _, fun _ _ _ => rfl⟩, .inl rfl⟩
      simp [Builtin.append_, run_underlying Tryz.underlying31, sizeOf, typeInfo, hi, Builtin.lenOf, Builtin.firstCells, loadCells, loadCellsFrom]
    · have hr := run_append_nil (P := Tryz.prog) w 31 ty 5 i _ Tryz.underlying31 hi hz a m c news (by rw [hsz]; omega) hnews (by omega) (by omega) (by rw [hby]; omega)
      have hgr := grown 0 (Value.ownBlock (.slice none 0 0))
      simp only [Nat.zero_add, List.nil_append, Array.empty_append] at hgr ⊢
      exact ⟨_, _, hr, hgr.1, hgr.2, .inr rfl⟩
  · by_cases hroom : n + m ≤ cap
    · have hf := run_firstCells_some (P := Tryz.prog) w i.size m a m c news (by rw [hsz]; omega) hnews
      have hst := run_storeCells_mark Tryz.prog g (n * i.size) 5 fr news 0 cur w hg hfr (by rw [hsz]; omega) h1
      simp only [Nat.add_zero] at hst
      have hr : (Builtin.append_ #[31, 31] ty #[.slice (some ⟨g, 0, none⟩) n cap, .slice (some a) m c]).run Tryz.prog w = .ok (.slice (some ⟨g, 0, none⟩) (n + m) cap) (w.setRow g (cur.toList.take (n * i.size) ++ news ++ cur.toList.drop (n * i.size + news.length)).toArray) := by
        simp [Builtin.append_, run_underlying Tryz.underlying31, sizeOf, typeInfo, hi, Builtin.lenOf, hroom, hf, Addr.add_lit, hst]
      refine ⟨_, _, hr, ⟨hlen, .inr ⟨g, cap, _, fr, rfl, hbg, setRow_heap w g cur _ 5 fr hg, ?_, hroom, hcm, ?_, ?_⟩⟩, ⟨rfl, rfl, rfl, by simp, fun k _ hk => setRow_other w g k _ (fun e => hk (by simp [Value.ownBlock, e]))⟩, .inl rfl⟩
      · simp only [List.size_toArray, List.length_append, List.length_take, List.length_drop, Array.length_toList, hsz]
        rcases hfr with h | h
        · exact .inl h
        · exact .inr (by omega)
      · simp only [List.size_toArray, List.length_append, List.length_take, List.length_drop, Array.length_toList, hsz]
        omega
      · rw [hsz, Nat.mul_one, htake, ← hlen]
        exact List.take_left
    · have holds : ∀ j u, xs[j]? = some u → w.cell? ((⟨g, 0, none⟩ : Addr).add j) = some u := hown.cells (g := g) rfl
      have hr := run_append_grow (P := Tryz.prog) w 31 ty 5 i _ Tryz.underlying31 hi hz ⟨g, 0, none⟩ n cap xs (by rw [hsz, hown.1]; omega) holds a m c news (by rw [hsz]; omega) hnews (by omega) (by omega) (growslice_fits (by omega) (by rw [hby]; omega))
      have hgr := grown cap (Value.ownBlock (.slice (some ⟨g, 0, none⟩) n cap))
      exact ⟨_, _, hr, hgr.1, hgr.2, .inr rfl⟩

theorem wpList_appendB (w : World) {ops : Array Oper} {rest : List Oper} {o : Oper} {a : Act} {Q : Exit → Act → World → Prop} (hgd : o.guard = none) (s x : Operand)
    (ho : o.op = .call { callee := .builtin .append, args := #[s, x], argTypes := #[31, 31] })
    (base : Nat) (v : Value) (n : Nat) (xs : List Value) (hs : a.eval s = v) (hown : OwnB w base v n xs)
    (ad : Addr) (m c : Nat) (news : List Value) (hx : a.eval x = .slice (some ad) m c) (hl : news.length = m) (hnews : ∀ j u, news[j]? = some u → w.cell? (ad.add j) = some u) (h1 : ∀ u ∈ news, u.oneCell' = true)
    (hsmall : n + m ≤ 100000000) (hbase : base ≤ w.heap.size)
    (h : ∀ v' w', OwnB w' base v' (n + m) (xs ++ news) → w.grownBy w' v.ownBlock → (v'.ownBlock = v.ownBlock ∨ v'.ownBlock = some w.heap.size) → wpList Tryz.prog ops Q rest (a.put o.dst v') w') :
    wpList Tryz.prog ops Q (o :: rest) a w := by
  refine wpList_plain hgd fun K hK => ?_
  obtain ⟨v', w', hr, h2, h3, h4⟩ := run_appendB w base o.type v n xs hown ad m c news hl hnews h1 hsmall hbase
  unfold Oper.wp execOp
  simp only [ho, resolve, invoke, builtin, Sem.run_bind, Sem.run_pure, Result.andThen_ok, List.map_toArray, List.map_cons, List.map_nil, hs, hx, hr]
  exact hK _ _ (h v' w' h2 h3 h4)

/-- A text as a row of bytes. -/
theorem run_bytesB (w : World) (s : List UInt8) (hs : s.length ≤ 2000000) :
    ∃ v w', (convert 9 31 (.string ⟨⟨s⟩⟩)).run Tryz.prog w = .ok v w' ∧ OwnB w' w.heap.size v s.length (Lib.byteCells s) ∧ Below w.heap.size w w' ∧ v.ownBlock = some w.heap.size := by
  have hr := Lib.run_convert_string_bytes (P := Tryz.prog) w 9 31 5 ⟨⟨s⟩⟩ Tryz.underlying9 Tryz.underlying31 Tryz.underlying5
  have hge : s.length ≤ grownCap w s.length 0 5 := grownCap_ge w s.length 0 5
  have hcm : grownCap w s.length 0 5 ≤ maxLen := grownCap_le_maxLen w s.length 0 5 (by simp only [maxLen]; omega)
  refine ⟨_, _, hr, ⟨Lib.byteCells_length s, .inr ⟨w.heap.size, _, _, _, rfl, Nat.le_refl _, Lib.bytesWorld_at_new w 5 ⟨⟨s⟩⟩, .inr (Nat.le_refl _), hge, hcm, ?_, ?_⟩⟩, ⟨rfl, rfl, rfl, ?_, fun k hk => Lib.bytesWorld_at_old w 5 _ k hk⟩, rfl⟩
  · simp only [Lib.bytesCells, Array.size_append, Array.size_map, Array.size_replicate]
    show s.length + (grownCap w s.length 0 5 - s.length) = grownCap w s.length 0 5
    omega
  · simp only [Lib.bytesCells, Array.toList_append, Array.toList_map]
    show (Lib.byteCells s ++ _).take s.length = _
    rw [← Lib.byteCells_length s]
    exact List.take_left
  · rw [Lib.bytesWorld_size]; omega
end Go.Proofs.YticofjbngfjjlaaGreatDoor.Wi


namespace Go.Proofs.YticofjbngfjjlaaGreatDoor.Wi
open Go.RowKit
open Wr

/-- A row lies where it lay, or in a new block. -/
def Far (w : World) (v v' : Value) : Prop := v'.ownBlock = v.ownBlock ∨ ∃ g, v'.ownBlock = some g ∧ w.heap.size ≤ g

theorem far_trans {w w1 w2 : World} {v v1 v2 : Value} (h1 : w.grownBy w1 v.ownBlock) (f1 : Far w v v1) (h2 : w1.grownBy w2 v1.ownBlock) (f2 : Far w1 v1 v2) : w.grownBy w2 v.ownBlock ∧ Far w v v2 := by
  refine ⟨⟨h2.os.trans h1.os, h2.tape.trans h1.tape, h2.output.trans h1.output, Nat.le_trans h1.size h2.size, fun k hk hne => ?_⟩, ?_⟩
  · rw [h2.block k (Nat.lt_of_lt_of_le hk h1.size) ?_, h1.block k hk hne]
    rcases f1 with f | ⟨g, f, hg⟩
    · rw [f]; exact hne
    · rw [f]; intro e; injection e with e; omega
  · rcases f2 with f | ⟨g, f, hg⟩
    · unfold Far; rw [f]; exact f1
    · exact .inr ⟨g, f, Nat.le_trans h1.size hg⟩

/-- What a call that lays bytes behind a row leaves. -/
def Grew (base : Nat) (w : World) (v : Value) (k : Nat) (xs : List Value) (l : List UInt8) (e : Ending) (w' : World) : Prop :=
  ∃ v', e = .returned v' ∧ OwnB w' base v' (k + l.length) (xs ++ Lib.byteCells l) ∧ w.grownBy w' v.ownBlock ∧ Far w v v'

theorem la_lt {n : Nat} (h : n < 128) : la n = [UInt8.ofNat (n + 128)] := by rw [la, dif_pos h]
theorem la_ge {n : Nat} (h : ¬ n < 128) : la n = la (n / 128) ++ [UInt8.ofNat (n % 128 + 128)] := by rw [la, dif_neg h]
theorem la_le (n : Nat) : (la n).length ≤ n + 1 := by
  induction n using Nat.strongRecOn with
  | ind n ih =>
    by_cases h : n < 128
    · rw [la_lt h]; simp
    · rw [la_ge h]
      have := ih (n / 128) (by omega)
      simp; omega

theorem own_one {base : Nat} {w : World} {v : Value} {k : Nat} {xs : List Value} {t : TypeId} {u : Value} (h : OwnB w base v k xs) : Hid (OwnB (w.alloc (.cells #[u] t)) base v k xs) := h.alloc _

/-- One byte more behind what is there. -/
theorem grew_one {base : Nat} {w w1 w2 : World} {v v1 v2 : Value} {k k1 : Nat} {xs xs1 : List Value} {l : List UInt8} {c : UInt8} {u : Value} {o : Obj} (hu : u = .int .u8 c.toNat) (hk : k1 = k + l.length) (hx : xs1 = xs ++ Lib.byteCells l)
    (hg : w.grownBy w1 v.ownBlock) (hf : Far w v v1) (hown : OwnB w2 base v2 (k1 + 1) (xs1 ++ [u])) (hg2 : (w1.alloc o).grownBy w2 v1.ownBlock) (hat : v2.ownBlock = v1.ownBlock ∨ v2.ownBlock = some (w1.alloc o).heap.size) :
    Grew base w v k xs (l ++ [c]) (.returned v2) w2 := by
  subst hu hk hx
  have hg12 : w1.grownBy w2 v1.ownBlock := (World.grownBy_alloc w1 o _).trans hg2
  have hf2 : Far w1 v1 v2 := by
    rcases hat with h | h
    · exact .inl h
    · exact .inr ⟨_, h, by simp⟩
  obtain ⟨h1, h2⟩ := far_trans hg hf hg12 hf2
  refine ⟨v2, rfl, ?_, h1, h2⟩
  rw [Lib.byteCells_append, List.length_append, ← List.append_assoc]
  exact hown

set_option maxHeartbeats 1000000 in
set_option maxRecDepth 100000 in
theorem writeAhead_any : ∀ (n : Nat) (ni : Int) (base : Nat) (w : World) (v : Value) (k : Nat) (xs : List Value), ni = n → n ≤ 2000000 → k ≤ 4000000 → base ≤ w.heap.size → OwnB w base v k xs →
    Calls Tryz.prog 189 #[v, .int .i64 ni] w (Grew base w v k xs (la n)) := by
  intro n
  induction n using Nat.strongRecOn with
  | ind n ih =>
    intro ni base w v k xs hni hn hk hbase hown
    obtain ⟨bs, hbs⟩ : ∃ bs, bs = la n := ⟨_, rfl⟩
    rw [← hbs]
    by_cases h : n < 128
    · have hni1 : 0 ≤ ni ∧ ni < 128 := by omega
      have HB : Hid (bs = [] ++ [UInt8.ofNat (n + 128)]) := by rw [hbs, la_lt h]; rfl
      have HC : Hid (Value.int .u8 (ni % 128 + 128) = .int .u8 ((UInt8.ofNat (n + 128)).toNat : Int)) := by
        show _ = _
        congr 1
        simp
        omega
      have HO := own_one (t := 5) (u := .int .u8 (ni % 128 + 128)) hown
      clear hbs ih hni hown
      go_enter Tryz.func189, Tryz.ntmps189
      go_wp2_with (
        at_builtin
        go_must (
          refine wpList_appendB _ rfl (.tmp 11) (.tmp 16) rfl base v k xs rfl HO.out ⟨w.heap.size, 0, none⟩ 1 1 [.int .u8 (ni % 128 + 128)] rfl rfl (cell_one_new _ _ _) (by simp [Value.oneCell']) (by omega) (by simp; omega) ?_
          intro v2 w2 hown2 hg2 hat
          have HG2 := Lib.hid hg2
          have HAT := Lib.hid hat
          have HO2 := Lib.hid hown2
          clear hg2 hat hown2))
      go_ret
      rw [HB.out]
      exact grew_one HC.out rfl (by simp [Lib.byteCells]) (World.grownBy.refl _ _) (.inl rfl) HO2.out HG2.out HAT.out
    · have hni1 : 128 ≤ ni ∧ ni ≤ 2000000 := by omega
      have HB : Hid (bs = la (n / 128) ++ [UInt8.ofNat (n % 128 + 128)]) := by rw [hbs, la_ge h]; rfl
      have HC : Hid (Value.int .u8 (ni % 128 + 128) = .int .u8 ((UInt8.ofNat (n % 128 + 128)).toNat : Int)) := by
        show _ = _
        congr 1
        simp
        omega
      have HNI := Lib.hid hni
      have HIH := Lib.hid (ih (n / 128) (by omega))
      have HO := Lib.hid hown
      have hle := la_le (n / 128)
      clear hbs ih hni hown
      go_enter Tryz.func189, Tryz.ntmps189
      go_wp2_with fail
      refine (HIH.out _ base _ v k xs (by have := HNI.out; omega) (by omega) hk hbase HO.out).mono ?_
      rintro _ w1 ⟨v1, rfl, hown1, hg1, hf1⟩
      have HO1 := own_one (t := 5) (u := .int .u8 (ni % 128 + 128)) hown1
      have HG1 := Lib.hid hg1
      have HF1 := Lib.hid hf1
      have hbase1 : base ≤ w1.heap.size := Nat.le_trans hbase hg1.size
      clear hown1 hg1 hf1
      go_wp2_with (
        at_builtin
        go_must (
          refine wpList_appendB _ rfl (.tmp 11) (.tmp 16) rfl base v1 (k + (la (n / 128)).length) (xs ++ Lib.byteCells (la (n / 128))) rfl HO1.out ⟨w1.heap.size, 0, none⟩ 1 1 [.int .u8 (ni % 128 + 128)] rfl rfl (cell_one_new _ _ _) (by simp [Value.oneCell']) (by omega) (by simp; omega) ?_
          intro v2 w2 hown2 hg2 hat
          have HG2 := Lib.hid hg2
          have HAT := Lib.hid hat
          have HO2 := Lib.hid hown2
          clear hg2 hat hown2))
      go_ret
      rw [HB.out]
      exact grew_one HC.out rfl rfl HG1.out HF1.out HO2.out HG2.out HAT.out

set_option maxHeartbeats 1000000 in
set_option maxRecDepth 100000 in
theorem writeLength_any (n : Nat) (ni : Int) (base : Nat) (w : World) (v : Value) (k : Nat) (xs : List Value) (hni : ni = n) (hn : n ≤ 2000000) (hk : k ≤ 4000000) (hbase : base ≤ w.heap.size) (hown : OwnB w base v k xs) :
    Calls Tryz.prog 161 #[v, .int .i64 ni] w (Grew base w v k xs (lb n)) := by
  obtain ⟨bs, hbs⟩ : ∃ bs, bs = lb n := ⟨_, rfl⟩
  rw [← hbs]
  have HC : Hid (Value.int .u8 (ni % 128) = .int .u8 ((UInt8.ofNat (n % 128)).toNat : Int)) := by
    show _ = _
    congr 1
    simp
    omega
  by_cases h : n < 128
  · have hni1 : 0 ≤ ni ∧ ni < 128 := by omega
    have HB : Hid (bs = [] ++ [UInt8.ofNat (n % 128)]) := by rw [hbs, lb, if_pos h]; rfl
    have HO := own_one (t := 5) (u := .int .u8 (ni % 128)) hown
    clear hbs hni hown
    go_enter Tryz.func161, Tryz.ntmps161
    go_wp2_with (
      at_builtin
      go_must (
        refine wpList_appendB _ rfl (.tmp 11) (.tmp 15) rfl base v k xs rfl HO.out ⟨w.heap.size, 0, none⟩ 1 1 [.int .u8 (ni % 128)] rfl rfl (cell_one_new _ _ _) (by simp [Value.oneCell']) (by omega) (by simp; omega) ?_
        intro v2 w2 hown2 hg2 hat
        have HG2 := Lib.hid hg2
        have HAT := Lib.hid hat
        have HO2 := Lib.hid hown2
        clear hg2 hat hown2))
    go_ret
    rw [HB.out]
    exact grew_one HC.out rfl (by simp [Lib.byteCells]) (World.grownBy.refl _ _) (.inl rfl) HO2.out HG2.out HAT.out
  · have hni1 : 128 ≤ ni ∧ ni ≤ 2000000 := by omega
    have HB : Hid (bs = la (n / 128) ++ [UInt8.ofNat (n % 128)]) := by rw [hbs, lb, if_neg h]; rfl
    have HNI := Lib.hid hni
    have HO := Lib.hid hown
    have hle := la_le (n / 128)
    clear hbs hni hown
    go_enter Tryz.func161, Tryz.ntmps161
    go_wp2_with fail
    refine (writeAhead_any (n / 128) _ base _ v k xs (by have := HNI.out; omega) (by omega) hk hbase HO.out).mono ?_
    rintro _ w1 ⟨v1, rfl, hown1, hg1, hf1⟩
    have HO1 := own_one (t := 5) (u := .int .u8 (ni % 128)) hown1
    have HG1 := Lib.hid hg1
    have HF1 := Lib.hid hf1
    have hbase1 : base ≤ w1.heap.size := Nat.le_trans hbase hg1.size
    clear hown1 hg1 hf1
    go_wp2_with (
      at_builtin
      go_must (
        refine wpList_appendB _ rfl (.tmp 11) (.tmp 15) rfl base v1 (k + (la (n / 128)).length) (xs ++ Lib.byteCells (la (n / 128))) rfl HO1.out ⟨w1.heap.size, 0, none⟩ 1 1 [.int .u8 (ni % 128)] rfl rfl (cell_one_new _ _ _) (by simp [Value.oneCell']) (by omega) (by simp; omega) ?_
        intro v2 w2 hown2 hg2 hat
        have HG2 := Lib.hid hg2
        have HAT := Lib.hid hat
        have HO2 := Lib.hid hown2
        clear hg2 hat hown2))
    go_ret
    rw [HB.out]
    exact grew_one HC.out rfl rfl HG1.out HF1.out HO2.out HG2.out HAT.out
end Go.Proofs.YticofjbngfjjlaaGreatDoor.Wi


namespace Go.Proofs.YticofjbngfjjlaaGreatDoor.Wi
open Go.RowKit
open Wr

theorem grew_trans {base : Nat} {w w1 w2 : World} {v v1 v2 : Value} {k : Nat} {xs : List Value} {l1 l2 : List UInt8}
    (h1 : Grew base w v k xs l1 (.returned v1) w1) (h2 : Grew base w1 v1 (k + l1.length) (xs ++ Lib.byteCells l1) l2 (.returned v2) w2) : Grew base w v k xs (l1 ++ l2) (.returned v2) w2 := by
  obtain ⟨u1, e1, o1, g1, f1⟩ := h1
  obtain ⟨u2, e2, o2, g2, f2⟩ := h2
  injection e1 with e1
  injection e2 with e2
  subst e1 e2
  obtain ⟨h1, h2⟩ := far_trans g1 f1 g2 f2
  refine ⟨v2, rfl, ?_, h1, h2⟩
  rw [Lib.byteCells_append, List.length_append, ← List.append_assoc, ← Nat.add_assoc]
  exact o2

def WriteSaid (x : It) : Prop := ∀ (d m base : Nat) (S : Nat → Prop) (vx : Value) (w : World) (v : Value) (k : Nat) (xs : List Value), sz x d = some m → Rep w S x vx → (∀ b, S b → b < w.heap.size ∧ some b ≠ v.ownBlock) → base ≤ w.heap.size → OwnB w base v k xs → k ≤ 65536 →
  Calls Tryz.prog 133 #[v, vx] w (Grew base w v k xs (wr x))

theorem box4 {w W w0 : World} {v0 v1 v2 v3 : Value} (hW : W = w.alloc (.cells #[v0, v1, v2, v3] 64)) (hb : Below (w.heap.size + 1) W w0) :
    w0.cell? ⟨w.heap.size, 0, none⟩ = some v0 ∧ w0.cell? ⟨w.heap.size, 1, none⟩ = some v1 ∧ w0.cell? ⟨w.heap.size, 2, none⟩ = some v2 ∧ w0.cell? ⟨w.heap.size, 3, none⟩ = some v3 := by
  have hh : w0.heap[w.heap.size]? = some (.cells #[v0, v1, v2, v3] 64 (0, 0)) := by
    rw [hb.block _ (Nat.lt_succ_self _), hW]
    exact heap_alloc_new w _
  exact ⟨by rw [cell_of_row _ _ _ _ _ _ hh]; rfl, by rw [cell_of_row _ _ _ _ _ _ hh]; rfl, by rw [cell_of_row _ _ _ _ _ _ hh]; rfl, by rw [cell_of_row _ _ _ _ _ _ hh]; rfl⟩

/-- What holds at the head of write's loop. -/
def WrRel (s : List UInt8) (l : List It) (B : Nat) (W : World) (bv iv : Value) (wr' : World) : Prop :=
  ∃ (i nb g cap : Nat) (bs : List UInt8), bv = .slice (some ⟨g, 0, none⟩) nb cap ∧ iv = .int .i64 i ∧ i ≤ l.length ∧ bs = s ++ wrs (l.take i) ∧ nb = bs.length ∧ OwnB wr' B bv nb (Lib.byteCells bs) ∧ Below B W wr'

set_option maxHeartbeats 2000000 in
set_option maxRecDepth 100000 in
theorem write_any : ∀ x, WriteSaid x := It.ind (by
  intro n t s l ih d m base S vx w v k xs hz hrep hS hbase hown hk
  obtain ⟨A, cap, rfl, hrow⟩ := rep_mk.1 hrep
  obtain ⟨hd, ht1, ht2, hm, hcase⟩ := sz_some hz
  have hlen := sz_len _ _ _ hz
  rw [wr_mk] at hlen
  have hbody : (s ++ wrs l).length ≤ 65536 := by simp at hlen ⊢; omega
  have hsl : s.length ≤ 65536 := by simp at hbody; omega
  have hmem : ∀ y ∈ l, ∃ m', sz y (d + 1) = some m' := by
    rcases hcase with ⟨_, rfl, _⟩ | ⟨_, _, b, hb, _⟩
    · simp
    · exact szs_mem l _ _ _ hb
  have hll : l.length ≤ 65536 := by
    have h2 : ∀ l : List It, l.length ≤ (wrs l).length := by
      intro l
      induction l with
      | nil => simp
      | cons x r ih => have := wr_pos x; rw [wrs_cons]; simp; omega
    have := h2 l
    simp at hbody
    omega
  obtain ⟨out, hout⟩ : ∃ out, out = wr (.mk n t s l) := ⟨_, rfl⟩
  rw [← hout]
  rw [wr_mk] at hout
  have HOUT := Lib.hid hout
  have HMEM := Lib.hid hmem
  have HIH := Lib.hid ih
  have HROW := Lib.hid hrow
  have HS := Lib.hid hS
  have HOWN := Lib.hid hown
  clear hout hmem ih hrow hS hown hrep hz hlen hcase
  obtain ⟨W, hW⟩ : ∃ W, W = w.alloc (.cells #[.bool n, .int .i64 t, .string ⟨⟨s⟩⟩, .slice A l.length cap] 64) := ⟨_, rfl⟩
  obtain ⟨bv, w0, hrun, hob, hb0, hbb⟩ := run_bytesB W s (by omega)
  have hWs : W.heap.size = w.heap.size + 1 := by rw [hW]; simp
  rw [hWs] at hob hb0 hbb
  rw [hW] at hrun
  have HW := Lib.hid hW
  have HWS := Lib.hid hWs
  have HOB := Lib.hid hob
  have HBB := Lib.hid hbb
  clear hW hWs hob hbb
  obtain ⟨c0, c1, c2, c3⟩ := box4 HW.out hb0
  go_enter Tryz.func133, Tryz.ntmps133
  go_wp2
  go_loopw [5, 14] (fun bv iv wr' => WrRel s l (w.heap.size + 1) W bv iv wr') (fun _ iv _ => l.length - (intOf iv).toNat)
  case atStart =>
    have hob := HOB.out
    rcases hob.2 with ⟨h, _⟩ | ⟨g, cp, cur, fr, e, _⟩
    · have := HBB.out
      rw [h] at this
      simp [Value.ownBlock] at this
    · exact ⟨0, s.length, g, cp, s, e, rfl, by omega, by simp [wrs_nil], rfl, hob, hb0⟩
  case round =>
    obtain ⟨i, nb, g, cp, bs, rfl, rfl, hi, hbs, hnb, hob, hbw⟩ := hrel
    clear hrun hb0 c0 c1 c2 c3 HOB HBB
    have hbw0 : Below w.heap.size w wr := by
      have h1 : Below w.heap.size w W := by rw [HW.out]; exact (Below.refl _ _).alloc (Nat.le_refl _) _
      exact h1.trans (hbw.mono (Nat.le_succ _))
    have hwsz : w.heap.size + 1 ≤ wr.heap.size := by have := hbw.size; have := HWS.out; omega
    by_cases hlt : i < l.length
    · have hgi : l[i]? = some l[i] := List.getElem?_eq_getElem hlt
      rcases HROW.out with h | ⟨b, o, rfl, hSb, hreps⟩
      · rw [h] at hlt; simp at hlt
      obtain ⟨v0, v1, v2, v3, c0, c1, c2, c3, hrep⟩ := reps_at l b o i _ hreps hgi
      have hts := wrs_take_succ l i hlt
      have htl := wrs_take_le l (i + 1)
      have hmemi : l[i] ∈ l := List.getElem_mem hlt
      obtain ⟨m', hm'⟩ := HMEM.out _ hmemi
      have hih := HIH.out _ hmemi
      generalize hxe : l[i] = x at *
      have hxp := wr_pos x
      have hrep0 := hrep
      obtain ⟨xn, xt, xs0, xl⟩ := x
      obtain ⟨A', cap', hv, hrow'⟩ := rep_mk.1 hrep
      injection hv with hv
      simp at hv
      obtain ⟨rfl, rfl, rfl, rfl⟩ := hv
      have hbS := (HS.out b hSb).1
      have hq0 := (hbw0.cell (p := ⟨b, o + i * 4, none⟩) hbS).trans c0
      have hq1 := (hbw0.cell (p := ⟨b, o + i * 4 + 1, none⟩) hbS).trans c1
      have hq2 := (hbw0.cell (p := ⟨b, o + i * 4 + 2, none⟩) hbS).trans c2
      have hq3 := (hbw0.cell (p := ⟨b, o + i * 4 + 3, none⟩) hbS).trans c3
      have HRW : Hid (Rep (wr.alloc (.cells #[.bool xn, .int .i64 xt, .string ⟨⟨xs0⟩⟩, .slice A' xl.length cap'] 64)) S (.mk xn xt xs0 xl) (.agg #[.bool xn, .int .i64 xt, .string ⟨⟨xs0⟩⟩, .slice A' xl.length cap'])) :=
        rep_alloc (S := S) (rep_keep (fun _ h => h) (fun c o hc => hbw0.cell (p := ⟨c, o, none⟩) (HS.out c hc).1) _ _ hrep0) _ (fun c hc => ⟨by have := (HS.out c hc).1; omega, hc⟩)
      have HSW : Hid (∀ c, S c → c < (wr.alloc (.cells #[.bool xn, .int .i64 xt, .string ⟨⟨xs0⟩⟩, .slice A' xl.length cap'] 64)).heap.size ∧ some c ≠ (Value.slice (some ⟨g, 0, none⟩) nb cp).ownBlock) := fun c hc => by
        have := (HS.out c hc).1
        have hgl := hob.lt g rfl
        refine ⟨by simp; omega, fun e => ?_⟩
        simp [Value.ownBlock] at e
        omega
      have HOA : Hid (OwnB (wr.alloc (.cells #[.bool xn, .int .i64 xt, .string ⟨⟨xs0⟩⟩, .slice A' xl.length cap'] 64)) (w.heap.size + 1) (.slice (some ⟨g, 0, none⟩) nb cp) nb (Lib.byteCells bs)) := hob.alloc _
      have hnbl : nb ≤ 65536 := by
        rw [hnb, hbs]
        have := wrs_take_le l i
        simp at hbody ⊢
        omega
      have HNB := Lib.hid hnb
      have HBS := Lib.hid hbs
      have HTS := Lib.hid hts
      have HIX := Lib.hid hih
      have HMX := Lib.hid hm'
      have HOBB := Lib.hid hob
      clear c0 c1 c2 c3 hnb hbs hts hih hm' hmemi hgi hrep hrep0 hrow' hreps hob hxe
      go_wp2_with fail
      refine (HIX.out (d + 1) m' (w.heap.size + 1) S _ _ _ nb (Lib.byteCells bs) HMX.out HRW.out HSW.out (by simp; omega) HOA.out hnbl).mono ?_
      rintro _ w1 ⟨v1, rfl, hown1, hg1, hf1⟩
      go_wp2
      refine ⟨?_, by simp [intOf]; omega⟩
      obtain ⟨g', cp', rfl⟩ := hown1.form (by omega)
      refine ⟨i + 1, nb + (Wr.wr (.mk xn xt xs0 xl)).length, g', cp', bs ++ Wr.wr (.mk xn xt xs0 xl), rfl, by go_num, by omega, ?_, ?_, ?_, ?_⟩
      · rw [HBS.out, HTS.out, List.append_assoc]
      · rw [HNB.out, List.length_append]
      · rw [Lib.byteCells_append]; exact hown1
      · refine (hbw.alloc (by omega) _).grown hg1 (by simp; omega) ?_
        intro k' hk'
        have := HOBB.out.lt k' hk'
        omega
    · have hie : i = l.length := by omega
      subst hie
      rw [List.take_length] at hbs
      obtain ⟨c0, c1, c2, c3⟩ := box4 HW.out hbw
      have HBS := Lib.hid hbs
      have HNB := Lib.hid hnb
      have hnbl : nb ≤ 65536 := by rw [hnb, hbs]; exact hbody
      have HOBB := Lib.hid hob
      clear hbs hnb hob
      have hob := HOBB.out
      have hgl := hob.lt g rfl
      have hownw : OwnB wr base v k xs := HOWN.out.kept (grown_of_below hbw0 none) (by cases h : v.ownBlock <;> simp)
      have hvl : ∀ k', v.ownBlock = some k' → k' < w.heap.size := fun k' hk' => (HOWN.out.lt k' hk').2
      have HVL := Lib.hid hvl
      have HOW := Lib.hid hownw
      clear hob hownw hvl
      go_wp2_with fail
      refine (tagByte_any n t ⟨⟨s⟩⟩ _ _ ht1 ht2).mono ?_
      rintro _ w2 ⟨rfl, hb2⟩
      have hg02 : w.grownBy w2 v.ownBlock := grown_of_below (hbw0.trans (hb2.mono hbw0.size)) _
      have HO2 := own_one (t := 5) (u := .int .u8 ((tb n t).toNat : Int)) (HOW.out.kept (grown_of_below hb2 none) (by cases h : v.ownBlock <;> simp))
      have HG02 := Lib.hid hg02
      have HOB2 : Hid (OwnB w2 (w.heap.size + 1) (.slice (some ⟨g, 0, none⟩) nb cp) nb (Lib.byteCells bs)) := HOBB.out.kept (grown_of_below hb2 none) (by simp [Value.ownBlock])
      have hw2 : wr.heap.size ≤ w2.heap.size := hb2.size
      clear hg02 hb2
      go_wp2_with (
        first
        | (at_builtin
           go_must (
            refine wpList_appendB _ rfl (.tmp 22) (.tmp 25) rfl base v k xs rfl HO2.out ⟨w2.heap.size, 0, none⟩ 1 1 [.int .u8 ((tb n t).toNat : Int)] rfl rfl (cell_one_new _ _ _) (by simp [Value.oneCell']) (by omega) (by simp; omega) ?_
            intro v3 w3 hown3 hg3 hat3
            have HG3 := Lib.hid hg3
            have HAT3 := Lib.hid hat3
            have HGR3 : Hid (Grew base w v k xs ([] ++ [tb n t]) (.returned v3) w3) := grew_one rfl rfl (by simp [Lib.byteCells]) HG02.out (.inl rfl) hown3 hg3 hat3
            have hw3 : w2.heap.size + 1 ≤ w3.heap.size := by have := hg3.size; simpa using this
            clear hown3 hg3 hat3))
        | fail)
      obtain ⟨u3, hu3, hown3, hg03, hf03⟩ := HGR3.out
      injection hu3 with hu3
      subst hu3
      simp only [List.nil_append, List.length_singleton] at hown3
      have HOB3 : Hid (OwnB w3 (w.heap.size + 1) (.slice (some ⟨g, 0, none⟩) nb cp) nb (Lib.byteCells bs)) := (HOB2.out.alloc _).kept HG3.out (.inr (fun e => by
        have := HVL.out g e.symm
        omega))
      have HO3 := Lib.hid hown3
      have hne3 : some g ≠ v3.ownBlock := by
        intro e
        rcases HAT3.out with h | h
        · rw [h] at e
          have := HVL.out g e.symm
          omega
        · rw [h] at e
          injection e with e
          simp at e
          omega
      have HNE3 := Lib.hid hne3
      have hbs3 : base ≤ w3.heap.size := by omega
      clear hown3 hg03 hf03 hne3
      refine (writeLength_any nb _ base _ v3 (k + 1) _ rfl (by omega) (by omega) hbs3 HO3.out).mono ?_
      rintro _ w4 hgr4
      obtain ⟨v4, rfl, hown4, hg4, hf4⟩ := hgr4
      have HGR4 : Hid (Grew base w v k xs ([] ++ [tb n t] ++ lb nb) (.returned v4) w4) := grew_trans HGR3.out ⟨v4, rfl, hown4, hg4, hf4⟩
      have HOB4 : Hid (OwnB w4 (w.heap.size + 1) (.slice (some ⟨g, 0, none⟩) nb cp) nb (Lib.byteCells bs)) := HOB3.out.kept hg4 (.inr HNE3.out)
      have HO4 := Lib.hid hown4
      have hdg : (lb nb).length ≤ 65537 := by
        rw [lb_len]
        have := dg_le nb
        omega
      have hbs4 : base ≤ w4.heap.size := by have := hg4.size; omega
      clear hown4 hg4 hf4
      go_wp2_with (
        first
        | (at_builtin
           go_must (
            refine wpList_appendB _ rfl (.tmp 31) (.tmp 32) rfl base v4 (k + 1 + (lb nb).length) _ rfl HO4.out ⟨g, 0, none⟩ nb cp (Lib.byteCells bs) rfl HOB4.out.1 (HOB4.out.cells (g := g) rfl) (Lib.byteCells_one bs) (by omega) hbs4 ?_
            intro v5 w5 hown5 hg5 hat5
            have HG5 := Lib.hid hg5
            have HAT5 := Lib.hid hat5
            have HO5 := Lib.hid hown5
            clear hown5 hg5 hat5))
        | fail)
      go_ret
      obtain ⟨u4, hu4, _, hg04, hf04⟩ := HGR4.out
      injection hu4 with hu4
      subst hu4
      have hf5 : Far w4 v4 v5 := by
        rcases HAT5.out with h | h
        · exact .inl h
        · exact .inr ⟨_, h, Nat.le_refl _⟩
      obtain ⟨hA, hB⟩ := far_trans hg04 hf04 HG5.out hf5
      refine ⟨v5, rfl, ?_, hA, hB⟩
      have hO5 := HO5.out
      rw [HOUT.out, ← HBS.out, ← HNB.out]
      have e1 : k + (tb n t :: (lb nb ++ bs)).length = k + 1 + (lb nb).length + nb := by
        rw [HNB.out]; simp; omega
      have e2 : Lib.byteCells (tb n t :: (lb nb ++ bs)) = Lib.byteCells [tb n t] ++ Lib.byteCells (lb nb) ++ Lib.byteCells bs := by
        rw [← Lib.byteCells_append, ← Lib.byteCells_append]; simp
      rw [e1, e2]
      simpa [List.append_assoc] using hO5)

set_option maxHeartbeats 1000000 in
set_option maxRecDepth 100000 in
theorem put_err (x : It) (S : Nat → Prop) (v : Value) (w : World) (hk : bk x ≤ 2000000) (hrep : Rep w S x v) (hS : ∀ b, S b → b < w.heap.size) (hz : sz x 0 = none) :
    Calls Tryz.prog 99 #[v] w fun e w' => e = .returned (.tuple #[.string ⟨⟨[]⟩⟩, .int .i64 1]) ∧ Below w.heap.size w w' := by
  obtain ⟨n, t, s, l⟩ := x
  have hrep0 := hrep
  obtain ⟨A, cap, rfl, hrow⟩ := rep_mk.1 hrep
  have HR : Hid (Rep (w.alloc (.cells #[.bool n, .int .i64 t, .string ⟨⟨s⟩⟩, .slice A l.length cap] 64)) S (.mk n t s l) (.agg #[.bool n, .int .i64 t, .string ⟨⟨s⟩⟩, .slice A l.length cap])) := rep_alloc hrep0 _ (fun c hc => ⟨hS c hc, hc⟩)
  have HS : Hid (∀ b, S b → b < (w.alloc (.cells #[.bool n, .int .i64 t, .string ⟨⟨s⟩⟩, .slice A l.length cap] 64)).heap.size) := fun b hb => by have := hS b hb; simp; omega
  have HZ := Lib.hid hz
  clear hrep hrep0 hrow hS hz
  go_enter Tryz.func99, Tryz.ntmps99
  go_wp2_with fail
  refine (valid_any (.mk n t s l) S _ _ hk HR.out HS.out).mono ?_
  rintro _ w1 ⟨rfl, hb1⟩
  rw [HZ.out]
  simp only [Option.isSome_none]
  go_wp2
  go_ret2
  exact ⟨rfl, ((Below.refl _ _).alloc (Nat.le_refl _) _).trans (hb1.mono (by simp))⟩

set_option maxHeartbeats 1000000 in
set_option maxRecDepth 100000 in
theorem put_ok (x : It) (S : Nat → Prop) (v : Value) (w : World) (m : Nat) (hk : bk x ≤ 2000000) (hrep : Rep w S x v) (hS : ∀ b, S b → b < w.heap.size) (hz : sz x 0 = some m) :
    Calls Tryz.prog 99 #[v] w fun e w' => e = .returned (.tuple #[.string ⟨⟨wr x⟩⟩, .int .i64 0]) ∧ Below w.heap.size w w' := by
  obtain ⟨n, t, s, l⟩ := x
  have hrep0 := hrep
  obtain ⟨A, cap, rfl, hrow⟩ := rep_mk.1 hrep
  have HR : Hid (Rep (w.alloc (.cells #[.bool n, .int .i64 t, .string ⟨⟨s⟩⟩, .slice A l.length cap] 64)) S (.mk n t s l) (.agg #[.bool n, .int .i64 t, .string ⟨⟨s⟩⟩, .slice A l.length cap])) := rep_alloc hrep0 _ (fun c hc => ⟨hS c hc, hc⟩)
  have HS : Hid (∀ b, S b → b < (w.alloc (.cells #[.bool n, .int .i64 t, .string ⟨⟨s⟩⟩, .slice A l.length cap] 64)).heap.size) := fun b hb => by have := hS b hb; simp; omega
  have HZ := Lib.hid hz
  have hpos := wr_pos (.mk n t s l)
  obtain ⟨out, hout⟩ : ∃ out, out = wr (.mk n t s l) := ⟨_, rfl⟩
  rw [← hout] at hpos ⊢
  have HO := Lib.hid hout
  clear hrep hrep0 hrow hS hz hout
  go_enter Tryz.func99, Tryz.ntmps99
  go_wp2_with fail
  refine (valid_any (.mk n t s l) S _ _ hk HR.out HS.out).mono ?_
  rintro _ w1 ⟨rfl, hb1⟩
  rw [HZ.out]
  simp only [Option.isSome_some]
  obtain ⟨c0, c1, c2, c3⟩ := box4 (w0 := w1) (w := w) rfl (by simpa using hb1)
  have hsz := hb1.size
  simp at hsz
  have HRW : Hid (Rep w1 S (.mk n t s l) (.agg #[.bool n, .int .i64 t, .string ⟨⟨s⟩⟩, .slice A l.length cap])) :=
    rep_keep (fun _ h => h) (fun c o hc => hb1.cell (p := ⟨c, o, none⟩) (HS.out c hc)) _ _ HR.out
  have HSW : Hid (∀ b, S b → b < w1.heap.size ∧ some b ≠ (Value.slice none 0 0).ownBlock) := fun b hb => ⟨by have := HS.out b hb; have := hb1.size; omega, by simp [Value.ownBlock]⟩
  have hbel : Below w.heap.size w w1 := ((Below.refl _ _).alloc (Nat.le_refl _) _).trans (hb1.mono (by simp))
  clear hb1
  go_wp2_with fail
  refine (write_any (.mk n t s l) 0 m w1.heap.size S _ _ (.slice none 0 0) 0 [] HZ.out HRW.out HSW.out (Nat.le_refl _) (OwnB.nil _ _) (by omega)).mono ?_
  rintro _ w2 ⟨v2, rfl, hown2, hg2, hf2⟩
  rw [← HO.out] at hown2
  simp only [Nat.zero_add, List.nil_append] at hown2
  obtain ⟨g, cp, rfl⟩ := hown2.form (by omega)
  have hcv : (convert 31 9 (.slice (some ⟨g, 0, none⟩) out.length cp)).run Tryz.prog w2 = .ok (.string ⟨⟨out⟩⟩) w2 :=
    run_convert_bytes_back (P := Tryz.prog) w2 31 9 5 ⟨g, 0, none⟩ cp out Tryz.underlying31 Tryz.underlying5 Tryz.underlying9 (fun j hj => hown2.cells (g := g) rfl j _ (by simp [Lib.byteCells, hj]))
  have hb2 : Below w.heap.size w w2 := hbel.trans (Below.grown (Below.refl _ _) hg2 (by omega) (by simp [Value.ownBlock]))
  clear hown2 hg2 hf2 hbel
  go_wp2
  go_ret2
  exact ⟨rfl, hb2⟩
end Go.Proofs.YticofjbngfjjlaaGreatDoor.Wi

/- carry: leaf, node, write. (Laid with NS=1.) -/

namespace Go.Proofs.YticofjbngfjjlaaGreatDoor.Cy
open Go.RowKit
open Te Te.Tt
open Wi.Wr (It wr wrs)

set_option maxHeartbeats 400000 in
set_option maxRecDepth 100000 in
theorem leaf_any (t : Int) (s : List UInt8) (w : World) :
    Calls Tryz.prog 61 #[.int .i64 t, .string ⟨⟨s⟩⟩] w fun e w' => e = .returned (.agg #[.bool false, .int .i64 t, .string ⟨⟨s⟩⟩, .slice none 0 0]) ∧ Below w.heap.size w w' := by
  go_enter Tryz.func61, Tryz.ntmps61
  go_wp2
  refine bodyPost_ret (v := .agg #[.bool false, .int .i64 t, .string ⟨⟨s⟩⟩, .slice none 0 0]) (by simp [results, Tryz.results61, go_sem]) rfl ⟨rfl, (Below.refl _ _).alloc (Nat.le_refl _) _⟩

set_option maxHeartbeats 400000 in
set_option maxRecDepth 100000 in
theorem node_any (t : Int) (A : Option Addr) (m ca : Nat) (w : World) :
    Calls Tryz.prog 100 #[.int .i64 t, .slice A m ca] w fun e w' => e = .returned (.agg #[.bool true, .int .i64 t, .string ⟨⟨[]⟩⟩, .slice A m ca]) ∧ Below w.heap.size w w' := by
  go_enter Tryz.func100, Tryz.ntmps100
  go_wp2
  refine bodyPost_ret (v := .agg #[.bool true, .int .i64 t, .string ⟨⟨[]⟩⟩, .slice A m ca]) (by simp [results, Tryz.results100, go_sem]) rfl ⟨rfl, (Below.refl _ _).alloc (Nat.le_refl _) _⟩

set_option maxHeartbeats 1000000 in
set_option maxRecDepth 100000 in
theorem write_ok (x : It) (S : Nat → Prop) (v0 v1 v2 v3 : Value) (w : World) (m : Nat) (hk : Wi.bk x ≤ 2000000) (hrep : Wi.Rep w S x (.agg #[v0, v1, v2, v3])) (hS : ∀ b, S b → b < w.heap.size) (hz : Wi.Wr.sz x 0 = some m) :
    Calls Tryz.prog 60 #[.agg #[v0, v1, v2, v3]] w fun e w' => e = .returned (.tuple #[.agg #[v0, v1, v2, v3, .string ⟨⟨wr x⟩⟩], .int .i64 0]) ∧ Below w.heap.size w w' := by
  have HP := fun W h1 h2 => Wi.put_ok x S (.agg #[v0, v1, v2, v3]) W m hk h1 h2 hz
  obtain ⟨O, hO⟩ : ∃ O, O = wr x := ⟨_, rfl⟩
  rw [← hO] at HP ⊢
  obtain ⟨n, t, s, l⟩ := x
  obtain ⟨A, ca, he, -⟩ := Wi.rep_mk.1 hrep
  injection he with he
  simp at he
  obtain ⟨rfl, rfl, rfl, rfl⟩ := he
  clear hO hz hk
  have hbs : Below w.heap.size w ((w.alloc (.cells #[.bool n, .int .i64 t, .string ⟨⟨s⟩⟩, .slice A l.length ca] 64)).alloc (.cells #[.bool false, .int .i64 0, .string ⟨⟨[]⟩⟩, .slice none 0 0, .string ⟨⟨[]⟩⟩] 66)) := ((Below.refl _ _).alloc (Nat.le_refl _) _).alloc (by simp) _
  have HBS := Lib.hid hbs
  clear hbs
  go_enter Tryz.func60, Tryz.ntmps60
  go_wp2_with fail
  refine (HP _ ?_ ?_).mono ?_
  · refine Wi.rep_alloc (S := S) (Wi.rep_alloc hrep _ (fun b hb => ⟨hS b hb, hb⟩)) _ (fun b hb => ⟨?_, hb⟩)
    have := hS b hb
    simp
    omega
  · intro b hb
    have := hS b hb
    simp
    omega
  rintro _ w1 ⟨rfl, b1⟩
  obtain ⟨hc, hf⟩ := Wi.bcell b1
  have HB2 := Lib.hid (HBS.out.trans (b1.mono (by simp; omega)))
  clear HP
  go_wp2
  refine bodyPost_ret (v := .tuple #[.agg #[.bool n, .int .i64 t, .string ⟨⟨s⟩⟩, .slice A l.length ca, .string ⟨⟨O⟩⟩], .int .i64 0]) (by simp [results, Tryz.results60, go_sem, hc]) rfl ⟨rfl, ?_⟩
  have hg : w.heap.size ≤ w.heap.size + 1 := Nat.le_succ _
  exact ((((HB2.out.setCell (p := ⟨_, 0, none⟩) hg _).setCell (p := ⟨_, 1, none⟩) hg _).setCell (p := ⟨_, 2, none⟩) hg _).setCell (p := ⟨_, 3, none⟩) hg _).setCell (p := ⟨_, 4, none⟩) hg _
end Go.Proofs.YticofjbngfjjlaaGreatDoor.Cy

/- twice, thrice, RotateLeft8, spread, Times. -/

namespace Go.Proofs.YticofjbngfjjlaaGreatDoor
open Go.RowKit

theorem ret_byte {a b : Int} (h : a = b) : Ending.returned (.int .u8 a) = .returned (.int .u8 b) := by rw [h]
theorem xor_byte (a b : UInt8) : bits BinOp.xor IntKind.u8 (a.toNat : Int) (b.toNat : Int) = ((a ^^^ b).toNat : Nat) := by
  rw [u8_xor_nat _ _ (UInt8.toNat_lt _) (UInt8.toNat_lt _), UInt8.toNat_xor]

theorem twice_val (a : Nat) (h : a < 256) : bits BinOp.xor IntKind.u8 ((a : Int) * 2 % 256) ((a : Int) / 128 * 27) = ((Ae.twN a : Nat) : Int) := by
  rw [show (a : Int) * 2 % 256 = ((a * 2 % 256 : Nat) : Int) by omega, show (a : Int) / 128 * 27 = ((a / 128 * 27 : Nat) : Int) by omega, u8_xor_nat _ _ (by omega) (by omega)]
  rfl

set_option maxRecDepth 100000 in
theorem twice_any (a : UInt8) (w : World) :
    Calls Tryz.prog 220 #[.int .u8 (a.toNat : Nat)] w fun e w' => e = .returned (.int .u8 ((Ae.tw a).toNat : Nat)) ∧ w = w' := by
  have h1 : a.toNat < 256 := UInt8.toNat_lt _
  have HV := Lib.hid (twice_val a.toNat h1)
  rw [← Ae.tw_nat] at HV
  go_enter Tryz.func220, Tryz.ntmps220
  go_wp2
  go_ret
  refine ⟨ret_byte ?_, rfl⟩
  rw [← HV.out]

set_option maxRecDepth 100000 in
theorem thrice_any (a : UInt8) (w : World) :
    Calls Tryz.prog 221 #[.int .u8 (a.toNat : Nat)] w fun e w' => e = .returned (.int .u8 ((Ae.th a).toNat : Nat)) ∧ w = w' := by
  have HV := Lib.hid (xor_byte (Ae.tw a) a)
  have HT := Lib.hid (twice_any a w)
  have HE : Hid (Ae.th a = Ae.tw a ^^^ a) := Lib.hid rfl
  generalize Ae.tw a = t at *
  generalize Ae.th a = r at *
  go_enter Tryz.func221, Tryz.ntmps221
  go_wp2_with fail
  refine HT.out.mono ?_
  rintro _ w' ⟨rfl, rfl⟩
  go_wp2
  go_ret
  refine ⟨ret_byte ?_, rfl⟩
  rw [HE.out, ← HV.out]

theorem and7 (n : Nat) (h2 : n ≤ 7) : bits BinOp.and IntKind.u64 (n : Int) 7 = (n : Int) := by
  show bits BinOp.and IntKind.u64 _ ((7 : Nat) : Int) = _
  rw [u64_and_nat _ _ (by omega) (by decide), show n &&& 7 = n from ?_]
  have := Nat.and_two_pow_sub_one_eq_mod n 3
  rw [show 2 ^ 3 - 1 = 7 by decide] at this
  rw [this]
  omega

set_option maxRecDepth 100000 in
theorem rot8_any (x : UInt8) (n : Nat) (w : World) (hk : 1 ≤ n) (hk2 : n ≤ 7) :
    Calls Tryz.prog 226 #[.int .u8 (x.toNat : Nat), .int .i64 (n : Int)] w fun e w' => e = .returned (.int .u8 ((Ae.rl x n).toNat : Nat)) ∧ w = w' := by
  have ha := and7 n hk2
  have hx : x.toNat < 256 := UInt8.toNat_lt _
  have hw : IntKind.u64.wrap (8 - (n : Int)) = ((8 - n : Nat) : Int) := by rw [IntKind.wrap_u64]; omega
  have hv : bits BinOp.or IntKind.u8 ((x.toNat : Int) * 2 ^ n % 256) ((x.toNat : Int) / 2 ^ (8 - n)) = ((Ae.rl x n).toNat : Nat) := by
    have h1 : x.toNat / 2 ^ (8 - n) < 256 := Nat.lt_of_le_of_lt (Nat.div_le_self _ _) hx
    have h2 : x.toNat * 2 ^ n % 256 < 256 := Nat.mod_lt _ (by decide)
    rw [Ae.rl, UInt8.toNat_ofNat', Nat.mod_eq_of_lt (Nat.or_lt_two_pow (n := 8) h2 h1), ← u8_or_nat _ _ h2 h1]
    simp
  have HV := Lib.hid hv
  clear hv
  go_enter Tryz.func226, Tryz.ntmps226
  go_wp2
  go_ret
  refine ⟨ret_byte ?_, rfl⟩
  rw [← HV.out]

set_option maxRecDepth 100000 in
theorem spreadA_any (b : UInt8) (w : World) :
    Calls Tryz.prog 219 #[.int .u8 (b.toNat : Nat)] w fun e w' => e = .returned (.int .u8 ((Ae.spr b).toNat : Nat)) ∧ w = w' := by
  have h0 : bits BinOp.xor IntKind.u8 (b.toNat : Int) 99 = ((Ae.sprk b 0).toNat : Nat) := xor_byte b 99
  have HR := Lib.hid fun n => rot8_any b n w
  have HE : Hid (∀ k, Ae.sprk b (k + 1) = Ae.sprk b k ^^^ Ae.rl b (k + 1)) := Lib.hid fun k => rfl
  have HS : Hid (Ae.sprk b 4 = Ae.spr b) := Lib.hid rfl
  generalize Ae.spr b = sp at *
  generalize Ae.sprk b = sq at *
  generalize Ae.rl b = rb at *
  go_enter Tryz.func219, Tryz.ntmps219
  go_wp2
  go_loop [3, 4] (fun v i => ∃ k : Nat, k ≤ 4 ∧ i = .int .i64 (k + 1 : Nat) ∧ v = .int .u8 ((sq k).toNat : Nat)) (fun _ i => 5 - (intOf i).toNat)
  case atStart => exact ⟨0, by omega, rfl, rfl⟩
  case round =>
    obtain ⟨k, hk, rfl, rfl⟩ := hrel
    clear h0
    by_cases hlt : k < 4
    · have HV := Lib.hid (xor_byte (sq k) (rb (k + 1)))
      have HN := Lib.hid (HE.out k)
      go_wp2_with fail
      refine (HR.out (k + 1) (by omega) (by omega)).mono ?_
      rintro _ w' ⟨rfl, rfl⟩
      go_wp2
      go_round
      case rel => exact ⟨k + 1, by omega, by go_num, by rw [HN.out]; exact congrArg (Value.int IntKind.u8) HV.out⟩
      case measure => simp [intOf]; omega
    · obtain rfl : k = 4 := by omega
      go_wp2
      go_ret
      exact ⟨ret_byte (by rw [← HS.out]), rfl⟩

end Go.Proofs.YticofjbngfjjlaaGreatDoor

/- powersOfThree. -/

namespace Go.Proofs.YticofjbngfjjlaaGreatDoor
open Go.RowKit

theorem bcells_one (l : List UInt8) : (bcells l).all (·.oneCell') = true := by
  simp [bcells, Value.oneCell']
theorem infoA255 : (Tryz.prog.info? 210).map (·.size) = some 255 := by kernel_rfl
theorem infoA256 : (Tryz.prog.info? 199).map (·.size) = some 256 := by kernel_rfl
theorem infoA176 : (Tryz.prog.info? 201).map (·.size) = some 176 := by kernel_rfl
theorem infoA16 : (Tryz.prog.info? 205).map (·.size) = some 16 := by kernel_rfl
theorem infoA4 : (Tryz.prog.info? 212).map (·.size) = some 4 := by kernel_rfl

theorem zeroA255 : ∀ w, (zeroValue 210).run Tryz.prog w = .ok (.agg (bcells (List.replicate 255 0))) w := (zero_of_info (P := Tryz.prog) (n := 255) (by kernel_rfl)).1
theorem zeroA256 : ∀ w, (zeroValue 199).run Tryz.prog w = .ok (.agg (bcells (List.replicate 256 0))) w := (zero_of_info (P := Tryz.prog) (n := 256) (by kernel_rfl)).1
theorem zeroA176 : ∀ w, (zeroValue 201).run Tryz.prog w = .ok (.agg (bcells (List.replicate 176 0))) w := (zero_of_info (P := Tryz.prog) (n := 176) (by kernel_rfl)).1
theorem noughtsA_ne (n : Nat) (h : 0 < n) : ¬ bcells (List.replicate n 0) = #[] := fun e => by
  have := congrArg Array.size e
  rw [bcells_size, List.length_replicate] at this
  simp at this
  omega

theorem PW_length : Ae.PW.length = 255 := by simp [Ae.PW]
theorem PW_at (k : Nat) (h : k < 255) : Ae.PW.getD k 0 = Ae.pw k := by simp [Ae.PW, List.getD_eq_getElem?_getD, h]

set_option maxRecDepth 100000 in
theorem powers_any (w : World) :
    Calls Tryz.prog 218 #[] w fun e w' => e = .returned (.agg (bcells Ae.PW)) ∧ Below w.heap.size w w' := by
  have HL := Lib.hid PW_length
  have HAT := Lib.hid PW_at
  have HP0 : Hid (Ae.pw 0 = 1) := Lib.hid rfl
  have HPS : Hid (∀ k, Ae.pw (k + 1) = Ae.th (Ae.pw k)) := Lib.hid fun _ => rfl
  generalize Ae.PW = L at *
  generalize Ae.pw = pw at *
  have hz := zeroA255
  have hne := noughtsA_ne 255 (by decide)
  have HZ : Hid (bcells (List.replicate 255 0) = bcells (L.take 0 ++ List.replicate (255 - 0) 0)) := Lib.hid rfl
  generalize hzs : bcells (List.replicate 255 0) = zs at *
  go_enter Tryz.func218, Tryz.ntmps218
  go_wp2
  go_loopw [2, 4] (fun p i wr => ∃ k : Nat, k ≤ 255 ∧ i = .int .i64 k ∧ p = .int .u8 ((pw k).toNat : Nat) ∧ Below w.heap.size w wr ∧ w.heap.size + 2 ≤ wr.heap.size ∧ Hid (wr.heap[w.heap.size]? = some (.cells zs 210 (0, 0))) ∧ Hid (wr.heap[w.heap.size + 1]? = some (.cells (bcells (L.take k ++ List.replicate (255 - k) 0)) 210 (0, 0)))) (fun _ i _ => 255 - (intOf i).toNat)
  case atStart => exact ⟨0, by omega, rfl, by rw [HP0.out]; rfl, ((Below.refl _ _).alloc (Nat.le_refl _) _).alloc (by simp) _, by simp, heap_alloc2_old _ _ _, by rw [Hid, ← HZ.out]; exact heap_alloc2_new _ _ _⟩
  case round =>
    obtain ⟨k, hk, rfl, rfl, hb, hz, HC0, HC1⟩ := hrel
    by_cases hlt : k < 255
    · have hcell := brow_cell HC1.out HL.out hlt
      have hfro := frozen_of_row _ _ k _ _ HC1.out
      have HA := Lib.hid (HAT.out k hlt)
      have HT := Lib.hid fun W => thrice_any (pw k) W
      rw [← HPS.out k] at HT
      go_wp2_with fail
      refine (HT.out _).mono ?_
      rintro _ w' ⟨rfl, rfl⟩
      have HB := Lib.hid (brow_set HC1.out HL.out hlt)
      rw [HA.out] at HB
      go_wp2
      go_roundw
      case rel => exact ⟨k + 1, by omega, by go_num, rfl, hb.setCell (by show w.heap.size ≤ w.heap.size + 1; omega) _, by simp [World.setCell]; omega, by rw [Hid, heap_setCell_other _ _ _ _ (by show w.heap.size ≠ w.heap.size + 1; omega)]; exact HC0.out, HB⟩
      case measure => simp [intOf]; omega
    · obtain rfl : k = 255 := by omega
      have hzz : zs.size = 255 := by rw [← hzs, bcells_size, List.length_replicate]
      clear hzs hz hne HZ
      have HR : Hid (wr.heap[w.heap.size + 1]? = some (.cells (bcells L) 210 (0, 0))) := by
        have h := HC1.out
        rw [List.take_of_length_le (by rw [HL.out]; exact Nat.le_refl _), Nat.sub_self, List.replicate_zero, List.append_nil] at h
        exact h
      clear HC1
      have HI : Hid ((Tryz.prog.info? 210).map (·.size) = some (bcells L).size) := by rw [Hid, infoA255, bcells_size, HL.out]
      have HS : Hid (zs.size = (bcells L).size) := by rw [Hid, bcells_size, HL.out, hzz]
      clear hzz
      go_wp2_with (first | (refine wpList_load_row rfl 210 (.tmp 1) rfl (w.heap.size + 1) rfl 210 (bcells L) (0, 0) _ HR.out Tryz.underlying210 rfl HI.out ?_) | (refine wpList_store_row rfl 210 (.tmp 0) (.tmp 13) rfl w.heap.size (bcells L) rfl rfl 210 _ HC0.out HI.out HS.out (bcells_one _) ?_))
      exact bodyPost_ret (v := .agg (bcells L)) (results_cell_row Tryz.results218 _ _ w.heap.size 210 _ (0, 0) _ rfl (setRow_heap _ _ _ _ _ _ HC0.out) Tryz.underlying210 rfl HI.out) rfl ⟨rfl, below_setRow' hb (Nat.le_refl _) _⟩
end Go.Proofs.YticofjbngfjjlaaGreatDoor

