/- Rows of items of one's own: made, appended onto. (Laid with NS=1.) -/
import Derived.Test.YticofjbngfjjlaaGreatDoorGACyW6
import Derived.OwnWalk
import Derived.Test.YticofjbngfjjlaaGreatDoorGATmW3
namespace Go.Proofs.YticofjbngfjjlaaGreatDoor.Cy
open Go.RowKit
open Te Te.Tt
open Wi.Wr (It wr wrs)

theorem make_items (m : Nat) (h : m ≤ 10000) (W : World) : ∃ zs : Array Value, zs.size = m * 4 ∧ (Instr.makeSlice 62 (.int .i64 0) (.int .i64 (m : Int))).run Tryz.prog W = .ok (.slice (some ⟨W.heap.size, 0, none⟩) 0 m) (W.alloc (.cells zs 64)) := by
  obtain ⟨i, hi, hz, hs, hb⟩ := info_parts Wi.info24
  have hr := run_make (P := Tryz.prog) W 62 64 i _ Tryz.underlying62 hi hz .i64 .i64 0 m (by omega) (by omega) (by rw [hb]; omega) (by omega)
  rw [hr, hs, Int.toNat_natCast]
  exact ⟨_, by simp [madeCells], rfl⟩
theorem own_items (W : World) (m : Nat) (h : m ≤ 10000) (zs : Array Value) (hz : zs.size = m * 4) : (W.alloc (.cells zs 64)).ownsRow W.heap.size 64 4 (.slice (some ⟨W.heap.size, 0, none⟩) 0 m) 0 [] := by
  refine ⟨rfl, .inr ⟨W.heap.size, m, zs, rfl, Nat.le_refl _, heap_alloc_new _ _, Nat.zero_le _, ?_, hz, by simp⟩⟩
  simp only [maxLen]; omega

/-- A row of items of one's own, with whatever room. -/
def OwnI (S : Nat → Prop) (w : World) (base : Nat) (v : Value) (l : List It) : Prop := ∃ xs, w.ownsRow base 64 4 v l.length xs ∧ Wi.Els w S l xs

theorem OwnI.nil (S : Nat → Prop) (w : World) (base : Nat) : OwnI S w base (.slice none 0 0) [] := ⟨[], World.ownsRow_nil w base _ _, by rw [Wi.Els]⟩
theorem OwnI.form {S : Nat → Prop} {w : World} {base : Nat} {v : Value} {l : List It} (h : OwnI S w base v l) : ∃ A ca, v = .slice A l.length ca := by
  obtain ⟨xs, ⟨_, h⟩, _⟩ := h
  rcases h with ⟨rfl, h0⟩ | ⟨g, cap, cur, rfl, _⟩
  · exact ⟨none, 0, by rw [h0]⟩
  · exact ⟨_, _, rfl⟩
theorem OwnI.lt {S : Nat → Prop} {w : World} {base : Nat} {v : Value} {l : List It} (h : OwnI S w base v l) : ∀ k, v.ownBlock = some k → base ≤ k ∧ k < w.heap.size := by
  obtain ⟨xs, h, _⟩ := h
  exact World.ownsRow.lt h
theorem OwnI.row {S S' : Nat → Prop} {w : World} {base n ca : Nat} {A : Option Addr} {l : List It} (h : OwnI S w base (.slice A n ca) l) (hS : ∀ b, S b → S' b) (hO : ∀ b, (Value.slice A n ca).ownBlock = some b → S' b) : Wi.Row w S' l A := by
  obtain ⟨A', ca', hf⟩ := h.form
  injection hf with e1 e2 e3
  subst e1 e2 e3
  obtain ⟨xs, h1, h2⟩ := h
  exact Wi.row_of_own h1 (Wi.els_keep hS (fun _ _ _ => rfl) _ _ h2) rfl hO
/-- It stays where its own block, and what its items lead to, stays. -/
theorem OwnI.keep {S S' : Nat → Prop} {w w' : World} {base : Nat} {v : Value} {l : List It} (h : OwnI S w base v l) (ho : ∀ k, v.ownBlock = some k → w'.heap[k]? = w.heap[k]?) (hS : ∀ b, S b → S' b) (hk : ∀ b, S b → w'.heap[b]? = w.heap[b]?) : OwnI S' w' base v l := by
  obtain ⟨xs, ⟨h0, h1⟩, h2⟩ := h
  refine ⟨xs, ⟨h0, ?_⟩, Wi.els_keep hS (fun b o hb => World.cell?_of_block (a := ⟨b, o, none⟩) (hk b hb)) _ _ h2⟩
  rcases h1 with h1 | ⟨g, cap, cur, rfl, h3, h4, h5⟩
  · exact .inl h1
  · exact .inr ⟨g, cap, cur, rfl, h3, (ho g rfl).trans h4, h5⟩

set_option maxHeartbeats 400000 in
set_option maxRecDepth 100000 in
theorem wpList_appI (wr : World) {ops : Array Oper} {rest : List Oper} {o : Oper} {a : Act} {Q : Exit → Act → World → Prop} (hgd : o.guard = none) (s x : Operand)
    (ho : o.op = .call { callee := .builtin .append, args := #[s, x], argTypes := #[62, 62] }) (base : Nat) (v : Value) (l : List It) (y : It) (v0 v1 v2 v3 : Value) (S : Nat → Prop) (hs : a.eval s = v) (m : Nat) (hm : m = wr.heap.size) (hx : a.eval x = .slice (some ⟨m, 0, none⟩) 1 1)
    (hown : OwnI S wr base v l) (hy : Wi.Rep wr S y (.agg #[v0, v1, v2, v3])) (hS : ∀ b, S b → b < wr.heap.size ∧ v.ownBlock ≠ some b) (hl : l.length ≤ 1000000) (hbase : base ≤ wr.heap.size)
    (h : ∀ v' w', OwnI S w' base v' (l ++ [y]) → Below base wr w' → (∀ k, k < wr.heap.size → v.ownBlock ≠ some k → w'.heap[k]? = wr.heap[k]?) → (∀ k, v'.ownBlock = some k → v.ownBlock = some k ∨ wr.heap.size ≤ k) → wr.heap.size ≤ w'.heap.size → wpList Tryz.prog ops Q rest (a.put o.dst v') w') :
    wpList Tryz.prog ops Q (o :: rest) a (wr.alloc (.cells #[v0, v1, v2, v3] 64)) := by
  subst hm
  obtain ⟨i, hi, he⟩ := Option.map_eq_some_iff.1 Wi.info24
  simp only [Prod.mk.injEq] at he
  obtain ⟨hz, hsz, hb⟩ := he
  have hg := heap_alloc_new wr (.cells #[v0, v1, v2, v3] 64)
  have hlt := hown.lt
  obtain ⟨xs, hrow, hels⟩ := hown
  have hown' : (wr.alloc (.cells #[v0, v1, v2, v3] 64)).ownsRow base 64 4 v l.length xs := World.ownsRow.alloc hrow _
  refine wpList_append_own_at _ hgd s x 62 ho base 64 i _ 4 56 Tryz.underlying62 hi hz hsz hb rfl (by decide) v l.length xs hs hown' ⟨wr.heap.size, 0, none⟩ 1 1 [v0, v1, v2, v3] hx rfl (fun j u hu => ?_) (by obtain ⟨yn, yt, ys, yl⟩ := y; obtain ⟨A', ca', he, -⟩ := Wi.rep_mk.1 hy; injection he with he; simp at he; obtain ⟨rfl, rfl, rfl, rfl⟩ := he; simp [Value.oneCell']) (by simp only [maxLen]; omega) (by omega) (by simp; omega) fun v' w' h1 h2 _ h4 => h v' w' ?_ ?_ ?_ ?_ ?_
  · rw [Addr.add_lit]
    exact (cell_of_row _ _ _ _ _ _ hg).trans (by simpa using hu)
  · refine ⟨_, by rw [List.length_append, List.length_singleton]; exact h1, ?_⟩
    have hblk : ∀ b, S b → w'.heap[b]? = wr.heap[b]? := fun b hb' => by
      have hb2 := hS b hb'
      rw [h2.block b (by simp; omega) (fun e => hb2.2 e.symm)]
      exact heap_alloc_old wr _ hb2.1
    exact Wi.els_keep (fun _ h => h) (fun b o hb' => World.cell?_of_block (a := ⟨b, o, none⟩) (hblk b hb')) _ _ (Wi.els_snoc hy l xs hels)
  · exact Below.grown ((Below.refl _ _).alloc hbase _) h2 (by simp; omega) (fun k hk => (hlt k hk).1)
  · intro k hk hne
    rw [h2.block k (by simp; omega) (fun e => hne e.symm)]
    exact heap_alloc_old wr _ hk
  · intro k hk
    rcases h4 with h4 | h4
    · exact .inl (h4 ▸ hk)
    · rw [h4] at hk
      injection hk with hk
      simp at hk
      exact .inr (by omega)
  · have := h2.size
    simp at this
    omega
end Go.Proofs.YticofjbngfjjlaaGreatDoor.Cy

/- carry: packList. (Laid with NS=1.) -/

namespace Go.Proofs.YticofjbngfjjlaaGreatDoor.Cy
open Go.RowKit
open Te Te.Tt
open Wi.Wr (It wr wrs)

theorem pk_len (c : List UInt8) (x : Tm) (d : Nat) (hv : vld d x = true) (hz : sz x ≤ 100) : (wr (pk c x)).length ≤ 49 * sz x := by
  obtain ⟨m, hm, hm2⟩ := pk_sz c x d 0 hv (by rw [vld_dp] at hv; simp only [Bool.and_eq_true, decide_eq_true_eq] at hv; omega) (by omega)
  have h1 := Wi.Wr.sz_len _ _ _ hm
  omega
theorem pks_snoc (c : List UInt8) (l : List Tm) (i : Nat) (h : i < l.length) : pks c (l.take (i + 1)) = pks c (l.take i) ++ [pk c l[i]] := by
  rw [pks_map, pks_map, List.take_succ_eq_append_getElem h, List.map_append]
  rfl

/-- What holds at the head of packList's loop. -/
def PlRel (c : List UInt8) (l : List Tm) (w : World) (iv nv kv : Value) (wr : World) : Prop :=
  ∃ (i nb : Nat), nv = .int .i64 nb ∧ kv = .int .i64 i ∧ i ≤ l.length ∧ nb ≤ 49 * szs (l.take i) ∧ Below w.heap.size w wr ∧ w.heap.size + 2 ≤ wr.heap.size ∧
    wr.heap[w.heap.size]? = some (.cells #[.bool false, .int .i64 0, .string ⟨⟨[]⟩⟩, .slice none 0 0, .string ⟨⟨[]⟩⟩] 66 (0, 0)) ∧
    OwnI (fun b => w.heap.size + 1 ≤ b ∧ b < wr.heap.size ∧ iv.ownBlock ≠ some b) wr (w.heap.size + 1) iv (pks c (l.take i))

set_option maxHeartbeats 1000000 in
set_option maxRecDepth 100000 in
theorem packList_any (c : List UInt8) (l : List Tm) (ih : ∀ y ∈ l, PackSaid c y) (d : Nat) (S : Nat → Prop) (A : Option Addr) (ca : Nat) (w : World) (hv : vld d (.mk 3 [] 0 l) = true) (hall : ∀ y ∈ l, vld (d + 1) y = true) (hsz : szs l ≤ 99) (hll : l.length ≤ 64) (HT : Tabs w) (htab : TabB w.heap.size w)
    (hr : TRow w S l A) (hS : ∀ b, S b → b < w.heap.size) :
    Calls Tryz.prog 63 #[.slice A l.length ca, .string ⟨⟨c⟩⟩] w (PackPost c (.mk 3 [] 0 l) w) := by
  obtain ⟨i0, hi, hz0, hz1, hz2⟩ := info_parts Wi.info24
  obtain ⟨W0, hW0⟩ : ∃ W0, W0 = w.alloc (.cells #[.bool false, .int .i64 0, .string ⟨⟨[]⟩⟩, .slice none 0 0, .string ⟨⟨[]⟩⟩] 66) := ⟨_, rfl⟩
  obtain ⟨zs, hzs, hmk⟩ := make_items l.length (by omega) W0
  have HO := Lib.hid (own_items W0 l.length (by omega) zs hzs)
  have hs0 : W0.heap.size = w.heap.size + 1 := by rw [hW0]; simp
  rw [hs0] at hmk HO
  rw [hW0] at hmk
  have gZ : (W0.alloc (.cells zs 64)).heap[w.heap.size]? = some (.cells #[.bool false, .int .i64 0, .string ⟨⟨[]⟩⟩, .slice none 0 0, .string ⟨⟨[]⟩⟩] 66 (0, 0)) := by rw [hW0]; exact heap_alloc2_old _ _ _
  have bZ : Below w.heap.size w (W0.alloc (.cells zs 64)) := by rw [hW0]; exact ((Below.refl _ _).alloc (Nat.le_refl _) _).alloc (by simp) _
  have HR0 : Hid (PlRel c l w (.slice (some ⟨w.heap.size + 1, 0, none⟩) 0 l.length) (.int .i64 0) (.int .i64 0) (W0.alloc (.cells zs 64))) :=
    ⟨0, 0, rfl, rfl, by omega, by simp, bZ, by simp [hs0], gZ, [], by simpa [pks] using HO.out, by simp [pks, Wi.Els]⟩
  rw [hW0] at HR0
  clear HO hW0 hs0 gZ bZ
  clear hi hz0 hz1 hz2 i0
  go_enter Tryz.func63, Tryz.ntmps63
  go_wp2
  go_loopw [6, 7, 17] (fun iv nv kv wr => PlRel c l w iv nv kv wr) (fun _ _ kv _ => l.length - (intOf kv).toNat)
  case atStart => exact HR0.out
  case round =>
    obtain ⟨i, nb, rfl, rfl, hi, hnb, hb, hsw, hgz, hown⟩ := hrel
    clear HR0
    by_cases hlt : i < l.length
    · have hgi : l[i]? = some l[i] := List.getElem?_eq_getElem hlt
      rcases hr with h | ⟨b, o, rfl, hSb, hreps⟩
      · rw [h] at hlt; simp at hlt
      obtain ⟨v0, v1, v2, v3, c0, c1, c2, c3, hrep⟩ := reps_at l b o i _ hreps hgi
      have hmem : l[i] ∈ l := List.getElem_mem hlt
      have hvx := hall _ hmem
      have hsx := szs_mem l _ hmem
      have hts := szs_take_succ l i hlt
      have htl := szs_take_le l (i + 1)
      have hps := pks_snoc c l i hlt
      have hih := ih _ hmem
      generalize hxe : l[i] = x at *
      have hol := pk_len c x (d + 1) hvx (by omega)
      obtain ⟨Y, hY⟩ : ∃ Y, Y = pk c x := ⟨_, rfl⟩
      obtain ⟨O, hO⟩ : ∃ O, O = Wi.Wr.wr (pk c x) := ⟨_, rfl⟩
      rw [← hO] at hol
      rw [← hY] at hps
      have hbS := hS b hSb
      have hrep0 := hrep
      have HIH : Hid (∀ W, Below w.heap.size w W → Calls Tryz.prog 31 #[.agg #[v0, v1, v2, v3], .string ⟨⟨c⟩⟩] W fun e w' => ∃ (nd : Bool) (tg : Int) (sv : List UInt8) (A : Option Addr) (m ca : Nat), e = .returned (.tuple #[.agg #[.bool nd, .int .i64 tg, .string ⟨⟨sv⟩⟩, .slice A m ca, .string ⟨⟨O⟩⟩], .int .i64 0]) ∧ Wi.Rep w' (Wi.New W.heap.size w') Y (.agg #[.bool nd, .int .i64 tg, .string ⟨⟨sv⟩⟩, .slice A m ca]) ∧ Below W.heap.size W w') := fun W hW =>
        (hih (d + 1) S (.agg #[v0, v1, v2, v3]) W hvx (by omega) (Tabs.below HT hW) (htab.up hW) (rep_below hrep0 hW hS) (fun b hb => Nat.lt_of_lt_of_le (hS b hb) hW.size)).mono fun _ _ ⟨nd, tg, sv, A, m, ca, he, hrp, hb⟩ => ⟨nd, tg, sv, A, m, ca, by rw [he, hO], by rw [hY]; exact hrp, hb⟩
      obtain ⟨k, s, n, q⟩ := x
      obtain ⟨A', cap', hv, -⟩ := rep_mk.1 hrep
      injection hv with hv
      simp at hv
      obtain ⟨rfl, rfl, rfl, rfl⟩ := hv
      have hq0 := (hb.cell (p := ⟨b, o + i * 4, none⟩) hbS).trans c0
      have hq1 := (hb.cell (p := ⟨b, o + i * 4 + 1, none⟩) hbS).trans c1
      have hq2 := (hb.cell (p := ⟨b, o + i * 4 + 2, none⟩) hbS).trans c2
      have hq3 := (hb.cell (p := ⟨b, o + i * 4 + 3, none⟩) hbS).trans c3
      have HPS := Lib.hid hps
      have HTS := Lib.hid hts
      have HTL := Lib.hid htl
      have HOL := Lib.hid hol
      have HOWN := Lib.hid hown
      clear c0 c1 c2 c3 hreps hgi hmem hvx hsx hts htl hps hih hol hY hO hrep hrep0 hown ih hall hmk
      have hbt : Below w.heap.size w (wr.alloc (.cells #[.int .i64 k, .string ⟨⟨s⟩⟩, .int .i64 n, .slice A' q.length cap'] 25)) := hb.alloc (by omega) _
      have HC := Lib.hid (HIH.out _ hbt)
      have hwr1 : (wr.alloc (.cells #[.int .i64 k, .string ⟨⟨s⟩⟩, .int .i64 n, .slice A' q.length cap'] 25)).heap.size = wr.heap.size + 1 := by simp
      clear HIH
      go_wp2_with fail
      refine HC.out.mono ?_
      rintro _ w1 ⟨nd, tg, sv, A1, m1, ca1, rfl, hrp1, b1⟩
      have hw1 : wr.heap.size + 1 ≤ w1.heap.size := by have := b1.size; omega
      have hol := HOL.out
      have hnb2 : nb + O.length ≤ 65536 := by have := HTS.out; have := HTL.out; omega
      have hby : IntKind.i64.wrap ((nb : Int) + (O.length : Int)) = ((nb + O.length : Nat) : Int) := by rw [IntKind.wrap_i64]; omega
      have hgt : ¬ (65536 : Int) < ((nb + O.length : Nat) : Int) := by omega
      have hb2 : Below w.heap.size w w1 := hbt.trans (b1.mono hbt.size)
      obtain ⟨V, hV⟩ : ∃ V, V = w1.alloc (.cells #[.bool nd, .int .i64 tg, .string ⟨⟨sv⟩⟩, .slice A1 m1 ca1, .string ⟨⟨O⟩⟩] 66) := ⟨_, rfl⟩
      have hVs : V.heap.size = w1.heap.size + 1 := by rw [hV]; simp
      have bV : Below wr.heap.size wr V := by
        rw [hV]
        exact (((Below.refl _ _).alloc (Nat.le_refl _) _).trans (b1.mono (by simp))).alloc (by omega) _
      have hol1 := HOWN.out.lt
      have HOV : Hid (OwnI (fun b => w.heap.size + 1 ≤ b ∧ b < V.heap.size ∧ u6.ownBlock ≠ some b) V (w.heap.size + 1) u6 (pks c (l.take i))) :=
        HOWN.out.keep (fun k hk => bV.block k (hol1 k hk).2) (fun b hb => ⟨hb.1, by omega, hb.2.2⟩) (fun b hb => bV.block b hb.2.1)
      have HYV : Hid (Wi.Rep V (fun b => w.heap.size + 1 ≤ b ∧ b < V.heap.size ∧ u6.ownBlock ≠ some b) Y (.agg #[.bool nd, .int .i64 tg, .string ⟨⟨sv⟩⟩, .slice A1 m1 ca1])) :=
        Wi.rep_keep (w := w1) (fun b hb => ⟨by have := hb.1; omega, by have := hb.2; omega, fun e => by have := (hol1 b e).2; have := hb.1; omega⟩) (fun b o hb => by rw [hV]; exact World.cell?_of_block (heap_alloc_old _ _ hb.2)) _ _ hrp1
      have HGV : Hid (V.heap[w.heap.size]? = wr.heap[w.heap.size]?) := bV.block _ (by omega)
      have HBV : Hid (Below w.heap.size w V) := by rw [Hid, hV]; exact hb2.alloc (by omega) _
      have HTI : Hid ((pks c (l.take i)).length ≤ 1000000) := by rw [Hid, pks_map, List.length_map, List.length_take]; omega
      clear hrp1 b1 HC hq0 hq1 hq2 hq3 bV hol1 hbt hb2
      go_wp2_with (
        first
        | (at_builtin
           go_must (
            rw [← hV]
            refine wpList_appI V rfl (.tmp 39) (.tmp 42) rfl (w.heap.size + 1) u6 (pks c (l.take i)) Y (.bool nd) (.int .i64 tg) (.string ⟨⟨sv⟩⟩) (.slice A1 m1 ca1) _ rfl (w1.heap.size + 1) hVs.symm rfl HOV.out HYV.out (fun b hb => hb.2) HTI.out (by omega) ?_
            intro v' w2 ho2 hb2 hk2 how2 hs2))
        | fail)
      refine ⟨⟨i + 1, nb + O.length, by go_num, by go_num, by omega, by rw [HTS.out]; omega, HBV.out.trans (hb2.mono (Nat.le_succ _)), by omega, (hb2.block _ (Nat.lt_succ_self _)).trans (HGV.out.trans hgz), ?_⟩, by simp [intOf]; omega⟩
      rw [HPS.out]
      refine ho2.keep (fun _ _ => rfl) (fun b hb => ⟨hb.1, by have := hb.2.1; omega, fun e => ?_⟩) (fun _ _ => rfl)
      rcases how2 b e with h | h
      · exact hb.2.2 h
      · have := hb.2.1; omega
    · obtain rfl : i = l.length := by omega
      rw [List.take_length] at hown
      obtain ⟨B, cb, rfl⟩ := hown.form
      have hpl : (pks c l).length = l.length := by rw [pks_map, List.length_map]
      obtain ⟨X, hX⟩ : ∃ X, X = (Tm.mk 3 [] 0 l) := ⟨_, rfl⟩
      have hpk : pk c X = .mk true 4 [] (pks c l) := by rw [hX, pk]; rfl
      obtain ⟨pm, hpm, -, -, hpm4⟩ := pk_puts c X d (by rw [hX]; exact hv) (by rw [hX, sz]; omega)
      obtain ⟨P, hP⟩ : ∃ P, P = Wi.Wr.wr (pk c X) := ⟨_, rfl⟩
      have hrow : Wi.Row wr (Wi.New (w.heap.size + 1) wr) (pks c l) B := hown.row (fun b hb => ⟨hb.1, hb.2.1⟩) (fun b hb => hown.lt b hb)
      have HRP : Hid (∀ V, Below wr.heap.size wr V → Wi.Rep V (Wi.New (w.heap.size + 1) wr) (pk c X) (.agg #[.bool true, .int .i64 4, .string ⟨⟨[]⟩⟩, .slice B l.length cb])) := fun V hV => by
        rw [hpk]
        refine Wi.rep_mk.2 ⟨B, cb, by rw [hpl], ?_⟩
        exact Wi.row_keep (fun _ h => h) (fun b o hb => hV.cell (p := ⟨b, o, none⟩) hb.2) hrow
      rw [hpl] at hown ⊢
      have HWR : Hid (∀ V, Below wr.heap.size wr V → Calls Tryz.prog 60 #[.agg #[.bool true, .int .i64 4, .string ⟨⟨[]⟩⟩, .slice B l.length cb]] V fun e w' => e = .returned (.tuple #[.agg #[.bool true, .int .i64 4, .string ⟨⟨[]⟩⟩, .slice B l.length cb, .string ⟨⟨P⟩⟩], .int .i64 0]) ∧ Below V.heap.size V w') := fun V hV => by
        have := write_ok (pk c X) (Wi.New (w.heap.size + 1) wr) (.bool true) (.int .i64 4) (.string ⟨⟨[]⟩⟩) (.slice B l.length cb) V pm hpm4 (HRP.out V hV) (fun b hb => Nat.lt_of_lt_of_le hb.2 hV.size) hpm
        rw [← hP] at this
        exact this
      have HNODE := Lib.hid (node_any 4 B l.length cb wr)
      have HP := Lib.hid hP
      have HX := Lib.hid hX
      have HOWN := Lib.hid hown
      clear hpm hpm4 hpk hP hX hown hrow ih hall hmk
      go_wp2_with fail
      refine HNODE.out.mono ?_
      rintro _ w2 ⟨rfl, b2⟩
      go_wp2_with fail
      refine (HWR.out w2 b2).mono ?_
      rintro _ w3 ⟨rfl, b3⟩
      have B3 : Below wr.heap.size wr w3 := b2.trans (b3.mono b2.size)
      have g3 := (B3.block w.heap.size (by omega)).trans hgz
      have e0 : w3.cell? ⟨w.heap.size, 0, none⟩ = some (.bool false) := by rw [cell_of_row _ _ _ _ _ _ g3]; rfl
      have e1 : w3.cell? ⟨w.heap.size, 1, none⟩ = some (.int .i64 0) := by rw [cell_of_row _ _ _ _ _ _ g3]; rfl
      have e2 : w3.cell? ⟨w.heap.size, 2, none⟩ = some (.string ⟨⟨[]⟩⟩) := by rw [cell_of_row _ _ _ _ _ _ g3]; rfl
      have e3 : w3.cell? ⟨w.heap.size, 3, none⟩ = some (.slice none 0 0) := by rw [cell_of_row _ _ _ _ _ _ g3]; rfl
      have e4 : w3.cell? ⟨w.heap.size, 4, none⟩ = some (.string ⟨⟨[]⟩⟩) := by rw [cell_of_row _ _ _ _ _ _ g3]; rfl
      have f0 := fun j => frozen_of_row w3 _ j _ _ g3
      have HRW := Lib.hid (HRP.out w3 B3)
      have HB3 : Hid (Below w.heap.size w w3) := hb.trans (B3.mono hb.size)
      have hs3 := B3.size
      clear b2 b3 HWR HNODE g3 hgz HRP
      go_wp2
      refine bodyPost_ret (v := .tuple #[.agg #[.bool true, .int .i64 4, .string ⟨⟨[]⟩⟩, .slice B l.length cb, .string ⟨⟨P⟩⟩], .int .i64 0]) (by simp [results, Tryz.results63, go_sem, e0, e1, e2, e3, e4]) rfl ?_
      rw [← HX.out]
      refine ⟨true, 4, [], B, l.length, cb, by rw [HP.out], ?_, set5_below HB3.out (Nat.le_refl _)⟩
      exact Wi.rep_keep (fun b hb => ⟨by have := hb.1; omega, by rw [set5_size]; have := hb.2; omega⟩) (fun b o hb => World.cell?_of_block (set5_other (by show b ≠ _; have := hb.1; omega))) _ _ HRW.out
end Go.Proofs.YticofjbngfjjlaaGreatDoor.Cy

/- carry: pack, at any valid term. (Laid with NS=1.) -/

namespace Go.Proofs.YticofjbngfjjlaaGreatDoor.Cy
open Go.RowKit
open Te Te.Tt
open Wi.Wr (It wr wrs)

/-- A leaf is written. -/
theorem wleaf (c : List UInt8) (x : Tm) (d : Nat) (hv : vld d x = true) (hz : sz x ≤ 100) (t : Int) (s : List UInt8) (hpk : pk c x = leaf t s) (V : World) :
    Calls Tryz.prog 60 #[.agg #[.bool false, .int .i64 t, .string ⟨⟨s⟩⟩, .slice none 0 0]] V fun e w' => e = .returned (.tuple #[.agg #[.bool false, .int .i64 t, .string ⟨⟨s⟩⟩, .slice none 0 0, .string ⟨⟨wr (pk c x)⟩⟩], .int .i64 0]) ∧ Below V.heap.size V w' := by
  obtain ⟨pm, hpm, -, -, hpm4⟩ := pk_puts c x d hv hz
  exact write_ok (pk c x) (fun _ => False) (.bool false) (.int .i64 t) (.string ⟨⟨s⟩⟩) (.slice none 0 0) V pm hpm4 (by rw [hpk, leaf]; exact Wi.rep_mk.2 ⟨none, 0, rfl, .inl rfl⟩) (fun _ h => h.elim) hpm
theorem pleaf (c : List UInt8) (x : Tm) (t : Int) (s : List UInt8) (hpk : pk c x = leaf t s) (w w' : World) (hb : Below w.heap.size w w') :
    PackPost c x w (.returned (.tuple #[.agg #[.bool false, .int .i64 t, .string ⟨⟨s⟩⟩, .slice none 0 0, .string ⟨⟨wr (pk c x)⟩⟩], .int .i64 0])) w' :=
  ⟨false, t, s, none, 0, 0, rfl, by rw [hpk, leaf]; exact Wi.rep_mk.2 ⟨none, 0, rfl, .inl rfl⟩, hb⟩

set_option maxHeartbeats 1000000 in
set_option maxRecDepth 100000 in
theorem packName_any (c s : List UInt8) (d : Nat) (A : Option Addr) (ca : Nat) (w : World) (hv : vld d (.mk 0 s 0 []) = true) :
    Calls Tryz.prog 31 #[.agg #[.int .i64 0, .string ⟨⟨s⟩⟩, .int .i64 0, .slice A 0 ca], .string ⟨⟨c⟩⟩] w (PackPost c (.mk 0 s 0 []) w) := by
  obtain ⟨X, hX⟩ : ∃ X, X = (Tm.mk 0 s 0 []) := ⟨_, rfl⟩
  have hpk : pk c X = leaf 1 (s) := by rw [hX, pk]; rfl
  have hwl := wleaf c X d (by rw [hX]; exact hv) (by rw [hX]; simp [sz, szs]) 1 _ hpk
  have hpl := pleaf c X 1 _ hpk w
  rw [← hX]
  obtain ⟨P, hP⟩ : ∃ P, P = wr (pk c X) := ⟨_, rfl⟩
  rw [← hP] at hwl hpl
  have HWL := Lib.hid hwl
  have HPL := Lib.hid hpl
  have g0 := heap_alloc2_new w (.cells #[.int .i64 0, .string ⟨⟨s⟩⟩, .int .i64 0, .slice A 0 ca] 25) (.cells #[.bool false, .int .i64 0, .string ⟨⟨[]⟩⟩, .slice none 0 0, .string ⟨⟨[]⟩⟩] 66)
  have b0 : Below w.heap.size w ((w.alloc (.cells #[.int .i64 0, .string ⟨⟨s⟩⟩, .int .i64 0, .slice A 0 ca] 25)).alloc (.cells #[.bool false, .int .i64 0, .string ⟨⟨[]⟩⟩, .slice none 0 0, .string ⟨⟨[]⟩⟩] 66)) := ((Below.refl _ _).alloc (Nat.le_refl _) _).alloc (by simp) _
  have G0 := Lib.hid g0
  have HB0 := Lib.hid b0
  clear hpk hwl hpl hP hX g0 b0
  go_enter Tryz.func31, Tryz.ntmps31
  go_wp2_with fail
  refine (leaf_any 1 _ _).mono ?_
  rintro _ w1 ⟨rfl, b1⟩
  go_wp2_with fail
  refine (HWL.out w1).mono ?_
  rintro _ w2 ⟨rfl, b2⟩
  have B2 := b1.trans (b2.mono b1.size)
  have g2 := (B2.block (w.heap.size + 1) (by simp)).trans G0.out
  have e0 : w2.cell? ⟨w.heap.size + 1, 0, none⟩ = some (.bool false) := by rw [cell_of_row _ _ _ _ _ _ g2]; rfl
  have e1 : w2.cell? ⟨w.heap.size + 1, 1, none⟩ = some (.int .i64 0) := by rw [cell_of_row _ _ _ _ _ _ g2]; rfl
  have e2 : w2.cell? ⟨w.heap.size + 1, 2, none⟩ = some (.string ⟨⟨[]⟩⟩) := by rw [cell_of_row _ _ _ _ _ _ g2]; rfl
  have e3 : w2.cell? ⟨w.heap.size + 1, 3, none⟩ = some (.slice none 0 0) := by rw [cell_of_row _ _ _ _ _ _ g2]; rfl
  have e4 : w2.cell? ⟨w.heap.size + 1, 4, none⟩ = some (.string ⟨⟨[]⟩⟩) := by rw [cell_of_row _ _ _ _ _ _ g2]; rfl
  have f0 := fun j => frozen_of_row w2 _ j _ _ g2
  have HB3 := Lib.hid (HB0.out.trans (B2.mono HB0.out.size))
  clear b1 b2 B2 g2
  go_wp2
  refine bodyPost_ret (v := .tuple #[.agg #[.bool false, .int .i64 1, .string ⟨⟨s⟩⟩, .slice none 0 0, .string ⟨⟨P⟩⟩], .int .i64 0]) (by simp [results, Tryz.results31, go_sem, e0, e1, e2, e3, e4]) rfl ?_
  exact HPL.out _ (set5_below HB3.out (Nat.le_succ _))

set_option maxHeartbeats 1000000 in
set_option maxRecDepth 100000 in
theorem packNum_any (c : List UInt8) (n : Int) (d : Nat) (A : Option Addr) (ca : Nat) (w : World) (hv : vld d (.mk 1 [] n []) = true) :
    Calls Tryz.prog 31 #[.agg #[.int .i64 1, .string ⟨⟨[]⟩⟩, .int .i64 n, .slice A 0 ca], .string ⟨⟨c⟩⟩] w (PackPost c (.mk 1 [] n []) w) := by
  obtain ⟨X, hX⟩ : ∃ X, X = (Tm.mk 1 [] n []) := ⟨_, rfl⟩
  have hpk : pk c X = leaf 2 (nm8 n) := by rw [hX, pk]; rfl
  have hwl := wleaf c X d (by rw [hX]; exact hv) (by rw [hX]; simp [sz, szs]) 2 _ hpk
  have hpl := pleaf c X 2 _ hpk w
  have hnum := number_any n
  rw [← hX]
  obtain ⟨P, hP⟩ : ∃ P, P = wr (pk c X) := ⟨_, rfl⟩
  rw [← hP] at hwl hpl
  have HWL := Lib.hid hwl
  have HPL := Lib.hid hpl
  have g0 := heap_alloc2_new w (.cells #[.int .i64 1, .string ⟨⟨[]⟩⟩, .int .i64 n, .slice A 0 ca] 25) (.cells #[.bool false, .int .i64 0, .string ⟨⟨[]⟩⟩, .slice none 0 0, .string ⟨⟨[]⟩⟩] 66)
  have b0 : Below w.heap.size w ((w.alloc (.cells #[.int .i64 1, .string ⟨⟨[]⟩⟩, .int .i64 n, .slice A 0 ca] 25)).alloc (.cells #[.bool false, .int .i64 0, .string ⟨⟨[]⟩⟩, .slice none 0 0, .string ⟨⟨[]⟩⟩] 66)) := ((Below.refl _ _).alloc (Nat.le_refl _) _).alloc (by simp) _
  have G0 := Lib.hid g0
  have HB0 := Lib.hid b0
  clear hpk hwl hpl hP hX g0 b0
  generalize nm8 n = NV at *
  go_enter Tryz.func31, Tryz.ntmps31
  go_wp2_with fail
  refine (hnum _).mono ?_
  rintro _ wc ⟨rfl, bc⟩
  go_wp2_with fail
  refine (leaf_any 2 _ _).mono ?_
  rintro _ w1 ⟨rfl, b1⟩
  go_wp2_with fail
  refine (HWL.out w1).mono ?_
  rintro _ w2 ⟨rfl, b2⟩
  have B2 := (bc.trans (b1.mono bc.size)).trans (b2.mono (bc.trans (b1.mono bc.size)).size)
  have g2 := (B2.block (w.heap.size + 1) (by simp)).trans G0.out
  have e0 : w2.cell? ⟨w.heap.size + 1, 0, none⟩ = some (.bool false) := by rw [cell_of_row _ _ _ _ _ _ g2]; rfl
  have e1 : w2.cell? ⟨w.heap.size + 1, 1, none⟩ = some (.int .i64 0) := by rw [cell_of_row _ _ _ _ _ _ g2]; rfl
  have e2 : w2.cell? ⟨w.heap.size + 1, 2, none⟩ = some (.string ⟨⟨[]⟩⟩) := by rw [cell_of_row _ _ _ _ _ _ g2]; rfl
  have e3 : w2.cell? ⟨w.heap.size + 1, 3, none⟩ = some (.slice none 0 0) := by rw [cell_of_row _ _ _ _ _ _ g2]; rfl
  have e4 : w2.cell? ⟨w.heap.size + 1, 4, none⟩ = some (.string ⟨⟨[]⟩⟩) := by rw [cell_of_row _ _ _ _ _ _ g2]; rfl
  have f0 := fun j => frozen_of_row w2 _ j _ _ g2
  have HB3 := Lib.hid (HB0.out.trans (B2.mono HB0.out.size))
  clear b1 b2 B2 g2 bc
  go_wp2
  refine bodyPost_ret (v := .tuple #[.agg #[.bool false, .int .i64 2, .string ⟨⟨NV⟩⟩, .slice none 0 0, .string ⟨⟨P⟩⟩], .int .i64 0]) (by simp [results, Tryz.results31, go_sem, e0, e1, e2, e3, e4]) rfl ?_
  exact HPL.out _ (set5_below HB3.out (Nat.le_succ _))

set_option maxHeartbeats 1000000 in
set_option maxRecDepth 100000 in
theorem packKey_any (c s : List UInt8) (n : Int) (d : Nat) (A : Option Addr) (ca : Nat) (w : World) (hv : vld d (.mk 2 s n []) = true) (HT : Tabs w) (hc : c.length ≤ 10000) :
    Calls Tryz.prog 31 #[.agg #[.int .i64 2, .string ⟨⟨s⟩⟩, .int .i64 n, .slice A 0 ca], .string ⟨⟨c⟩⟩] w (PackPost c (.mk 2 s n []) w) := by
  obtain ⟨X, hX⟩ : ∃ X, X = (Tm.mk 2 s n []) := ⟨_, rfl⟩
  have hby := fun W hT => Bytes_any 2 s n A 0 ca c W hT (by have := vld_s hv; omega) hc
  obtain ⟨KB, hKB⟩ : ∃ KB, KB = kb c s n := ⟨_, rfl⟩
  have hpk : pk c X = leaf 3 KB := by rw [hX, hKB, pk]; rfl
  rw [← hKB] at hby
  have hwl := wleaf c X d (by rw [hX]; exact hv) (by rw [hX]; simp [sz, szs]) 3 _ hpk
  have hpl := pleaf c X 3 _ hpk w
  rw [← hX]
  obtain ⟨P, hP⟩ : ∃ P, P = wr (pk c X) := ⟨_, rfl⟩
  rw [← hP] at hwl hpl
  have HWL := Lib.hid hwl
  have HPL := Lib.hid hpl
  have g0 := heap_alloc2_new w (.cells #[.int .i64 2, .string ⟨⟨s⟩⟩, .int .i64 n, .slice A 0 ca] 25) (.cells #[.bool false, .int .i64 0, .string ⟨⟨[]⟩⟩, .slice none 0 0, .string ⟨⟨[]⟩⟩] 66)
  have b0 : Below w.heap.size w ((w.alloc (.cells #[.int .i64 2, .string ⟨⟨s⟩⟩, .int .i64 n, .slice A 0 ca] 25)).alloc (.cells #[.bool false, .int .i64 0, .string ⟨⟨[]⟩⟩, .slice none 0 0, .string ⟨⟨[]⟩⟩] 66)) := ((Below.refl _ _).alloc (Nat.le_refl _) _).alloc (by simp) _
  have G0 := Lib.hid g0
  have HB0 := Lib.hid b0
  have HBY := Lib.hid (hby _ (Tabs.below HT b0))
  clear hpk hwl hpl hP hX g0 b0 hby hKB
  go_enter Tryz.func31, Tryz.ntmps31
  go_wp2_with fail
  refine (HBY.out).mono ?_
  rintro _ wc ⟨rfl, bc⟩
  go_wp2_with fail
  refine (leaf_any 3 _ _).mono ?_
  rintro _ w1 ⟨rfl, b1⟩
  go_wp2_with fail
  refine (HWL.out w1).mono ?_
  rintro _ w2 ⟨rfl, b2⟩
  have B2 := (bc.trans (b1.mono bc.size)).trans (b2.mono (bc.trans (b1.mono bc.size)).size)
  have g2 := (B2.block (w.heap.size + 1) (by simp)).trans G0.out
  have e0 : w2.cell? ⟨w.heap.size + 1, 0, none⟩ = some (.bool false) := by rw [cell_of_row _ _ _ _ _ _ g2]; rfl
  have e1 : w2.cell? ⟨w.heap.size + 1, 1, none⟩ = some (.int .i64 0) := by rw [cell_of_row _ _ _ _ _ _ g2]; rfl
  have e2 : w2.cell? ⟨w.heap.size + 1, 2, none⟩ = some (.string ⟨⟨[]⟩⟩) := by rw [cell_of_row _ _ _ _ _ _ g2]; rfl
  have e3 : w2.cell? ⟨w.heap.size + 1, 3, none⟩ = some (.slice none 0 0) := by rw [cell_of_row _ _ _ _ _ _ g2]; rfl
  have e4 : w2.cell? ⟨w.heap.size + 1, 4, none⟩ = some (.string ⟨⟨[]⟩⟩) := by rw [cell_of_row _ _ _ _ _ _ g2]; rfl
  have f0 := fun j => frozen_of_row w2 _ j _ _ g2
  have HB3 := Lib.hid (HB0.out.trans (B2.mono HB0.out.size))
  clear b1 b2 B2 g2 bc
  go_wp2
  refine bodyPost_ret (v := .tuple #[.agg #[.bool false, .int .i64 3, .string ⟨⟨KB⟩⟩, .slice none 0 0, .string ⟨⟨P⟩⟩], .int .i64 0]) (by simp [results, Tryz.results31, go_sem, e0, e1, e2, e3, e4]) rfl ?_
  exact HPL.out _ (set5_below HB3.out (Nat.le_succ _))

end Go.Proofs.YticofjbngfjjlaaGreatDoor.Cy

/- carry: pack, at any valid term. (Laid with NS=1.) -/

namespace Go.Proofs.YticofjbngfjjlaaGreatDoor.Cy
open Go.RowKit
open Te Te.Tt
open Wi.Wr (It wr wrs)

set_option maxHeartbeats 1000000 in
set_option maxRecDepth 100000 in
theorem packL_any (c : List UInt8) (l : List Tm) (A : Option Addr) (ca : Nat) (w : World) (hsub : ∀ E, Below w.heap.size w E → Calls Tryz.prog 63 #[.slice A l.length ca, .string ⟨⟨c⟩⟩] E (PackPost c (.mk 3 [] 0 l) E)) :
    Calls Tryz.prog 31 #[.agg #[.int .i64 3, .string ⟨⟨[]⟩⟩, .int .i64 0, .slice A l.length ca], .string ⟨⟨c⟩⟩] w (PackPost c (.mk 3 [] 0 l) w) := by
  generalize (Tm.mk 3 [] 0 l) = X at *
  have g0 := heap_alloc2_new w (.cells #[.int .i64 3, .string ⟨⟨[]⟩⟩, .int .i64 0, .slice A l.length ca] 25) (.cells #[.bool false, .int .i64 0, .string ⟨⟨[]⟩⟩, .slice none 0 0, .string ⟨⟨[]⟩⟩] 66)
  have b0 : Below w.heap.size w ((w.alloc (.cells #[.int .i64 3, .string ⟨⟨[]⟩⟩, .int .i64 0, .slice A l.length ca] 25)).alloc (.cells #[.bool false, .int .i64 0, .string ⟨⟨[]⟩⟩, .slice none 0 0, .string ⟨⟨[]⟩⟩] 66)) := ((Below.refl _ _).alloc (Nat.le_refl _) _).alloc (by simp) _
  have G0 := Lib.hid g0
  have HB0 := Lib.hid b0
  have HSB := Lib.hid (hsub _ b0)
  clear hsub g0 b0
  go_enter Tryz.func31, Tryz.ntmps31
  go_wp2_with fail
  refine HSB.out.mono ?_
  rintro _ w2 ⟨nd, tg, sv, A1, m1, ca1, rfl, hrp, B2⟩
  have g2 := (B2.block (w.heap.size + 1) (by simp)).trans G0.out
  have e0 : w2.cell? ⟨w.heap.size + 1, 0, none⟩ = some (.bool false) := by rw [cell_of_row _ _ _ _ _ _ g2]; rfl
  have e1 : w2.cell? ⟨w.heap.size + 1, 1, none⟩ = some (.int .i64 0) := by rw [cell_of_row _ _ _ _ _ _ g2]; rfl
  have e2 : w2.cell? ⟨w.heap.size + 1, 2, none⟩ = some (.string ⟨⟨[]⟩⟩) := by rw [cell_of_row _ _ _ _ _ _ g2]; rfl
  have e3 : w2.cell? ⟨w.heap.size + 1, 3, none⟩ = some (.slice none 0 0) := by rw [cell_of_row _ _ _ _ _ _ g2]; rfl
  have e4 : w2.cell? ⟨w.heap.size + 1, 4, none⟩ = some (.string ⟨⟨[]⟩⟩) := by rw [cell_of_row _ _ _ _ _ _ g2]; rfl
  have f0 := fun j => frozen_of_row w2 _ j _ _ g2
  have HB3 := Lib.hid (HB0.out.trans (B2.mono HB0.out.size))
  have HRP : Hid (Wi.Rep w2 (Wi.New (w.heap.size + 2) w2) (pk c X) (.agg #[.bool nd, .int .i64 tg, .string ⟨⟨sv⟩⟩, .slice A1 m1 ca1])) := Wi.rep_keep (fun b hb => ⟨by have := hb.1; simp at this; omega, hb.2⟩) (fun _ _ _ => rfl) _ _ hrp
  obtain ⟨P, hP⟩ : ∃ P, P = wr (pk c X) := ⟨_, rfl⟩
  rw [← hP]
  have HP := Lib.hid hP
  clear B2 g2 hrp hP HSB
  go_wp2
  refine bodyPost_ret (v := .tuple #[.agg #[.bool nd, .int .i64 tg, .string ⟨⟨sv⟩⟩, .slice A1 m1 ca1, .string ⟨⟨P⟩⟩], .int .i64 0]) (by simp [results, Tryz.results31, go_sem, e0, e1, e2, e3, e4]) rfl ?_
  refine ⟨nd, tg, sv, A1, m1, ca1, by rw [HP.out], ?_, set5_below HB3.out (Nat.le_succ _)⟩
  exact Wi.rep_keep (fun b hb => ⟨by have := hb.1; omega, by rw [set5_size]; exact hb.2⟩) (fun b o hb => World.cell?_of_block (set5_other (by show b ≠ _; have := hb.1; omega))) _ _ HRP.out

set_option maxHeartbeats 1000000 in
set_option maxRecDepth 100000 in
theorem packS_any (c : List UInt8) (n : Int) (y0 y1 : Tm) (A : Option Addr) (ca : Nat) (w : World) (hsub : ∀ E, Below w.heap.size w E → Calls Tryz.prog 64 #[.agg #[.int .i64 4, .string ⟨⟨[]⟩⟩, .int .i64 n, .slice A 2 ca], .string ⟨⟨c⟩⟩] E (PackPost c (.mk 4 [] n [y0, y1]) E)) :
    Calls Tryz.prog 31 #[.agg #[.int .i64 4, .string ⟨⟨[]⟩⟩, .int .i64 n, .slice A 2 ca], .string ⟨⟨c⟩⟩] w (PackPost c (.mk 4 [] n [y0, y1]) w) := by
  generalize (Tm.mk 4 [] n [y0, y1]) = X at *
  have g0 := heap_alloc2_new w (.cells #[.int .i64 4, .string ⟨⟨[]⟩⟩, .int .i64 n, .slice A 2 ca] 25) (.cells #[.bool false, .int .i64 0, .string ⟨⟨[]⟩⟩, .slice none 0 0, .string ⟨⟨[]⟩⟩] 66)
  have b0 : Below w.heap.size w ((w.alloc (.cells #[.int .i64 4, .string ⟨⟨[]⟩⟩, .int .i64 n, .slice A 2 ca] 25)).alloc (.cells #[.bool false, .int .i64 0, .string ⟨⟨[]⟩⟩, .slice none 0 0, .string ⟨⟨[]⟩⟩] 66)) := ((Below.refl _ _).alloc (Nat.le_refl _) _).alloc (by simp) _
  have G0 := Lib.hid g0
  have HB0 := Lib.hid b0
  have HSB := Lib.hid (hsub _ b0)
  clear hsub g0 b0
  go_enter Tryz.func31, Tryz.ntmps31
  go_wp2_with fail
  refine HSB.out.mono ?_
  rintro _ w2 ⟨nd, tg, sv, A1, m1, ca1, rfl, hrp, B2⟩
  have g2 := (B2.block (w.heap.size + 1) (by simp)).trans G0.out
  have e0 : w2.cell? ⟨w.heap.size + 1, 0, none⟩ = some (.bool false) := by rw [cell_of_row _ _ _ _ _ _ g2]; rfl
  have e1 : w2.cell? ⟨w.heap.size + 1, 1, none⟩ = some (.int .i64 0) := by rw [cell_of_row _ _ _ _ _ _ g2]; rfl
  have e2 : w2.cell? ⟨w.heap.size + 1, 2, none⟩ = some (.string ⟨⟨[]⟩⟩) := by rw [cell_of_row _ _ _ _ _ _ g2]; rfl
  have e3 : w2.cell? ⟨w.heap.size + 1, 3, none⟩ = some (.slice none 0 0) := by rw [cell_of_row _ _ _ _ _ _ g2]; rfl
  have e4 : w2.cell? ⟨w.heap.size + 1, 4, none⟩ = some (.string ⟨⟨[]⟩⟩) := by rw [cell_of_row _ _ _ _ _ _ g2]; rfl
  have f0 := fun j => frozen_of_row w2 _ j _ _ g2
  have HB3 := Lib.hid (HB0.out.trans (B2.mono HB0.out.size))
  have HRP : Hid (Wi.Rep w2 (Wi.New (w.heap.size + 2) w2) (pk c X) (.agg #[.bool nd, .int .i64 tg, .string ⟨⟨sv⟩⟩, .slice A1 m1 ca1])) := Wi.rep_keep (fun b hb => ⟨by have := hb.1; simp at this; omega, hb.2⟩) (fun _ _ _ => rfl) _ _ hrp
  obtain ⟨P, hP⟩ : ∃ P, P = wr (pk c X) := ⟨_, rfl⟩
  rw [← hP]
  have HP := Lib.hid hP
  clear B2 g2 hrp hP HSB
  go_wp2
  refine bodyPost_ret (v := .tuple #[.agg #[.bool nd, .int .i64 tg, .string ⟨⟨sv⟩⟩, .slice A1 m1 ca1, .string ⟨⟨P⟩⟩], .int .i64 0]) (by simp [results, Tryz.results31, go_sem, e0, e1, e2, e3, e4]) rfl ?_
  refine ⟨nd, tg, sv, A1, m1, ca1, by rw [HP.out], ?_, set5_below HB3.out (Nat.le_succ _)⟩
  exact Wi.rep_keep (fun b hb => ⟨by have := hb.1; omega, by rw [set5_size]; exact hb.2⟩) (fun b o hb => World.cell?_of_block (set5_other (by show b ≠ _; have := hb.1; omega))) _ _ HRP.out

set_option maxHeartbeats 1000000 in
set_option maxRecDepth 100000 in
theorem packM_any (c : List UInt8) (n : Int) (y0 y1 : Tm) (A : Option Addr) (ca : Nat) (w : World) (hsub : ∀ E, Below w.heap.size w E → Calls Tryz.prog 65 #[.agg #[.int .i64 5, .string ⟨⟨[]⟩⟩, .int .i64 n, .slice A 2 ca], .string ⟨⟨c⟩⟩] E (PackPost c (.mk 5 [] n [y0, y1]) E)) :
    Calls Tryz.prog 31 #[.agg #[.int .i64 5, .string ⟨⟨[]⟩⟩, .int .i64 n, .slice A 2 ca], .string ⟨⟨c⟩⟩] w (PackPost c (.mk 5 [] n [y0, y1]) w) := by
  generalize (Tm.mk 5 [] n [y0, y1]) = X at *
  have g0 := heap_alloc2_new w (.cells #[.int .i64 5, .string ⟨⟨[]⟩⟩, .int .i64 n, .slice A 2 ca] 25) (.cells #[.bool false, .int .i64 0, .string ⟨⟨[]⟩⟩, .slice none 0 0, .string ⟨⟨[]⟩⟩] 66)
  have b0 : Below w.heap.size w ((w.alloc (.cells #[.int .i64 5, .string ⟨⟨[]⟩⟩, .int .i64 n, .slice A 2 ca] 25)).alloc (.cells #[.bool false, .int .i64 0, .string ⟨⟨[]⟩⟩, .slice none 0 0, .string ⟨⟨[]⟩⟩] 66)) := ((Below.refl _ _).alloc (Nat.le_refl _) _).alloc (by simp) _
  have G0 := Lib.hid g0
  have HB0 := Lib.hid b0
  have HSB := Lib.hid (hsub _ b0)
  clear hsub g0 b0
  go_enter Tryz.func31, Tryz.ntmps31
  go_wp2_with fail
  refine HSB.out.mono ?_
  rintro _ w2 ⟨nd, tg, sv, A1, m1, ca1, rfl, hrp, B2⟩
  have g2 := (B2.block (w.heap.size + 1) (by simp)).trans G0.out
  have e0 : w2.cell? ⟨w.heap.size + 1, 0, none⟩ = some (.bool false) := by rw [cell_of_row _ _ _ _ _ _ g2]; rfl
  have e1 : w2.cell? ⟨w.heap.size + 1, 1, none⟩ = some (.int .i64 0) := by rw [cell_of_row _ _ _ _ _ _ g2]; rfl
  have e2 : w2.cell? ⟨w.heap.size + 1, 2, none⟩ = some (.string ⟨⟨[]⟩⟩) := by rw [cell_of_row _ _ _ _ _ _ g2]; rfl
  have e3 : w2.cell? ⟨w.heap.size + 1, 3, none⟩ = some (.slice none 0 0) := by rw [cell_of_row _ _ _ _ _ _ g2]; rfl
  have e4 : w2.cell? ⟨w.heap.size + 1, 4, none⟩ = some (.string ⟨⟨[]⟩⟩) := by rw [cell_of_row _ _ _ _ _ _ g2]; rfl
  have f0 := fun j => frozen_of_row w2 _ j _ _ g2
  have HB3 := Lib.hid (HB0.out.trans (B2.mono HB0.out.size))
  have HRP : Hid (Wi.Rep w2 (Wi.New (w.heap.size + 2) w2) (pk c X) (.agg #[.bool nd, .int .i64 tg, .string ⟨⟨sv⟩⟩, .slice A1 m1 ca1])) := Wi.rep_keep (fun b hb => ⟨by have := hb.1; simp at this; omega, hb.2⟩) (fun _ _ _ => rfl) _ _ hrp
  obtain ⟨P, hP⟩ : ∃ P, P = wr (pk c X) := ⟨_, rfl⟩
  rw [← hP]
  have HP := Lib.hid hP
  clear B2 g2 hrp hP HSB
  go_wp2
  refine bodyPost_ret (v := .tuple #[.agg #[.bool nd, .int .i64 tg, .string ⟨⟨sv⟩⟩, .slice A1 m1 ca1, .string ⟨⟨P⟩⟩], .int .i64 0]) (by simp [results, Tryz.results31, go_sem, e0, e1, e2, e3, e4]) rfl ?_
  refine ⟨nd, tg, sv, A1, m1, ca1, by rw [HP.out], ?_, set5_below HB3.out (Nat.le_succ _)⟩
  exact Wi.rep_keep (fun b hb => ⟨by have := hb.1; omega, by rw [set5_size]; exact hb.2⟩) (fun b o hb => World.cell?_of_block (set5_other (by show b ≠ _; have := hb.1; omega))) _ _ HRP.out

theorem pack_any (c : List UInt8) (hc : c.length ≤ 10000) : ∀ x, PackSaid c x := Tm.ind (by
  intro k s n l ih d S v w hv hz HT htab hr hS
  have hr0 := hr
  obtain ⟨A, ca, rfl, -, hrow⟩ := rep_mk.1 hr
  obtain ⟨hmis, hall⟩ := vld_own hv
  rcases mis_kinds hmis with ⟨rfl, h1, rfl, rfl⟩ | ⟨rfl, rfl, rfl⟩ | ⟨rfl, h1, rfl⟩ | ⟨rfl, rfl, rfl⟩ | ⟨rfl, rfl, y0, y1, rfl⟩ | ⟨rfl, rfl, y0, y1, rfl⟩
  · exact packName_any c s d A ca w hv
  · exact packNum_any c n d A ca w hv
  · exact packKey_any c s n d A ca w hv HT hc
  · refine packL_any c l A ca w fun E hE => packList_any c l ih d S A ca E hv hall (by rw [sz] at hz; omega) ?_ (Tabs.below HT hE) (htab.up hE) (trow_below hrow hE hS) (fun b hb => Nat.lt_of_lt_of_le (hS b hb) hE.size)
    rw [mis] at hmis
    simp at hmis
    omega
  · exact packS_any c n y0 y1 A ca w fun E hE => packSeal_any c hc n y0 y1 (ih y1 (by simp)) d S _ E hv hz (Tabs.below HT hE) (htab.up hE) (rep_below hr0 hE hS) (fun b hb => Nat.lt_of_lt_of_le (hS b hb) hE.size)
  · exact packM_any c n y0 y1 A ca w fun E hE => packSum_any c hc n y0 y1 (ih y1 (by simp)) d S _ E hv hz (Tabs.below HT hE) (htab.up hE) (rep_below hr0 hE hS) (fun b hb => Nat.lt_of_lt_of_le (hS b hb) hE.size))
end Go.Proofs.YticofjbngfjjlaaGreatDoor.Cy

/- carry: Pack. (Laid with NS=1.) -/

namespace Go.Proofs.YticofjbngfjjlaaGreatDoor.Cy
open Go.RowKit
open Te Te.Tt
open Wi.Wr (It wr wrs)

set_option maxHeartbeats 1000000 in
set_option maxRecDepth 100000 in
theorem Pack_ok (c : List UInt8) (hc : c.length ≤ 10000) (x : Tm) (S : Nat → Prop) (v : Value) (w : World) (hv : vld 0 x = true) (hz : sz x ≤ 100) (HT : Tabs w) (htab : TabB w.heap.size w) (hr : Rep w S x v) (hS : ∀ b, S b → b < w.heap.size) :
    Calls Tryz.prog 12 #[v, .string ⟨⟨c⟩⟩] w fun e w' => e = .returned (.tuple #[.string ⟨⟨wr (pk c x)⟩⟩, .int .i64 0]) ∧ Below w.heap.size w w' := by
  obtain ⟨P, hP⟩ : ∃ P, P = wr (pk c x) := ⟨_, rfl⟩
  rw [← hP]
  have HVL : Hid (∀ W, Below w.heap.size w W → Calls Tryz.prog 19 #[v] W fun e w' => e = .returned (.bool true) ∧ Below W.heap.size W w') := fun W hW => by
    have := Valid_any x S v W (by omega) (rep_below hr hW hS) (fun b hb => Nat.lt_of_lt_of_le (hS b hb) hW.size)
    rw [hv] at this
    exact this
  have HPK : Hid (∀ W, Below w.heap.size w W → Calls Tryz.prog 31 #[v, .string ⟨⟨c⟩⟩] W fun e w' => ∃ (nd : Bool) (tg : Int) (sv : List UInt8) (A : Option Addr) (m ca : Nat), e = .returned (.tuple #[.agg #[.bool nd, .int .i64 tg, .string ⟨⟨sv⟩⟩, .slice A m ca, .string ⟨⟨P⟩⟩], .int .i64 0]) ∧ Below W.heap.size W w') := fun W hW =>
    (pack_any c hc x 0 S v W hv hz (Tabs.below HT hW) (htab.up hW) (rep_below hr hW hS) (fun b hb => Nat.lt_of_lt_of_le (hS b hb) hW.size)).mono fun _ _ ⟨nd, tg, sv, A, m, ca, he, _, hb⟩ => ⟨nd, tg, sv, A, m, ca, by rw [he, hP], hb⟩
  obtain ⟨k, s, n, l⟩ := x
  obtain ⟨A, ca, rfl, -, -⟩ := rep_mk.1 hr
  have hb0 : Below w.heap.size w (w.alloc (.cells #[.int .i64 k, .string ⟨⟨s⟩⟩, .int .i64 n, .slice A l.length ca] 25)) := (Below.refl _ _).alloc (Nat.le_refl _) _
  have gT : (w.alloc (.cells #[.int .i64 k, .string ⟨⟨s⟩⟩, .int .i64 n, .slice A l.length ca] 25)).heap[w.heap.size]? = some (.cells #[.int .i64 k, .string ⟨⟨s⟩⟩, .int .i64 n, .slice A l.length ca] 25 (0, 0)) := heap_alloc_new _ _
  have HB0 := Lib.hid hb0
  have HGT := Lib.hid gT
  have HV1 := Lib.hid (HVL.out _ hb0)
  clear hb0 gT hP hv hz HT htab hr hS HVL
  go_enter Tryz.func12, Tryz.ntmps12
  go_wp2_with fail
  refine HV1.out.mono ?_
  rintro _ w1 ⟨rfl, b1⟩
  have g1 := (b1.block w.heap.size (by simp)).trans HGT.out
  have e0 : w1.cell? ⟨w.heap.size, 0, none⟩ = some (.int .i64 k) := by rw [cell_of_row _ _ _ _ _ _ g1]; rfl
  have e1 : w1.cell? ⟨w.heap.size, 1, none⟩ = some (.string ⟨⟨s⟩⟩) := by rw [cell_of_row _ _ _ _ _ _ g1]; rfl
  have e2 : w1.cell? ⟨w.heap.size, 2, none⟩ = some (.int .i64 n) := by rw [cell_of_row _ _ _ _ _ _ g1]; rfl
  have e3 : w1.cell? ⟨w.heap.size, 3, none⟩ = some (.slice A l.length ca) := by rw [cell_of_row _ _ _ _ _ _ g1]; rfl
  have hb1 : Below w.heap.size w w1 := HB0.out.trans (b1.mono HB0.out.size)
  have HB1 := Lib.hid hb1
  have HP1 := Lib.hid (HPK.out w1 hb1)
  clear b1 g1 hb1 HV1 HPK
  go_wp2_with fail
  refine HP1.out.mono ?_
  rintro _ w2 ⟨nd, tg, sv, A1, m1, ca1, rfl, b2⟩
  have HB2 := Lib.hid (HB1.out.trans (b2.mono HB1.out.size))
  have hw2 := HB2.out.size
  clear b2 e0 e1 e2 e3 HP1
  go_wp2
  go_ret2
  exact ⟨rfl, HB2.out.alloc hw2 _⟩
end Go.Proofs.YticofjbngfjjlaaGreatDoor.Cy

