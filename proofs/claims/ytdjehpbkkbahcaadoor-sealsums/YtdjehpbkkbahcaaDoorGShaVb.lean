/- The document's answer: what Block's walk leans on. -/
import Derived.Test.YtdjehpbkkbahcaaDoorGShaVa
namespace Go.Proofs.YtdjehpbkkbahcaaDoor
open Go.RowKit

theorem i64_small (n : Nat) (h : n < 4294967296) : IntKind.i64.wrap (n : Int) = (n : Int) := IntWalk.i64_in _ (by omega)
theorem i64_xor (a b : Nat) (ha : a < 4294967296) (hb : b < 4294967296) : bits .xor .i64 (a : Int) (b : Int) = ((a ^^^ b : Nat) : Int) := by
  show IntKind.i64.wrap ((BitVec.ofInt 64 (a : Int) ^^^ BitVec.ofInt 64 (b : Int)).toNat : Int) = _
  rw [BitVec.toNat_xor, ofInt_u64 a (by omega), ofInt_u64 b (by omega)]
  exact i64_small _ (Sh.xor_lt ha hb)
theorem i64_and (a b : Nat) (ha : a < 4294967296) (hb : b < 4294967296) : bits .and .i64 (a : Int) (b : Int) = ((a &&& b : Nat) : Int) := by
  show IntKind.i64.wrap ((BitVec.ofInt 64 (a : Int) &&& BitVec.ofInt 64 (b : Int)).toNat : Int) = _
  rw [BitVec.toNat_and, ofInt_u64 a (by omega), ofInt_u64 b (by omega)]
  exact i64_small _ (Sh.and_lt hb)
theorem OwnI.drewN {w : World} {base n : Nat} {v : Value} {l : List Nat} (h : OwnI w base v l) : OwnI (w.drewN n) base v l := h
theorem Below.drewN' {B : Nat} {a w : World} (n : Nat) (h : Below B a w) : Below B a (w.drewN n) := ⟨h.os, h.tape, h.output, h.size, h.block⟩
theorem OwnI.block {w : World} {base : Nat} {v : Value} {l : List Nat} (h : OwnI w base v l) (hl : 0 < l.length) :
    ∃ g cap, v = .slice (some ⟨g, 0, none⟩) l.length cap ∧ base ≤ g ∧ g < w.heap.size ∧ ∀ i, i < l.length → w.cell? ⟨g, i, none⟩ = some (.int .i64 (l.getD i 0 : Nat)) := by
  obtain ⟨g, cap, hv, hg, hc⟩ := h.ints hl
  refine ⟨g, cap, hv, ?_, hg, hc⟩
  have := (World.ownsRow.lt h) g (by rw [hv]; rfl)
  exact this.1
set_option maxRecDepth 100000 in
/-- append keeps what the old row held. -/
theorem app_kept (W : World) (ty : TypeId) (base g cap : Nat) (l : List Nat) (hown : OwnI W base (.slice (some ⟨g, 0, none⟩) l.length cap) l) (B : Nat) (ci : Int) (hB : W.heap[B]? = some (.cells #[.int .i64 ci] 3 (0, 0))) (hl : l.length ≤ 1000000)
    (v' : Value) (w' : World) (hr : (Builtin.append_ #[23, 23] ty #[.slice (some ⟨g, 0, none⟩) l.length cap, .slice (some ⟨B, 0, none⟩) 1 1]).run Tryd.prog W = .ok v' w') :
    ∀ j, j < l.length → w'.cell? ⟨g, j, none⟩ = W.cell? ⟨g, j, none⟩ := by
  obtain ⟨i, hi, he⟩ := Option.map_eq_some_iff.1 info3
  simp only [Prod.mk.injEq] at he
  obtain ⟨hz, hsz, hby⟩ := he
  have hnews : ∀ j u, ([Value.int .i64 ci] : List Value)[j]? = some u → W.cell? ((⟨B, 0, none⟩ : Addr).add j) = some u := fun j u hu => by
    rw [Addr.add_lit]
    exact (cell_of_row _ _ _ _ _ _ hB).trans (by simpa using hu)
  have h1 : ∀ u ∈ ([Value.int .i64 ci] : List Value), u.oneCell' = true := fun u hu => by
    simp only [List.mem_singleton] at hu
    subst hu
    rfl
  intro j hj
  rcases hown.2 with ⟨h0, _⟩ | ⟨g', cap', cur, hv, hbg, hg, hnc, hcm, hcs, htake⟩
  · cases h0
  · injection hv with e1 _ e3
    injection e1 with e1
    injection e1 with e1
    subst e1 e3
    by_cases hroom : l.length + 1 ≤ cap
    · have hfit : l.length * i.size + ([Value.int .i64 ci] : List Value).length ≤ cur.size := by rw [hsz, hcs]; simp; omega
      have hr2 := run_append_room (P := Tryd.prog) W 23 ty 3 i Tryd.underlying23 hi g l.length cap cur hg ⟨B, 0, none⟩ 1 1 [.int .i64 ci] (by rw [hsz]; rfl) hnews h1 hroom hfit
      rw [hr2] at hr
      injection hr with _ hw
      subst hw
      rw [cell_setRow_same _ _ _ _ _ _ _ hg, cell_of_row _ _ _ _ _ _ hg, hsz]
      have hjc : j < cur.size := by rw [hcs]; omega
      have hmin : min l.length cur.size = l.length := by rw [hcs]; omega
      simp [List.getElem?_append, hj, hjc]
      intro h
      omega
    · have holds : ∀ j u, (ivals l)[j]? = some u → W.cell? ((⟨g, 0, none⟩ : Addr).add j) = some u := World.ownsRow.cells hown (g := g) rfl
      have hr2 := run_append_grow (P := Tryd.prog) W 23 ty 3 i _ Tryd.underlying23 hi hz ⟨g, 0, none⟩ l.length cap (ivals l) (by rw [hsz]; simp [ivals]) holds ⟨B, 0, none⟩ 1 1 [.int .i64 ci] (by rw [hsz]; rfl) hnews (by omega) (by omega) (growslice_fits (by omega) (by rw [hby]; omega))
      rw [hr2] at hr
      injection hr with _ hw
      subst hw
      exact World.cell?_of_block (w := W) (a := ⟨g, j, none⟩) (Below.heap_alloc W.drew _ g (Array.getElem?_eq_some_iff.1 hg).1)

theorem step_appK (W : World) {ops : Array Oper} {o : Oper} {a : Act} {K : Act → World → Prop} {Q : Exit → Act → World → Prop} {E : Prop} (hgd : o.guard = none) (s x : Operand)
    (ho : o.op = .call { callee := .builtin .append, args := #[s, x], argTypes := #[23, 23] }) (base g cap : Nat) (l : List Nat) (n : Nat) (hn : l.length = n) (c B : Nat) (ci : Int) (hci : Hid (ci = (c : Nat))) (hs : a.eval s = .slice (some ⟨g, 0, none⟩) n cap) (hx : a.eval x = .slice (some ⟨B, 0, none⟩) 1 1)
    (hB : W.heap[B]? = some (.cells #[.int .i64 ci] 3 (0, 0))) (hown : OwnI W base (.slice (some ⟨g, 0, none⟩) n cap) l) (hl : l.length ≤ 1000000) (hbase : base ≤ W.heap.size)
    (h : ∀ v' w', OwnI w' base v' (l ++ [c]) → Below base W w' → (∀ j, j < n → w'.cell? ⟨g, j, none⟩ = W.cell? ⟨g, j, none⟩) → K (a.put o.dst v') w') :
    if Region.wanted o (yielded ops a.tmps) = true then Oper.wp Tryd.prog o a W K Q else E := by
  obtain rfl := hci.out
  subst hn
  have hw : Region.wanted o (yielded ops a.tmps) = true := by simp [Region.wanted, hgd]
  rw [if_pos hw]
  obtain ⟨i, hi, he⟩ := Option.map_eq_some_iff.1 info3
  simp only [Prod.mk.injEq] at he
  obtain ⟨hz, hsz, hb⟩ := he
  have hlt := World.ownsRow.lt hown
  obtain ⟨v', w', hr, h2, h3, _⟩ := run_append_own (P := Tryd.prog) W base 23 o.type 3 i (.int .i64 0) 1 8 Tryd.underlying23 hi hz hsz hb rfl (by decide) _ l.length (ivals l) hown ⟨B, 0, none⟩ 1 1 [.int .i64 (c : Nat)] rfl (fun j u hu => by
    rw [Addr.add_lit]
    exact (cell_of_row _ _ _ _ _ _ hB).trans (by simpa using hu)) (fun u hu => by
    simp only [List.mem_singleton] at hu
    subst hu
    rfl) (by simp only [maxLen]; omega) (by omega) hbase
  have hk := app_kept W o.type base g cap l hown B _ hB hl v' w' hr
  unfold Oper.wp execOp
  simp only [ho, resolve, invoke, builtin, Sem.run_bind, Sem.run_pure, Result.andThen_ok, List.map_toArray, List.map_cons, List.map_nil, hs, hx, hr]
  refine h v' w' ?_ (Below.grown (Below.refl _ _) h3 hbase (fun k hk => (hlt k hk).1)) hk
  unfold OwnI
  rw [List.length_append, List.length_singleton]
  have : ivals (l ++ [c]) = ivals l ++ [.int .i64 (c : Nat)] := by simp [ivals]
  rw [this]
  exact h2
structure Cells8 (w : World) (gv a b c d e f g h : Nat) : Prop where
  c0 : w.cell? ⟨gv, 0, none⟩ = some (.int .i64 (a : Nat))
  c1 : w.cell? ⟨gv, 1, none⟩ = some (.int .i64 (b : Nat))
  c2 : w.cell? ⟨gv, 2, none⟩ = some (.int .i64 (c : Nat))
  c3 : w.cell? ⟨gv, 3, none⟩ = some (.int .i64 (d : Nat))
  c4 : w.cell? ⟨gv, 4, none⟩ = some (.int .i64 (e : Nat))
  c5 : w.cell? ⟨gv, 5, none⟩ = some (.int .i64 (f : Nat))
  c6 : w.cell? ⟨gv, 6, none⟩ = some (.int .i64 (g : Nat))
  c7 : w.cell? ⟨gv, 7, none⟩ = some (.int .i64 (h : Nat))
theorem Cells8.below {w w' : World} {gv a b c d e f g h : Nat} (k : Cells8 w gv a b c d e f g h) (hb : Below w.heap.size w w') (hz : gv < w.heap.size) : Cells8 w' gv a b c d e f g h :=
  ⟨(hb.cell (p := ⟨gv, 0, none⟩) hz).trans k.c0, (hb.cell (p := ⟨gv, 1, none⟩) hz).trans k.c1, (hb.cell (p := ⟨gv, 2, none⟩) hz).trans k.c2, (hb.cell (p := ⟨gv, 3, none⟩) hz).trans k.c3, (hb.cell (p := ⟨gv, 4, none⟩) hz).trans k.c4, (hb.cell (p := ⟨gv, 5, none⟩) hz).trans k.c5, (hb.cell (p := ⟨gv, 6, none⟩) hz).trans k.c6, (hb.cell (p := ⟨gv, 7, none⟩) hz).trans k.c7⟩
theorem wrapA (x y : Nat) (h : x + y ≤ 9223372036854775807) : wrap64 ((x : Int) + (y : Int)) = ((x + y : Nat) : Int) := by
  rw [← Int.natCast_add]
  exact wrap_nat _ h
theorem mix_at (P U : List Nat) (n i : Nat) (hp : P.length = n) (hu : U.length = n) (hi : i < n) : (P.take i ++ U.drop i).getD i 0 = U.getD i 0 := by
  have hl : (P.take i).length = i := by rw [List.length_take]; omega
  rw [List.getD_eq_getElem?_getD, List.getElem?_append_right (by omega), hl, Nat.sub_self, List.getElem?_drop, Nat.add_zero, List.getD_eq_getElem?_getD]
theorem mix_set (P U : List Nat) (n i : Nat) (hp : P.length = n) (hu : U.length = n) (hi : i < n) : (P.take i ++ U.drop i).set i (P.getD i 0) = P.take (i + 1) ++ U.drop (i + 1) := by
  have hl : (P.take i).length = i := by rw [List.length_take]; omega
  rw [List.set_append_right _ _ (by omega), hl, Nat.sub_self, List.drop_eq_getElem_cons (show i < U.length by omega), List.set_cons_zero, take_snocN P i (by omega), List.append_assoc]
  rfl
theorem plus_at (v u : Sh.St) : ∀ i, i < 8 → (Sh.plus v u).list.getD i 0 = (u.list.getD i 0 + v.list.getD i 0) % 4294967296
  | 0, _ => by show (v.a + u.a) % 4294967296 = (u.a + v.a) % 4294967296; rw [Nat.add_comm]
  | 1, _ => by show (v.b + u.b) % 4294967296 = (u.b + v.b) % 4294967296; rw [Nat.add_comm]
  | 2, _ => by show (v.c + u.c) % 4294967296 = (u.c + v.c) % 4294967296; rw [Nat.add_comm]
  | 3, _ => by show (v.d + u.d) % 4294967296 = (u.d + v.d) % 4294967296; rw [Nat.add_comm]
  | 4, _ => by show (v.e + u.e) % 4294967296 = (u.e + v.e) % 4294967296; rw [Nat.add_comm]
  | 5, _ => by show (v.f + u.f) % 4294967296 = (u.f + v.f) % 4294967296; rw [Nat.add_comm]
  | 6, _ => by show (v.g + u.g) % 4294967296 = (u.g + v.g) % 4294967296; rw [Nat.add_comm]
  | 7, _ => by show (v.h + u.h) % 4294967296 = (u.h + v.h) % 4294967296; rw [Nat.add_comm]
  | n + 8, h => absurd h (by omega)
theorem st_mem {v : Sh.St} (h : v.Ok) : ∀ x ∈ v.list, x < 4294967296 := by
  intro x hx
  simp only [Sh.St.list, List.mem_cons, List.not_mem_nil, or_false] at hx
  rcases hx with rfl | rfl | rfl | rfl | rfl | rfl | rfl | rfl
  · exact h.a
  · exact h.b
  · exact h.c
  · exact h.d
  · exact h.e
  · exact h.f
  · exact h.g
  · exact h.h
theorem st_at {v : Sh.St} (h : v.Ok) (i : Nat) : v.list.getD i 0 < 4294967296 := Sh.getD_lt (st_mem h) i
theorem OwnI.frozen {w : World} {base g n cap : Nat} {l : List Nat} (h : OwnI w base (.slice (some ⟨g, 0, none⟩) n cap) l) (i : Nat) : w.frozen? ⟨g, i, none⟩ = false := by
  rcases h.2 with ⟨h0, _⟩ | ⟨g', cap', cur, hv, _, hg, _⟩
  · cases h0
  · injection hv with e1
    injection e1 with e1
    injection e1 with e1
    subst e1
    exact frozen_of_row _ _ _ _ _ hg
theorem OwnI.set {w : World} {base g n cap x : Nat} {l : List Nat} (h : OwnI w base (.slice (some ⟨g, 0, none⟩) n cap) l) (i : Nat) :
    OwnI (w.setCell ⟨g, i, none⟩ (.int .i64 (x : Nat))) base (.slice (some ⟨g, 0, none⟩) n cap) (l.set i x) := by
  rcases h.2 with ⟨h0, _⟩ | ⟨g', cap', cur, hv, hbg, hg, hnc, hcm, hcs, ht⟩
  · cases h0
  · injection hv with e1 e2 e3
    injection e1 with e1
    injection e1 with e1
    subst e1 e2 e3
    refine ⟨by simp [ivals], .inr ⟨g, cap, _, by rw [List.length_set], hbg, heap_setCell_same _ _ _ _ _ _ hg, by rw [List.length_set]; exact hnc, hcm, by rw [Array.size_setIfInBounds]; exact hcs, ?_⟩⟩
    rw [List.length_set, Array.toList_setIfInBounds, List.take_set, ht]
    simp [ivals, List.map_set]
end Go.Proofs.YtdjehpbkkbahcaaDoor

/- The document's answer: Block. -/

namespace Go.Proofs.YtdjehpbkkbahcaaDoor
open Go.RowKit

set_option maxRecDepth 100000 in
set_option maxHeartbeats 4000000 in
theorem refBlock_by (vk : Value) (st b : List UInt8) (L : List Nat) (w : World) (HK : Ints w vk Sh.KK) (HS32 : Hid (st.length = 32)) (HB64 : Hid (b.length = 64)) (HL : Hid (L.length = 64)) (HLB : Hid (∀ x ∈ L, x < 4294967296))
    (HW16 : Hid (wl b 16 = L.take 16)) (HW8 : Hid (wl st 8 = (Sh.rds st).list)) (HG : Hid (∀ t, 16 ≤ t → t < 64 → L.getD t 0 = Sh.nxt L t)) :
    Calls Tryd.prog 68 #[vk, .string ⟨⟨st⟩⟩, .string ⟨⟨b⟩⟩] w fun e w' => e = .returned (.string ⟨⟨Sh.txt (Sh.plus (Sh.rds st) (Sh.rn L (Sh.rds st) 64))⟩⟩) ∧ Below w.heap.size w w' := by
  have e1 : ((st.length : Int) != 32) = false := by rw [HS32.out]; rfl
  have e2 : ((b.length : Int) != 64) = false := by rw [HB64.out]; rfl
  go_enter Tryd.func68, Tryd.ntmps68
  go_wp2_with fail
  refine (words_any b 16 w (by rw [HB64.out]) (by decide)).mono ?_
  rintro _ w1 ⟨v1, rfl, HO1, hb1⟩
  rw [HW16.out] at HO1
  go_wp2_with fail
  go_loopw [7, 8, 9, 10, 11, 12] (fun v tv _ _ _ _ wr => ∃ t : Nat, 16 ≤ t ∧ t ≤ 64 ∧ tv = .int .i64 (t : Nat) ∧ OwnI wr w.heap.size v (L.take t) ∧ Below w.heap.size w wr) (fun _ tv _ _ _ _ _ => 64 - (intOf tv).toNat)
  case atStart => exact ⟨16, by omega, by omega, rfl, HO1, hb1⟩
  case round =>
    obtain ⟨t, ht16, ht64, rfl, HO, hb⟩ := hrel
    clear HO1 hb1
    by_cases hlt : t < 64
    · have hll : (L.take t).length = t := by rw [List.length_take, HL.out]; omega
      have HS := Lib.hid (take_snocN L t (by rw [HL.out]; exact hlt))
      have HN := Lib.hid (HG.out t ht16 hlt)
      obtain ⟨g, cap, rfl, hgb, hgz, hc⟩ := HO.block (by omega)
      rw [hll] at hc HO ⊢
      have gd : ∀ j, j < t → (L.take t).getD j 0 = L.getD j 0 := fun j hj => Sh.getD_take hj
      have c15 := hc (t - 15) (by omega)
      have c2 := hc (t - 2) (by omega)
      have c7 := hc (t - 7) (by omega)
      have c16 := hc (t - 16) (by omega)
      rw [gd _ (by omega)] at c15 c2 c7 c16
      have l2 := Sh.getD_lt HLB.out (t - 2)
      have l7 := Sh.getD_lt HLB.out (t - 7)
      have l15 := Sh.getD_lt HLB.out (t - 15)
      have l16 := Sh.getD_lt HLB.out (t - 16)
      have HLT : Hid ((L.take t).length ≤ 1000000) := by rw [Hid, hll]; omega
      rw [Sh.nxt] at HN
      have hll0 := hll
      clear hc gd hll
      generalize L.getD (t - 15) 0 = x15 at *
      generalize L.getD (t - 2) 0 = x2 at *
      generalize L.getD (t - 7) 0 = x7 at *
      generalize L.getD (t - 16) 0 = x16 at *
      have j15 : ((t : Int) - 15).toNat = t - 15 := by omega
      have j2' : ((t : Int) - 2).toNat = t - 2 := by omega
      go_wp2_with fail
      refine (turn_any x15 7 7 wr l15 rfl (by decide) (by decide)).mono ?_
      rintro _ _ ⟨rfl, n1, rfl⟩
      go_wp2_with fail
      refine (turn_any x15 18 18 _ l15 rfl (by decide) (by decide)).mono ?_
      rintro _ _ ⟨rfl, n2, rfl⟩
      go_wp2_with fail
      refine (turn_any x2 17 17 _ l2 rfl (by decide) (by decide)).mono ?_
      rintro _ _ ⟨rfl, n3, rfl⟩
      go_wp2_with fail
      refine (turn_any x2 19 19 _ l2 rfl (by decide) (by decide)).mono ?_
      rintro _ _ ⟨rfl, n4, rfl⟩
      go_wp2_with fail
      have HLL := Lib.hid hll0
      clear hll0
      have HS0 : Hid (bits BinOp.xor IntKind.i64 (bits BinOp.xor IntKind.i64 ↑(Sh.rot x15 7) ↑(Sh.rot x15 18)) ((x15 : Int) / 8) = ((Sh.s0 x15 : Nat) : Int)) := by
        rw [Hid, i64_xor _ _ (Sh.rot_lt l15 (by decide)) (Sh.rot_lt l15 (by decide)), show ((x15 : Int) / 8) = ((x15 / 8 : Nat) : Int) by rfl, i64_xor _ _ (Sh.xor_lt (Sh.rot_lt l15 (by decide)) (Sh.rot_lt l15 (by decide))) (by omega)]
        rfl
      have HS1 : Hid (bits BinOp.xor IntKind.i64 (bits BinOp.xor IntKind.i64 ↑(Sh.rot x2 17) ↑(Sh.rot x2 19)) ((x2 : Int) / 1024) = ((Sh.s1 x2 : Nat) : Int)) := by
        rw [Hid, i64_xor _ _ (Sh.rot_lt l2 (by decide)) (Sh.rot_lt l2 (by decide)), show ((x2 : Int) / 1024) = ((x2 / 1024 : Nat) : Int) by rfl, i64_xor _ _ (Sh.xor_lt (Sh.rot_lt l2 (by decide)) (Sh.rot_lt l2 (by decide))) (by omega)]
        rfl
      rw [HS0.out, HS1.out]
      have k0 := Sh.s0_lt l15
      have k1 := Sh.s1_lt l2
      generalize Sh.s0 x15 = y0 at *
      generalize Sh.s1 x2 = y1 at *
      have HCI : Hid ((IntKind.i64.wrap (IntKind.i64.wrap (IntKind.i64.wrap ((y1 : Int) + (x7 : Int)) + (y0 : Int)) + (x16 : Int))).tmod 4294967296 = ((L.getD t 0 : Nat) : Int)) := by
        rw [Hid, IntWalk.i64_in ((y1 : Int) + (x7 : Int)) (by omega), IntWalk.i64_in ((y1 : Int) + (x7 : Int) + (y0 : Int)) (by omega), IntWalk.i64_in _ (by omega), HN.out, show ((y1 : Int) + (x7 : Int) + (y0 : Int) + (x16 : Int)) = ((y1 + x7 + y0 + x16 : Nat) : Int) by omega]
        rfl
      have hbx : Below w.heap.size w (wr.drewN (n1 + n2 + n3 + n4)) := Below.drewN' _ hb
      have HOx : OwnI (wr.drewN (n1 + n2 + n3 + n4)) w.heap.size (.slice (some ⟨g, 0, none⟩) t cap) (L.take t) := HO
      have d7 : (wr.drewN (n1 + n2 + n3 + n4)).cell? ⟨g, t - 7, none⟩ = some (.int .i64 (x7 : Nat)) := c7
      have d16 : (wr.drewN (n1 + n2 + n3 + n4)).cell? ⟨g, t - 16, none⟩ = some (.int .i64 (x16 : Nat)) := c16
      have hgx : g < (wr.drewN (n1 + n2 + n3 + n4)).heap.size := hgz
      generalize wr.drewN (n1 + n2 + n3 + n4) = wx at *
      clear HS0 HS1 HN HO hb c7 c16 c15 c2 hgz j15 j2' l2 l7 l15 l16 k0 k1
      have c7 := d7
      have c16 := d16
      have f7 : IntKind.i64.wrap ((t : Int) - 7) = (t : Int) - 7 := IntWalk.i64_in _ (by omega)
      have f16 : IntKind.i64.wrap ((t : Int) - 16) = (t : Int) - 16 := IntWalk.i64_in _ (by omega)
      have t7 : ((t : Int) - 7).toNat = t - 7 := by omega
      have t16 : ((t : Int) - 16).toNat = t - 16 := by omega
      have i7 : (7 : Int) ≤ (t : Int) := by omega
      have i16 : (16 : Int) ≤ (t : Int) := by omega
      have m7 : 7 ≤ t := by omega
      have u7' : (t : Int) - 7 < (t : Int) := by omega
      have u16' : (t : Int) - 16 < (t : Int) := by omega
      have q7 : t - 7 < t := by omega
      have q16 : t - 16 < t := by omega
      generalize t - 7 = j7 at *
      generalize t - 16 = j16 at *
      have hzx := hbx.size
      have hS1 : ∀ o : Obj, (wx.alloc o).drew.cell? ⟨g, j7, none⟩ = some (.int .i64 (x7 : Nat)) ∧ (wx.alloc o).drew.cell? ⟨g, j16, none⟩ = some (.int .i64 (x16 : Nat)) := fun o => ⟨(World.cell?_of_block (w := wx) (a := ⟨g, j7, none⟩) (Below.heap_alloc wx o g hgx)).trans d7, (World.cell?_of_block (w := wx) (a := ⟨g, j16, none⟩) (Below.heap_alloc wx o g hgx)).trans d16⟩
      have HL7 : Hid (j7 < t ∧ j16 < t) := ⟨q7, q16⟩
      refine wp_region_held_drew (S := fun w' => (w'.cell? ⟨g, j7, none⟩ = some (.int .i64 (x7 : Nat)) ∧ w'.cell? ⟨g, j16, none⟩ = some (.int .i64 (x16 : Nat)))) (by kernel_rfl) ⟨c7, c16⟩ (fun hHeld => ?_)
      refine wpAnyH_take (i := 0) (oi := { dst := some 63, op := Op.move (Operand.tmp 7), type := 23, pos := "ref.go:148", after := #[], guard := none }) (v := ?_) rfl (by kernel_rfl) (by kernel_rfl) (by kernel_rfl) (fun _ _ _ h => h) (Or.inl ⟨by rfl, ?_⟩) hHeld ?_
      rotate_left
      · intro W0 hSw
        obtain ⟨hS7, hS16⟩ := hSw
        go_simp <;> with_reducible rfl
      simp only [Act.put, List.setIfInBounds_toArray, List.set_cons_zero, List.set_cons_succ]
      refine wpAnyH_take (i := 1) (oi := { dst := some 64, op := Op.move (Operand.tmp 12), type := 3, pos := "ref.go:148", after := #[], guard := none }) (v := ?_) rfl (by kernel_rfl) (by kernel_rfl) (by kernel_rfl) (fun _ _ _ h => h) (Or.inl ⟨by rfl, ?_⟩) hHeld ?_
      rotate_left
      · intro W0 hSw
        obtain ⟨hS7, hS16⟩ := hSw
        go_simp <;> with_reducible rfl
      simp only [Act.put, List.setIfInBounds_toArray, List.set_cons_zero, List.set_cons_succ]
      refine wpAnyH_take (i := 2) (oi := { dst := some 65, op := Op.move (Operand.tmp 7), type := 23, pos := "ref.go:148", after := #[], guard := none }) (v := ?_) rfl (by kernel_rfl) (by kernel_rfl) (by kernel_rfl) (fun _ _ _ h => h) (Or.inl ⟨by rfl, ?_⟩) hHeld ?_
      rotate_left
      · intro W0 hSw
        obtain ⟨hS7, hS16⟩ := hSw
        go_simp <;> with_reducible rfl
      simp only [Act.put, List.setIfInBounds_toArray, List.set_cons_zero, List.set_cons_succ]
      refine wpAnyH_take (i := 3) (oi := { dst := some 66, op := Op.move (Operand.tmp 8), type := 3, pos := "ref.go:148", after := #[], guard := none }) (v := ?_) rfl (by kernel_rfl) (by kernel_rfl) (by kernel_rfl) (fun _ _ _ h => h) (Or.inl ⟨by rfl, ?_⟩) hHeld ?_
      rotate_left
      · intro W0 hSw
        obtain ⟨hS7, hS16⟩ := hSw
        go_simp <;> with_reducible rfl
      simp only [Act.put, List.setIfInBounds_toArray, List.set_cons_zero, List.set_cons_succ]
      refine wpAnyH_take (i := 4) (oi := { dst := some 67, op := Op.binOp BinOp.sub 3 (Operand.tmp 66) (Operand.const (Value.int IntKind.i64 7)) 3, type := 3, pos := "ref.go:148", after := #[{ on := 3, ground := Ground.data }], guard := none }) (v := ?_) rfl (by kernel_rfl) (by kernel_rfl) (by kernel_rfl) (fun _ _ _ h => h) (Or.inl ⟨by rfl, ?_⟩) hHeld ?_
      rotate_left
      · intro W0 hSw
        obtain ⟨hS7, hS16⟩ := hSw
        go_simp <;> with_reducible rfl
      simp only [Act.put, List.setIfInBounds_toArray, List.set_cons_zero, List.set_cons_succ]
      refine wpAnyH_take (i := 5) (oi := { dst := some 68, op := Op.indexAddr 23 (Operand.tmp 65) (Operand.tmp 67), type := 0, pos := "ref.go:148", after := #[{ on := 2, ground := Ground.data }, { on := 4, ground := Ground.data }], guard := none }) (v := ?_) rfl (by kernel_rfl) (by kernel_rfl) (by kernel_rfl) (fun _ _ _ h => h) (Or.inl ⟨by rfl, ?_⟩) hHeld ?_
      rotate_left
      · intro W0 hSw
        obtain ⟨hS7, hS16⟩ := hSw
        go_simp <;> with_reducible rfl
      simp only [Act.put, List.setIfInBounds_toArray, List.set_cons_zero, List.set_cons_succ]
      refine wpAnyH_take (i := 6) (oi := { dst := some 69, op := Op.load 3 (Operand.tmp 68), type := 3, pos := "ref.go:148", after := #[{ on := 5, ground := Ground.data }], guard := none }) (v := ?_) rfl (by kernel_rfl) (by kernel_rfl) (by kernel_rfl) (fun _ _ _ h => h) (Or.inl ⟨by rfl, ?_⟩) hHeld ?_
      rotate_left
      · intro W0 hSw
        obtain ⟨hS7, hS16⟩ := hSw
        go_simp <;> with_reducible rfl
      simp only [Act.put, List.setIfInBounds_toArray, List.set_cons_zero, List.set_cons_succ]
      refine wpAnyH_take (i := 7) (oi := { dst := some 70, op := Op.binOp BinOp.add 3 (Operand.tmp 64) (Operand.tmp 69) 3, type := 3, pos := "ref.go:148", after := #[{ on := 1, ground := Ground.data }, { on := 6, ground := Ground.data }], guard := none }) (v := ?_) rfl (by kernel_rfl) (by kernel_rfl) (by kernel_rfl) (fun _ _ _ h => h) (Or.inl ⟨by rfl, ?_⟩) hHeld ?_
      rotate_left
      · intro W0 hSw
        obtain ⟨hS7, hS16⟩ := hSw
        go_simp <;> with_reducible rfl
      simp only [Act.put, List.setIfInBounds_toArray, List.set_cons_zero, List.set_cons_succ]
      refine wpAnyH_take (i := 8) (oi := { dst := some 71, op := Op.move (Operand.tmp 11), type := 3, pos := "ref.go:148", after := #[], guard := none }) (v := ?_) rfl (by kernel_rfl) (by kernel_rfl) (by kernel_rfl) (fun _ _ _ h => h) (Or.inl ⟨by rfl, ?_⟩) hHeld ?_
      rotate_left
      · intro W0 hSw
        obtain ⟨hS7, hS16⟩ := hSw
        go_simp <;> with_reducible rfl
      simp only [Act.put, List.setIfInBounds_toArray, List.set_cons_zero, List.set_cons_succ]
      refine wpAnyH_take (i := 9) (oi := { dst := some 72, op := Op.binOp BinOp.add 3 (Operand.tmp 70) (Operand.tmp 71) 3, type := 3, pos := "ref.go:148", after := #[{ on := 7, ground := Ground.data }, { on := 8, ground := Ground.data }], guard := none }) (v := ?_) rfl (by kernel_rfl) (by kernel_rfl) (by kernel_rfl) (fun _ _ _ h => h) (Or.inl ⟨by rfl, ?_⟩) hHeld ?_
      rotate_left
      · intro W0 hSw
        obtain ⟨hS7, hS16⟩ := hSw
        go_simp <;> with_reducible rfl
      simp only [Act.put, List.setIfInBounds_toArray, List.set_cons_zero, List.set_cons_succ]
      refine wpAnyH_take (i := 10) (oi := { dst := some 73, op := Op.move (Operand.tmp 7), type := 23, pos := "ref.go:148", after := #[], guard := none }) (v := ?_) rfl (by kernel_rfl) (by kernel_rfl) (by kernel_rfl) (fun _ _ _ h => h) (Or.inl ⟨by rfl, ?_⟩) hHeld ?_
      rotate_left
      · intro W0 hSw
        obtain ⟨hS7, hS16⟩ := hSw
        go_simp <;> with_reducible rfl
      simp only [Act.put, List.setIfInBounds_toArray, List.set_cons_zero, List.set_cons_succ]
      refine wpAnyH_take (i := 11) (oi := { dst := some 74, op := Op.move (Operand.tmp 8), type := 3, pos := "ref.go:148", after := #[], guard := none }) (v := ?_) rfl (by kernel_rfl) (by kernel_rfl) (by kernel_rfl) (fun _ _ _ h => h) (Or.inl ⟨by rfl, ?_⟩) hHeld ?_
      rotate_left
      · intro W0 hSw
        obtain ⟨hS7, hS16⟩ := hSw
        go_simp <;> with_reducible rfl
      simp only [Act.put, List.setIfInBounds_toArray, List.set_cons_zero, List.set_cons_succ]
      refine wpAnyH_take (i := 12) (oi := { dst := some 75, op := Op.binOp BinOp.sub 3 (Operand.tmp 74) (Operand.const (Value.int IntKind.i64 16)) 3, type := 3, pos := "ref.go:148", after := #[{ on := 11, ground := Ground.data }], guard := none }) (v := ?_) rfl (by kernel_rfl) (by kernel_rfl) (by kernel_rfl) (fun _ _ _ h => h) (Or.inl ⟨by rfl, ?_⟩) hHeld ?_
      rotate_left
      · intro W0 hSw
        obtain ⟨hS7, hS16⟩ := hSw
        go_simp <;> with_reducible rfl
      simp only [Act.put, List.setIfInBounds_toArray, List.set_cons_zero, List.set_cons_succ]
      refine wpAnyH_take (i := 13) (oi := { dst := some 76, op := Op.indexAddr 23 (Operand.tmp 73) (Operand.tmp 75), type := 0, pos := "ref.go:148", after := #[{ on := 10, ground := Ground.data }, { on := 12, ground := Ground.data }], guard := none }) (v := ?_) rfl (by kernel_rfl) (by kernel_rfl) (by kernel_rfl) (fun _ _ _ h => h) (Or.inl ⟨by rfl, ?_⟩) hHeld ?_
      rotate_left
      · intro W0 hSw
        obtain ⟨hS7, hS16⟩ := hSw
        go_simp <;> with_reducible rfl
      simp only [Act.put, List.setIfInBounds_toArray, List.set_cons_zero, List.set_cons_succ]
      refine wpAnyH_take (i := 14) (oi := { dst := some 77, op := Op.load 3 (Operand.tmp 76), type := 3, pos := "ref.go:148", after := #[{ on := 13, ground := Ground.data }], guard := none }) (v := ?_) rfl (by kernel_rfl) (by kernel_rfl) (by kernel_rfl) (fun _ _ _ h => h) (Or.inl ⟨by rfl, ?_⟩) hHeld ?_
      rotate_left
      · intro W0 hSw
        obtain ⟨hS7, hS16⟩ := hSw
        go_simp <;> with_reducible rfl
      simp only [Act.put, List.setIfInBounds_toArray, List.set_cons_zero, List.set_cons_succ]
      refine wpAnyH_take (i := 15) (oi := { dst := some 78, op := Op.binOp BinOp.add 3 (Operand.tmp 72) (Operand.tmp 77) 3, type := 3, pos := "ref.go:148", after := #[{ on := 9, ground := Ground.data }, { on := 14, ground := Ground.data }], guard := none }) (v := ?_) rfl (by kernel_rfl) (by kernel_rfl) (by kernel_rfl) (fun _ _ _ h => h) (Or.inl ⟨by rfl, ?_⟩) hHeld ?_
      rotate_left
      · intro W0 hSw
        obtain ⟨hS7, hS16⟩ := hSw
        go_simp <;> with_reducible rfl
      simp only [Act.put, List.setIfInBounds_toArray, List.set_cons_zero, List.set_cons_succ]
      refine wpAnyH_take (i := 16) (oi := { dst := some 79, op := Op.binOp BinOp.rem 3 (Operand.tmp 78) (Operand.const (Value.int IntKind.i64 4294967296)) 3, type := 3, pos := "ref.go:148", after := #[{ on := 15, ground := Ground.data }], guard := none }) (v := ?_) rfl (by kernel_rfl) (by kernel_rfl) (by kernel_rfl) (fun _ _ _ h => h) (Or.inl ⟨by rfl, ?_⟩) hHeld ?_
      rotate_left
      · intro W0 hSw
        obtain ⟨hS7, hS16⟩ := hSw
        go_simp <;> with_reducible rfl
      simp only [Act.put, List.setIfInBounds_toArray, List.set_cons_zero, List.set_cons_succ]
      refine wpAnyH_ready (rs := [17]) (by kernel_rfl) (by simp) ?_
      refine AllReadyH.cons (o := { dst := some 80, op := Op.buildSlice 23 1 #[(0, Operand.tmp 79)], type := 23, pos := "ref.go:148", after := #[{ on := 16, ground := Ground.data }], guard := none }) rfl (fun K hK => ?_) AllReadyH.nil
      go_simp
      refine hK.out _ _ (hS1 _) (fun hHeld => ?_)
      clear hK K
      try simp only [Act.put, List.setIfInBounds_toArray, List.set_cons_zero, List.set_cons_succ]
      refine wpAnyH_ready (rs := [18]) (by kernel_rfl) (by simp) ?_
      refine AllReadyH.cons (o := { dst := some 81, op := Op.call { callee := Callee.builtin Builtin.append, args := #[Operand.tmp 63, Operand.tmp 80], argTypes := #[23, 23] }, type := 23, pos := "ref.go:148", after := #[{ on := 0, ground := Ground.data }, { on := 17, ground := Ground.data }], guard := none }) rfl (fun K hK => ?_) AllReadyH.nil
      refine step_appK _ (by rfl) (.tmp 63) (.tmp 80) (by rfl) w.heap.size g cap (L.take t) t HLL.out (L.getD t 0) wx.heap.size _ HCI (by rfl) (by rfl) (heap_alloc_new wx _) ((HOx.alloc _).drew) HLT.out (by simp; omega) ?_
      intro v2 w2 HO2 hb2 hkp
      refine hK.out _ _ ⟨(hkp j7 HL7.out.1).trans (hS1 _).1, (hkp j16 HL7.out.2).trans (hS1 _).2⟩ (fun hHeld => ?_)
      clear hK K
      try simp only [Act.put, List.setIfInBounds_toArray, List.set_cons_zero, List.set_cons_succ]
      refine wpAnyH_take (i := 19) (oi := { dst := some 7, op := Op.assign (Operand.tmp 81), type := 23, pos := "ref.go:148", after := #[{ on := 18, ground := Ground.data }, { on := 18, ground := Ground.chain }, { on := 0, ground := Ground.phase }, { on := 1, ground := Ground.phase }, { on := 2, ground := Ground.phase }, { on := 3, ground := Ground.phase }, { on := 4, ground := Ground.phase }, { on := 5, ground := Ground.phase }, { on := 6, ground := Ground.phase }, { on := 7, ground := Ground.phase }, { on := 8, ground := Ground.phase }, { on := 9, ground := Ground.phase }, { on := 10, ground := Ground.phase }, { on := 11, ground := Ground.phase }, { on := 12, ground := Ground.phase }, { on := 13, ground := Ground.phase }, { on := 14, ground := Ground.phase }, { on := 15, ground := Ground.phase }, { on := 16, ground := Ground.phase }, { on := 17, ground := Ground.phase }, { on := 18, ground := Ground.phase }], guard := none }) (v := ?_) rfl (by kernel_rfl) (by kernel_rfl) (by kernel_rfl) (fun _ _ _ h => h) (Or.inl ⟨by rfl, ?_⟩) hHeld ?_
      rotate_left
      · intro W0 hSw
        obtain ⟨hS7, hS16⟩ := hSw
        go_simp <;> with_reducible rfl
      simp only [Act.put, List.setIfInBounds_toArray, List.set_cons_zero, List.set_cons_succ]
      refine wpAnyH_done (by kernel_rfl) ?_ _
      have b2 : Below w.heap.size w w2 := hbx.trans ((((Below.refl _ _).alloc (Nat.le_refl _) _).drew.mono hzx).trans hb2)
      clear hS1 hHeld hkp c7 c16 d7 d16 f7 f16 t7 t16 i7 i16 u7' u16' hbx HOx HCI
      go_wp2
      go_roundw
      case rel => exact ⟨t + 1, by omega, by omega, by go_num, by rw [HS.out]; exact HO2, b2⟩
      case measure => simp [intOf]; omega
    · obtain rfl : t = 64 := by omega
      rw [List.take_of_length_le (by rw [HL.out]; exact Nat.le_refl _)] at HO
      have HWI := HO.ints (by rw [HL.out]; decide)
      have HKI := HK.below hb
      clear HO HG HW16 HK
      go_wp2_with fail
      refine (words_any st 8 wr (by rw [HS32.out]) (by decide)).mono ?_
      rintro _ wa ⟨va, rfl, HOa, hba⟩
      go_wp2_with fail
      refine (words_any st 8 wa (by rw [HS32.out]) (by decide)).mono ?_
      rintro _ wb ⟨vb, rfl, HOb, hbb⟩
      rw [HW8.out] at HOa HOb
      have HO32 := Sh.rds_ok st
      have HFI := (HOa.ints (by simp [Sh.St.list])).below hbb
      have HWI2 := (HWI.below hba).below hbb
      have HKI2 := (HKI.below hba).below hbb
      have bwa := hb.trans (hba.mono hb.size)
      have bwb := bwa.trans (hbb.mono bwa.size)
      obtain ⟨gw, capw, rfl, hgw, hcw⟩ := HWI2
      obtain ⟨gk, capk, rfl, hgk, hck⟩ := HKI2
      have HCW := Lib.hid hcw
      have HCK := Lib.hid hck
      have HGA : Hid (∃ ga capa, va = .slice (some ⟨ga, 0, none⟩) 8 capa ∧ ga < wa.heap.size ∧ ∀ i, i < 8 → wb.cell? ⟨ga, i, none⟩ = some (.int .i64 ((Sh.rds st).list.getD i 0 : Nat))) := by
        obtain ⟨ga, capa, h1, h2, h3⟩ := HOa.ints (by simp [Sh.St.list])
        exact ⟨ga, capa, h1, h2, fun i hi => (hbb.cell (p := ⟨ga, i, none⟩) h2).trans (h3 i hi)⟩
      have hbsz := hbb.size
      have HSZA := Lib.hid (Nat.le_trans hb.size hba.size)
      clear hcw hck HWI HKI HOa hba hbb hb bwa HFI
      rw [HL.out, show Sh.KK.length = 64 by decide]
      generalize hv0 : Sh.rds st = v0 at *
      have HV0 := Lib.hid hv0
      clear hv0 HW8
      go_wp2_with fail
      go_loopw [14, 15, 16, 17, 18, 19, 20, 21] (fun vv tv _ _ _ _ _ _ wr => ∃ (t : Nat) (u : Sh.St), t ≤ 64 ∧ tv = .int .i64 (t : Nat) ∧ Hid (Sh.rn L v0 t = u) ∧ OwnI wr wa.heap.size vv u.list ∧ Below wb.heap.size wb wr) (fun _ tv _ _ _ _ _ _ _ => 64 - (intOf tv).toNat)
      case atStart => exact ⟨0, v0, by omega, rfl, Lib.hid rfl, HOb, Below.refl _ _⟩
      case round =>
        obtain ⟨t, u, ht64, rfl, HU, HO, hb⟩ := hrel
        clear HOb
        have HUO : u.Ok := HU.out ▸ Sh.rn_ok HO32 L t
        by_cases hlt : t < 64
        · have HE : Hid (Sh.rn L v0 (t + 1) = Sh.rnd (Sh.KK.getD t 0) (L.getD t 0) u) := by rw [Hid, Sh.rn, HU.out]
          have ck := (hb.cell (p := ⟨gk, t, none⟩) hgk).trans (HCK.out t hlt)
          have cw := (hb.cell (p := ⟨gw, t, none⟩) hgw).trans (HCW.out t (by rw [HL.out]; exact hlt))
          have lK := Sh.getD_lt Sh.KK_lt t
          have lW := Sh.getD_lt HLB.out t
          generalize Sh.KK.getD t 0 = kk at *
          generalize L.getD t 0 = wk at *
          obtain ⟨a, b', c, d, e, f, g, h⟩ := u
          obtain ⟨oa, ob, oc, od, oe, of, og, oh⟩ := HUO
          simp only at oa ob oc od oe of og oh
          obtain ⟨gv, capv, rfl, hgvb, hgvz, hc⟩ := HO.block (by simp [Sh.St.list])
          have c0 : wr.cell? ⟨gv, 0, none⟩ = some (.int .i64 (a : Nat)) := hc 0 (by simp [Sh.St.list])
          have c1 : wr.cell? ⟨gv, 1, none⟩ = some (.int .i64 (b' : Nat)) := hc 1 (by simp [Sh.St.list])
          have c2 : wr.cell? ⟨gv, 2, none⟩ = some (.int .i64 (c : Nat)) := hc 2 (by simp [Sh.St.list])
          have c3 : wr.cell? ⟨gv, 3, none⟩ = some (.int .i64 (d : Nat)) := hc 3 (by simp [Sh.St.list])
          have c4 : wr.cell? ⟨gv, 4, none⟩ = some (.int .i64 (e : Nat)) := hc 4 (by simp [Sh.St.list])
          have c5 : wr.cell? ⟨gv, 5, none⟩ = some (.int .i64 (f : Nat)) := hc 5 (by simp [Sh.St.list])
          have c6 : wr.cell? ⟨gv, 6, none⟩ = some (.int .i64 (g : Nat)) := hc 6 (by simp [Sh.St.list])
          have c7 : wr.cell? ⟨gv, 7, none⟩ = some (.int .i64 (h : Nat)) := hc 7 (by simp [Sh.St.list])
          have hlen8 : (Sh.St.list ⟨a, b', c, d, e, f, g, h⟩).length = 8 := rfl
          rw [hlen8]
          clear hc HO hlen8
          go_wp2_with fail
          go_quiet (fail)
          have HCH : Hid (bits BinOp.xor IntKind.i64 (bits BinOp.and IntKind.i64 ↑e ↑f) (bits BinOp.and IntKind.i64 (4294967295 - (e : Int)) ↑g) = ((Sh.ch e f g : Nat) : Int)) := by
            rw [Hid, show (4294967295 - (e : Int)) = ((4294967295 - e : Nat) : Int) by omega, i64_and _ _ oe of, i64_and _ _ (by omega) og, i64_xor _ _ (Sh.and_lt of) (Sh.and_lt og)]
            rfl
          rw [HCH.out]
          have lch := Sh.ch_lt (e := e) of og
          have Bx : Below wb.heap.size wb (wr.drewN nq) := Below.drewN' _ hb
          have K8 : Cells8 (wr.drewN nq) gv a b' c d e f g h := ⟨c0, c1, c2, c3, c4, c5, c6, c7⟩
          have ck2 : (wr.drewN nq).cell? ⟨gk, t, none⟩ = some (.int .i64 (kk : Nat)) := ck
          have cw2 : (wr.drewN nq).cell? ⟨gw, t, none⟩ = some (.int .i64 (wk : Nat)) := cw
          have hz2 : gv < (wr.drewN nq).heap.size := hgvz
          generalize wr.drewN nq = wy at *
          clear c0 c1 c2 c3 c4 c5 c6 c7 ck cw hb hgvz
          obtain ⟨c0, c1, c2, c3, c4, c5, c6, c7⟩ := K8
          have ck := ck2
          have cw := cw2
          have hb := Bx
          have hgvz := hz2
          clear ck2 cw2 Bx hz2
          go_wp2_with fail
          go_quiet (fail)
          have HMA : Hid (bits BinOp.xor IntKind.i64 (bits BinOp.xor IntKind.i64 (bits BinOp.and IntKind.i64 ↑a ↑b') (bits BinOp.and IntKind.i64 ↑a ↑c)) (bits BinOp.and IntKind.i64 ↑b' ↑c) = ((Sh.ma a b' c : Nat) : Int)) := by
            rw [Hid, i64_and _ _ oa ob, i64_and _ _ oa oc, i64_and _ _ ob oc, i64_xor _ _ (Sh.and_lt ob) (Sh.and_lt oc), i64_xor _ _ (Sh.xor_lt (Sh.and_lt ob) (Sh.and_lt oc)) (Sh.and_lt oc)]
            rfl
          rw [HMA.out]
          have lma := Sh.ma_lt (a := a) ob oc
          have Bx : Below wb.heap.size wb (wy.drewN nq) := Below.drewN' _ hb
          have K8 : Cells8 (wy.drewN nq) gv a b' c d e f g h := ⟨c0, c1, c2, c3, c4, c5, c6, c7⟩
          have ck2 : (wy.drewN nq).cell? ⟨gk, t, none⟩ = some (.int .i64 (kk : Nat)) := ck
          have cw2 : (wy.drewN nq).cell? ⟨gw, t, none⟩ = some (.int .i64 (wk : Nat)) := cw
          have hz2 : gv < (wy.drewN nq).heap.size := hgvz
          generalize wy.drewN nq = wz at *
          clear c0 c1 c2 c3 c4 c5 c6 c7 ck cw hb hgvz
          obtain ⟨c0, c1, c2, c3, c4, c5, c6, c7⟩ := K8
          have ck := ck2
          have cw := cw2
          have hb := Bx
          have hgvz := hz2
          clear ck2 cw2 Bx hz2
          go_wp2_with fail
          generalize hchv : Sh.ch e f g = vch at *
          generalize hmav : Sh.ma a b' c = vma at *
          have HCHV := Lib.hid hchv
          have HMAV := Lib.hid hmav
          clear hchv hmav HCH HMA
          go_quiet (first | (go_at_call 78; with_reducible exact Calls.quiet_of (turn_any e 6 6 _ oe rfl (by decide) (by decide))) | (go_at_call 78; with_reducible exact Calls.quiet_of (turn_any e 11 11 _ oe rfl (by decide) (by decide))) | (go_at_call 78; with_reducible exact Calls.quiet_of (turn_any e 25 25 _ oe rfl (by decide) (by decide))))
          have hS1e : bits BinOp.xor IntKind.i64 (bits BinOp.xor IntKind.i64 ↑(Sh.rot e 6) ↑(Sh.rot e 11)) ↑(Sh.rot e 25) = ((Sh.S1 e : Nat) : Int) := by
            rw [i64_xor _ _ (Sh.rot_lt oe (by decide)) (Sh.rot_lt oe (by decide)), i64_xor _ _ (Sh.xor_lt (Sh.rot_lt oe (by decide)) (Sh.rot_lt oe (by decide))) (Sh.rot_lt oe (by decide))]
            rfl
          have lS1 := Sh.S1_lt oe
          have HT1 : Hid ((wrap64 (wrap64 (wrap64 (wrap64 ((h : Int) + bits BinOp.xor IntKind.i64 (bits BinOp.xor IntKind.i64 ↑(Sh.rot e 6) ↑(Sh.rot e 11)) ↑(Sh.rot e 25)) + (vch : Int)) + (kk : Int)) + (wk : Int))).tmod 4294967296 = ((Sh.tt ⟨a, b', c, d, e, f, g, h⟩ kk wk : Nat) : Int)) := by
            rw [Hid, hS1e, wrapA _ _ (by omega), wrapA _ _ (by omega), wrapA _ _ (by omega), wrapA _ _ (by omega), ← HCHV.out]
            exact (Int.ofNat_tmod _ 4294967296).symm
          rw [HT1.out]
          have ltt : Sh.tt ⟨a, b', c, d, e, f, g, h⟩ kk wk < 4294967296 := Nat.mod_lt _ (by decide)
          have HRND : Hid (Sh.rnd kk wk ⟨a, b', c, d, e, f, g, h⟩ = ⟨(Sh.tt ⟨a, b', c, d, e, f, g, h⟩ kk wk + Sh.uu ⟨a, b', c, d, e, f, g, h⟩) % 4294967296, a, b', c, (d + Sh.tt ⟨a, b', c, d, e, f, g, h⟩ kk wk) % 4294967296, e, f, g⟩) := Lib.hid rfl
          have HUU : Hid (Sh.uu ⟨a, b', c, d, e, f, g, h⟩ = (Sh.S0 a + vma) % 4294967296) := by rw [Hid, ← HMAV.out]; rfl
          clear HT1 hS1e lS1 HCHV HMAV
          generalize Sh.tt ⟨a, b', c, d, e, f, g, h⟩ kk wk = tt at *
          have Bx : Below wb.heap.size wb (wz.drewN nq) := Below.drewN' _ hb
          have K8 : Cells8 (wz.drewN nq) gv a b' c d e f g h := ⟨c0, c1, c2, c3, c4, c5, c6, c7⟩
          have ck2 : (wz.drewN nq).cell? ⟨gk, t, none⟩ = some (.int .i64 (kk : Nat)) := ck
          have cw2 : (wz.drewN nq).cell? ⟨gw, t, none⟩ = some (.int .i64 (wk : Nat)) := cw
          have hz2 : gv < (wz.drewN nq).heap.size := hgvz
          generalize wz.drewN nq = wv at *
          clear c0 c1 c2 c3 c4 c5 c6 c7 ck cw hb hgvz
          obtain ⟨c0, c1, c2, c3, c4, c5, c6, c7⟩ := K8
          have ck := ck2
          have cw := cw2
          have hb := Bx
          have hgvz := hz2
          clear ck2 cw2 Bx hz2
          go_wp2_with fail
          refine (turn_any a 2 2 wv oa rfl (by decide) (by decide)).mono ?_
          rintro _ _ ⟨rfl, n1, rfl⟩
          go_wp2_with fail
          refine (turn_any a 13 13 _ oa rfl (by decide) (by decide)).mono ?_
          rintro _ _ ⟨rfl, n2, rfl⟩
          go_wp2_with fail
          refine (turn_any a 22 22 _ oa rfl (by decide) (by decide)).mono ?_
          rintro _ _ ⟨rfl, n3, rfl⟩
          go_wp2_with fail
          have hS0e : bits BinOp.xor IntKind.i64 (bits BinOp.xor IntKind.i64 ↑(Sh.rot a 2) ↑(Sh.rot a 13)) ↑(Sh.rot a 22) = ((Sh.S0 a : Nat) : Int) := by
            rw [i64_xor _ _ (Sh.rot_lt oa (by decide)) (Sh.rot_lt oa (by decide)), i64_xor _ _ (Sh.xor_lt (Sh.rot_lt oa (by decide)) (Sh.rot_lt oa (by decide))) (Sh.rot_lt oa (by decide))]
            rfl
          have lS0 := Sh.S0_lt oa
          have HT2 : Hid ((wrap64 (bits BinOp.xor IntKind.i64 (bits BinOp.xor IntKind.i64 ↑(Sh.rot a 2) ↑(Sh.rot a 13)) ↑(Sh.rot a 22) + (vma : Int))).tmod 4294967296 = ((Sh.uu ⟨a, b', c, d, e, f, g, h⟩ : Nat) : Int)) := by
            rw [Hid, hS0e, wrapA _ _ (by omega), HUU.out]
            exact (Int.ofNat_tmod _ 4294967296).symm
          rw [HT2.out]
          have luu : Sh.uu ⟨a, b', c, d, e, f, g, h⟩ < 4294967296 := Nat.mod_lt _ (by decide)
          clear HT2 hS0e lS0 HUU
          generalize Sh.uu ⟨a, b', c, d, e, f, g, h⟩ = uu at *
          have Bx : Below wb.heap.size wb (wv.drewN (n1 + n2 + n3)) := Below.drewN' _ hb
          have K8 : Cells8 (wv.drewN (n1 + n2 + n3)) gv a b' c d e f g h := ⟨c0, c1, c2, c3, c4, c5, c6, c7⟩
          have ck2 : (wv.drewN (n1 + n2 + n3)).cell? ⟨gk, t, none⟩ = some (.int .i64 (kk : Nat)) := ck
          have cw2 : (wv.drewN (n1 + n2 + n3)).cell? ⟨gw, t, none⟩ = some (.int .i64 (wk : Nat)) := cw
          have hz2 : gv < (wv.drewN (n1 + n2 + n3)).heap.size := hgvz
          generalize wv.drewN (n1 + n2 + n3) = wq at *
          clear c0 c1 c2 c3 c4 c5 c6 c7 ck cw hb hgvz
          obtain ⟨c0, c1, c2, c3, c4, c5, c6, c7⟩ := K8
          have ck := ck2
          have cw := cw2
          have hb := Bx
          have hgvz := hz2
          clear ck2 cw2 Bx hz2
          have hA : (IntKind.i64.wrap ((tt : Int) + (uu : Int))).tmod 4294967296 = (((tt + uu) % 4294967296 : Nat) : Int) := by
            rw [IntWalk.i64_in _ (by omega), ← Int.natCast_add]
            exact (Int.ofNat_tmod _ 4294967296).symm
          have hE : (IntKind.i64.wrap ((d : Int) + (tt : Int))).tmod 4294967296 = (((d + tt) % 4294967296 : Nat) : Int) := by
            rw [IntWalk.i64_in _ (by omega), ← Int.natCast_add]
            exact (Int.ofNat_tmod _ 4294967296).symm
          generalize (tt + uu) % 4294967296 = na at *
          generalize (d + tt) % 4294967296 = ne at *
          have K9 : Cells8 wq gv a b' c d e f g h := ⟨c0, c1, c2, c3, c4, c5, c6, c7⟩
          have hS1 : ∀ o : Obj, Cells8 (wq.alloc o).drew gv a b' c d e f g h := fun o => K9.below ((((Below.refl wq.heap.size wq).alloc (Nat.le_refl _) o)).drew) hgvz
          clear c0 c1 c2 c3 c4 c5 c6 c7 ck cw
          refine wp_region_held_drew (S := fun w' => Cells8 w' gv a b' c d e f g h) (by kernel_rfl) ⟨K9.c0, K9.c1, K9.c2, K9.c3, K9.c4, K9.c5, K9.c6, K9.c7⟩ (fun hHeld => ?_)
          refine wpAnyH_take (i := 0) (oi := { dst := some 163, op := Op.move (Operand.tmp 20), type := 3, pos := "ref.go:159", after := #[], guard := none }) (v := ?_) rfl (by kernel_rfl) (by kernel_rfl) (by kernel_rfl) (fun _ _ _ h => h) (Or.inl ⟨by rfl, ?_⟩) hHeld ?_
          rotate_left
          · intro W0 hSw
            obtain ⟨s0, s1, s2, s3, s4, s5, s6, s7⟩ := hSw
            go_simp <;> with_reducible rfl
          simp only [Act.put, List.setIfInBounds_toArray, List.set_cons_zero, List.set_cons_succ]
          refine wpAnyH_take (i := 1) (oi := { dst := some 164, op := Op.move (Operand.tmp 21), type := 3, pos := "ref.go:159", after := #[], guard := none }) (v := ?_) rfl (by kernel_rfl) (by kernel_rfl) (by kernel_rfl) (fun _ _ _ h => h) (Or.inl ⟨by rfl, ?_⟩) hHeld ?_
          rotate_left
          · intro W0 hSw
            obtain ⟨s0, s1, s2, s3, s4, s5, s6, s7⟩ := hSw
            go_simp <;> with_reducible rfl
          simp only [Act.put, List.setIfInBounds_toArray, List.set_cons_zero, List.set_cons_succ]
          refine wpAnyH_take (i := 2) (oi := { dst := some 165, op := Op.binOp BinOp.add 3 (Operand.tmp 163) (Operand.tmp 164) 3, type := 3, pos := "ref.go:159", after := #[{ on := 0, ground := Ground.data }, { on := 1, ground := Ground.data }], guard := none }) (v := ?_) rfl (by kernel_rfl) (by kernel_rfl) (by kernel_rfl) (fun _ _ _ h => h) (Or.inl ⟨by rfl, ?_⟩) hHeld ?_
          rotate_left
          · intro W0 hSw
            obtain ⟨s0, s1, s2, s3, s4, s5, s6, s7⟩ := hSw
            go_simp <;> with_reducible rfl
          simp only [Act.put, List.setIfInBounds_toArray, List.set_cons_zero, List.set_cons_succ]
          refine wpAnyH_take (i := 3) (oi := { dst := some 166, op := Op.binOp BinOp.rem 3 (Operand.tmp 165) (Operand.const (Value.int IntKind.i64 4294967296)) 3, type := 3, pos := "ref.go:159", after := #[{ on := 2, ground := Ground.data }], guard := none }) (v := ?_) rfl (by kernel_rfl) (by kernel_rfl) (by kernel_rfl) (fun _ _ _ h => h) (Or.inl ⟨by rfl, ?_⟩) hHeld ?_
          rotate_left
          · intro W0 hSw
            obtain ⟨s0, s1, s2, s3, s4, s5, s6, s7⟩ := hSw
            go_simp <;> with_reducible rfl
          simp only [Act.put, List.setIfInBounds_toArray, List.set_cons_zero, List.set_cons_succ]
          refine wpAnyH_take (i := 4) (oi := { dst := some 167, op := Op.move (Operand.tmp 14), type := 23, pos := "ref.go:159", after := #[], guard := none }) (v := ?_) rfl (by kernel_rfl) (by kernel_rfl) (by kernel_rfl) (fun _ _ _ h => h) (Or.inl ⟨by rfl, ?_⟩) hHeld ?_
          rotate_left
          · intro W0 hSw
            obtain ⟨s0, s1, s2, s3, s4, s5, s6, s7⟩ := hSw
            go_simp <;> with_reducible rfl
          simp only [Act.put, List.setIfInBounds_toArray, List.set_cons_zero, List.set_cons_succ]
          refine wpAnyH_take (i := 5) (oi := { dst := some 168, op := Op.indexAddr 23 (Operand.tmp 167) (Operand.const (Value.int IntKind.i64 0)), type := 0, pos := "ref.go:159", after := #[{ on := 4, ground := Ground.data }], guard := none }) (v := ?_) rfl (by kernel_rfl) (by kernel_rfl) (by kernel_rfl) (fun _ _ _ h => h) (Or.inl ⟨by rfl, ?_⟩) hHeld ?_
          rotate_left
          · intro W0 hSw
            obtain ⟨s0, s1, s2, s3, s4, s5, s6, s7⟩ := hSw
            go_simp <;> with_reducible rfl
          simp only [Act.put, List.setIfInBounds_toArray, List.set_cons_zero, List.set_cons_succ]
          refine wpAnyH_take (i := 6) (oi := { dst := some 169, op := Op.load 3 (Operand.tmp 168), type := 3, pos := "ref.go:159", after := #[{ on := 5, ground := Ground.data }], guard := none }) (v := ?_) rfl (by kernel_rfl) (by kernel_rfl) (by kernel_rfl) (fun _ _ _ h => h) (Or.inl ⟨by rfl, ?_⟩) hHeld ?_
          rotate_left
          · intro W0 hSw
            obtain ⟨s0, s1, s2, s3, s4, s5, s6, s7⟩ := hSw
            go_simp <;> with_reducible rfl
          simp only [Act.put, List.setIfInBounds_toArray, List.set_cons_zero, List.set_cons_succ]
          refine wpAnyH_take (i := 7) (oi := { dst := some 170, op := Op.move (Operand.tmp 14), type := 23, pos := "ref.go:159", after := #[], guard := none }) (v := ?_) rfl (by kernel_rfl) (by kernel_rfl) (by kernel_rfl) (fun _ _ _ h => h) (Or.inl ⟨by rfl, ?_⟩) hHeld ?_
          rotate_left
          · intro W0 hSw
            obtain ⟨s0, s1, s2, s3, s4, s5, s6, s7⟩ := hSw
            go_simp <;> with_reducible rfl
          simp only [Act.put, List.setIfInBounds_toArray, List.set_cons_zero, List.set_cons_succ]
          refine wpAnyH_take (i := 8) (oi := { dst := some 171, op := Op.indexAddr 23 (Operand.tmp 170) (Operand.const (Value.int IntKind.i64 1)), type := 0, pos := "ref.go:159", after := #[{ on := 7, ground := Ground.data }], guard := none }) (v := ?_) rfl (by kernel_rfl) (by kernel_rfl) (by kernel_rfl) (fun _ _ _ h => h) (Or.inl ⟨by rfl, ?_⟩) hHeld ?_
          rotate_left
          · intro W0 hSw
            obtain ⟨s0, s1, s2, s3, s4, s5, s6, s7⟩ := hSw
            go_simp <;> with_reducible rfl
          simp only [Act.put, List.setIfInBounds_toArray, List.set_cons_zero, List.set_cons_succ]
          refine wpAnyH_take (i := 9) (oi := { dst := some 172, op := Op.load 3 (Operand.tmp 171), type := 3, pos := "ref.go:159", after := #[{ on := 8, ground := Ground.data }], guard := none }) (v := ?_) rfl (by kernel_rfl) (by kernel_rfl) (by kernel_rfl) (fun _ _ _ h => h) (Or.inl ⟨by rfl, ?_⟩) hHeld ?_
          rotate_left
          · intro W0 hSw
            obtain ⟨s0, s1, s2, s3, s4, s5, s6, s7⟩ := hSw
            go_simp <;> with_reducible rfl
          simp only [Act.put, List.setIfInBounds_toArray, List.set_cons_zero, List.set_cons_succ]
          refine wpAnyH_take (i := 10) (oi := { dst := some 173, op := Op.move (Operand.tmp 14), type := 23, pos := "ref.go:159", after := #[], guard := none }) (v := ?_) rfl (by kernel_rfl) (by kernel_rfl) (by kernel_rfl) (fun _ _ _ h => h) (Or.inl ⟨by rfl, ?_⟩) hHeld ?_
          rotate_left
          · intro W0 hSw
            obtain ⟨s0, s1, s2, s3, s4, s5, s6, s7⟩ := hSw
            go_simp <;> with_reducible rfl
          simp only [Act.put, List.setIfInBounds_toArray, List.set_cons_zero, List.set_cons_succ]
          refine wpAnyH_take (i := 11) (oi := { dst := some 174, op := Op.indexAddr 23 (Operand.tmp 173) (Operand.const (Value.int IntKind.i64 2)), type := 0, pos := "ref.go:159", after := #[{ on := 10, ground := Ground.data }], guard := none }) (v := ?_) rfl (by kernel_rfl) (by kernel_rfl) (by kernel_rfl) (fun _ _ _ h => h) (Or.inl ⟨by rfl, ?_⟩) hHeld ?_
          rotate_left
          · intro W0 hSw
            obtain ⟨s0, s1, s2, s3, s4, s5, s6, s7⟩ := hSw
            go_simp <;> with_reducible rfl
          simp only [Act.put, List.setIfInBounds_toArray, List.set_cons_zero, List.set_cons_succ]
          refine wpAnyH_take (i := 12) (oi := { dst := some 175, op := Op.load 3 (Operand.tmp 174), type := 3, pos := "ref.go:159", after := #[{ on := 11, ground := Ground.data }], guard := none }) (v := ?_) rfl (by kernel_rfl) (by kernel_rfl) (by kernel_rfl) (fun _ _ _ h => h) (Or.inl ⟨by rfl, ?_⟩) hHeld ?_
          rotate_left
          · intro W0 hSw
            obtain ⟨s0, s1, s2, s3, s4, s5, s6, s7⟩ := hSw
            go_simp <;> with_reducible rfl
          simp only [Act.put, List.setIfInBounds_toArray, List.set_cons_zero, List.set_cons_succ]
          refine wpAnyH_take (i := 13) (oi := { dst := some 176, op := Op.move (Operand.tmp 14), type := 23, pos := "ref.go:159", after := #[], guard := none }) (v := ?_) rfl (by kernel_rfl) (by kernel_rfl) (by kernel_rfl) (fun _ _ _ h => h) (Or.inl ⟨by rfl, ?_⟩) hHeld ?_
          rotate_left
          · intro W0 hSw
            obtain ⟨s0, s1, s2, s3, s4, s5, s6, s7⟩ := hSw
            go_simp <;> with_reducible rfl
          simp only [Act.put, List.setIfInBounds_toArray, List.set_cons_zero, List.set_cons_succ]
          refine wpAnyH_take (i := 14) (oi := { dst := some 177, op := Op.indexAddr 23 (Operand.tmp 176) (Operand.const (Value.int IntKind.i64 3)), type := 0, pos := "ref.go:159", after := #[{ on := 13, ground := Ground.data }], guard := none }) (v := ?_) rfl (by kernel_rfl) (by kernel_rfl) (by kernel_rfl) (fun _ _ _ h => h) (Or.inl ⟨by rfl, ?_⟩) hHeld ?_
          rotate_left
          · intro W0 hSw
            obtain ⟨s0, s1, s2, s3, s4, s5, s6, s7⟩ := hSw
            go_simp <;> with_reducible rfl
          simp only [Act.put, List.setIfInBounds_toArray, List.set_cons_zero, List.set_cons_succ]
          refine wpAnyH_take (i := 15) (oi := { dst := some 178, op := Op.load 3 (Operand.tmp 177), type := 3, pos := "ref.go:159", after := #[{ on := 14, ground := Ground.data }], guard := none }) (v := ?_) rfl (by kernel_rfl) (by kernel_rfl) (by kernel_rfl) (fun _ _ _ h => h) (Or.inl ⟨by rfl, ?_⟩) hHeld ?_
          rotate_left
          · intro W0 hSw
            obtain ⟨s0, s1, s2, s3, s4, s5, s6, s7⟩ := hSw
            go_simp <;> with_reducible rfl
          simp only [Act.put, List.setIfInBounds_toArray, List.set_cons_zero, List.set_cons_succ]
          refine wpAnyH_take (i := 16) (oi := { dst := some 179, op := Op.move (Operand.tmp 20), type := 3, pos := "ref.go:159", after := #[], guard := none }) (v := ?_) rfl (by kernel_rfl) (by kernel_rfl) (by kernel_rfl) (fun _ _ _ h => h) (Or.inl ⟨by rfl, ?_⟩) hHeld ?_
          rotate_left
          · intro W0 hSw
            obtain ⟨s0, s1, s2, s3, s4, s5, s6, s7⟩ := hSw
            go_simp <;> with_reducible rfl
          simp only [Act.put, List.setIfInBounds_toArray, List.set_cons_zero, List.set_cons_succ]
          refine wpAnyH_take (i := 17) (oi := { dst := some 180, op := Op.binOp BinOp.add 3 (Operand.tmp 178) (Operand.tmp 179) 3, type := 3, pos := "ref.go:159", after := #[{ on := 15, ground := Ground.data }, { on := 16, ground := Ground.data }], guard := none }) (v := ?_) rfl (by kernel_rfl) (by kernel_rfl) (by kernel_rfl) (fun _ _ _ h => h) (Or.inl ⟨by rfl, ?_⟩) hHeld ?_
          rotate_left
          · intro W0 hSw
            obtain ⟨s0, s1, s2, s3, s4, s5, s6, s7⟩ := hSw
            go_simp <;> with_reducible rfl
          simp only [Act.put, List.setIfInBounds_toArray, List.set_cons_zero, List.set_cons_succ]
          refine wpAnyH_take (i := 18) (oi := { dst := some 181, op := Op.binOp BinOp.rem 3 (Operand.tmp 180) (Operand.const (Value.int IntKind.i64 4294967296)) 3, type := 3, pos := "ref.go:159", after := #[{ on := 17, ground := Ground.data }], guard := none }) (v := ?_) rfl (by kernel_rfl) (by kernel_rfl) (by kernel_rfl) (fun _ _ _ h => h) (Or.inl ⟨by rfl, ?_⟩) hHeld ?_
          rotate_left
          · intro W0 hSw
            obtain ⟨s0, s1, s2, s3, s4, s5, s6, s7⟩ := hSw
            go_simp <;> with_reducible rfl
          simp only [Act.put, List.setIfInBounds_toArray, List.set_cons_zero, List.set_cons_succ]
          refine wpAnyH_take (i := 19) (oi := { dst := some 182, op := Op.move (Operand.tmp 14), type := 23, pos := "ref.go:159", after := #[], guard := none }) (v := ?_) rfl (by kernel_rfl) (by kernel_rfl) (by kernel_rfl) (fun _ _ _ h => h) (Or.inl ⟨by rfl, ?_⟩) hHeld ?_
          rotate_left
          · intro W0 hSw
            obtain ⟨s0, s1, s2, s3, s4, s5, s6, s7⟩ := hSw
            go_simp <;> with_reducible rfl
          simp only [Act.put, List.setIfInBounds_toArray, List.set_cons_zero, List.set_cons_succ]
          refine wpAnyH_take (i := 20) (oi := { dst := some 183, op := Op.indexAddr 23 (Operand.tmp 182) (Operand.const (Value.int IntKind.i64 4)), type := 0, pos := "ref.go:159", after := #[{ on := 19, ground := Ground.data }], guard := none }) (v := ?_) rfl (by kernel_rfl) (by kernel_rfl) (by kernel_rfl) (fun _ _ _ h => h) (Or.inl ⟨by rfl, ?_⟩) hHeld ?_
          rotate_left
          · intro W0 hSw
            obtain ⟨s0, s1, s2, s3, s4, s5, s6, s7⟩ := hSw
            go_simp <;> with_reducible rfl
          simp only [Act.put, List.setIfInBounds_toArray, List.set_cons_zero, List.set_cons_succ]
          refine wpAnyH_take (i := 21) (oi := { dst := some 184, op := Op.load 3 (Operand.tmp 183), type := 3, pos := "ref.go:159", after := #[{ on := 20, ground := Ground.data }], guard := none }) (v := ?_) rfl (by kernel_rfl) (by kernel_rfl) (by kernel_rfl) (fun _ _ _ h => h) (Or.inl ⟨by rfl, ?_⟩) hHeld ?_
          rotate_left
          · intro W0 hSw
            obtain ⟨s0, s1, s2, s3, s4, s5, s6, s7⟩ := hSw
            go_simp <;> with_reducible rfl
          simp only [Act.put, List.setIfInBounds_toArray, List.set_cons_zero, List.set_cons_succ]
          refine wpAnyH_take (i := 22) (oi := { dst := some 185, op := Op.move (Operand.tmp 14), type := 23, pos := "ref.go:159", after := #[], guard := none }) (v := ?_) rfl (by kernel_rfl) (by kernel_rfl) (by kernel_rfl) (fun _ _ _ h => h) (Or.inl ⟨by rfl, ?_⟩) hHeld ?_
          rotate_left
          · intro W0 hSw
            obtain ⟨s0, s1, s2, s3, s4, s5, s6, s7⟩ := hSw
            go_simp <;> with_reducible rfl
          simp only [Act.put, List.setIfInBounds_toArray, List.set_cons_zero, List.set_cons_succ]
          refine wpAnyH_take (i := 23) (oi := { dst := some 186, op := Op.indexAddr 23 (Operand.tmp 185) (Operand.const (Value.int IntKind.i64 5)), type := 0, pos := "ref.go:159", after := #[{ on := 22, ground := Ground.data }], guard := none }) (v := ?_) rfl (by kernel_rfl) (by kernel_rfl) (by kernel_rfl) (fun _ _ _ h => h) (Or.inl ⟨by rfl, ?_⟩) hHeld ?_
          rotate_left
          · intro W0 hSw
            obtain ⟨s0, s1, s2, s3, s4, s5, s6, s7⟩ := hSw
            go_simp <;> with_reducible rfl
          simp only [Act.put, List.setIfInBounds_toArray, List.set_cons_zero, List.set_cons_succ]
          refine wpAnyH_take (i := 24) (oi := { dst := some 187, op := Op.load 3 (Operand.tmp 186), type := 3, pos := "ref.go:159", after := #[{ on := 23, ground := Ground.data }], guard := none }) (v := ?_) rfl (by kernel_rfl) (by kernel_rfl) (by kernel_rfl) (fun _ _ _ h => h) (Or.inl ⟨by rfl, ?_⟩) hHeld ?_
          rotate_left
          · intro W0 hSw
            obtain ⟨s0, s1, s2, s3, s4, s5, s6, s7⟩ := hSw
            go_simp <;> with_reducible rfl
          simp only [Act.put, List.setIfInBounds_toArray, List.set_cons_zero, List.set_cons_succ]
          refine wpAnyH_take (i := 25) (oi := { dst := some 188, op := Op.move (Operand.tmp 14), type := 23, pos := "ref.go:159", after := #[], guard := none }) (v := ?_) rfl (by kernel_rfl) (by kernel_rfl) (by kernel_rfl) (fun _ _ _ h => h) (Or.inl ⟨by rfl, ?_⟩) hHeld ?_
          rotate_left
          · intro W0 hSw
            obtain ⟨s0, s1, s2, s3, s4, s5, s6, s7⟩ := hSw
            go_simp <;> with_reducible rfl
          simp only [Act.put, List.setIfInBounds_toArray, List.set_cons_zero, List.set_cons_succ]
          refine wpAnyH_take (i := 26) (oi := { dst := some 189, op := Op.indexAddr 23 (Operand.tmp 188) (Operand.const (Value.int IntKind.i64 6)), type := 0, pos := "ref.go:159", after := #[{ on := 25, ground := Ground.data }], guard := none }) (v := ?_) rfl (by kernel_rfl) (by kernel_rfl) (by kernel_rfl) (fun _ _ _ h => h) (Or.inl ⟨by rfl, ?_⟩) hHeld ?_
          rotate_left
          · intro W0 hSw
            obtain ⟨s0, s1, s2, s3, s4, s5, s6, s7⟩ := hSw
            go_simp <;> with_reducible rfl
          simp only [Act.put, List.setIfInBounds_toArray, List.set_cons_zero, List.set_cons_succ]
          refine wpAnyH_take (i := 27) (oi := { dst := some 190, op := Op.load 3 (Operand.tmp 189), type := 3, pos := "ref.go:159", after := #[{ on := 26, ground := Ground.data }], guard := none }) (v := ?_) rfl (by kernel_rfl) (by kernel_rfl) (by kernel_rfl) (fun _ _ _ h => h) (Or.inl ⟨by rfl, ?_⟩) hHeld ?_
          rotate_left
          · intro W0 hSw
            obtain ⟨s0, s1, s2, s3, s4, s5, s6, s7⟩ := hSw
            go_simp <;> with_reducible rfl
          simp only [Act.put, List.setIfInBounds_toArray, List.set_cons_zero, List.set_cons_succ]
          refine wpAnyH_ready (rs := [28]) (by kernel_rfl) (by simp) ?_
          refine AllReadyH.cons (o := { dst := some 191, op := Op.buildSlice 23 8 #[(0, Operand.tmp 166), (1, Operand.tmp 169), (2, Operand.tmp 172), (3, Operand.tmp 175), (4, Operand.tmp 181), (5, Operand.tmp 184), (6, Operand.tmp 187), (7, Operand.tmp 190)], type := 23, pos := "ref.go:159", after := #[{ on := 3, ground := Ground.data }, { on := 6, ground := Ground.data }, { on := 9, ground := Ground.data }, { on := 12, ground := Ground.data }, { on := 18, ground := Ground.data }, { on := 21, ground := Ground.data }, { on := 24, ground := Ground.data }, { on := 27, ground := Ground.data }], guard := none }) rfl (fun K hK => ?_) AllReadyH.nil
          go_simp
          refine hK.out _ _ (hS1 _) (fun hHeld => ?_)
          clear hK K
          try simp only [Act.put, List.setIfInBounds_toArray, List.set_cons_zero, List.set_cons_succ]
          refine wpAnyH_take (i := 29) (oi := { dst := some 14, op := Op.assign (Operand.tmp 191), type := 23, pos := "ref.go:159", after := #[{ on := 28, ground := Ground.data }, { on := 0, ground := Ground.phase }, { on := 1, ground := Ground.phase }, { on := 2, ground := Ground.phase }, { on := 3, ground := Ground.phase }, { on := 4, ground := Ground.phase }, { on := 5, ground := Ground.phase }, { on := 6, ground := Ground.phase }, { on := 7, ground := Ground.phase }, { on := 8, ground := Ground.phase }, { on := 9, ground := Ground.phase }, { on := 10, ground := Ground.phase }, { on := 11, ground := Ground.phase }, { on := 12, ground := Ground.phase }, { on := 13, ground := Ground.phase }, { on := 14, ground := Ground.phase }, { on := 15, ground := Ground.phase }, { on := 16, ground := Ground.phase }, { on := 17, ground := Ground.phase }, { on := 18, ground := Ground.phase }, { on := 19, ground := Ground.phase }, { on := 20, ground := Ground.phase }, { on := 21, ground := Ground.phase }, { on := 22, ground := Ground.phase }, { on := 23, ground := Ground.phase }, { on := 24, ground := Ground.phase }, { on := 25, ground := Ground.phase }, { on := 26, ground := Ground.phase }, { on := 27, ground := Ground.phase }, { on := 28, ground := Ground.phase }], guard := none }) (v := ?_) rfl (by kernel_rfl) (by kernel_rfl) (by kernel_rfl) (fun _ _ _ h => h) (Or.inl ⟨by rfl, ?_⟩) hHeld ?_
          rotate_left
          · intro W0 hSw
            obtain ⟨s0, s1, s2, s3, s4, s5, s6, s7⟩ := hSw
            go_simp <;> with_reducible rfl
          simp only [Act.put, List.setIfInBounds_toArray, List.set_cons_zero, List.set_cons_succ]
          refine wpAnyH_done (by kernel_rfl) ?_ _
          have HOn : OwnI (wq.alloc (.cells #[.int .i64 (na : Nat), .int .i64 (a : Nat), .int .i64 (b' : Nat), .int .i64 (c : Nat), .int .i64 (ne : Nat), .int .i64 (e : Nat), .int .i64 (f : Nat), .int .i64 (g : Nat)] 3)).drew wa.heap.size (.slice (some ⟨wq.heap.size, 0, none⟩) 8 8) (Sh.St.list ⟨na, a, b', c, ne, e, f, g⟩) :=
            ⟨rfl, .inr ⟨wq.heap.size, 8, _, rfl, Nat.le_trans hbsz hb.size, heap_alloc_new _ _, Nat.le_refl _, by decide, rfl, rfl⟩⟩
          have bn : Below wb.heap.size wb (wq.alloc (.cells #[.int .i64 (na : Nat), .int .i64 (a : Nat), .int .i64 (b' : Nat), .int .i64 (c : Nat), .int .i64 (ne : Nat), .int .i64 (e : Nat), .int .i64 (f : Nat), .int .i64 (g : Nat)] 3)).drew := (hb.alloc hb.size _).drew
          clear hS1 hHeld K9 hA hE
          go_wp2
          go_roundw
          case rel => exact ⟨t + 1, ⟨na, a, b', c, ne, e, f, g⟩, by omega, by go_num, by rw [Hid, HE.out, HRND.out], HOn, bn⟩
          case measure => simp [intOf]; omega
        · obtain rfl : t = 64 := by omega
          have HP : Hid (Sh.plus (Sh.rds st) (Sh.rn L (Sh.rds st) 64) = Sh.plus v0 u) := by rw [Hid, HV0.out, HU.out]
          obtain ⟨ga, capa, rfl, hga, hca⟩ := HGA.out
          have HCA := Lib.hid hca
          obtain ⟨gv, capv, rfl, hgvb, hgvz, hcv⟩ := HO.block (by simp [Sh.St.list])
          have hl8 : u.list.length = 8 := rfl
          rw [hl8] at HO ⊢
          have bw := bwb.trans (hb.mono bwb.size)
          have HA0 : ∀ j, j < 8 → wr.cell? ⟨ga, j, none⟩ = some (.int .i64 (v0.list.getD j 0 : Nat)) := fun j hj => (hb.cell (p := ⟨ga, j, none⟩) (show ga < wb.heap.size by omega)).trans (hca j hj)
          have HA1 := Lib.hid HA0
          have hwa : w.heap.size ≤ wa.heap.size := HSZA.out
          have hne : ¬ ga = gv := by omega
          clear hcv hca HCW HCK hb bwb HA0
          go_wp2_with fail
          go_loopw [22] (fun iv wr => ∃ i : Nat, i ≤ 8 ∧ iv = .int .i64 (i : Nat) ∧ OwnI wr wa.heap.size (.slice (some ⟨gv, 0, none⟩) 8 capv) ((Sh.plus v0 u).list.take i ++ u.list.drop i) ∧ Below w.heap.size w wr ∧ Hid (∀ j, j < 8 → wr.cell? ⟨ga, j, none⟩ = some (.int .i64 (v0.list.getD j 0 : Nat)))) (fun iv _ => 8 - (intOf iv).toNat)
          case atStart => exact ⟨0, by omega, rfl, HO, bw, HA1⟩
          case round =>
            obtain ⟨i, hi8, rfl, HO3, hb3, HA3⟩ := hrel
            clear HO bw HA1
            have HML : Hid (((Sh.plus v0 u).list.take i ++ u.list.drop i).length = 8) := by rw [Hid, List.length_append, List.length_take, List.length_drop, show (Sh.plus v0 u).list.length = 8 from rfl, show u.list.length = 8 from rfl]; omega
            by_cases hlt : i < 8
            · have hmix := mix_at (Sh.plus v0 u).list u.list 8 i rfl rfl hlt
              have hset := mix_set (Sh.plus v0 u).list u.list 8 i rfl rfl hlt
              have hpl : (Sh.plus v0 u).list.getD i 0 = (u.list.getD i 0 + v0.list.getD i 0) % 4294967296 := plus_at v0 u i hlt
              have ca := HA3.out i hlt
              obtain ⟨g', cap', e1, hgb3, hgz3, hc3⟩ := HO3.block (by rw [HML.out]; decide)
              rw [HML.out] at e1 hc3
              injection e1 with e1 _ e3
              injection e1 with e1
              injection e1 with e1
              subst e1 e3
              have cv := hc3 i hlt
              rw [hmix] at cv
              have hfz := HO3.frozen i
              have HOS := Lib.hid (HO3.set (x := (Sh.plus v0 u).list.getD i 0) i)
              rw [hset, hpl] at HOS
              have l1 : u.list.getD i 0 < 4294967296 := st_at HUO i
              have l2 : v0.list.getD i 0 < 4294967296 := st_at HO32 i
              clear hc3 hmix hset hpl
              generalize u.list.getD i 0 = x at *
              generalize v0.list.getD i 0 = y at *
              have cv' : wr.drew.cell? ⟨gv, i, none⟩ = some (.int .i64 (x : Nat)) := cv
              have ca' : wr.drew.cell? ⟨ga, i, none⟩ = some (.int .i64 (y : Nat)) := ca
              have hfz' : wr.drew.frozen? ⟨gv, i, none⟩ = false := hfz
              have hb' : Below w.heap.size w wr.drew := hb3.drew
              have HA' : Hid (∀ j, j < 8 → wr.drew.cell? ⟨ga, j, none⟩ = some (.int .i64 (v0.list.getD j 0 : Nat))) := HA3
              have HOS' : Hid (OwnI (wr.drew.setCell ⟨gv, i, none⟩ (.int .i64 (((x + y) % 4294967296 : Nat) : Int))) wa.heap.size (.slice (some ⟨gv, 0, none⟩) 8 capv) ((Sh.plus v0 u).list.take (i + 1) ++ u.list.drop (i + 1))) := HOS
              have hs1 : (IntKind.i64.wrap ((x : Int) + (y : Int))).tmod 4294967296 = (((x + y) % 4294967296 : Nat) : Int) := by
                rw [IntWalk.i64_in _ (by omega), ← Int.natCast_add]
                exact (Int.ofNat_tmod _ 4294967296).symm
              generalize (x + y) % 4294967296 = z at *
              have hi8' : (i : Int) < 8 := by omega
              go_wp2_with fail
              refine wp_region_still_tail 13 (by kernel_rfl) (by kernel_rfl) ?_
              change wpStill _ _ (World.drew _) (fun a' => wpList _ _ _ _ a' (World.drew _)) _ _
              generalize wr.drew = wx at *
              clear cv ca hfz hb3 HA3 HO3 HOS
              simp only [List.take_succ_cons, List.take_zero, List.drop_succ_cons, List.drop_zero]
              repeat still_step
              refine wpStill_nil ?_
              have HA4 : Hid (∀ j, j < 8 → (wx.setCell ⟨gv, i, none⟩ (.int .i64 (z : Nat))).cell? ⟨ga, j, none⟩ = some (.int .i64 (v0.list.getD j 0 : Nat))) := fun j hj =>
                (World.cell?_of_block (w := wx) (a := ⟨ga, j, none⟩) (heap_setCell_other _ _ _ _ (show ga ≠ gv from hne))).trans (HA'.out j hj)
              have b4 : Below w.heap.size w (wx.setCell ⟨gv, i, none⟩ (.int .i64 (z : Nat))) := hb'.setCell (show w.heap.size ≤ gv by omega) _
              go_wp2
              refine ⟨⟨_, _, _, _, _, _, _, _, _, _, _, _, _, _, _, _, _, _, ⟨i + 1, by omega, ?_, HOS'.out, b4, HA4⟩, rfl⟩, ?_⟩
              · go_num
              · simp [intOf]; omega
            · obtain rfl : i = 8 := by omega
              have e8 : (Sh.plus v0 u).list.take 8 ++ u.list.drop 8 = (Sh.plus v0 u).list := by rw [List.take_of_length_le (Nat.le_refl 8), List.drop_of_length_le (Nat.le_refl 8), List.append_nil]
              rw [e8] at HO3
              have HI := HO3.ints (by simp [Sh.St.list])
              have HPB := Lib.hid (st_mem (Sh.plus_ok v0 u))
              have HTX : Hid (bl (Sh.plus v0 u).list = Sh.txt (Sh.plus v0 u)) := Lib.hid rfl
              clear e8 HO3 HML
              go_wp2_with fail
              refine (bytes_any _ (Sh.plus v0 u).list wr HI HPB (by simp [Sh.St.list])).mono ?_
              rintro _ w9 ⟨rfl, hb9⟩
              have b9 := hb3.trans (hb9.mono hb3.size)
              rw [HTX.out]
              clear HI hb9 hb3 HPB HTX
              go_wp2
              go_ret
              exact ⟨by rw [HP.out]; rfl, b9⟩
end Go.Proofs.YtdjehpbkkbahcaaDoor

/- The document's answer: Pad. -/

namespace Go.Proofs.YtdjehpbkkbahcaaDoor
open Go.RowKit

theorem tmod_ne {x : Int} (h : ¬ x % 64 = 0) : (x.tmod 64 != 0) = true := by
  rw [bne_iff_ne]
  intro e
  exact h (Int.emod_eq_zero_of_dvd (Int.dvd_of_tmod_eq_zero e))
theorem tmod_eq {x : Int} (h : x % 64 = 0) : (x.tmod 64 != 0) = false := by
  rw [bne_eq_false_iff_eq]
  exact Int.tmod_eq_zero_of_dvd (Int.dvd_of_emod_eq_zero h)
theorem noughts_ne {n j : Nat} (hj : j < Sh.noughts n) : ¬ (wrap64 (wrap64 ((n : Int) + ((j : Int) + 1)) + 8)) % 64 = 0 := by
  unfold Sh.noughts at hj
  unfold wrap64
  omega
theorem noughts_eq {n j : Nat} (hj : j = Sh.noughts n) : (wrap64 (wrap64 ((n : Int) + ((j : Int) + 1)) + 8)) % 64 = 0 := by
  unfold Sh.noughts at hj
  unfold wrap64
  omega

set_option maxRecDepth 100000 in
set_option maxHeartbeats 1000000 in
theorem refPad_any (n : Nat) (w : World) (hn : n ≤ 9223372036854775807) :
    Calls Tryd.prog 67 #[.int .i64 n] w fun e w' => e = .returned (.string ⟨⟨Sh.pad n⟩⟩) ∧ Below w.heap.size w w' := by
  have hz64 : Sh.noughts n ≤ 64 := by unfold Sh.noughts; omega
  go_enter Tryd.func67, Tryd.ntmps67
  go_wp2_with fail
  have HO0 : OwnB (w.alloc (.cells #[.int .u8 ((128 : UInt8).toNat : Nat)] 5)) w.heap.size (.slice (some ⟨w.heap.size, 0, none⟩) 1 1) (128 :: List.replicate 0 0) :=
    ⟨by simp [bvals], .inr ⟨w.heap.size, 1, _, rfl, Nat.le_refl _, heap_alloc_new _ _, Nat.le_refl _, by decide, rfl, rfl⟩⟩
  go_loopw [3] (fun v wr => ∃ j : Nat, j ≤ Sh.noughts n ∧ OwnB wr w.heap.size v (128 :: List.replicate j 0) ∧ Below w.heap.size w wr) (fun v _ => 100 - (match v with | .slice _ l _ => l | _ => 0))
  case atStart => exact ⟨0, by omega, HO0, (Below.refl _ _).alloc (Nat.le_refl _) _⟩
  case round =>
    obtain ⟨j, hj, HO, hb⟩ := hrel
    obtain ⟨g, cap, cur, rfl, hgb, hcur, hcs⟩ := HO.form (by simp)
    have hzw := hb.size
    clear hcur hcs HO0
    by_cases hlt : j < Sh.noughts n
    · have hc := tmod_ne (noughts_ne hlt)
      have hl : (128 :: List.replicate j (0 : UInt8)).length = j + 1 := by simp
      have HL : Hid ((128 :: List.replicate j (0 : UInt8)).length ≤ 1000000) := by rw [Hid, hl]; omega
      rw [hl] at HO ⊢
      clear hl
      go_wp2_with (at_builtin; refine wpList_appB wr rfl (.tmp 15) (.tmp 16) rfl w.heap.size _ (128 :: List.replicate j 0) 0 rfl rfl HO HL.out hzw ?_)
      intro v2 w2 HO2 hb2
      have e1 : (128 :: List.replicate j (0 : UInt8)) ++ [0] = 128 :: List.replicate (j + 1) 0 := by rw [List.cons_append, List.replicate_succ']
      have HO3 : OwnB w2 w.heap.size v2 (128 :: List.replicate (j + 1) 0) := by rw [← e1]; simpa using HO2
      have b2 := hb.trans hb2
      obtain ⟨g2, cap2, cur2, rfl, _, _, _⟩ := HO3.form (by simp)
      have HO4 := Lib.hid HO3
      have hl2 : (128 :: List.replicate (j + 1) (0 : UInt8)).length = j + 2 := by simp
      rw [hl2]
      rw [hl2] at HO4
      clear HO2 HO3 HO e1 hl2
      go_wp2
      go_roundw
      case rel => exact ⟨j + 1, by omega, HO4.out, b2⟩
      case measure => simp; omega
    · obtain rfl : j = Sh.noughts n := by omega
      have hc := tmod_eq (noughts_eq (n := n) rfl)
      have hl : (128 :: List.replicate (Sh.noughts n) (0 : UInt8)).length = Sh.noughts n + 1 := by simp
      have HP : Hid (Sh.pad n = (128 :: List.replicate (Sh.noughts n) 0) ++ (Sh.cnt n).take 8) := by rw [Hid, List.take_of_length_le (by simp [Sh.cnt])]; rfl
      have HCS := Lib.hid (cnt_snoc n)
      have HLC : Hid (∀ k, ((128 :: List.replicate (Sh.noughts n) 0) ++ (Sh.cnt n).take k).length ≤ 100) := by
        intro k
        simp [Sh.cnt]
        omega
      have hcn : IntKind.u64.wrap ((n : Int) * 8) = ((8 * n % 18446744073709551616 : Nat) : Int) := by rw [IntKind.wrap_u64]; omega
      rw [hl] at HO ⊢
      clear hl hlt hj
      generalize 8 * n % 18446744073709551616 = c at *
      generalize Sh.noughts n = z at *
      generalize Sh.cnt n = L at *
      have HO' : OwnB wr w.heap.size (.slice (some ⟨g, 0, none⟩) (z + 1) cap) ((128 :: List.replicate z 0) ++ L.take 0) := by rw [List.take_zero, List.append_nil]; exact HO
      go_wp2_with fail
      go_loopw [3, 4] (fun v i wr => ∃ k : Nat, k ≤ 8 ∧ i = .int .i64 (7 - (k : Int)) ∧ OwnB wr w.heap.size v ((128 :: List.replicate z 0) ++ L.take k) ∧ Below w.heap.size w wr) (fun _ i _ => (intOf i + 1).toNat)
      case atStart => exact ⟨0, by omega, rfl, HO', hb⟩
      case round =>
        obtain ⟨k, hk, rfl, HO1, hb1⟩ := hrel
        clear HO HO' hb hc
        by_cases hlt : k < 8
        · obtain ⟨m, hm⟩ : ∃ m : Nat, m = 7 - k := ⟨_, rfl⟩
          have hmk : (7 - (k : Int)) = (m : Int) := by omega
          have hm7 : m ≤ 7 := by omega
          have hv : (c : Int) / 2 ^ (8 * m) % 256 = ((Sh.byt (c / 2 ^ (8 * m))).toNat : Nat) := by
            rw [Sh.byt, UInt8.toNat_ofNat']
            simp
          have HS := Lib.hid (HCS.out k hlt)
          rw [← hm] at HS
          have HL1 := Lib.hid (HLC.out k)
          have HM := Lib.hid hm
          rw [hmk]
          clear hmk hm
          generalize Sh.byt (c / 2 ^ (8 * m)) = d at *
          have hz1 := hb1.size
          go_wp2_with (at_builtin; refine wpList_appB wr rfl (.tmp 22) (.tmp 30) rfl w.heap.size _ _ d rfl rfl HO1 (by have := HL1.out; omega) hz1 ?_)
          intro v2 w2 HO2 hb2
          go_wp2
          go_roundw
          case rel => exact ⟨k + 1, by omega, by have := HM.out; go_num, by rw [HS.out]; simpa using HO2, hb1.trans hb2⟩
          case measure => simp [intOf]
        · obtain rfl : k = 8 := by omega
          have HL1 := Lib.hid (HLC.out 8)
          rw [← HP.out] at HO1 HL1
          have hpos : 0 < (Sh.pad n).length := by rw [HP.out]; simp
          generalize hpl : Sh.pad n = l at *
          have HPL := Lib.hid hpl
          clear hpl HP HCS HLC
          obtain ⟨g3, cap3, cur3, rfl, hgb3, hcur3, hcs3⟩ := HO1.form hpos
          have hcv := conv_any wr g3 cap3 l 5 (0, 0) cur3 hcur3 hcs3
          clear hcs3 hcur3
          rw [show (7 - ((8 : Nat) : Int)) = -1 by rfl]
          go_wp2
          go_ret
          exact ⟨by rw [HPL.out]; rfl, hb1⟩
end Go.Proofs.YtdjehpbkkbahcaaDoor

/- The document's answer: Block of any texts, SumBy, Sum. -/

namespace Go.Proofs.YtdjehpbkkbahcaaDoor
open Go.RowKit

set_option maxRecDepth 100000 in
theorem refBlock_no (vk : Value) (st b : List UInt8) (w : World) (h : ¬ (st.length = 32 ∧ b.length = 64)) :
    Calls Tryd.prog 68 #[vk, .string ⟨⟨st⟩⟩, .string ⟨⟨b⟩⟩] w fun e w' => e = .returned (.string ⟨⟨Sh.block st b⟩⟩) ∧ Below w.heap.size w w' := by
  have HE : Hid (Sh.block st b = []) := by rw [Hid, Sh.block, if_neg h]
  by_cases hs : st.length = 32
  · have hb : ¬ b.length = 64 := fun hb => h ⟨hs, hb⟩
    have e1 : ((st.length : Int) != 32) = false := by simp [hs]
    have e2 : ((b.length : Int) != 64) = true := by simp; omega
    clear hs hb h
    go_enter Tryd.func68, Tryd.ntmps68
    go_wp2
    go_ret
    exact ⟨by rw [HE.out]; rfl, Below.refl _ _⟩
  · have e1 : ((st.length : Int) != 32) = true := by simp; omega
    clear hs h
    go_enter Tryd.func68, Tryd.ntmps68
    go_wp2
    go_ret
    exact ⟨by rw [HE.out]; rfl, Below.refl _ _⟩

theorem wl16 (b : List UInt8) : wl b 16 = (Sh.sp b 64).take 16 := by
  rw [Sh.sp_take b 64 16 (by decide)]
  have h : ∀ n, n ≤ 16 → wl b n = Sh.sp b n := by
    intro n hn
    induction n with
    | zero => rfl
    | succ n ih => rw [wl_succ, ih (by omega), Sh.sp, if_pos (by omega)]
  exact h 16 (Nat.le_refl _)
theorem wl8 (st : List UInt8) : wl st 8 = (Sh.rds st).list := rfl

theorem refBlock_any (vk : Value) (st b : List UInt8) (w : World) (HK : Ints w vk Sh.KK) :
    Calls Tryd.prog 68 #[vk, .string ⟨⟨st⟩⟩, .string ⟨⟨b⟩⟩] w fun e w' => e = .returned (.string ⟨⟨Sh.block st b⟩⟩) ∧ Below w.heap.size w w' := by
  by_cases h : st.length = 32 ∧ b.length = 64
  · have hE : Sh.block st b = Sh.txt (Sh.plus (Sh.rds st) (Sh.rn (Sh.sp b 64) (Sh.rds st) 64)) := by rw [Sh.block, if_pos h, Sh.beh]
    rw [hE]
    exact refBlock_by vk st b (Sh.sp b 64) w HK (Lib.hid h.1) (Lib.hid h.2) (Lib.hid (Sh.sp_length b 64)) (Lib.hid (Sh.sp_lt b 64)) (Lib.hid (wl16 b)) (Lib.hid (wl8 st)) (Lib.hid fun t h1 h2 => by rw [Sh.sp_get b t h2, if_neg (by omega)])
  · exact refBlock_no vk st b w h

set_option maxRecDepth 100000 in
set_option maxHeartbeats 1000000 in
theorem refSumBy_any (vk : Value) (s : List UInt8) (w : World) (HK : Ints w vk Sh.KK) (hs : s.length ≤ 5000) :
    Calls Tryd.prog 59 #[vk, .string ⟨⟨Sh.txt Sh.start⟩⟩, .string ⟨⟨s⟩⟩] w fun e w' => e = .returned (.string ⟨⟨Sh.sum s⟩⟩) ∧ Below w.heap.size w w' := by
  have HPD := Lib.hid fun W => refPad_any s.length W (by omega)
  have hp1 := Sh.pad_le s.length
  have hp3 := Sh.pad_mod s.length
  have HSUM : Hid (Sh.sum s = Sh.txt (Sh.blocks Sh.start (s ++ Sh.pad s.length))) := Lib.hid rfl
  generalize Sh.pad s.length = pd at *
  have hap : ByteArray.mk ⟨s⟩ ++ ByteArray.mk ⟨pd⟩ = ⟨⟨s ++ pd⟩⟩ := app_str _ _
  have HTX : Hid (Sh.txt Sh.start = Sh.txt (Sh.thr Sh.start (s ++ pd) 0)) := by rw [Hid, Sh.thr]
  generalize htx : Sh.txt Sh.start = tx at *
  have HTX2 := Lib.hid htx
  clear htx
  go_enter Tryd.func59, Tryd.ntmps59
  go_wp2_with fail
  refine (HPD.out _).mono ?_
  rintro _ w1 ⟨rfl, hb1⟩
  have htl : (s ++ pd).length = s.length + pd.length := List.length_append
  have hl1 : s.length + pd.length ≤ 9223372036854775807 := by omega
  go_wp2_with fail
  generalize s ++ pd = t at *
  have ht6 : t.length % 64 = 0 := by rw [htl]; exact hp3
  have ht5 : t.length ≤ 6000 := by omega
  clear htl hap hp1 hp3 HPD hl1
  go_loopw [8, 9] (fun st i wr => ∃ k : Nat, k ≤ t.length / 64 ∧ i = .int .i64 ((k * 64 : Nat) : Int) ∧ st = .string ⟨⟨Sh.txt (Sh.thr Sh.start t k)⟩⟩ ∧ Below w.heap.size w wr) (fun _ i _ => t.length - (intOf i).toNat)
  case atStart => exact ⟨0, by omega, rfl, by rw [HTX.out], hb1⟩
  case round =>
    obtain ⟨k, hk, rfl, rfl, hb⟩ := hrel
    clear hb1
    by_cases hlt : k < t.length / 64
    · have HO := Sh.thr_ok Sh.start_ok t k
      have HE : Hid (Sh.block (Sh.txt (Sh.thr Sh.start t k)) ((t.drop (k * 64)).take 64) = Sh.txt (Sh.thr Sh.start t (k + 1))) := by
        rw [Hid, Sh.block_txt _ HO _ (by simp; omega), ← thr_succ]
      generalize htn : Sh.txt (Sh.thr Sh.start t (k + 1)) = tn at *
      have HTN := Lib.hid htn
      clear htn
      generalize Sh.txt (Sh.thr Sh.start t k) = tp at *
      obtain ⟨i, hi⟩ : ∃ i : Nat, i = k * 64 := ⟨_, rfl⟩
      rw [← hi] at HE ⊢
      have hi64 : i + 64 ≤ t.length := by omega
      have HI := Lib.hid hi
      have HCUT : Hid ((t.drop i).take (i + 64 - i) = (t.drop i).take 64) := by rw [Hid, Nat.add_sub_cancel_left]
      clear hi HO
      go_wp2_with fail
      rw [cut_str, HCUT.out]
      refine (refBlock_any vk tp _ wr (HK.below hb)).mono ?_
      rintro _ w4 ⟨rfl, hb4⟩
      rw [HE.out]
      have b4 := hb.trans (hb4.mono hb.size)
      clear hb4
      go_wp2
      go_roundw
      case rel => exact ⟨k + 1, by omega, by have := HI.out; go_num, by rw [HTN.out], b4⟩
      case measure => simp [intOf]; omega
    · obtain rfl : k = t.length / 64 := by omega
      have HBL : Hid (Sh.sum s = Sh.txt (Sh.thr Sh.start t (t.length / 64))) := HSUM
      generalize hfin : Sh.txt (Sh.thr Sh.start t (t.length / 64)) = tn at *
      have hi : t.length / 64 * 64 = t.length := by omega
      have hi2 : ((t.length / 64 * 64 : Nat) : Int) = (t.length : Int) := by rw [hi]
      rw [hi2]
      clear hi hi2 hfin HSUM
      go_wp2
      go_ret
      exact ⟨by rw [HBL.out]; rfl, hb⟩

end Go.Proofs.YtdjehpbkkbahcaaDoor

