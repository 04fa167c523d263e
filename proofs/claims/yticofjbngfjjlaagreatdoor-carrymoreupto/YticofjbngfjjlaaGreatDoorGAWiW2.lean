import Derived.Test.YticofjbngfjjlaaGreatDoorRows
import Derived.Test.YticofjbngfjjlaaGreatDoorGATmQ
import Derived.WalkKit
import Derived.Below
import Derived.BigQuiet
import Derived.Deep.QuietTactic
import Derived.Lib.Hide
import Derived.Lib.Strings
import Derived.Lib.Walk
import Derived.Lib.BufferWrite
import Derived.Lib.UnsafeStr
import Derived.Laws.MakeOwn
import Derived.Laws.BytesString
import Derived.Maps.AppendAt
import Derived.Deep.DeepFit
import Derived.Test.YticofjbngfjjlaaGreatDoorGATmW8
import Derived.Test.YticofjbngfjjlaaGreatDoorGAWiW1
import Derived.Deep.LoopGhost
import Derived.WalkSpells
namespace Go.Proofs.YticofjbngfjjlaaGreatDoor.Wi
open Go.RowKit
open Wr

theorem info5 : (Tryz.prog.info? 5).map (fun i => (i.zero, i.size, i.bytes)) = some (some (.int .u8 0), 1, 1) := by kernel_rfl
theorem cells5 : Tryz.prog.cellsOf 5 = 1 := by kernel_rfl

set_option maxHeartbeats 1000000 in
set_option maxRecDepth 100000 in
theorem clone_any (s : List UInt8) (w : World) (hs : s.length ≤ 100000) :
    Calls Tryz.prog 196 #[.string ⟨⟨s⟩⟩] w fun e w' => e = .returned (.string ⟨⟨s⟩⟩) ∧ Below w.heap.size w w' := by
  rcases s with _ | ⟨c, r⟩
  · go_enter Tryz.func196, Tryz.ntmps196
    go_wp2
    go_ret
    exact ⟨rfl, Below.refl _ _⟩
  · obtain ⟨s, hse⟩ : ∃ s, s = c :: r := ⟨_, rfl⟩
    rw [← hse] at hs ⊢
    have hpos : 0 < s.length := by rw [hse]; simp
    have hne : s ≠ [] := by rw [hse]; simp
    clear hse
    obtain ⟨i0, hi, hz0, hz1, hz2⟩ := info_parts info5
    have hin : (Tryz.prog.info? 5).map (·.size) = some 1 := by rw [hi]; simp [hz1]
    obtain ⟨M, hM⟩ : ∃ M, M = madeCells (Value.int .u8 0).cells (((s.length : Nat) : Int).toNat * i0.size) := ⟨_, rfl⟩
    have hMs : M.size = s.length := by rw [hM, size_madeCells, hz1]; simp
    have hmk : ∀ W : World, (Instr.makeSlice 31 (.int .i64 (s.length : Int)) (.int .i64 (s.length : Int))).run Tryz.prog W = .ok (.slice (some ⟨W.heap.size, 0, none⟩) s.length s.length) (W.alloc (.cells M 5)) := fun W => by
      have h := run_make (P := Tryz.prog) W 31 5 i0 (.int .u8 0) Tryz.underlying31 hi hz0 .i64 .i64 (s.length : Int) (s.length : Int) (by omega) (by omega) (by rw [hz2]; omega) (by omega)
      rw [← hM] at h
      simpa using h
    have HM := Lib.hid hM
    clear hM
    have hcp := Lib.run_copy_row_string (P := Tryz.prog) (w.alloc (.cells M 5)) 31 9 3 5 w.heap.size 0 s.length s.length ⟨⟨s⟩⟩ M 5 Tryz.underlying31 hin (heap_alloc_new w _) (Nat.le_refl _) (by show 0 + s.length ≤ _; omega)
    simp only [show (ByteArray.mk ⟨s⟩).size = s.length from rfl] at hcp
    obtain ⟨Y, hY⟩ : ∃ Y, Y = (M.toList.take 0 ++ Lib.byteCells s ++ M.toList.drop (0 + s.length)).toArray := ⟨_, rfl⟩
    rw [← hY] at hcp
    have hYl : Y.toList = Lib.byteCells s := by
      rw [hY, List.toList_toArray, List.take_zero, List.nil_append, List.drop_of_length_le (by rw [Array.length_toList]; omega), List.append_nil]
    have hYs : Y.size = s.length := by rw [← Array.length_toList, hYl, Lib.byteCells_length]
    have hgY : ((w.alloc (.cells M 5)).setRow w.heap.size Y).heap[w.heap.size]? = some (.cells Y 5 (0, 0)) := setRow_heap _ _ M _ 5 (0, 0) (heap_alloc_new w _)
    have hUS := Lib.run_unsafeString_row (P := Tryz.prog) ((w.alloc (.cells M 5)).setRow w.heap.size Y) 195 3 9 5 Tryz.underlying195 cells5 w.heap.size Y.size (by unfold World.shape?; rw [hgY]) s hne (by omega) (by omega)
      (fun j x hx => Lib.cells_of_row hgY Y.size j _ (by rw [List.take_of_length_le (by rw [Array.length_toList]; exact Nat.le_refl _), hYl]; simp [Lib.byteCells, hx]))
    clear hY hYl hYs hgY
    go_enter Tryz.func196, Tryz.ntmps196
    go_wp2
    go_ret
    have hb1 : Below w.heap.size w (w.alloc (.cells M 5)) := (Below.refl _ w).alloc (Nat.le_refl _) _
    have hb2 : Below w.heap.size (w.alloc (.cells M 5)) ((w.alloc (.cells M 5)).setRow w.heap.size Y) := ⟨rfl, rfl, rfl, by simp, fun k hk => setRow_other _ _ _ _ (by omega)⟩
    exact ⟨rfl, Lib.below_freeze (hb1.trans hb2) (p := ⟨w.heap.size, 0, none⟩) (Nat.le_refl _) _⟩

set_option maxHeartbeats 400000 in
set_option maxRecDepth 100000 in
theorem sclone_any (s : List UInt8) (w : World) (hs : s.length ≤ 100000) :
    Calls Tryz.prog 169 #[.string ⟨⟨s⟩⟩] w fun e w' => e = .returned (.string ⟨⟨s⟩⟩) ∧ Below w.heap.size w w' := by
  go_enter Tryz.func169, Tryz.ntmps169
  go_wp2_with (go_at_call 196; refine (clone_any _ _ hs).mono ?_; rintro e w' ⟨rfl, hb⟩)
  go_ret
  exact ⟨rfl, hb⟩

set_option maxHeartbeats 400000 in
set_option maxRecDepth 100000 in
theorem within_any (a d n : Int) (w : World) (ha : 0 ≤ a) (ha' : a ≤ 200000) (hd : 0 ≤ d) (hd' : d ≤ 200000) (hn : 0 ≤ n) (hn' : n ≤ 200000) :
    Calls Tryz.prog 171 #[.agg #[.int .i64 a, .int .i64 d], .int .i64 n] w fun e w' => e = .returned (.agg #[.int .i64 (a + n), .int .i64 (d + 1)]) ∧ Below w.heap.size w w' := by
  go_enter Tryz.func171, Tryz.ntmps171
  go_wp2
  exact bodyPost_ret (v := .agg #[.int .i64 (a + n), .int .i64 (d + 1)]) (by simp [results, Tryz.results171, go_sem]) rfl ⟨rfl, ((Below.refl _ _).alloc (Nat.le_refl _) _).alloc (by simp) _⟩

set_option maxHeartbeats 400000 in
set_option maxRecDepth 100000 in
theorem tagByte_any (n : Bool) (t : Int) (s : ByteArray) (L : Value) (w : World) (ht : 1 ≤ t) (ht' : t < 128) :
    Calls Tryz.prog 160 #[.agg #[.bool n, .int .i64 t, .string s, L]] w fun e w' => e = .returned (.int .u8 (tb n t).toNat) ∧ Below w.heap.size w w' := by
  have h1 : ((tb true t).toNat : Int) = t + 128 := by simp [tb]; omega
  have h2 : ((tb false t).toNat : Int) = t := by simp [tb]; omega
  cases n
  · have H := Lib.hid h2
    clear h1 h2
    go_enter Tryz.func160, Tryz.ntmps160
    go_wp2
    go_ret
    exact ⟨by rw [H.out]; go_num, (Below.refl _ _).alloc (Nat.le_refl _) _⟩
  · have H := Lib.hid h1
    clear h1 h2
    go_enter Tryz.func160, Tryz.ntmps160
    go_wp2
    go_ret
    exact ⟨by rw [H.out]; go_num, (Below.refl _ _).alloc (Nat.le_refl _) _⟩
end Go.Proofs.YticofjbngfjjlaaGreatDoor.Wi


namespace Go.Proofs.YticofjbngfjjlaaGreatDoor.Wi
open Go.RowKit
open Wr

/-- What a call made lies behind block number B. -/
def New (B : Nat) (w : World) (b : Nat) : Prop := B ≤ b ∧ b < w.heap.size

/-- read, with f levels left, where an error is answered. -/
def ReadErr (f : Nat) : Prop := ∀ (d a : Nat) (di ai : Int) (s : List UInt8) (w : World) (x : Int), d + f = 33 → di = d → ai = a → s.length ≤ 65536 → a ≤ 65536 → rd f s a = .error x →
  Calls Tryz.prog 139 #[.string ⟨⟨s⟩⟩, .agg #[.int .i64 ai, .int .i64 di]] w fun e w' => e = .returned (.tuple #[.agg #[.bool false, .int .i64 0, .string ⟨⟨[]⟩⟩, .slice none 0 0], .int .i64 0, .int .i64 x]) ∧ Below w.heap.size w w'

/-- What read leaves where it answers an item. -/
def ReadPost (x : It) (n : Nat) (w : World) (e : Ending) (w' : World) : Prop :=
  ∃ v0 v1 v2 v3, e = .returned (.tuple #[.agg #[v0, v1, v2, v3], .int .i64 n, .int .i64 0]) ∧ Rep w' (New w.heap.size w') x (.agg #[v0, v1, v2, v3]) ∧ Below w.heap.size w w'

def ReadOk (f : Nat) : Prop := ∀ (d a : Nat) (di ai : Int) (s : List UInt8) (w : World) (x : It) (n : Nat), d + f = 33 → di = d → ai = a → s.length ≤ 65536 → a ≤ 65536 → rd f s a = .ok (x, n) →
  Calls Tryz.prog 139 #[.string ⟨⟨s⟩⟩, .agg #[.int .i64 ai, .int .i64 di]] w (ReadPost x n w)

theorem info24 : (Tryz.prog.info? 64).map (fun i => (i.zero, i.size, i.bytes)) = some (some zeroItem, 4, 56) := by kernel_rfl

/-- What readAll answers. -/
def RaPost (r : Except Int (List It)) (w : World) (e : Ending) (w' : World) : Prop :=
  match r with
  | .error x => e = .returned (.tuple #[.slice none 0 0, .int .i64 x]) ∧ Below w.heap.size w w'
  | .ok l => ∃ A cap, e = .returned (.tuple #[.slice A l.length cap, .int .i64 0]) ∧ Row w' (New w.heap.size w') l A ∧ Below w.heap.size w w'

/-- What holds at the head of readAll's loop. -/
def RaRel (r : Except Int (List It)) (f : Nat) (di : Int) (w : World) (sv lv : Value) (wr : World) : Prop :=
  ∃ (s : List UInt8) (a g n : Nat) (l : List It) (xs : List Value) (A : Option Addr) (cap : Nat) (ai : Int), sv = .string ⟨⟨s⟩⟩ ∧ lv = .slice A n cap ∧ ai = a ∧ s.length ≤ g ∧ s.length + a ≤ 65536 ∧ l.length = n ∧ n + s.length ≤ 65536 ∧
    r = pre l (rda (rd f) g s a) ∧ Below w.heap.size w wr ∧ w.heap.size < wr.heap.size ∧
    wr.heap[w.heap.size]? = some (.cells #[.int .i64 ai, .int .i64 di] 145 (0, 0)) ∧ wr.ownsRow (w.heap.size + 1) 64 4 (.slice A n cap) n xs ∧
    Els wr (fun b => w.heap.size < b ∧ b < wr.heap.size ∧ some b ≠ (Value.slice A n cap).ownBlock) l xs

theorem cut_str (l : List UInt8) (i j : Nat) : (ByteArray.mk ⟨l⟩).extract i j = ⟨⟨(l.drop i).take (j - i)⟩⟩ := by
  apply ByteArray.ext
  rw [ByteArray.data_extract]
  apply Array.ext'
  simp [List.extract_eq_take_drop]

/-- The length of a text in a slot. -/
def strLen : Value → Nat | .string b => b.size | _ => 0

theorem grown_of_below {w w' : World} (h : Below w.heap.size w w') (row : Option Nat) : w.grownBy w' row := ⟨h.os, h.tape, h.output, h.size, fun k hk _ => h.block k hk⟩

theorem box_cell {w : World} {g : Nat} {u v : Value} {t : TypeId} (h : w.heap[g]? = some (.cells #[u, v] t (0, 0))) : w.cell? ⟨g, 0, none⟩ = some u ∧ w.cell? ⟨g, 1, none⟩ = some v ∧ w.frozen? ⟨g, 0, none⟩ = false :=
  ⟨by rw [cell_of_row w g 0 _ _ _ h]; rfl, by rw [cell_of_row w g 1 _ _ _ h]; rfl, by simp [World.frozen?, h]⟩

theorem box_set {w : World} {g : Nat} {u v u' : Value} {t : TypeId} (h : w.heap[g]? = some (.cells #[u, v] t (0, 0))) : (w.setCell ⟨g, 0, none⟩ u').heap[g]? = some (.cells #[u', v] t (0, 0)) := by
  simp [World.setCell, Array.getElem?_modify, h]

theorem cell_four_new (w : World) (v0 v1 v2 v3 : Value) (t : TypeId) : ∀ j u, [v0, v1, v2, v3][j]? = some u → (w.alloc (.cells #[v0, v1, v2, v3] t)).cell? ((⟨w.heap.size, 0, none⟩ : Addr).add j) = some u := by
  intro j u hj
  rw [Addr.add_lit, cell_of_row _ _ _ _ _ _ (heap_alloc_new w _)]
  simpa using hj

set_option maxHeartbeats 1000000 in
set_option maxRecDepth 100000 in
theorem readAll_any (f : Nat) (he : ReadErr f) (ho : ReadOk f) (d a : Nat) (di ai : Int) (s : List UInt8) (w : World) (hd : d + f = 33) (hdi : di = d) (hai : ai = a) (hs : s.length + a ≤ 65536) :
    Calls Tryz.prog 170 #[.string ⟨⟨s⟩⟩, .agg #[.int .i64 ai, .int .i64 di]] w (RaPost (rda (rd f) s.length s a) w) := by
  have HD := Lib.hid hdi
  have HA := Lib.hid hai
  clear hdi hai
  obtain ⟨i0, hi, hz0, hz1, hz2⟩ := info_parts info24
  have HI := Lib.hid hi
  have HZ0 := Lib.hid hz0
  have HZ1 := Lib.hid hz1
  have HZ2 := Lib.hid hz2
  clear hi hz0 hz1 hz2
  go_enter Tryz.func170, Tryz.ntmps170
  go_wp2
  go_loopw [0, 6] (fun sv lv wr => RaRel (rda (rd f) s.length s a) f di w sv lv wr) (fun sv _ _ => strLen sv)
  case atStart =>
    exact ⟨s, a, s.length, 0, [], [], none, 0, ai, rfl, rfl, HA.out, Nat.le_refl _, hs, rfl, by omega, (pre_nil _).symm, (Below.refl _ _).alloc (Nat.le_refl _) _, by simp, heap_alloc_new w _, World.ownsRow_nil _ _ _ _, by rw [Els]⟩
  case round =>
    obtain ⟨s', a', g, n, l, xs, A, cap, ai', rfl, rfl, hai', hg, hsa, hl, hn, hr, hb, hsz, hbox, hown, hels⟩ := hrel
    have HR := Lib.hid hr
    have HAI := Lib.hid hai'
    have HL := Lib.hid hl
    have HBX := Lib.hid hbox
    obtain ⟨hc0, hc1, hfz⟩ := box_cell hbox
    have hai1 : 0 ≤ ai' ∧ ai' ≤ 65536 := by omega
    clear hr hai' hl hbox
    rcases s' with _ | ⟨b, s'⟩
    · go_wp2
      go_ret2
      have hr := HR.out
      rw [rda_nil] at hr
      simp only [pre, List.append_nil] at hr
      rw [hr]
      obtain rfl := HL.out
      refine ⟨A, cap, rfl, row_of_own hown (els_keep (fun b hb => ⟨by omega, hb.2.1⟩) (fun _ _ _ => rfl) _ _ hels) rfl fun b hb' => ?_, hb⟩
      have := hown.lt b hb'
      exact ⟨by omega, this.2⟩
    · have hlen : 0 < (b :: s').length := by simp
      cases hR : rd f (b :: s') a' with
      | error x =>
        have hx := rd_err _ _ _ _ hR
        have hx0 : (x != 0) = true := by simp; omega
        have hfin : rda (rd f) s.length s a = .error (if x = 10 then 13 else x) := by
          rw [HR.out]
          cases g with
          | zero => simp at hg
          | succ g => rw [rda_err hR]; rfl
        have HF := Lib.hid hfin
        have HRR := Lib.hid hR
        clear hfin hR
        by_cases hx10 : x = 10
        · subst hx10
          go_wp2_with fail
          refine (he d a' di ai' _ _ 10 hd HD.out HAI.out (by omega) (by omega) HRR.out).mono ?_
          rintro e w1 ⟨rfl, hb1⟩
          go_wp2
          go_ret2
          rw [HF.out]
          exact ⟨rfl, (hb.trans (hb1.mono hb.size)).alloc (by have := hb.size; have := hb1.size; omega) _⟩
        · have h10 : (x == 10) = false := by simp [hx10]
          have HX := Lib.hid hx10
          clear hx10
          go_wp2_with fail
          refine (he d a' di ai' _ _ x hd HD.out HAI.out (by omega) (by omega) HRR.out).mono ?_
          rintro e w1 ⟨rfl, hb1⟩
          go_wp2
          go_ret2
          rw [HF.out, if_neg HX.out]
          exact ⟨rfl, (hb.trans (hb1.mono hb.size)).alloc (by have := hb.size; have := hb1.size; omega) _⟩
      | ok p =>
        obtain ⟨x, m⟩ := p
        have hbd := rd_bound hR
        have HRR := Lib.hid hR
        clear hR
        go_wp2_with fail
        refine (ho d a' di ai' _ _ x m hd HD.out HAI.out (by omega) (by omega) HRR.out).mono ?_
        rintro e w1 ⟨v0, v1, v2, v3, rfl, hrep, hb1⟩
        obtain ⟨xn, xt, xs0, xl⟩ := x
        obtain ⟨A', cap', hv, hrow⟩ := rep_mk.1 hrep
        injection hv with hv
        simp at hv
        obtain ⟨rfl, rfl, rfl, rfl⟩ := hv
        have hw1 : wr.heap.size ≤ w1.heap.size := hb1.size
        obtain ⟨O, hO⟩ : ∃ O, O = Obj.cells #[.bool xn, .int .i64 xt, .string ⟨⟨xs0⟩⟩, .slice A' xl.length cap'] 64 := ⟨_, rfl⟩
        have HOW : Hid (((w1.alloc O).alloc O).ownsRow (w.heap.size + 1) 64 4 (.slice A n cap) n xs) := ((hown.kept (grown_of_below hb1 none) (by cases h : (Value.slice A n cap).ownBlock <;> simp)).alloc _).alloc _
        have HNW : Hid (∀ j u, [Value.bool xn, .int .i64 xt, .string ⟨⟨xs0⟩⟩, .slice A' xl.length cap'][j]? = some u → ((w1.alloc O).alloc O).cell? ((⟨w1.heap.size + 1, 0, none⟩ : Addr).add j) = some u) := by
          have h := cell_four_new (w1.alloc O) (.bool xn) (.int .i64 xt) (.string ⟨⟨xs0⟩⟩) (.slice A' xl.length cap') 64
          rw [← hO, show (w1.alloc O).heap.size = w1.heap.size + 1 by simp] at h
          exact h
        have HCX : Hid (((w1.alloc O).alloc O).heap[w.heap.size]? = wr.heap[w.heap.size]?) := by
          show _ = _
          rw [Below.heap_alloc _ _ _ (by simp; omega), Below.heap_alloc _ _ _ (by omega), hb1.block _ hsz]
        subst hO
        have hnl : n ≤ 65536 := by omega
        clear hc0 hc1 hfz
        have hml : m ≤ s'.length + 1 := by simpa using hbd.2.1
        go_wp2_with (
          at_builtin
          go_must (
            refine wpList_append_own_at _ rfl (.tmp 24) (.tmp 26) 62 rfl (w.heap.size + 1) 64 i0 zeroItem 4 56 Tryz.underlying62 HI.out HZ0.out HZ1.out HZ2.out rfl (by omega) (.slice A n cap) n xs rfl HOW.out ⟨w1.heap.size + 1, 0, none⟩ 1 1 _ rfl rfl HNW.out (by simp [Value.oneCell']) (by simp only [maxLen]; omega) (by omega) (by simp; omega) ?_
            intro lv w2 hown2 hg2 _ hat
            have HG2 := Lib.hid hg2
            have HAT := Lib.hid hat
            have HO2 := Lib.hid hown2
            have hbox2 : w2.heap[w.heap.size]? = some (.cells #[.int .i64 ai', .int .i64 di] 145 (0, 0)) := by
              rw [hg2.block _ (by simp; omega) (fun e => by have := hown.lt _ e.symm; omega), HCX.out, HBX.out]
            have HB2 := Lib.hid hbox2
            obtain ⟨hc0, hc1, hfz⟩ := box_cell hbox2
            clear hg2 hat hbox2 hown2))
        rw [cut_str, List.take_of_length_le (by simp)]
        have hs2 : ((b :: s').drop m).length + m = (b :: s').length := by rw [List.length_drop]; omega
        refine ⟨?_, by simp only [strLen]; show ((b :: s').drop m).length < (b :: s').length; omega⟩
        have hg2 := HG2.out
        have hown2 := HO2.out
        have hl1 : 0 < w1.heap.size := by omega
        have hsz2 : w1.heap.size + 2 ≤ w2.heap.size := by have := hg2.size; simpa using this
        obtain ⟨A2, cap2, rfl⟩ : ∃ A2 cap2, lv = .slice A2 (n + 1) cap2 := by
          rcases hown2.2 with ⟨_, h⟩ | ⟨g, cap, cur, h, _⟩
          · omega
          · exact ⟨_, _, h⟩
        have hblk : ∀ c, some c = (Value.slice A n cap).ownBlock → w.heap.size < c := fun c hc => by have := hown.lt c hc.symm; omega
        have hcell : ∀ c o, w.heap.size < c ∧ c < w1.heap.size → some c ≠ (Value.slice A n cap).ownBlock → (w2.setCell ⟨w.heap.size, 0, none⟩ (.int .i64 (ai' + m))).cell? ⟨c, o, none⟩ = w1.cell? ⟨c, o, none⟩ := by
          intro c o hc hne
          refine World.cell?_of_block ?_
          rw [Below.heap_setCell _ _ _ _ (by show c ≠ w.heap.size; omega), hg2.block c (by simp; omega) hne, Below.heap_alloc _ _ _ (by simp; omega), Below.heap_alloc _ _ _ (by omega)]
        have hown3 : ∀ c, some c = (Value.slice A2 (n + 1) cap2).ownBlock → c < w1.heap.size → some c = (Value.slice A n cap).ownBlock := by
          intro c hc hlt
          rcases HAT.out with h | h
          · rw [← h]; exact hc
          · rw [h] at hc
            injection hc with hc
            simp at hc
            omega
        refine ⟨(b :: s').drop m, a' + m, g - 1, n + 1, l ++ [.mk xn xt xs0 xl], xs ++ [.bool xn, .int .i64 xt, .string ⟨⟨xs0⟩⟩, .slice A' xl.length cap'], A2, cap2, ai' + m, rfl, rfl, by have := HAI.out; omega, by omega, by omega, by have := HL.out; simp; omega, by omega, ?_, ?_, by simp [World.setCell]; omega, box_set HB2.out, ?_, ?_⟩
        · obtain ⟨g', rfl⟩ : ∃ g', g = g' + 1 := ⟨g - 1, by simp at hg; omega⟩
          rw [HR.out, rda_ok HRR.out, pre_pre]
          rfl
        · refine Below.setCell (p := ⟨w.heap.size, 0, none⟩) ?_ (Nat.le_refl w.heap.size) _
          refine Below.grown (((hb.trans (hb1.mono hb.size)).alloc (by have := hb.size; omega) _).alloc (by have := hb.size; simp; omega) _) hg2 (by have := hb.size; simp; omega) fun k hk => ?_
          have := hblk k hk.symm
          omega
        · exact ownsRow_setCell_below hown2 (Nat.lt_succ_self _) _
        · refine els_snoc ?_ _ _ ?_
          · refine rep_keep (S := New wr.heap.size w1) (w := w1) ?_ ?_ _ _ hrep
            · intro c hc
              refine ⟨by have := hc.1; omega, by have := hc.2; simp [World.setCell]; omega, fun e => ?_⟩
              have := hown.lt c (hown3 c e hc.2).symm
              have := hc.1
              omega
            · intro c o hc
              refine hcell c o ⟨by have := hc.1; omega, hc.2⟩ fun e => ?_
              have := hown.lt c e.symm
              have := hc.1
              omega
          · refine els_keep (w := wr) ?_ ?_ _ _ hels
            · intro c hc
              refine ⟨hc.1, by have := hc.2.1; simp [World.setCell]; omega, fun e => hc.2.2 (hown3 c e (by omega))⟩
            · intro c o hc
              rw [hcell c o ⟨hc.1, by have := hc.2.1; omega⟩ hc.2.2]
              exact hb1.cell (p := ⟨c, o, none⟩) hc.2.1
end Go.Proofs.YticofjbngfjjlaaGreatDoor.Wi

