/- Swap, Expand. -/
import Derived.Test.YticofjbngfjjlaaGreatDoorGAAeW6
import Derived.Test.YticofjbngfjjlaaGreatDoorGAShaW3
import Derived.Test.YticofjbngfjjlaaGreatDoorGAAePureC
namespace Go.Proofs.YticofjbngfjjlaaGreatDoor
open Go.RowKit

set_option maxRecDepth 100000 in
/-- A table of its own, made by a call and laid into a new block. -/
theorem infoSB : (Tryz.prog.info? 199).map (·.size) = some (bcells Ae.SB).size := by rw [infoA256, bcells_size, SB_length]
theorem sizeSB : (bcells (List.replicate 256 0)).size = (bcells Ae.SB).size := by rw [noughts_size, bcells_size, SB_length]
theorem tabNew (W : World) : TabAt (W.alloc (.cells (bcells Ae.SB) 199)) W.heap.size := heap_alloc_new W _

end Go.Proofs.YticofjbngfjjlaaGreatDoor

/- Encrypt. -/

namespace Go.Proofs.YticofjbngfjjlaaGreatDoor
open Go.RowKit

/-- A whole array loaded, in the head of a region that draws its order. -/
theorem wpStill_load_row {P : Program} {ops : Array Oper} {rest : List Oper} {o : Oper} {a : Act} {w : World} {Q : Act → Prop} (hgd : o.guard = none) (ty : TypeId) (x : Operand) (ho : o.op = .load ty x)
    (g : Nat) (hx : a.eval x = .pointer (some ⟨g, 0, none⟩)) (t : TypeId) (cs : Array Value) (fr : Nat × Nat) (d : TypeDesc) (hg : w.heap[g]? = some (.cells cs t fr))
    (hu : P.underlying ty = some d) (hd : (match d with | .struct _ | .array _ _ => true | _ => false) = true) (hi : (P.info? ty).map (·.size) = some cs.size)
    (h : wpStill P ops w Q rest (a.put o.dst (.agg cs))) : wpStill P ops w Q (o :: rest) a :=
  wpStill_step fun K hK => by
    simp only [Region.wanted, hgd, if_true]
    unfold Oper.still execOp
    simp only [ho, hx, Instr.loadAt, Instr.sureAddr, Sem.run_bind, Sem.run_pure, Result.andThen, run_loadVar_row w g t ty cs fr d hg hu hd hi, Oper.stillUpon]
    exact ⟨trivial, hK _ h⟩

/-- The table in block a, all keys in block b, the state in block c. -/
structure AtRound (w wr : World) (a b c : Nat) (E s : List UInt8) : Prop where
  below : Below w.heap.size w wr
  la : w.heap.size ≤ a
  lb : a < b
  lc : b < c
  tab : TabAt wr a
  keys : wr.heap[b]? = some (.cells (bcells E) 201 (0, 0))
  state : wr.heap[c]? = some (.cells (bcells s) 205 (0, 0))
theorem AtRound.size {w wr : World} {a b c : Nat} {E s : List UInt8} (h : AtRound w wr a b c E s) : c < wr.heap.size := (Array.getElem?_eq_some_iff.1 h.state).1
theorem AtRound.drew {w wr : World} {a b c : Nat} {E s : List UInt8} (h : AtRound w wr a b c E s) : AtRound w wr.drew a b c E s := ⟨h.below.drew, h.la, h.lb, h.lc, h.tab, h.keys, h.state⟩
/-- Behind a call. -/
theorem AtRound.on {w wr w' : World} {a b c : Nat} {E s : List UInt8} (h : AtRound w wr a b c E s) (hb : Below wr.heap.size wr w') : AtRound w w' a b c E s := by
  have hs := h.size
  have h1 := h.lb
  have h2 := h.lc
  exact ⟨h.below.trans (hb.mono h.below.size), h.la, h.lb, h.lc, h.tab.below (by omega) hb, by rw [hb.block _ (by omega)]; exact h.keys, by rw [hb.block _ (by omega)]; exact h.state⟩
/-- With another state. -/
theorem AtRound.put {w wr : World} {a b c : Nat} {E s : List UInt8} (h : AtRound w wr a b c E s) (s' : List UInt8) : AtRound w (wr.setRow c (bcells s')) a b c E s' := by
  have h1 := h.lb
  have h2 := h.lc
  have h0 := h.la
  refine ⟨below_setRow' h.below (by omega) _, h.la, h.lb, h.lc, ?_, ?_, setRow_heap _ _ _ _ _ _ h.state⟩
  · show (wr.setRow c (bcells s')).heap[a]? = _
    rw [setRow_other _ _ _ _ (by omega)]
    exact h.tab
  · rw [setRow_other _ _ _ _ (by omega)]
    exact h.keys
theorem AtRound.key {w wr : World} {a b c : Nat} {E s : List UInt8} (h : AtRound w wr a b c E s) (hE : E.length = 176) (i lo : Nat) (hlo : lo = 16 * i) (hi : i ≤ 10) : ∀ j, j < 16 → wr.cell? ⟨b, lo + j, none⟩ = some (.int .u8 (((Ae.key16 E i).getD j 0).toNat : Nat)) := fun j hj => bget h.keys (by omega) _ (by
  subst hlo
  rw [Ae.key16, List.getD_eq_getElem?_getD, List.getD_eq_getElem?_getD, List.getElem?_take, if_pos hj, List.getElem?_drop])
set_option maxRecDepth 100000 in
theorem info16 (s : List UInt8) (h : s.length = 16) : (Tryz.prog.info? 205).map (·.size) = some (bcells s).size := by rw [infoA16, bcells_size, h]
theorem same16 {s t : List UInt8} (h : s.length = 16) (h' : t.length = 16) : (bcells s).size = (bcells t).size := by rw [bcells_size, bcells_size, h, h']

set_option maxRecDepth 100000 in
theorem Encrypt_no (k b : List UInt8) (w : World) (h : k.length ≠ 16 ∨ b.length ≠ 16) :
    Calls Tryz.prog 208 #[.string ⟨⟨k⟩⟩, .string ⟨⟨b⟩⟩] w fun e w' => e = .returned (.string ⟨⟨[]⟩⟩) ∧ w = w' := by
  by_cases hk : k.length = 16
  · have hb : b.length ≠ 16 := by omega
    have e1 : ((k.length : Int) != 16) = false := by simp [hk]
    have e2 : (k.length != 16) = false := by simp [hk]
    have e3 : ((b.length : Int) != 16) = true := by simp; omega
    have e4 : (b.length != 16) = true := by simpa using hb
    clear h hk hb
    go_enter Tryz.func208, Tryz.ntmps208
    go_wp2
    go_ret
    exact ⟨rfl, rfl⟩
  · have e1 : ((k.length : Int) != 16) = true := by simp; omega
    have e2 : (k.length != 16) = true := by simpa using hk
    clear h hk
    go_enter Tryz.func208, Tryz.ntmps208
    go_wp2
    go_ret
    exact ⟨rfl, rfl⟩

set_option maxRecDepth 100000 in
set_option maxHeartbeats 1000000 in
theorem Encrypt_yes (k b : List UInt8) (w : World) (hk : k.length = 16) (hb : b.length = 16) :
    Calls Tryz.prog 208 #[.string ⟨⟨k⟩⟩, .string ⟨⟨b⟩⟩] w fun e w' => e = .returned (.string ⟨⟨Ae.enc k b⟩⟩) ∧ Below w.heap.size w w' := by
  have e1 : ((k.length : Int) != 16) = false := by simp [hk]
  have e2 : (k.length != 16) = false := by simp [hk]
  have e3 : ((b.length : Int) != 16) = false := by simp [hb]
  have e4 : (b.length != 16) = false := by simp [hb]
  have HSW := Lib.hid swaps_any
  have hz := zeroA256
  have hz2 := zeroA176
  have hne := noughtsA_ne 256 (by decide)
  have hne2 := noughtsA_ne 176 (by decide)
  have HZ := Lib.hid sizeSB
  have HI := Lib.hid infoSB
  have HONE := Lib.hid (bcells_one Ae.SB)
  have HTN := Lib.hid tabNew
  have HEX := Lib.hid fun gt W (ht : TabAt W gt) => expanded_any k gt W hk ht
  have HL := Lib.hid (Ae.ex_length k hk)
  have HI2 : Hid ((Tryz.prog.info? 201).map (·.size) = some (bcells (Ae.ex k)).size) := by rw [Hid, infoA176, bcells_size, HL.out]
  have HZ2 : Hid ((bcells (List.replicate 176 0)).size = (bcells (Ae.ex k)).size) := by rw [Hid, noughts_size, bcells_size, HL.out]
  have HE : Hid (Ae.enc k b = Ae.St (Ae.ex k) b 10) := Lib.hid rfl
  generalize Ae.enc k b = R at *
  generalize Ae.ex k = E at *
  generalize bcells (List.replicate 256 0) = zs at *
  generalize bcells (List.replicate 176 0) = zs2 at *
  have HB := Lib.hid hb
  clear hk hb
  go_enter Tryz.func208, Tryz.ntmps208
  go_wp2_with fail
  refine (HSW.out _).mono ?_
  rintro _ w1 ⟨rfl, hb1⟩
  go_wp2_with (refine wpList_store_row rfl 199 (.tmp 5) (.tmp 17) rfl w1.heap.size (bcells Ae.SB) rfl rfl 199 _ (heap_alloc_new _ _) HI.out HZ.out HONE.out ?_; rw [World.setRow_alloc_new])
  have htab := HTN.out w1
  have b2 := hb1.alloc hb1.size (.cells (bcells Ae.SB) 199)
  refine (HEX.out _ _ htab).mono ?_
  rintro _ w3 ⟨rfl, hb3⟩
  have hs3 := hb3.size
  have hs1 := hb1.size
  have AR : AtRound w ((w3.alloc (.cells (bcells E) 201)).alloc (.cells (bcells (List.replicate 16 0)) 205)) w1.heap.size w3.heap.size (w3.heap.size + 1) E (List.replicate 16 0) := by
    have hlt : w1.heap.size < w3.heap.size := by
      have : w1.heap.size + 1 ≤ w3.heap.size := by simpa using hs3
      omega
    refine ⟨((b2.trans (hb3.mono b2.size)).alloc (by omega) _).alloc (by simp; omega) _, hs1, hlt, by omega, ?_, heap_alloc2_old _ _ _, heap_alloc2_new _ _ _⟩
    show ((w3.alloc (.cells (bcells E) 201)).alloc (.cells (bcells (List.replicate 16 0)) 205)).heap[w1.heap.size]? = _
    rw [heap_alloc_old _ _ (by simp; omega), heap_alloc_old _ _ hlt, hb3.block _ (by simp)]
    exact htab
  have hcp := run_copyS _ 3 205 (w3.heap.size + 1) 16 b (List.replicate 16 0) List.length_replicate (by rw [HB.out]; exact Nat.le_refl _) AR.state
  have hbb : b ++ (List.replicate 16 (0 : UInt8)).drop b.length = b := by rw [List.drop_of_length_le (by rw [HB.out, List.length_replicate]; exact Nat.le_refl _), List.append_nil]
  rw [hbb] at hcp
  have AR1 := AR.put b
  have HCP := Lib.hid hcp
  obtain ⟨w4, hw4⟩ : ∃ w4, ((w3.alloc (.cells (bcells E) 201)).alloc (.cells (bcells (List.replicate 16 0)) 205)).setRow (w3.heap.size + 1) (bcells b) = w4 := ⟨_, rfl⟩
  rw [hw4] at HCP AR1
  clear htab hb3 b2 hb1 HSW HTN HEX AR hcp hbb hs3 hs1 hw4
  have AR2 := AR1.drew
  have HCP2 := HCP
  have HKC := Lib.hid (AR2.key HL.out 0 0 rfl (by decide))
  have HS2 := Lib.hid AR2.state
  have HIb := Lib.hid (info16 b HB.out)
  have HAR2 := Lib.hid AR2
  clear AR1 AR2 HCP
  go_wp2_with (first | (refine wpList_store_row rfl 201 (.tmp 6) (.tmp 19) rfl w3.heap.size (bcells E) rfl rfl 201 _ (heap_alloc_new _ _) HI2.out HZ2.out (bcells_one _) ?_; rw [World.setRow_alloc_new]) | (refine Lib.wpList_copy_run _ rfl (.tmp 20) (.tmp 21) 31 9 rfl _ _ rfl rfl HCP2.out ?_))
  refine wp_region_still_tail 2 (by kernel_rfl) (by kernel_rfl) ?_
  change wpStill _ _ (World.drew _) (fun a' => wpList _ _ _ _ a' (World.drew _)) _ _
  simp only [List.take_succ_cons, List.take_zero, List.drop_succ_cons, List.drop_zero]
  generalize w4.drew = w5 at *
  refine wpStill_load_row rfl 205 (.tmp 7) rfl (w3.heap.size + 1) rfl 205 (bcells b) (0, 0) _ HS2.out Tryz.underlying205 rfl HIb.out ?_
  repeat still_step
  refine wpStill_nil ?_
  clear HCP2 HS2
  go_wp2_with fail
  have hg6 : w3.heap.size < w5.heap.size := by have := HAR2.out.size; omega
  refine (plus_any b (Ae.key16 E 0) w3.heap.size 0 176 w5 HB.out hg6 HKC.out).mono ?_
  rintro _ w6 ⟨rfl, hb6⟩
  have A6 := HAR2.out.on hb6
  have HS0 : Hid (Ae.plus b (Ae.key16 E 0) = Ae.St E b 0) := Lib.hid rfl
  rw [HS0.out]
  have HI6 := Lib.hid (info16 _ (Ae.St_length E b 0))
  have HZ6 := Lib.hid (same16 HB.out (Ae.St_length E b 0))
  have HST := Lib.hid A6.state
  have HA0 := Lib.hid (A6.put (Ae.St E b 0))
  have HNX : Hid (∀ n, Ae.St E b (n + 1) = Ae.plus (Ae.rest (Ae.St E b n) (n + 1)) (Ae.key16 E (n + 1))) := Lib.hid fun _ => rfl
  have HLN := Lib.hid fun n => Ae.St_length E b n
  clear HS0 hb6 A6 HAR2 HKC hg6 HIb
  generalize Ae.St E b = S at *
  go_wp2_with (refine wpList_store_row rfl 205 (.tmp 7) (.tmp 25) rfl (w3.heap.size + 1) (bcells (S 0)) rfl rfl 205 _ HST.out HI6.out HZ6.out (bcells_one _) ?_)
  clear HST HI6 HZ6 HI2 HZ2 hz hz2 hne hne2 HZ HI HONE e1 e2 e3 e4
  go_loopw [8] (fun i wr => ∃ n : Nat, n ≤ 10 ∧ i = .int .i64 (n + 1 : Nat) ∧ Hid (AtRound w wr w1.heap.size w3.heap.size (w3.heap.size + 1) E (S n))) (fun i _ => 12 - (intOf i).toNat)
  case atStart => exact ⟨0, by omega, rfl, HA0⟩
  case round =>
    obtain ⟨n, hn, rfl, HA⟩ := hrel
    clear HA0
    by_cases hlt : n < 10
    · have HNX1 := Lib.hid (HNX.out n)
      have HLN1 := Lib.hid (HLN.out (n + 1))
      have HLs := Lib.hid (HLN.out n)
      obtain ⟨s', hs'⟩ : ∃ s', S (n + 1) = s' := ⟨_, rfl⟩
      obtain ⟨s, hs⟩ : ∃ s, S n = s := ⟨_, rfl⟩
      have HSN := Lib.hid hs'
      rw [hs] at HA HNX1 HLs
      rw [hs'] at HNX1 HLN1
      clear hs hs'
      have HIs := Lib.hid (info16 s HLs.out)
      have HS1 := Lib.hid HA.out.state
      have hbd : n + 1 ≤ 10 := by omega
      obtain ⟨i, hi⟩ : ∃ i, i = n + 1 := ⟨_, rfl⟩
      obtain ⟨lo, hlo⟩ : ∃ lo, lo = 16 * i := ⟨_, rfl⟩
      obtain ⟨hi2, hhi⟩ : ∃ hi, hi = 16 * (i + 1) := ⟨_, rfl⟩
      obtain ⟨i1, hi1⟩ : ∃ j, j = i + 1 := ⟨_, rfl⟩
      have x1 : IntKind.i64.wrap ((i : Int) * 16) = (lo : Int) := by rw [IntWalk.i64_in _ (by omega)]; omega
      have x2 : IntKind.i64.wrap ((i : Int) + 1) = (i1 : Int) := by rw [IntWalk.i64_in _ (by omega)]; omega
      have x3 : IntKind.i64.wrap ((i1 : Int) * 16) = (hi2 : Int) := by rw [IntWalk.i64_in _ (by omega)]; omega
      have y1 : lo ≤ hi2 := by omega
      have y2 : (hi2 : Int) ≤ 176 := by omega
      have y3 : ¬ 176 = lo := by omega
      have y4 : hi2 - lo = 16 := by omega
      have y5 : i ≤ 10 := by omega
      have y6 : (i : Int) ≤ 10 := by omega
      rw [← hi] at HNX1 ⊢
      have HI := Lib.hid hi
      have HLO := Lib.hid hlo
      have HI1 := Lib.hid hi1
      clear hi hlo hhi hi1 hbd
      go_wp2_with (refine wpList_load_row rfl 205 (.tmp 7) rfl (w3.heap.size + 1) rfl 205 (bcells s) (0, 0) _ HS1.out Tryz.underlying205 rfl HIs.out ?_)
      refine (swapped_any s w1.heap.size wr HLs.out HA.out.tab).mono ?_
      rintro _ wa ⟨rfl, hba⟩
      have Aa := HA.out.on hba
      go_wp2_with fail
      refine (turnedA_any (Ae.swapped s) wa (Ae.swapped_length s)).mono ?_
      rintro _ wb ⟨rfl, hbb⟩
      have Ab := Lib.hid (Aa.on hbb)
      clear hba hbb Aa HA HS1
      obtain ⟨t, ht⟩ : ∃ t, Ae.turned (Ae.swapped s) = t := ⟨_, rfl⟩
      have HTT := Lib.hid ht
      have HLt : Hid (t.length = 16) := by rw [Hid, ← ht]; exact Ae.turned_length _
      rw [ht]
      have HIt := Lib.hid (info16 t HLt.out)
      have HZt := Lib.hid (same16 HLs.out HLt.out)
      have HSb := Lib.hid Ab.out.state
      have Ac := Lib.hid (Ab.out.put t)
      clear ht
      by_cases hl : i < 10
      · have HRS : Hid (Ae.rest s i = Ae.mixed t) := by rw [Hid, Ae.rest, if_pos hl, HTT.out]
        rw [HRS.out] at HNX1
        have hl' : (i : Int) < 10 := by omega
        have HSc := Lib.hid Ac.out.state
        go_wp2_with (first | (refine wpList_store_row rfl 205 (.tmp 7) (.tmp 32) rfl (w3.heap.size + 1) (bcells t) rfl rfl 205 _ HSb.out HIt.out HZt.out (bcells_one _) ?_) | (refine wpList_load_row rfl 205 (.tmp 7) rfl (w3.heap.size + 1) rfl 205 (bcells t) (0, 0) _ HSc.out Tryz.underlying205 rfl HIt.out ?_))
        refine (mixed_any t _ HLt.out).mono ?_
        rintro _ wd ⟨rfl, hbd⟩
        have Ad := Lib.hid (Ac.out.on hbd)
        clear hbd Ac Ab HSb HSc HZt
        obtain ⟨m, hm⟩ : ∃ m, Ae.mixed t = m := ⟨_, rfl⟩
        have HLm : Hid (m.length = 16) := by rw [Hid, ← hm]; exact Ae.mixed_length _
        rw [hm] at HNX1 ⊢
        clear hm HTT HRS
        have HIm := Lib.hid (info16 m HLm.out)
        have HZm := Lib.hid (same16 HLt.out HLm.out)
        have HSd := Lib.hid Ad.out.state
        have AE := (Ad.out.put m).drew
        generalize hW : (World.setRow wd (w3.heap.size + 1) (bcells m)).drew = WE at AE
        have HKC := Lib.hid (AE.key HL.out i lo HLO.out y5)
        have HSE := Lib.hid AE.state
        have hge : w3.heap.size < WE.heap.size := by have := AE.size; omega
        have HAE := Lib.hid AE
        have HWE := Lib.hid hW
        clear AE hW
        clear Ad
        go_wp2_with (refine wpList_store_row rfl 205 (.tmp 7) (.tmp 36) rfl (w3.heap.size + 1) (bcells m) rfl rfl 205 _ HSd.out HIm.out HZm.out (bcells_one _) ?_)
        clear HSd HZm
        refine wp_region_still_tail 7 (by kernel_rfl) (by kernel_rfl) ?_
        change wpStill _ _ (World.drew _) (fun a' => wpList _ _ _ _ a' (World.drew _)) _ _
        simp only [List.take_succ_cons, List.take_zero, List.drop_succ_cons, List.drop_zero]
        rw [HWE.out]
        refine wpStill_load_row rfl 205 (.tmp 7) rfl (w3.heap.size + 1) rfl 205 (bcells m) (0, 0) _ HSE.out Tryz.underlying205 rfl HIm.out ?_
        repeat still_step
        refine wpStill_nil ?_
        go_wp2_with fail
        refine (plus_any m (Ae.key16 E i) w3.heap.size lo (176 - lo) WE HLm.out hge HKC.out).mono ?_
        rintro _ wf ⟨rfl, hbf⟩
        have Af := HAE.out.on hbf
        rw [← HNX1.out]
        have HIf := Lib.hid (info16 s' HLN1.out)
        have HZf := Lib.hid (same16 HLm.out HLN1.out)
        have HSf := Lib.hid Af.state
        have Ag := Lib.hid (Af.put s')
        clear hbf Af HAE HKC HSE HWE x1 x2 x3 y1 y2 y3 y4
        go_wp2_with (refine wpList_store_row rfl 205 (.tmp 7) (.tmp 44) rfl (w3.heap.size + 1) (bcells s') rfl rfl 205 _ HSf.out HIf.out HZf.out (bcells_one _) ?_)
        go_roundw
        case rel => exact ⟨n + 1, by omega, by have := HI.out; go_num, by rw [Hid, HSN.out]; exact Ag.out⟩
        case measure => simp [intOf]; have := HI.out; omega
      · have HRS : Hid (Ae.rest s i = t) := by rw [Hid, Ae.rest, if_neg hl, HTT.out]
        rw [HRS.out] at HNX1
        have hl' : ¬ (i : Int) < 10 := by omega
        clear HTT HRS
        have AE := (Ab.out.put t).drew
        generalize hW : (World.setRow wb (w3.heap.size + 1) (bcells t)).drew = WE at AE
        have HKC := Lib.hid (AE.key HL.out i lo HLO.out y5)
        have HSE := Lib.hid AE.state
        have hge : w3.heap.size < WE.heap.size := by have := AE.size; omega
        have HAE := Lib.hid AE
        have HWE := Lib.hid hW
        clear AE hW
        clear Ab Ac
        go_wp2_with (refine wpList_store_row rfl 205 (.tmp 7) (.tmp 32) rfl (w3.heap.size + 1) (bcells t) rfl rfl 205 _ HSb.out HIt.out HZt.out (bcells_one _) ?_)
        clear HSb HZt
        refine wp_region_still_tail 7 (by kernel_rfl) (by kernel_rfl) ?_
        change wpStill _ _ (World.drew _) (fun a' => wpList _ _ _ _ a' (World.drew _)) _ _
        simp only [List.take_succ_cons, List.take_zero, List.drop_succ_cons, List.drop_zero]
        rw [HWE.out]
        refine wpStill_load_row rfl 205 (.tmp 7) rfl (w3.heap.size + 1) rfl 205 (bcells t) (0, 0) _ HSE.out Tryz.underlying205 rfl HIt.out ?_
        repeat still_step
        refine wpStill_nil ?_
        go_wp2_with fail
        refine (plus_any t (Ae.key16 E i) w3.heap.size lo (176 - lo) WE HLt.out hge HKC.out).mono ?_
        rintro _ wf ⟨rfl, hbf⟩
        have Af := HAE.out.on hbf
        rw [← HNX1.out]
        have HIf := Lib.hid (info16 s' HLN1.out)
        have HZf := Lib.hid (same16 HLt.out HLN1.out)
        have HSf := Lib.hid Af.state
        have Ag := Lib.hid (Af.put s')
        clear hbf Af HAE HKC HSE HWE x1 x2 x3 y1 y2 y3 y4
        go_wp2_with (refine wpList_store_row rfl 205 (.tmp 7) (.tmp 44) rfl (w3.heap.size + 1) (bcells s') rfl rfl 205 _ HSf.out HIf.out HZf.out (bcells_one _) ?_)
        go_roundw
        case rel => exact ⟨n + 1, by omega, by have := HI.out; go_num, by rw [Hid, HSN.out]; exact Ag.out⟩
        case measure => simp [intOf]; have := HI.out; omega
    · obtain rfl : n = 10 := by omega
      have HLs := Lib.hid (HLN.out 10)
      generalize S 10 = s at *
      have hcv := conv_any wr (w3.heap.size + 1) 16 s 205 (0, 0) _ HA.out.state (fun j hj => bcells_at _ j hj)
      rw [HLs.out] at hcv
      have hbel := HA.out.below
      clear HA HNX HLN HLs
      go_wp2
      go_ret
      exact ⟨by rw [HE.out]; rfl, hbel⟩

set_option maxRecDepth 100000 in
theorem Encrypt_ex (w : World) :
    Calls Tryz.prog 208 #[.string ⟨#[0, 1, 2, 3, 4, 5, 6, 7, 8, 9, 10, 11, 12, 13, 14, 15]⟩, .string ⟨#[0, 17, 34, 51, 68, 85, 102, 119, 136, 153, 170, 187, 204, 221, 238, 255]⟩] w fun e w' => e = .returned (.string ⟨#[105, 196, 224, 216, 106, 123, 4, 48, 216, 205, 183, 128, 112, 180, 197, 90]⟩) ∧ Below w.heap.size w w' := by
  have h := Encrypt_yes [0, 1, 2, 3, 4, 5, 6, 7, 8, 9, 10, 11, 12, 13, 14, 15] [0, 17, 34, 51, 68, 85, 102, 119, 136, 153, 170, 187, 204, 221, 238, 255] w rfl rfl
  rw [Ae.enc_ex] at h
  exact h
end Go.Proofs.YticofjbngfjjlaaGreatDoor

/- works, of layer 4's laws. -/

namespace Go.Proofs.YticofjbngfjjlaaGreatDoor
open Go.RowKit

end Go.Proofs.YticofjbngfjjlaaGreatDoor

/- AesUnlike's walk. -/

namespace Go.Proofs.YticofjbngfjjlaaGreatDoor
open Go.RowKit

/-- What Encrypt answers, at any arguments. -/
def encA (k b : List UInt8) : List UInt8 := if k.length = 16 ∧ b.length = 16 then Ae.enc k b else []
set_option maxRecDepth 100000 in
theorem Encrypt_any (k b : List UInt8) (w : World) :
    Calls Tryz.prog 208 #[.string ⟨⟨k⟩⟩, .string ⟨⟨b⟩⟩] w fun e w' => e = .returned (.string ⟨⟨encA k b⟩⟩) ∧ Below w.heap.size w w' := by
  by_cases h : k.length = 16 ∧ b.length = 16
  · rw [encA, if_pos h]
    exact Encrypt_yes k b w h.1 h.2
  · rw [encA, if_neg h]
    exact (Encrypt_no k b w (by omega)).mono fun _ _ ⟨he, hw⟩ => ⟨he, hw ▸ Below.refl _ _⟩
def exA (k : List UInt8) : List UInt8 := if k.length = 16 then Ae.ex k else []
end Go.Proofs.YticofjbngfjjlaaGreatDoor

/- number. -/

namespace Go.Proofs.YticofjbngfjjlaaGreatDoor
open Go.RowKit

theorem conv_four (W : World) (c0 c1 c2 c3 : UInt8) : (convert 31 9 (.slice (some ⟨W.heap.size, 0, none⟩) 4 4)).run Tryz.prog (W.alloc (.cells #[.int .u8 (c0.toNat : Nat), .int .u8 (c1.toNat : Nat), .int .u8 (c2.toNat : Nat), .int .u8 (c3.toNat : Nat)] 5)) = .ok (.string ⟨⟨[c0, c1, c2, c3]⟩⟩) (W.alloc (.cells #[.int .u8 (c0.toNat : Nat), .int .u8 (c1.toNat : Nat), .int .u8 (c2.toNat : Nat), .int .u8 (c3.toNat : Nat)] 5)) :=
  conv_any _ _ 4 [c0, c1, c2, c3] 5 (0, 0) _ (heap_alloc_new W _) (fun j hj => bcells_at [c0, c1, c2, c3] j hj)

set_option maxRecDepth 100000 in
theorem number_any (n : Nat) (w : World) (hn : n < 4294967296) :
    Calls Tryz.prog 209 #[.int .u32 (n : Nat)] w fun e w' => e = .returned (.string ⟨⟨Ct.num n⟩⟩) ∧ Below w.heap.size w w' := by
  have d0 : (n : Int) / 16777216 = ((UInt8.ofNat (n / 16777216)).toNat : Nat) := by rw [UInt8.toNat_ofNat']; omega
  have d1 : (n : Int) / 65536 % 256 = ((UInt8.ofNat (n / 65536)).toNat : Nat) := by rw [UInt8.toNat_ofNat']; omega
  have d2 : (n : Int) / 256 % 256 = ((UInt8.ofNat (n / 256)).toNat : Nat) := by rw [UInt8.toNat_ofNat']; omega
  have d3 : (n : Int) % 256 = ((UInt8.ofNat n).toNat : Nat) := by rw [UInt8.toNat_ofNat']; omega
  have HN : Hid (Ct.num n = [UInt8.ofNat (n / 16777216), UInt8.ofNat (n / 65536), UInt8.ofNat (n / 256), UInt8.ofNat n]) := rfl
  generalize Ct.num n = L at *
  generalize UInt8.ofNat (n / 16777216) = c0 at *
  generalize UInt8.ofNat (n / 65536) = c1 at *
  generalize UInt8.ofNat (n / 256) = c2 at *
  generalize UInt8.ofNat n = c3 at *
  have hcv := conv_four w c0 c1 c2 c3
  go_enter Tryz.func209, Tryz.ntmps209
  go_wp2
  go_ret
  exact ⟨by rw [HN.out]; rfl, (Below.refl _ _).alloc (Nat.le_refl _) _⟩
end Go.Proofs.YticofjbngfjjlaaGreatDoor

