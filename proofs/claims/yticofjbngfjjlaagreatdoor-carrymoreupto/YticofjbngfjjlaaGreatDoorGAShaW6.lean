/- behind. -/
import Derived.Test.YticofjbngfjjlaaGreatDoorGAShaW5
namespace Go.Proofs.YticofjbngfjjlaaGreatDoor
open Go.RowKit

theorem eight {w : World} {g : Nat} {v : Sh.St} {t : TypeId} (h : w.heap[g]? = some (.cells (cells v.list) t (0, 0))) :
    w.cell? ⟨g, 0, none⟩ = some (.int .u32 (v.a : Nat)) ∧ w.cell? ⟨g, 1, none⟩ = some (.int .u32 (v.b : Nat)) ∧ w.cell? ⟨g, 2, none⟩ = some (.int .u32 (v.c : Nat)) ∧ w.cell? ⟨g, 3, none⟩ = some (.int .u32 (v.d : Nat)) ∧ w.cell? ⟨g, 4, none⟩ = some (.int .u32 (v.e : Nat)) ∧ w.cell? ⟨g, 5, none⟩ = some (.int .u32 (v.f : Nat)) ∧ w.cell? ⟨g, 6, none⟩ = some (.int .u32 (v.g : Nat)) ∧ w.cell? ⟨g, 7, none⟩ = some (.int .u32 (v.h : Nat)) := by
  refine ⟨?_, ?_, ?_, ?_, ?_, ?_, ?_, ?_⟩ <;> (rw [cell_of_row _ _ _ _ _ _ h]; rfl)

set_option maxRecDepth 100000 in
set_option maxHeartbeats 1000000 in
theorem behind_by (v R : Sh.St) (b : List UInt8) (L : List Nat) (w : World) (HT : Tabs w) (HV : v.Ok) (HL : Hid (L.length = 64)) (HLT : Hid (∀ x ∈ L, x < 4294967296)) (HR : Hid (Sh.rn L v 64 = R))
    (HSP : Hid (∀ w, Calls Tryz.prog 182 #[.string ⟨⟨b⟩⟩] w fun e w' => e = .returned (.agg (cells L)) ∧ Below w.heap.size w w')) :
    Calls Tryz.prog 154 #[.agg (cells v.list), .string ⟨⟨b⟩⟩] w fun e w' => e = .returned (.agg (cells (Sh.plus v R).list)) ∧ Below w.heap.size w w' := by
  go_enter Tryz.func154, Tryz.ntmps154
  go_wp2_with fail
  refine (HSP.out _).mono ?_
  rintro e w1 ⟨rfl, hb1⟩
  have HA : Hid (w1.heap[w.heap.size]? = some (.cells (cells v.list) 133 (0, 0))) := by rw [Hid, hb1.block _ (by simp; omega)]; exact heap_alloc2_old _ _ _
  have HB : Hid (w1.heap[w.heap.size + 1]? = some (.cells (cells [0, 0, 0, 0, 0, 0, 0, 0]) 133 (0, 0))) := by rw [Hid, hb1.block _ (by simp)]; exact heap_alloc2_new _ _ _
  have hbw : Below w.heap.size w w1 := (((Below.refl _ _).alloc (Nat.le_refl _) _).alloc (by simp) _).trans (hb1.mono (by simp; omega))
  have hz1 : w.heap.size + 1 < w1.heap.size := by have := hb1.size; simp at this; omega
  clear hb1
  have hcs : (Tryz.prog.info? 179).map (·.size) = some (cells L).size := by rw [info50, cells_size, HL.out]
  have HI := Lib.hid hcs
  have HS : Hid ((cells (List.replicate 64 0)).size = (cells L).size) := by rw [Hid, cells_size, cells_size, HL.out]; rfl
  clear hcs
  go_wp2_with ((refine wpList_store_row rfl 179 (.tmp 5) (.tmp 18) rfl w1.heap.size (cells L) rfl rfl 179 (cells (List.replicate 64 0)) (heap_alloc_new _ _) HI.out HS.out (cells_one _) ?_))
  have hw2 : Below w.heap.size w ((w1.alloc (.cells (cells (List.replicate 64 0)) 179)).setRow w1.heap.size (cells L)) := below_setRow' (hbw.alloc (by omega) _) (by omega) _
  have HA2 : Hid (((w1.alloc (.cells (cells (List.replicate 64 0)) 179)).setRow w1.heap.size (cells L)).heap[w.heap.size]? = some (.cells (cells v.list) 133 (0, 0))) := by
    rw [Hid, setRow_other _ _ _ _ (by omega), Below.heap_alloc _ _ _ (by omega)]
    exact HA.out
  have HB2 : Hid (((w1.alloc (.cells (cells (List.replicate 64 0)) 179)).setRow w1.heap.size (cells L)).heap[w.heap.size + 1]? = some (.cells (cells [0, 0, 0, 0, 0, 0, 0, 0]) 133 (0, 0))) := by
    rw [Hid, setRow_other _ _ _ _ (by omega), Below.heap_alloc _ _ _ (by omega)]
    exact HB.out
  have HC2 : Hid (((w1.alloc (.cells (cells (List.replicate 64 0)) 179)).setRow w1.heap.size (cells L)).heap[w1.heap.size]? = some (.cells (cells L) 179 (0, 0))) := setRow_heap _ _ _ _ _ _ (heap_alloc_new _ _)
  have hz2 : w1.heap.size < ((w1.alloc (.cells (cells (List.replicate 64 0)) 179)).setRow w1.heap.size (cells L)).heap.size := by simp
  generalize hg : w1.heap.size = m at *
  change Code.wp _ _ _ _ ((w1.alloc (.cells (cells (List.replicate 64 0)) 179)).setRow m (cells L))
  generalize (w1.alloc (.cells (cells (List.replicate 64 0)) 179)).setRow m (cells L) = w2 at *
  clear hg HA HB hbw HS
  obtain ⟨q0, q1, q2, q3, q4, q5, q6, q7⟩ := eight HA2.out
  go_quiet (fail)
  go_wp2
  have hb0 : Below w.heap.size w (w2.drewN nq) := ⟨hw2.os, hw2.tape, hw2.output, hw2.size, hw2.block⟩
  have HA3 : Hid ((w2.drewN nq).heap[w.heap.size]? = some (.cells (cells v.list) 133 (0, 0))) := HA2
  have HB3 : Hid ((w2.drewN nq).heap[w.heap.size + 1]? = some (.cells (cells [0, 0, 0, 0, 0, 0, 0, 0]) 133 (0, 0))) := HB2
  have HC3 : Hid ((w2.drewN nq).heap[m]? = some (.cells (cells L) 179 (0, 0))) := HC2
  have hz3 : m < (w2.drewN nq).heap.size := hz2
  generalize w2.drewN nq = w3 at *
  clear HA2 HB2 HC2 hz2 hw2 q0 q1 q2 q3 q4 q5 q6 q7 HSP w2
  go_loopw [6, 7, 8, 9, 10, 11, 12, 13, 35] (fun a b c d e f g h i wr => ∃ k : Nat, ∃ u : Sh.St, k ≤ 64 ∧ i = .int .i64 k ∧ a = .int .u32 (u.a : Nat) ∧ b = .int .u32 (u.b : Nat) ∧ c = .int .u32 (u.c : Nat) ∧ d = .int .u32 (u.d : Nat) ∧ e = .int .u32 (u.e : Nat) ∧ f = .int .u32 (u.f : Nat) ∧ g = .int .u32 (u.g : Nat) ∧ h = .int .u32 (u.h : Nat) ∧ Hid (Sh.rn L v k = u) ∧ Below w.heap.size w wr ∧ m < wr.heap.size ∧
      Hid (wr.heap[w.heap.size]? = some (.cells (cells v.list) 133 (0, 0))) ∧ Hid (wr.heap[w.heap.size + 1]? = some (.cells (cells [0, 0, 0, 0, 0, 0, 0, 0]) 133 (0, 0))) ∧ Hid (wr.heap[m]? = some (.cells (cells L) 179 (0, 0)))) (fun _ _ _ _ _ _ _ _ i _ => 64 - (intOf i).toNat)
  case atStart => exact ⟨0, v, by omega, rfl, rfl, rfl, rfl, rfl, rfl, rfl, rfl, rfl, Lib.hid rfl, hb0, hz3, HA3, HB3, HC3⟩
  case round =>
    obtain ⟨k, u, hk, rfl, rfl, rfl, rfl, rfl, rfl, rfl, rfl, rfl, HU, hb, hz, HA, HB, HC⟩ := hrel
    clear hb0 hz3 HA3 HB3 HC3
    have HO : u.Ok := HU.out ▸ Sh.rn_ok HV L k
    by_cases hlt : k < 64
    · have HE : Hid (Sh.rn L v (k + 1) = Sh.rnd (Sh.KK.getD k 0) (L.getD k 0) u) := by rw [Hid, Sh.rn, HU.out]
      have hkk := (HT.below hb).kk k hlt
      have hww : wr.cell? ⟨m, k, none⟩ = some (.int .u32 (L.getD k 0 : Nat)) := by rw [cell_of_row _ _ _ _ _ _ HC.out, cells_at _ _ (by rw [HL.out]; exact hlt)]
      have bK := Sh.getD_lt Sh.KK_lt k
      have bW := Sh.getD_lt HLT.out k
      generalize Sh.KK.getD k 0 = kk at *
      generalize L.getD k 0 = wk at *
      obtain ⟨a, b, c, d, e, f, g, h⟩ := u
      obtain ⟨oa, ob, oc, od, oe, of, og, oh⟩ := HO
      simp only at oa ob oc od oe of og oh
      have hts := HT.size
      have hne : 1 < wr.heap.size := by omega
      go_wp2_with fail
      go_region_held3 (fun w' => w'.cell? ⟨1, k, none⟩ = some (.int .u32 kk) ∧ w'.cell? ⟨m, k, none⟩ = some (.int .u32 wk)) (go_keep)
          (first | (go_at_call 183; refine (big1_any e _ oe).mono ?_; rintro _ w' ⟨rfl, rfl⟩) | (go_at_call 184; refine (choice_any e f g _ oe of og).mono ?_; rintro _ w' ⟨rfl, rfl⟩))
      have HT1 : Hid (IntKind.u32.wrap (IntKind.u32.wrap (IntKind.u32.wrap (IntKind.u32.wrap ((h : Int) + (Sh.S1 e : Nat)) + (Sh.ch e f g : Nat)) + (kk : Nat)) + (wk : Nat)) = ((Sh.tt ⟨a, b, c, d, e, f, g, h⟩ kk wk : Nat) : Int)) := by
        show _ = (((h + Sh.S1 e + Sh.ch e f g + kk + wk) % 4294967296 : Nat) : Int)
        simp only [IntKind.wrap_u32']
        omega
      have lt1 : Sh.tt ⟨a, b, c, d, e, f, g, h⟩ kk wk < 4294967296 := Nat.mod_lt _ (by decide)
      have HU1 : Hid (((Sh.S0 a : Nat) + (Sh.ma a b c : Nat) : Int) % 4294967296 = ((Sh.uu ⟨a, b, c, d, e, f, g, h⟩ : Nat) : Int)) := by
        show _ = (((Sh.S0 a + Sh.ma a b c) % 4294967296 : Nat) : Int)
        omega
      have HE2 : Hid (Sh.rnd kk wk ⟨a, b, c, d, e, f, g, h⟩ = ⟨(Sh.tt ⟨a, b, c, d, e, f, g, h⟩ kk wk + Sh.uu ⟨a, b, c, d, e, f, g, h⟩) % 4294967296, a, b, c, (d + Sh.tt ⟨a, b, c, d, e, f, g, h⟩ kk wk) % 4294967296, e, f, g⟩) := Lib.hid rfl
      rw [HT1.out]
      generalize Sh.tt ⟨a, b, c, d, e, f, g, h⟩ kk wk = t1 at *
      generalize Sh.uu ⟨a, b, c, d, e, f, g, h⟩ = t2 at *
      have lS0 := Sh.S0_lt oa
      have lma := Sh.ma_lt (a := a) ob oc
      go_wp2_with fail
      refine (big0_any a _ oa).mono ?_
      rintro _ w' ⟨rfl, rfl⟩
      go_wp2_with fail
      refine (majority_any a b c _ oa ob oc).mono ?_
      rintro _ w' ⟨rfl, rfl⟩
      go_wp2
      rw [HU1.out]
      go_roundw
      case rel =>
        refine ⟨k + 1, ⟨(t1 + t2) % 4294967296, a, b, c, (d + t1) % 4294967296, e, f, g⟩, by omega, by go_num, by simp, rfl, rfl, rfl, by simp, rfl, rfl, rfl, ?_, ((hb.alloc (by omega) _).alloc (by simp; omega) _).drew, by simp; omega, ?_, ?_, ?_⟩
        · rw [Hid, HE.out, HE2.out]
        · rw [Hid, heap_drew, Below.heap_alloc _ _ _ (by simp; omega), Below.heap_alloc _ _ _ (by omega)]; exact HA.out
        · rw [Hid, heap_drew, Below.heap_alloc _ _ _ (by simp; omega), Below.heap_alloc _ _ _ (by omega)]; exact HB.out
        · rw [Hid, heap_drew, Below.heap_alloc _ _ _ (by simp; omega), Below.heap_alloc _ _ _ (by omega)]; exact HC.out
      case measure => simp [intOf]; omega
    · obtain rfl : k = 64 := by omega
      obtain rfl : R = u := HR.out.symm.trans HU.out
      obtain ⟨q0, q1, q2, q3, q4, q5, q6, q7⟩ := eight HA.out
      have p0 : ((v.a : Int) + (R.a : Nat)) % 4294967296 = ((Sh.plus v R).a : Nat) := rfl
      have p1 : ((v.b : Int) + (R.b : Nat)) % 4294967296 = ((Sh.plus v R).b : Nat) := rfl
      have p2 : ((v.c : Int) + (R.c : Nat)) % 4294967296 = ((Sh.plus v R).c : Nat) := rfl
      have p3 : ((v.d : Int) + (R.d : Nat)) % 4294967296 = ((Sh.plus v R).d : Nat) := rfl
      have p4 : ((v.e : Int) + (R.e : Nat)) % 4294967296 = ((Sh.plus v R).e : Nat) := rfl
      have p5 : ((v.f : Int) + (R.f : Nat)) % 4294967296 = ((Sh.plus v R).f : Nat) := rfl
      have p6 : ((v.g : Int) + (R.g : Nat)) % 4294967296 = ((Sh.plus v R).g : Nat) := rfl
      have p7 : ((v.h : Int) + (R.h : Nat)) % 4294967296 = ((Sh.plus v R).h : Nat) := rfl
      generalize hpz : Sh.plus v R = z at *
      have HPZ := Lib.hid hpz
      clear HU HR hpz
      go_wp2_with (refine wpList_store_row rfl 133 (.tmp 4) (.tmp 107) rfl (w.heap.size + 1) (cells z.list) rfl rfl 133 _ HB.out info37 rfl (cells_one _) ?_)
      exact bodyPost_ret (v := .agg (cells z.list)) (results_cell_row Tryz.results154 _ _ (w.heap.size + 1) 133 _ (0, 0) _ rfl (setRow_heap _ _ _ _ _ _ HB.out) Tryz.underlying133 rfl info37) rfl ⟨by rw [HPZ.out], below_setRow' hb (by omega) _⟩

theorem behind_any (v : Sh.St) (b : List UInt8) (w : World) (HT : Tabs w) (hv : v.Ok) (hb : b.length = 64) :
    Calls Tryz.prog 154 #[.agg (cells v.list), .string ⟨⟨b⟩⟩] w fun e w' => e = .returned (.agg (cells (Sh.beh v b).list)) ∧ Below w.heap.size w w' :=
  behind_by v (Sh.rn (Sh.sp b 64) v 64) b (Sh.sp b 64) w HT hv (Lib.hid (Sh.sp_length b 64)) (Lib.hid (Sh.sp_lt b 64)) (Lib.hid rfl) (Lib.hid fun w => spread_any b w hb)
end Go.Proofs.YticofjbngfjjlaaGreatDoor

