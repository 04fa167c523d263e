/- expanded. -/
import Derived.Test.YticofjbngfjjlaaGreatDoorGAAeW5
import Derived.Lib.BufferWrite
import Derived.Lib.SlBuf
import Derived.Laws.CopyRow
import Derived.Deep.Cut
namespace Go.Proofs.YticofjbngfjjlaaGreatDoor
open Go.RowKit

/-- All keys, byte by byte. -/
theorem ex_rec (key : List UInt8) (h : key.length = 16) (n j : Nat) (hn : n < 40) (hj : j < 4) :
    (Ae.ex key).getD (16 + 4 * n + j) 0 = (Ae.ex key).getD (4 * n + j) 0 ^^^ (Ae.lst (Ae.ex key) n).getD j 0 := by
  have hl := Ae.KS_length key h n
  have e : ∀ i, i < 16 + 4 * n → (Ae.ex key).getD i 0 = (Ae.KS key n).getD i 0 := fun i hi => Ae.KS_ex key h n i (by omega) hi
  have e1 : Ae.lst (Ae.ex key) n = Ae.lst (Ae.KS key n) n := by
    unfold Ae.lst
    rw [e _ (by omega), e _ (by omega), e _ (by omega), e _ (by omega)]
  rw [e1, e (4 * n + j) (by omega), Ae.KS_ex key h (n + 1) _ (by omega) (by omega), Ae.KS, Ae.getD_app_right _ _ _ (by omega), hl, show 16 + 4 * n + j - (16 + 4 * n) = j by omega, Ae.nw_at _ _ j hj]

theorem ex_take (key : List UInt8) (h : key.length = 16) : (Ae.ex key).take 16 = key := by
  have hl := Ae.ex_length key h
  apply List.ext_getElem
  · simp; omega
  · intro i h1 h2
    have := Ae.KS_ex key h 0 i (by decide) (by omega)
    rw [List.getD_eq_getElem?_getD, List.getD_eq_getElem?_getD, List.getElem?_eq_getElem (by omega), Ae.KS, List.getElem?_eq_getElem h2] at this
    simpa using this

set_option maxRecDepth 100000 in
theorem info5c : (Tryz.prog.info? 5).map (·.size) = some 1 := by kernel_rfl

set_option maxRecDepth 100000 in
/-- copy(x[:], s): a text over the beginning of a row. -/
theorem run_copyS (w : World) (ty t : TypeId) (g n : Nat) (s l : List UInt8) (hl : l.length = n) (hs : s.length ≤ n) (h : w.heap[g]? = some (.cells (bcells l) t (0, 0))) :
    (Builtin.copy_ #[31, 9] ty #[.slice (some ⟨g, 0, none⟩) n n, .string ⟨⟨s⟩⟩]).run Tryz.prog w = .ok (goInt s.length) (w.setRow g (bcells (s ++ l.drop s.length))) := by
  have hz : (ByteArray.mk ⟨s⟩).size = s.length := rfl
  have hr := Lib.run_copy_row_string (P := Tryz.prog) w 31 9 ty 5 g 0 n n ⟨⟨s⟩⟩ _ t Tryz.underlying31 info5c h (by rw [hz]; exact hs) (by rw [hz, bcells_size]; omega)
  rw [hr, hz]
  congr 2
  apply Array.toList_inj.1
  simp only [bcells, List.map_append, List.map_drop, List.take_zero, List.nil_append, Nat.zero_add, Lib.byteCells]

set_option maxRecDepth 100000 in
/-- copy(x[:], y[lo:]): a piece of a row over a whole other one. -/
theorem run_copyR (w : World) (ty t : TypeId) (g g2 o n cap : Nat) (l c : List UInt8) (hl : l.length = n) (hc : c.length = n) (h : w.heap[g]? = some (.cells (bcells l) t (0, 0))) (hs : ∀ j, j < n → w.cell? ⟨g2, o + j, none⟩ = some (.int .u8 ((c.getD j 0).toNat : Nat))) :
    (Builtin.copy_ #[31, 31] ty #[.slice (some ⟨g, 0, none⟩) n n, .slice (some ⟨g2, o, none⟩) n cap]).run Tryz.prog w = .ok (goInt n) (w.setRow g (bcells c)) := by
  have hv : (bvals c).length = n := by rw [bvals_length, hc]
  have hr := run_copy_row (P := Tryz.prog) w 31 31 ty 5 g 0 n n ⟨g2, o, none⟩ n cap _ t (bvals c) Tryz.underlying31 info5c h (by rw [hv]; exact (Nat.min_self n).symm) (fun j v hj => by
    rw [Addr.add_lit]
    have hjn : j < n := by
      have := (List.getElem?_eq_some_iff.1 hj).1
      omega
    rw [hs j hjn, ← hj]
    simp [bvals, List.getD_eq_getElem?_getD, hc, hjn]) (by rw [hv, bcells_size]; omega) (fun v hv => by
    simp only [bvals, List.mem_map] at hv
    obtain ⟨b, _, rfl⟩ := hv
    rfl)
  rw [hr, hv]
  congr 2
  apply Array.toList_inj.1
  have h1 : (bcells l).toList.drop (0 + n) = [] := List.drop_of_length_le (by simp [bcells]; omega)
  rw [h1]
  simp [bcells, bvals]

theorem fil_key (E key : List UInt8) (n : Nat) (hk : E.take 16 = key) (h16 : key.length = 16) : key ++ (List.replicate n 0).drop key.length = fil E (List.replicate n 0) 16 := by rw [fil, hk, h16]
theorem twi_next (k : Nat) : Ae.tw (Ae.twi k 1) = Ae.twi (k + 1) 1 := rfl

/-- What holds ahead of word n + 4. -/
def AtWord (w wr : World) (E Z : List UInt8) (zs : Array Value) (p : Nat) : Prop :=
  Below w.heap.size w wr ∧ w.heap.size + 2 ≤ wr.heap.size ∧ wr.heap[w.heap.size]? = some (.cells zs 201 (0, 0)) ∧ wr.heap[w.heap.size + 1]? = some (.cells (bcells (fil E Z p)) 201 (0, 0))

set_option maxRecDepth 100000 in
theorem laidE (key E : List UInt8) (w : World) (hk : key.length = 16) (hE : E.take 16 = key) :
    ∃ w0, (Builtin.copy_ #[31, 9] 3 #[.slice (some ⟨w.heap.size + 1, 0, none⟩) 176 176, .string ⟨⟨key⟩⟩]).run Tryz.prog ((w.alloc (.cells (bcells (List.replicate 176 0)) 201)).alloc (.cells (bcells (List.replicate 176 0)) 201)) = .ok (goInt key.length) w0 ∧
      AtWord w w0 E (List.replicate 176 0) (bcells (List.replicate 176 0)) 16 := by
  have h := run_copyS ((w.alloc (.cells (bcells (List.replicate 176 0)) 201)).alloc (.cells (bcells (List.replicate 176 0)) 201)) 3 201 (w.heap.size + 1) 176 key (List.replicate 176 0) List.length_replicate (by omega) (heap_alloc2_new _ _ _)
  rw [fil_key E key 176 hE hk] at h
  refine ⟨_, h, below_setRow' (((Below.refl _ _).alloc (Nat.le_refl _) _).alloc (by simp) _) (Nat.le_succ _) _, by simp, ?_, setRow_heap _ _ _ _ _ _ (heap_alloc2_new _ _ _)⟩
  rw [setRow_other _ _ _ _ (by omega)]
  exact heap_alloc2_old _ _ _

set_option maxRecDepth 100000 in
/-- The word ahead, laid into a block of its own. -/
theorem laidL (E Z c : List UInt8) (zs : Array Value) (w wr : World) (lo hi : Nat) (h : AtWord w wr E Z zs hi) (hE : E.length = 176) (hlo : lo + 4 = hi) (hhi : hi ≤ 176) (hZ : Z.length = 176) (hc : c.length = 4) (hcE : ∀ j, j < 4 → E.getD (lo + j) 0 = c.getD j 0) (cap : Nat) :
    ∃ w1, (Builtin.copy_ #[31, 31] 3 #[.slice (some ⟨wr.heap.size, 0, none⟩) 4 4, .slice (some ⟨w.heap.size + 1, lo, none⟩) 4 cap]).run Tryz.prog (wr.alloc (.cells (bcells [0, 0, 0, 0]) 212)).drew = .ok (goInt 4) w1 ∧
      AtWord w w1 E Z zs hi ∧ w1.heap[wr.heap.size]? = some (.cells (bcells c) 212 (0, 0)) := by
  obtain ⟨hb, hz, h0, h1⟩ := h
  have hb1 := (hb.alloc (show w.heap.size ≤ wr.heap.size by omega) (.cells (bcells [0, 0, 0, 0]) 212)).drew
  have hn : (wr.alloc (.cells (bcells [0, 0, 0, 0]) 212)).drew.heap[wr.heap.size]? = some (.cells (bcells [0, 0, 0, 0]) 212 (0, 0)) := heap_alloc_new wr _
  have o0 : (wr.alloc (.cells (bcells [0, 0, 0, 0]) 212)).drew.heap[w.heap.size]? = some (.cells zs 201 (0, 0)) := (heap_alloc_old wr _ (by omega)).trans h0
  have o1 : (wr.alloc (.cells (bcells [0, 0, 0, 0]) 212)).drew.heap[w.heap.size + 1]? = some (.cells (bcells (fil E Z hi)) 201 (0, 0)) := (heap_alloc_old wr _ (by omega)).trans h1
  have hs : w.heap.size + 2 ≤ (wr.alloc (.cells (bcells [0, 0, 0, 0]) 212)).drew.heap.size := by
    show w.heap.size + 2 ≤ (wr.alloc (.cells (bcells [0, 0, 0, 0]) 212)).heap.size
    simp; omega
  have hl := fil_length (k := hi) hE hZ hhi
  generalize (wr.alloc (.cells (bcells [0, 0, 0, 0]) 212)).drew = W at *
  have hr := run_copyR W 3 212 wr.heap.size (w.heap.size + 1) lo 4 cap [0, 0, 0, 0] c rfl hc hn (fun j hj => bget o1 (by omega) _ ((fil_low hE hhi (by omega)).trans (hcE j hj)))
  refine ⟨_, hr, ⟨below_setRow' hb1 (by omega) _, by simpa using hs, ?_, ?_⟩, setRow_heap _ _ _ _ _ _ hn⟩
  · rw [setRow_other _ _ _ _ (by omega)]; exact o0
  · rw [setRow_other _ _ _ _ (by omega)]; exact o1

set_option maxRecDepth 100000 in
set_option maxHeartbeats 1000000 in
theorem expanded_any (key : List UInt8) (gt : Nat) (w : World) (hk : key.length = 16) (ht : TabAt w gt) :
    Calls Tryz.prog 212 #[.string ⟨⟨key⟩⟩, .pointer (some ⟨gt, 0, none⟩)] w fun e w' => e = .returned (.agg (bcells (Ae.ex key))) ∧ Below w.heap.size w w' := by
  have HL := Lib.hid (Ae.ex_length key hk)
  have HREC := Lib.hid (ex_rec key hk)
  obtain ⟨w0, hr0, hst⟩ := laidE key (Ae.ex key) w hk (ex_take key hk)
  have HT := Lib.hid ht
  have hgt := ht.lt
  generalize Ae.ex key = E at *
  have hz := zeroA176
  have hne := noughtsA_ne 176 (by decide)
  have hzz : (bcells (List.replicate 176 0)).size = 176 := noughts_size 176
  have HZL : Hid ((List.replicate 176 (0 : UInt8)).length = 176) := Lib.hid List.length_replicate
  have HKL := Lib.hid hk
  have HC := Lib.hid hr0
  have HST := Lib.hid hst
  clear hk ht hr0 hst
  generalize hzs : bcells (List.replicate 176 0) = zs at *
  clear hzs
  generalize List.replicate 176 (0 : UInt8) = Z at *
  go_enter Tryz.func212, Tryz.ntmps212
  go_wp2_with (refine Lib.wpList_copy_run _ rfl (.tmp 10) (.tmp 11) 31 9 rfl _ _ rfl rfl HC.out ?_)
  go_loopw [6, 7] (fun r i wr => ∃ n : Nat, n ≤ 40 ∧ r = .int .u8 ((Ae.twi ((n + 3) / 4) 1).toNat : Nat) ∧ i = .int .i64 (16 + 4 * n : Nat) ∧ Hid (AtWord w wr E Z zs (16 + 4 * n))) (fun _ i _ => 176 - (intOf i).toNat)
  case atStart => exact ⟨0, by omega, rfl, rfl, HST⟩
  case round =>
    obtain ⟨n, hn', rfl, rfl, HW⟩ := hrel
    clear HC HST
    by_cases hn : n < 40
    · obtain ⟨hi, hhi⟩ : ∃ hi : Nat, hi = 16 + 4 * n := ⟨_, rfl⟩
      obtain ⟨lo, hlo⟩ : ∃ lo : Nat, lo = 12 + 4 * n := ⟨_, rfl⟩
      rw [← hhi] at HW
      simp only [← hhi]
      have HHI := Lib.hid hhi
      obtain ⟨a, ha⟩ : ∃ x, E.getD (12 + 4 * n) 0 = x := ⟨_, rfl⟩
      obtain ⟨b, hb⟩ : ∃ x, E.getD (13 + 4 * n) 0 = x := ⟨_, rfl⟩
      obtain ⟨c, hc⟩ : ∃ x, E.getD (14 + 4 * n) 0 = x := ⟨_, rfl⟩
      obtain ⟨d, hd⟩ : ∃ x, E.getD (15 + 4 * n) 0 = x := ⟨_, rfl⟩
      obtain ⟨w1, hr1, hw1, hg1⟩ := laidL E Z [a, b, c, d] zs w wr lo hi HW.out HL.out (by omega) (by omega) HZL.out rfl (fun j hj => by
        subst hlo
        match j, hj with
        | 0, _ => exact ha
        | 1, _ => rw [show 12 + 4 * n + 1 = 13 + 4 * n by omega]; exact hb
        | 2, _ => rw [show 12 + 4 * n + 2 = 14 + 4 * n by omega]; exact hc
        | 3, _ => rw [show 12 + 4 * n + 3 = 15 + 4 * n by omega]; exact hd) (176 - lo)
      have HR1 := Lib.hid hr1
      have HW1 := Lib.hid hw1
      have HG1 := Lib.hid hg1
      have f0 : (hi : Int) < 176 := by omega
      have f1 : lo ≤ hi := by omega
      have f2 : hi ≤ 176 := by omega
      have f3 : hi - lo = 4 := by omega
      have f5 : (hi : Int) ≤ 176 := by omega
      have f6 : ¬ 176 = lo := by omega
      have f4 : IntKind.i64.wrap ((hi : Int) - 4) = (lo : Int) := by rw [IntWalk.i64_in _ (by omega)]; omega
      have hg : w.heap.size + 2 ≤ wr.heap.size := HW.out.2.1
      obtain ⟨g, hgg⟩ : ∃ g, g = wr.heap.size := ⟨_, rfl⟩
      rw [← hgg] at HG1 hg
      have HGG := Lib.hid hgg
      clear hgg hr1 hw1 hg1 hhi hlo HW
      by_cases hn4 : n % 4 = 0
      · have hdec : (((hi : Int) % 16) == 0) = true := by simp; have := HHI.out; omega
        have HLS0 : Hid (Ae.lst E n = [Ae.sw b ^^^ Ae.twi (n / 4) 1, Ae.sw c, Ae.sw d, Ae.sw a]) := by rw [Hid, Ae.lst_yes E n hn4, ha, hb, hc, hd]
        have HTW := Lib.hid fun W => twice_any (Ae.twi (n / 4) 1) W
        rw [twi_next] at HTW
        have RREL : Value.int IntKind.u8 ((Ae.twi (n / 4 + 1) 1).toNat : Nat) = Value.int IntKind.u8 ((Ae.twi ((n + 1 + 3) / 4) 1).toNat : Nat) := by rw [show (n + 1 + 3) / 4 = n / 4 + 1 by omega]
        rw [show (n + 3) / 4 = n / 4 by omega]
        have HRREL := Lib.hid RREL
        clear ha hb hc hd hn4 RREL
        generalize Ae.twi (n / 4 + 1) 1 = r2 at *
        generalize Ae.twi (n / 4) 1 = r1 at *
        obtain ⟨hb1, hz1, h10, h11⟩ := HW1.out
        have htab : TabAt w1.drew gt := HT.out.below hgt hb1.drew
        have ta := htab.at a
        have tb := htab.at b
        have tc := htab.at c
        have td := htab.at d
        generalize Ae.sw a = sa at *
        generalize Ae.sw b = sb at *
        generalize Ae.sw c = sc at *
        generalize Ae.sw d = sd at *
        have hv := xor_byte sb r1
        generalize sb ^^^ r1 = l0 at *
        have q0 : w1.drew.cell? ⟨g, 0, none⟩ = some (.int .u8 (a.toNat : Nat)) := bget (wr := w1) HG1.out (by simp) a rfl
        have q1 : w1.drew.cell? ⟨g, 1, none⟩ = some (.int .u8 (b.toNat : Nat)) := bget (wr := w1) HG1.out (by simp) b rfl
        have q2 : w1.drew.cell? ⟨g, 2, none⟩ = some (.int .u8 (c.toNat : Nat)) := bget (wr := w1) HG1.out (by simp) c rfl
        have q3 : w1.drew.cell? ⟨g, 3, none⟩ = some (.int .u8 (d.toNat : Nat)) := bget (wr := w1) HG1.out (by simp) d rfl
        have x0 : (a.toNat : Int) < 256 := by have := UInt8.toNat_lt a; omega
        have x1 : (b.toNat : Int) < 256 := by have := UInt8.toNat_lt b; omega
        have x2 : (c.toNat : Int) < 256 := by have := UInt8.toNat_lt c; omega
        have x3 : (d.toNat : Int) < 256 := by have := UInt8.toNat_lt d; omega
        have HG2 : Hid (w1.drew.heap[g]? = some (.cells (bcells [a, b, c, d]) 212 (0, 0))) := HG1
        have HI4a : Hid ((Tryz.prog.info? 212).map (·.size) = some (bcells [l0, sc, sd, sa]).size) := Lib.hid infoA4
        have HS4 : Hid ((bcells [a, b, c, d]).size = (bcells [l0, sc, sd, sa]).size) := Lib.hid rfl
        have HW4 : Hid (AtWord w (w1.drew.setRow g (bcells [l0, sc, sd, sa])) E Z zs (hi + 0)) := by
          refine ⟨below_setRow' hb1.drew (by omega) _, by simpa using hz1, ?_, ?_⟩
          · rw [setRow_other _ _ _ _ (by omega)]; exact h10
          · rw [setRow_other _ _ _ _ (by omega)]; exact h11
        have HG4 : Hid ((w1.drew.setRow g (bcells [l0, sc, sd, sa])).heap[g]? = some (.cells (bcells [l0, sc, sd, sa]) 212 (0, 0))) := setRow_heap _ _ _ _ _ _ HG2.out
        clear h10 h11 hb1 hz1 htab HG1
        obtain ⟨l4, hl4⟩ : ∃ l4, [l0, sc, sd, sa] = l4 := ⟨_, rfl⟩
        have HI4 : l4.length = 4 := by rw [← hl4]; rfl
        have HLS : Hid (Ae.lst E n = l4) := by rw [Hid, HLS0.out, hl4]
        have HW4' := HW4
        have HG4' := HG4
        rw [hl4] at HW4' HG4'
        go_upto_region 8 with fail
        refine wp_region_still_tail 5 (by kernel_rfl) (by kernel_rfl) ?_
        change wpStill _ _ (World.drew _) (fun a' => wpList _ _ _ _ a' (World.drew _)) _ _
        simp only [List.take_succ_cons, List.take_zero, List.drop_succ_cons, List.drop_zero]
        generalize hWW : World.drew _ = WW
        repeat still_step
        refine wpStill_nil ?_
        subst hWW
        go_upto_region 10 with (refine Lib.wpList_copy_run _ rfl (.tmp 17) (.tmp 21) 31 31 rfl _ _ rfl rfl HR1.out ?_)
        rw [← HGG.out]
        refine wp_region_still_tail 27 (by kernel_rfl) (by kernel_rfl) ?_
        change wpStill _ _ (World.drew _) (fun a' => wpList _ _ _ _ a' (World.drew _)) _ _
        simp only [List.take_succ_cons, List.take_zero, List.drop_succ_cons, List.drop_zero]
        generalize hWW : w1.drew = WW at *
        repeat still_step
        refine wpStill_nil ?_
        go_wp2_with (refine wpList_store_row rfl 212 (.tmp 8) (.tmp 52) rfl g (bcells [l0, sc, sd, sa]) rfl rfl 212 _ HG2.out HI4a.out HS4.out (bcells_one _) ?_)
        generalize WW.setRow g (bcells l4) = w4 at *
        clear q0 q1 q2 q3 ta tb tc td x0 x1 x2 x3 hv HG2 HI4a HS4 HW4 HG4 HLS0 hWW
        refine (HTW.out _).mono ?_
        rintro _ _ ⟨rfl, rfl⟩
        clear HTW HR1 HW1 f0 f1 f2 f3 f4 f5 f6 hdec
        go_wp2
        go_loopw [55] (fun i wj => ∃ j : Nat, j ≤ 4 ∧ i = .int .i64 j ∧ Hid (AtWord w wj E Z zs (hi + j)) ∧ w.heap.size + 2 ≤ g ∧ Hid (wj.heap[g]? = some (.cells (bcells l4) 212 (0, 0)))) (fun i _ => 4 - (intOf i).toNat)
        case atStart => exact ⟨0, by omega, rfl, HW4', hg, HG4'⟩
        case round =>
          obtain ⟨j, hj, rfl, HWj, hg', HGj⟩ := hrel
          clear HW4' HG4'
          by_cases hlt4 : j < 4
          · have hhi := HHI.out
            obtain ⟨x, hx⟩ : ∃ x, E.getD (4 * n + j) 0 = x := ⟨_, rfl⟩
            obtain ⟨y, hy⟩ : ∃ y, l4.getD j 0 = y := ⟨_, rfl⟩
            obtain ⟨hbj, hzj, hj0, hj1⟩ := HWj.out
            have hfl := fil_length (k := hi + j) HL.out HZL.out (by omega)
            obtain ⟨m, hm⟩ : ∃ m : Nat, m = 4 * n + j := ⟨_, rfl⟩
            obtain ⟨p, hp⟩ : ∃ p : Nat, p = hi + j := ⟨_, rfl⟩
            have hcx : wr.drew.cell? ⟨w.heap.size + 1, m, none⟩ = some (.int .u8 (x.toNat : Nat)) := bget (wr := wr) hj1 (by omega) x ((fil_low HL.out (by omega) (by omega)).trans (by rw [hm]; exact hx))
            have hcy : wr.drew.cell? ⟨g, j, none⟩ = some (.int .u8 (y.toNat : Nat)) := bget (wr := wr) HGj.out (by rw [HI4]; exact hlt4) y hy
            obtain ⟨z, hz⟩ : ∃ z, (fil E Z (hi + j)).getD p 0 = z := ⟨_, rfl⟩
            have hcz : wr.drew.cell? ⟨w.heap.size + 1, p, none⟩ = some (.int .u8 (z.toNat : Nat)) := bget (wr := wr) hj1 (by omega) z hz
            have hfro : wr.drew.frozen? ⟨w.heap.size + 1, p, none⟩ = false := frozen_of_row wr _ p _ _ hj1
            have HWn : Hid (AtWord w (wr.drew.setCell ⟨w.heap.size + 1, p, none⟩ (.int .u8 ((x ^^^ y).toNat : Nat))) E Z zs (hi + (j + 1))) := by
              refine ⟨hbj.drew.setCell (Nat.le_succ _) _, by simp [World.setCell]; exact hzj, ?_, ?_⟩
              · rw [bset_other (by omega)]; exact hj0
              · have := bset (wr := wr.drew) (i := p) hj1 (x ^^^ y)
                rw [hp, fil_set HL.out HZL.out (by omega) (x ^^^ y) (by rw [HHI.out, HREC.out n j hn hlt4, hx, HLS.out, hy])] at this
                rw [hp]
                exact this
            have HGn : Hid ((wr.drew.setCell ⟨w.heap.size + 1, p, none⟩ (.int .u8 ((x ^^^ y).toNat : Nat))).heap[g]? = some (.cells (bcells l4) 212 (0, 0))) := by
              rw [Hid, bset_other (by omega)]; exact HGj.out
            have hv := xor_byte x y
            have e0 : (j : Int) < 4 := by omega
            have e1 : IntKind.i64.wrap ((hi : Int) + (j : Int)) = (p : Int) := by rw [IntWalk.i64_in _ (by omega)]; omega
            have hl4n : Hid (hi = 16 + 4 * n) := HHI
            obtain ⟨q, hq⟩ : ∃ q : Nat, q = 4 * n := ⟨_, rfl⟩
            have e2 : IntKind.i64.wrap ((hi : Int) - 16) = (q : Int) := by rw [IntWalk.i64_in _ (by omega)]; have := HHI.out; omega
            have e3 : IntKind.i64.wrap ((q : Int) + (j : Int)) = (m : Int) := by rw [IntWalk.i64_in _ (by omega)]; omega
            have e4 : (m : Int) < 176 := by have := HHI.out; omega
            have e5 : (p : Int) < 176 := by have := HHI.out; omega
            clear hx hy hz hj0 hj1 hfl hbj hzj HWj HGj hq hm hp hhi
            go_wp2_with fail
            refine wp_region_still_tail 13 (by kernel_rfl) (by kernel_rfl) ?_
            change wpStill _ _ (World.drew _) (fun a' => wpList _ _ _ _ a' (World.drew _)) _ _
            generalize wr.drew = w9 at *
            simp only [List.take_succ_cons, List.take_zero, List.drop_succ_cons, List.drop_zero]
            repeat still_step
            refine wpStill_nil ?_
            go_wp2
            go_roundw
            case rel => exact ⟨j + 1, by omega, by go_num, HWn, hg', HGn⟩
            case measure => simp [intOf]; omega
          · obtain rfl : j = 4 := by omega
            have HWe : Hid (AtWord w wr E Z zs (16 + 4 * (n + 1))) := by
              rw [Hid, show 16 + 4 * (n + 1) = hi + 4 by have := HHI.out; omega]
              exact HWj.out
            clear HWj HGj
            have hb16 : hi ≤ 176 := by have := HHI.out; omega
            go_wp2
            go_roundw
            case rel => exact ⟨n + 1, by omega, HRREL.out, by have := HHI.out; go_num, HWe⟩
            case measure => simp [intOf]; have := HHI.out; omega
      · have hdec : (((hi : Int) % 16) == 0) = false := by simp; have := HHI.out; omega
        have HLS0 : Hid (Ae.lst E n = [a, b, c, d]) := by rw [Hid, Ae.lst_no E n hn4, ha, hb, hc, hd]
        have RREL : Value.int IntKind.u8 ((Ae.twi ((n + 3) / 4) 1).toNat : Nat) = Value.int IntKind.u8 ((Ae.twi ((n + 1 + 3) / 4) 1).toNat : Nat) := by rw [show (n + 1 + 3) / 4 = (n + 3) / 4 by omega]
        have HRREL := Lib.hid RREL
        clear ha hb hc hd hn4 RREL
        generalize Ae.twi ((n + 3) / 4) 1 = r1 at *
        have HW4' : Hid (AtWord w w1 E Z zs (hi + 0)) := HW1
        have HG4' := HG1
        obtain ⟨l4, hl4⟩ : ∃ l4, [a, b, c, d] = l4 := ⟨_, rfl⟩
        have HI4 : l4.length = 4 := by rw [← hl4]; rfl
        have HLS : Hid (Ae.lst E n = l4) := by rw [Hid, HLS0.out, hl4]
        rw [hl4] at HG4'
        clear hl4 HLS0 HG1 HW1
        go_upto_region 8 with fail
        refine wp_region_still_tail 5 (by kernel_rfl) (by kernel_rfl) ?_
        change wpStill _ _ (World.drew _) (fun a' => wpList _ _ _ _ a' (World.drew _)) _ _
        simp only [List.take_succ_cons, List.take_zero, List.drop_succ_cons, List.drop_zero]
        generalize hWW : World.drew _ = WW
        repeat still_step
        refine wpStill_nil ?_
        subst hWW
        go_wp2_with (refine Lib.wpList_copy_run _ rfl (.tmp 17) (.tmp 21) 31 31 rfl _ _ rfl rfl HR1.out ?_)
        rw [← HGG.out]
        clear HR1 f0 f1 f2 f3 f4 f5 f6 hdec
        go_loopw [55] (fun i wj => ∃ j : Nat, j ≤ 4 ∧ i = .int .i64 j ∧ Hid (AtWord w wj E Z zs (hi + j)) ∧ w.heap.size + 2 ≤ g ∧ Hid (wj.heap[g]? = some (.cells (bcells l4) 212 (0, 0)))) (fun i _ => 4 - (intOf i).toNat)
        case atStart => exact ⟨0, by omega, rfl, HW4', hg, HG4'⟩
        case round =>
          obtain ⟨j, hj, rfl, HWj, hg', HGj⟩ := hrel
          clear HW4' HG4'
          by_cases hlt4 : j < 4
          · have hhi := HHI.out
            obtain ⟨x, hx⟩ : ∃ x, E.getD (4 * n + j) 0 = x := ⟨_, rfl⟩
            obtain ⟨y, hy⟩ : ∃ y, l4.getD j 0 = y := ⟨_, rfl⟩
            obtain ⟨hbj, hzj, hj0, hj1⟩ := HWj.out
            have hfl := fil_length (k := hi + j) HL.out HZL.out (by omega)
            obtain ⟨m, hm⟩ : ∃ m : Nat, m = 4 * n + j := ⟨_, rfl⟩
            obtain ⟨p, hp⟩ : ∃ p : Nat, p = hi + j := ⟨_, rfl⟩
            have hcx : wr.drew.cell? ⟨w.heap.size + 1, m, none⟩ = some (.int .u8 (x.toNat : Nat)) := bget (wr := wr) hj1 (by omega) x ((fil_low HL.out (by omega) (by omega)).trans (by rw [hm]; exact hx))
            have hcy : wr.drew.cell? ⟨g, j, none⟩ = some (.int .u8 (y.toNat : Nat)) := bget (wr := wr) HGj.out (by rw [HI4]; exact hlt4) y hy
            obtain ⟨z, hz⟩ : ∃ z, (fil E Z (hi + j)).getD p 0 = z := ⟨_, rfl⟩
            have hcz : wr.drew.cell? ⟨w.heap.size + 1, p, none⟩ = some (.int .u8 (z.toNat : Nat)) := bget (wr := wr) hj1 (by omega) z hz
            have hfro : wr.drew.frozen? ⟨w.heap.size + 1, p, none⟩ = false := frozen_of_row wr _ p _ _ hj1
            have HWn : Hid (AtWord w (wr.drew.setCell ⟨w.heap.size + 1, p, none⟩ (.int .u8 ((x ^^^ y).toNat : Nat))) E Z zs (hi + (j + 1))) := by
              refine ⟨hbj.drew.setCell (Nat.le_succ _) _, by simp [World.setCell]; exact hzj, ?_, ?_⟩
              · rw [bset_other (by omega)]; exact hj0
              · have := bset (wr := wr.drew) (i := p) hj1 (x ^^^ y)
                rw [hp, fil_set HL.out HZL.out (by omega) (x ^^^ y) (by rw [HHI.out, HREC.out n j hn hlt4, hx, HLS.out, hy])] at this
                rw [hp]
                exact this
            have HGn : Hid ((wr.drew.setCell ⟨w.heap.size + 1, p, none⟩ (.int .u8 ((x ^^^ y).toNat : Nat))).heap[g]? = some (.cells (bcells l4) 212 (0, 0))) := by
              rw [Hid, bset_other (by omega)]; exact HGj.out
            have hv := xor_byte x y
            have e0 : (j : Int) < 4 := by omega
            have e1 : IntKind.i64.wrap ((hi : Int) + (j : Int)) = (p : Int) := by rw [IntWalk.i64_in _ (by omega)]; omega
            have hl4n : Hid (hi = 16 + 4 * n) := HHI
            obtain ⟨q, hq⟩ : ∃ q : Nat, q = 4 * n := ⟨_, rfl⟩
            have e2 : IntKind.i64.wrap ((hi : Int) - 16) = (q : Int) := by rw [IntWalk.i64_in _ (by omega)]; have := HHI.out; omega
            have e3 : IntKind.i64.wrap ((q : Int) + (j : Int)) = (m : Int) := by rw [IntWalk.i64_in _ (by omega)]; omega
            have e4 : (m : Int) < 176 := by have := HHI.out; omega
            have e5 : (p : Int) < 176 := by have := HHI.out; omega
            clear hx hy hz hj0 hj1 hfl hbj hzj HWj HGj hq hm hp hhi
            go_wp2_with fail
            refine wp_region_still_tail 13 (by kernel_rfl) (by kernel_rfl) ?_
            change wpStill _ _ (World.drew _) (fun a' => wpList _ _ _ _ a' (World.drew _)) _ _
            generalize wr.drew = w9 at *
            simp only [List.take_succ_cons, List.take_zero, List.drop_succ_cons, List.drop_zero]
            repeat still_step
            refine wpStill_nil ?_
            go_wp2
            go_roundw
            case rel => exact ⟨j + 1, by omega, by go_num, HWn, hg', HGn⟩
            case measure => simp [intOf]; omega
          · obtain rfl : j = 4 := by omega
            have HWe : Hid (AtWord w wr E Z zs (16 + 4 * (n + 1))) := by
              rw [Hid, show 16 + 4 * (n + 1) = hi + 4 by have := HHI.out; omega]
              exact HWj.out
            clear HWj HGj
            have hb16 : hi ≤ 176 := by have := HHI.out; omega
            go_wp2
            go_roundw
            case rel => exact ⟨n + 1, by omega, HRREL.out, by have := HHI.out; go_num, HWe⟩
            case measure => simp [intOf]; have := HHI.out; omega
    · obtain rfl : n = 40 := by omega
      obtain ⟨hb, _, hc0, hc1⟩ := HW.out
      have hc1' : wr.heap[w.heap.size + 1]? = some (.cells (bcells E) 201 (0, 0)) := by
        rw [fil_all HL.out HZL.out] at hc1
        exact hc1
      have HC0 := Lib.hid hc0
      have HC1 := Lib.hid hc1'
      have HI : Hid ((Tryz.prog.info? 201).map (·.size) = some (bcells E).size) := by rw [Hid, infoA176, bcells_size, HL.out]
      have HZ : Hid (zs.size = (bcells E).size) := by rw [Hid, bcells_size, HL.out, hzz]
      clear hc0 hc1 hc1' HW
      go_wp2_with (first | (refine wpList_load_row rfl 201 (.tmp 5) rfl (w.heap.size + 1) rfl 201 (bcells E) (0, 0) _ HC1.out Tryz.underlying201 rfl HI.out ?_) | (refine wpList_store_row rfl 201 (.tmp 4) (.tmp 73) rfl w.heap.size (bcells E) rfl rfl 201 _ HC0.out HI.out HZ.out (bcells_one _) ?_))
      exact bodyPost_ret (v := .agg (bcells E)) (results_cell_row Tryz.results212 _ _ w.heap.size 201 _ (0, 0) _ rfl (setRow_heap _ _ _ _ _ _ HC0.out) Tryz.underlying201 rfl HI.out) rfl ⟨rfl, below_setRow' hb (Nat.le_refl _) _⟩
end Go.Proofs.YticofjbngfjjlaaGreatDoor

