/- The document's answers of layer 7: New, Seal, Open, Sum, by what the layers below answer. -/
import Derived.Test.YtdjehpbkkbahcaaDoorGHmV
import Derived.Test.YtdjehpbkkbahcaaDoorGAeV3
import Derived.Test.YtdjehpbkkbahcaaDoorGPur
import Derived.Lib.QuietBelow
import Derived.Test.YtdjehpbkkbahcaaDoorGCtV
import Derived.Test.YtdjehpbkkbahcaaDoorGSlW
namespace Go.Proofs.YtdjehpbkkbahcaaDoor
open Go.RowKit

/-- A variable of three cells. -/
def Thr (w : World) (g : Nat) (a b c : Value) : Prop := g < w.heap.size ∧ w.cell? ⟨g, 0, none⟩ = some a ∧ w.cell? ⟨g, 1, none⟩ = some b ∧ w.cell? ⟨g, 2, none⟩ = some c
theorem Thr.below {W w : World} {g : Nat} {a b c : Value} (h : Thr W g a b c) (hb : Below W.heap.size W w) : Thr w g a b c :=
  ⟨Nat.lt_of_lt_of_le h.1 hb.size, (hb.cell (p := ⟨g, 0, none⟩) h.1).trans h.2.1, (hb.cell (p := ⟨g, 1, none⟩) h.1).trans h.2.2.1, (hb.cell (p := ⟨g, 2, none⟩) h.1).trans h.2.2.2⟩
theorem Thr.new (w : World) (a b c : Value) (t : TypeId) : Thr (w.alloc (.cells #[a, b, c] t)) w.heap.size a b c :=
  ⟨by simp, cell_of_row _ _ _ _ _ _ (heap_alloc_new _ _), cell_of_row _ _ _ _ _ _ (heap_alloc_new _ _), cell_of_row _ _ _ _ _ _ (heap_alloc_new _ _)⟩

/-- What New answers: both tables in memory. -/
def NewSPost (ts : List UInt8) (w : World) (e : Ending) (w' : World) : Prop :=
  ∃ g cap gt ct, e = .returned (.agg #[.slice (some ⟨g, 0, none⟩) 64 cap, .string ⟨⟨ts⟩⟩, .slice (some ⟨gt, 0, none⟩) 256 ct]) ∧ KeysAt w' g cap ∧ TabS w' gt ∧ Below w.heap.size w w'

theorem TabS.set {w : World} {g g0 i : Nat} {x : Value} (h : TabS w g) (hne : g ≠ g0) : TabS (w.setCell ⟨g0, i, none⟩ x) g :=
  ⟨by simpa [World.setCell] using h.1, fun y => by
    rw [World.cell?_setCell_other]
    · exact h.2 y
    · intro e
      exact hne (congrArg Addr.block e).symm⟩

theorem KK_len : Sh.KK.length = 64 := by decide +kernel

set_option maxRecDepth 100000 in
theorem NewS_by (ts : List UInt8) (w : World) (HN : Hid (∀ w, Calls Tryd.prog 19 #[] w (NewPost ts w)))
    (HB : Hid (∀ w, Calls Tryd.prog 20 #[] w fun e w' => (∃ v, e = .returned v ∧ OwnB w' w.heap.size v Ae.SB) ∧ Below w.heap.size w w')) :
    Calls Tryd.prog 9 #[] w (NewSPost ts w) := by
  go_enter Tryd.func9, Tryd.ntmps9
  go_wp2_with fail
  refine (HN.out _).mono ?_
  rintro _ w1 ⟨vk, rfl, HK, hb1⟩
  have hz1 : w.heap.size < w1.heap.size := by have := hb1.size; simp at this; omega
  go_wp2_with fail
  refine (HB.out w1).mono ?_
  rintro _ w2 ⟨⟨v, rfl, HO⟩, hb2⟩
  obtain ⟨gt, ct, rfl, hgt, htab⟩ := TabS.of HO
  have hz2 : w.heap.size < w2.heap.size := Nat.lt_of_lt_of_le hz1 hb2.size
  have hrow : w2.heap[w.heap.size]? = some (.cells #[.slice none 0 0, .string ⟨#[]⟩, .slice none 0 0] 28 (0, 0)) := (hb2.block _ hz1).trans ((hb1.block _ (by simp)).trans (heap_alloc_new _ _))
  have HK2 := HK.below hb2
  have b2 : Below w.heap.size w w2 := ((Below.refl _ _).alloc (Nat.le_refl _) _).trans ((hb1.trans (hb2.mono hb1.size)).mono (by simp))
  obtain ⟨g, cap, rfl, hg, hcc⟩ := id HK2
  have hne : g ≠ w.heap.size := by
    intro e
    have h0 := hcc 0 (by decide)
    rw [e, cell_of_row _ _ _ _ _ _ hrow] at h0
    cases h0
  have hnt : gt ≠ w.heap.size := by omega
  have c0 : w2.cell? ⟨w.heap.size, 0, none⟩ = some (.slice none 0 0) := cell_of_row _ _ _ _ _ _ hrow
  have c1 : w2.cell? ⟨w.heap.size, 1, none⟩ = some (.string ⟨#[]⟩) := cell_of_row _ _ _ _ _ _ hrow
  have c2 : w2.cell? ⟨w.heap.size, 2, none⟩ = some (.slice none 0 0) := cell_of_row _ _ _ _ _ _ hrow
  have f0 := frozen_of_row _ _ 0 _ _ hrow
  have f1 := frozen_of_row _ _ 1 _ _ hrow
  have f2 := frozen_of_row _ _ 2 _ _ hrow
  have HK3 := Lib.hid (ints_set (i := 2) (x := .slice (some ⟨gt, 0, none⟩) 256 ct) (ints_set (i := 1) (x := .string ⟨⟨ts⟩⟩) (ints_set (i := 0) (x := .slice (some ⟨g, 0, none⟩) Sh.KK.length cap) HK2 hne) hne) hne)
  have HT3 := Lib.hid (TabS.set (i := 2) (x := .slice (some ⟨gt, 0, none⟩) 256 ct) (TabS.set (i := 1) (x := .string ⟨⟨ts⟩⟩) (TabS.set (i := 0) (x := .slice (some ⟨g, 0, none⟩) Sh.KK.length cap) htab hnt) hnt) hnt)
  have HLK := Lib.hid KK_len
  clear HK HK2 hcc hb1 hb2 hrow HO htab
  generalize Sh.KK.length = n64 at *
  obtain rfl := HLK.out
  go_wp2
  exact bodyPost_ret (v := .agg #[.slice (some ⟨g, 0, none⟩) 64 cap, .string ⟨⟨ts⟩⟩, .slice (some ⟨gt, 0, none⟩) 256 ct]) (by simp [results, Tryd.results9, go_sem, c0, c1, c2]) rfl ⟨_, _, _, _, rfl, HK3.out, HT3.out, ((b2.setCell (Nat.le_refl _) _).setCell (Nat.le_refl _) _).setCell (Nat.le_refl _) _⟩

/-- What the document's calls of the layers below answer. -/
abbrev RCipIs (ts b : List UInt8) (n : Int) (k : List UInt8) : Prop := ∀ g cap w, KeysAt w g cap → Calls Tryd.prog 24 #[.agg #[.slice (some ⟨g, 0, none⟩) 64 cap, .string ⟨⟨ts⟩⟩], .string ⟨⟨b⟩⟩, .int .i64 n] w fun e w' => e = .returned (.string ⟨⟨k⟩⟩) ∧ Below w.heap.size w w'
abbrev RSumIs (ts b : List UInt8) (n : Int) (k : List UInt8) : Prop := ∀ g cap w, KeysAt w g cap → Calls Tryd.prog 26 #[.agg #[.slice (some ⟨g, 0, none⟩) 64 cap, .string ⟨⟨ts⟩⟩], .string ⟨⟨b⟩⟩, .int .i64 n] w fun e w' => e = .returned (.string ⟨⟨k⟩⟩) ∧ Below w.heap.size w w'
abbrev RCtrIs (k o x c : List UInt8) : Prop := ∀ gt ct w, TabS w gt → Calls Tryd.prog 23 #[.slice (some ⟨gt, 0, none⟩) 256 ct, .string ⟨⟨k⟩⟩, .string ⟨⟨o⟩⟩, .string ⟨⟨x⟩⟩] w fun e w' => e = .returned (.string ⟨⟨c⟩⟩) ∧ Below w.heap.size w w'
theorem TabS.on {w w' : World} {g : Nat} (h : TabS w g) (hb : Below w.heap.size w w') : TabS w' g := h.below h.1 hb hb.size

set_option maxRecDepth 100000 in
set_option maxHeartbeats 1000000 in
theorem rsSum_by (ts b k x m : List UInt8) (n : Int) (g cap gt ct : Nat) (w : World) (HK : KeysAt w g cap) (HR : Hid (RKeyIs ts b n [99, 104, 101, 99, 107] k)) (HM : Hid (RMacIs ts k x m)) :
    Calls Tryd.prog 14 #[.agg #[.slice (some ⟨g, 0, none⟩) 64 cap, .string ⟨⟨ts⟩⟩, .slice (some ⟨gt, 0, none⟩) 256 ct], .string ⟨⟨b⟩⟩, .int .i64 n, .string ⟨⟨x⟩⟩] w fun e w' => e = .returned (.string ⟨⟨m⟩⟩) ∧ Below w.heap.size w w' := by
  go_enter Tryd.func14, Tryd.ntmps14
  go_wp2_with fail
  generalize hW : w.alloc _ = W at *
  have b1 : Below w.heap.size w W := by rw [← hW]; exact (Below.refl _ _).alloc (Nat.le_refl _) _
  have h3 : Thr W w.heap.size (.slice (some ⟨g, 0, none⟩) 64 cap) (.string ⟨⟨ts⟩⟩) (.slice (some ⟨gt, 0, none⟩) 256 ct) := by rw [← hW]; exact Thr.new _ _ _ _ _
  have HK1 := HK.below b1
  clear hW
  have k0 := cell_regrown h3.2.1
  have k1 := cell_regrown h3.2.2.1
  have k2 := cell_regrown h3.2.2.2
  have kK : ∀ d os, Calls Tryd.prog 28 #[.agg #[.slice (some ⟨g, 0, none⟩) 64 cap, .string ⟨⟨ts⟩⟩], .string ⟨⟨b⟩⟩, .int .i64 n, .string ⟨#[99, 104, 101, 99, 107]⟩] (Go.Sort.grow (redrawn W d) os) fun e w'' => e = .returned (.string ⟨⟨k⟩⟩) ∧ ∃ p : Regrown, w'' = Go.Sort.grow (redrawn W p.d) p.os := fun d os => Calls.regrown_of (HR.out _ _ _ (HK1.below (below_regrown W d os)))
  have kM : ∀ d os, Calls Tryd.prog 25 #[.agg #[.slice (some ⟨g, 0, none⟩) 64 cap, .string ⟨⟨ts⟩⟩], .string ⟨⟨k⟩⟩, .string ⟨⟨x⟩⟩] (Go.Sort.grow (redrawn W d) os) fun e w'' => e = .returned (.string ⟨⟨m⟩⟩) ∧ ∃ p : Regrown, w'' = Go.Sort.grow (redrawn W p.d) p.os := fun d os => Calls.regrown_of (HM.out _ _ _ (HK1.below (below_regrown W d os)))
  clear HR HM h3
  refine wp_region_quiet_below (by kernel_rfl) (by kernel_rfl) ?_
  repeat (quiet_step (first | exact kK _ _ | exact kM _ _))
  refine wpQuiet_nil ?_
  intro _ hw'
  obtain ⟨⟨dq, osq⟩, hw''⟩ := hw'
  subst hw''
  have b2 : Below w.heap.size w (Go.Sort.grow (redrawn W dq) osq) := b1.trans ((below_regrown W dq osq).mono b1.size)
  clear kK kM k0 k1 k2
  go_wp2
  go_ret
  exact ⟨rfl, b2⟩
end Go.Proofs.YtdjehpbkkbahcaaDoor

/- The document's Seal and Open, by what the layers below answer. -/

namespace Go.Proofs.YtdjehpbkkbahcaaDoor
open Go.RowKit

set_option maxRecDepth 100000 in
theorem rsSeal_no (ts b o x : List UInt8) (n : Int) (g cap gt ct : Nat) (w : World) (ho : o.length ≠ 12) :
    Calls Tryd.prog 11 #[.agg #[.slice (some ⟨g, 0, none⟩) 64 cap, .string ⟨⟨ts⟩⟩, .slice (some ⟨gt, 0, none⟩) 256 ct], .string ⟨⟨b⟩⟩, .int .i64 n, .string ⟨⟨o⟩⟩, .string ⟨⟨x⟩⟩] w fun e w' => e = .returned (.tuple #[.string ⟨⟨[]⟩⟩, .int .i64 1]) ∧ Below w.heap.size w w' := by
  have b0 : Below w.heap.size w (w.alloc (.cells #[.slice (some ⟨g, 0, none⟩) 64 cap, .string ⟨⟨ts⟩⟩, .slice (some ⟨gt, 0, none⟩) 256 ct] 28)) := (Below.refl _ _).alloc (Nat.le_refl _) _
  obtain ⟨o1, o2, o3, o4⟩ := len_false ho
  simp only [Int.cast_ofNat_Int] at o1 o3
  clear ho
  go_enter Tryd.func11, Tryd.ntmps11
  go_wp2
  go_ret2
  exact ⟨rfl, b0⟩

set_option maxRecDepth 100000 in
set_option maxHeartbeats 1000000 in
theorem rsSeal_by (ts b o x k1 c k2 m : List UInt8) (n : Int) (g cap gt ct : Nat) (w : World) (HK : KeysAt w g cap) (HT : TabS w gt) (ho : o.length = 12) (hx : x.length ≤ 65536) (hc : c.length ≤ 65536) (hm : m.length ≤ 32)
    (HD : Hid (RCipIs ts b n k1)) (HC : Hid (RCtrIs k1 o x c)) (HS : Hid (RSumIs ts b n k2)) (HM : Hid (RMacIs ts k2 (o ++ c) m)) :
    Calls Tryd.prog 11 #[.agg #[.slice (some ⟨g, 0, none⟩) 64 cap, .string ⟨⟨ts⟩⟩, .slice (some ⟨gt, 0, none⟩) 256 ct], .string ⟨⟨b⟩⟩, .int .i64 n, .string ⟨⟨o⟩⟩, .string ⟨⟨x⟩⟩] w fun e w' => e = .returned (.tuple #[.string ⟨⟨o ++ c ++ m⟩⟩, .int .i64 0]) ∧ Below w.heap.size w w' := by
  obtain ⟨o1, o2, o3, o4⟩ := len_true ho
  simp only [Int.cast_ofNat_Int] at o1 o3
  have hxi : ¬ (65536 : Int) < (x.length : Int) := by omega
  have hap1 : ByteArray.mk ⟨o⟩ ++ ByteArray.mk ⟨c⟩ = ⟨⟨o ++ c⟩⟩ := str_app _ _
  have hap2 : ByteArray.mk ⟨o ++ c⟩ ++ ByteArray.mk ⟨m⟩ = ⟨⟨o ++ c ++ m⟩⟩ := str_app _ _
  have hw1 : ¬ 9223372036854775807 < o.length + c.length := by omega
  have hw2 : ¬ 9223372036854775807 < (o ++ c).length + m.length := by rw [List.length_append]; omega
  generalize o ++ c ++ m = r at *
  generalize o ++ c = t at *
  clear ho hc hm hx
  go_enter Tryd.func11, Tryd.ntmps11
  go_wp2_with fail
  generalize hW : w.alloc _ = W at *
  have b1 : Below w.heap.size w W := by rw [← hW]; exact (Below.refl _ _).alloc (Nat.le_refl _) _
  have h3 : Thr W w.heap.size (.slice (some ⟨g, 0, none⟩) 64 cap) (.string ⟨⟨ts⟩⟩) (.slice (some ⟨gt, 0, none⟩) 256 ct) := by rw [← hW]; exact Thr.new _ _ _ _ _
  have HK1 := HK.below b1
  have HT1 := HT.below HT.1 b1 b1.size
  clear hW
  have j0 := cell_regrown h3.2.1
  have j1 := cell_regrown h3.2.2.1
  have j2 := cell_regrown h3.2.2.2
  have kA : ∀ d os, Calls Tryd.prog 24 #[.agg #[.slice (some ⟨g, 0, none⟩) 64 cap, .string ⟨⟨ts⟩⟩], .string ⟨⟨b⟩⟩, .int .i64 n] (Go.Sort.grow (redrawn W d) os) fun e w'' => e = .returned (.string ⟨⟨k1⟩⟩) ∧ ∃ p : Regrown, w'' = Go.Sort.grow (redrawn W p.d) p.os := fun d os => Calls.regrown_of (HD.out _ _ _ (HK1.below (below_regrown W d os)))
  have kB : ∀ d os, Calls Tryd.prog 23 #[.slice (some ⟨gt, 0, none⟩) 256 ct, .string ⟨⟨k1⟩⟩, .string ⟨⟨o⟩⟩, .string ⟨⟨x⟩⟩] (Go.Sort.grow (redrawn W d) os) fun e w'' => e = .returned (.string ⟨⟨c⟩⟩) ∧ ∃ p : Regrown, w'' = Go.Sort.grow (redrawn W p.d) p.os := fun d os => Calls.regrown_of (HC.out _ _ _ (TabS.on HT1 (below_regrown W d os)))
  refine wp_region_quiet_below (by kernel_rfl) (by kernel_rfl) ?_
  repeat (quiet_step (first | exact kA _ _ | exact kB _ _))
  refine wpQuiet_nil ?_
  intro _ hw'
  obtain ⟨⟨dq, osq⟩, hw''⟩ := hw'
  subst hw''
  have b2 : Below w.heap.size w (Go.Sort.grow (redrawn W dq) osq) := b1.trans ((below_regrown W dq osq).mono b1.size)
  clear kA kB HD HC
  have h4 := h3.below (below_regrown W dq osq)
  have HK2 := HK1.below (below_regrown W dq osq)
  have HT2 := TabS.on HT1 (below_regrown W dq osq)
  clear j0 j1 j2 h3 HK1 HT1 b1
  generalize Go.Sort.grow (redrawn W dq) osq = W2 at *
  clear dq osq
  have j0 := cell_regrown h4.2.1
  have j1 := cell_regrown h4.2.2.1
  have j2 := cell_regrown h4.2.2.2
  have kA : ∀ d os, Calls Tryd.prog 26 #[.agg #[.slice (some ⟨g, 0, none⟩) 64 cap, .string ⟨⟨ts⟩⟩], .string ⟨⟨b⟩⟩, .int .i64 n] (Go.Sort.grow (redrawn W2 d) os) fun e w'' => e = .returned (.string ⟨⟨k2⟩⟩) ∧ ∃ p : Regrown, w'' = Go.Sort.grow (redrawn W2 p.d) p.os := fun d os => Calls.regrown_of (HS.out _ _ _ (HK2.below (below_regrown W2 d os)))
  have kB : ∀ d os, Calls Tryd.prog 25 #[.agg #[.slice (some ⟨g, 0, none⟩) 64 cap, .string ⟨⟨ts⟩⟩], .string ⟨⟨k2⟩⟩, .string ⟨⟨t⟩⟩] (Go.Sort.grow (redrawn W2 d) os) fun e w'' => e = .returned (.string ⟨⟨m⟩⟩) ∧ ∃ p : Regrown, w'' = Go.Sort.grow (redrawn W2 p.d) p.os := fun d os => Calls.regrown_of (HM.out _ _ _ (HK2.below (below_regrown W2 d os)))
  go_wp2_with fail
  refine wp_region_quiet_below (by kernel_rfl) (by kernel_rfl) ?_
  repeat (quiet_step (first | exact kA _ _ | exact kB _ _))
  refine wpQuiet_nil ?_
  intro _ hw'
  obtain ⟨⟨dq, osq⟩, hw''⟩ := hw'
  subst hw''
  have b3 : Below w.heap.size w (Go.Sort.grow (redrawn W2 dq) osq) := b2.trans ((below_regrown W2 dq osq).mono b2.size)
  clear kA kB HS HM j0 j1 j2 h4 HK2 HT2
  go_wp2
  go_ret2
  exact ⟨rfl, b3⟩

set_option maxRecDepth 100000 in
theorem rsOpen_short (ts b s : List UInt8) (n : Int) (g cap gt ct : Nat) (w : World) (h : s.length < 44) :
    Calls Tryd.prog 13 #[.agg #[.slice (some ⟨g, 0, none⟩) 64 cap, .string ⟨⟨ts⟩⟩, .slice (some ⟨gt, 0, none⟩) 256 ct], .string ⟨⟨b⟩⟩, .int .i64 n, .string ⟨⟨s⟩⟩] w fun e w' => e = .returned (.tuple #[.string ⟨⟨[]⟩⟩, .int .i64 10]) ∧ Below w.heap.size w w' := by
  have b0 : Below w.heap.size w (w.alloc (.cells #[.slice (some ⟨g, 0, none⟩) 64 cap, .string ⟨⟨ts⟩⟩, .slice (some ⟨gt, 0, none⟩) 256 ct] 28)) := (Below.refl _ _).alloc (Nat.le_refl _) _
  have h1 : (s.length : Int) < 44 := by omega
  clear h
  go_enter Tryd.func13, Tryd.ntmps13
  go_wp2
  go_ret2
  exact ⟨rfl, b0⟩

set_option maxRecDepth 100000 in
set_option maxHeartbeats 1000000 in
theorem rsOpen_bad (ts b s k2 m : List UInt8) (n : Int) (g cap gt ct : Nat) (w : World) (HK : KeysAt w g cap) (HT : TabS w gt) (h44 : 44 ≤ s.length) (hs : s.length ≤ 65580)
    (HS : Hid (RSumIs ts b n k2)) (HM : Hid (RMacIs ts k2 (s.take (s.length - 32)) m)) (hq : m ≠ s.drop (s.length - 32)) :
    Calls Tryd.prog 13 #[.agg #[.slice (some ⟨g, 0, none⟩) 64 cap, .string ⟨⟨ts⟩⟩, .slice (some ⟨gt, 0, none⟩) 256 ct], .string ⟨⟨b⟩⟩, .int .i64 n, .string ⟨⟨s⟩⟩] w fun e w' => e = .returned (.tuple #[.string ⟨⟨[]⟩⟩, .int .i64 20]) ∧ Below w.heap.size w w' := by
  obtain ⟨e, he⟩ : ∃ e : Nat, e = s.length - 32 := ⟨_, rfl⟩
  have hl : s.length = e + 32 := by omega
  rw [← he] at HM hq
  have e0 : (s.length : Int) - 32 = (e : Int) := by omega
  have f1 : IntKind.i64.wrap (e : Int) = (e : Int) := by rw [IntKind.wrap_i64]; omega
  have c1 : (ByteArray.mk ⟨s⟩).extract 0 e = ⟨⟨s.take e⟩⟩ := by rw [cut_str, List.drop_zero, Nat.sub_zero]
  have c2 : (ByteArray.mk ⟨s⟩).extract e s.length = ⟨⟨s.drop e⟩⟩ := by rw [cut_str, List.take_of_length_le (by rw [List.length_drop]; exact Nat.le_refl _)]
  have g0 : ¬ (s.length : Int) < 44 := by omega
  have g00 : ¬ (65580 : Int) < (s.length : Int) := by omega
  have g1 : (e : Int) ≤ (s.length : Int) := by omega
  have g2 : ¬ (e : Int) < 0 := by omega
  have g3 : e ≤ s.length := by omega
  generalize s.take e = s1 at *
  generalize s.drop e = s2 at *
  have hq1 : (m != s2) = true := by simpa using hq
  have hq2 : (m == s2) = false := by simpa using hq
  clear h44 hs he hl hq
  go_enter Tryd.func13, Tryd.ntmps13
  go_wp2_with fail
  generalize hW : w.alloc _ = W at *
  have b1 : Below w.heap.size w W := by rw [← hW]; exact (Below.refl _ _).alloc (Nat.le_refl _) _
  have h3 : Thr W w.heap.size (.slice (some ⟨g, 0, none⟩) 64 cap) (.string ⟨⟨ts⟩⟩) (.slice (some ⟨gt, 0, none⟩) 256 ct) := by rw [← hW]; exact Thr.new _ _ _ _ _
  have HK1 := HK.below b1
  have HT1 := HT.below HT.1 b1 b1.size
  clear hW
  have j0 := cell_regrown h3.2.1
  have j1 := cell_regrown h3.2.2.1
  have j2 := cell_regrown h3.2.2.2
  have kA : ∀ d os, Calls Tryd.prog 26 #[.agg #[.slice (some ⟨g, 0, none⟩) 64 cap, .string ⟨⟨ts⟩⟩], .string ⟨⟨b⟩⟩, .int .i64 n] (Go.Sort.grow (redrawn W d) os) fun e w'' => e = .returned (.string ⟨⟨k2⟩⟩) ∧ ∃ p : Regrown, w'' = Go.Sort.grow (redrawn W p.d) p.os := fun d os => Calls.regrown_of (HS.out _ _ _ (HK1.below (below_regrown W d os)))
  have kB : ∀ d os, Calls Tryd.prog 25 #[.agg #[.slice (some ⟨g, 0, none⟩) 64 cap, .string ⟨⟨ts⟩⟩], .string ⟨⟨k2⟩⟩, .string ⟨⟨s1⟩⟩] (Go.Sort.grow (redrawn W d) os) fun e w'' => e = .returned (.string ⟨⟨m⟩⟩) ∧ ∃ p : Regrown, w'' = Go.Sort.grow (redrawn W p.d) p.os := fun d os => Calls.regrown_of (HM.out _ _ _ (HK1.below (below_regrown W d os)))
  refine wp_region_quiet_below (by kernel_rfl) (by kernel_rfl) ?_
  repeat (quiet_step (first | exact kA _ _ | exact kB _ _))
  refine wpQuiet_nil ?_
  intro _ hw'
  obtain ⟨⟨dq, osq⟩, hw''⟩ := hw'
  subst hw''
  have b2 : Below w.heap.size w (Go.Sort.grow (redrawn W dq) osq) := b1.trans ((below_regrown W dq osq).mono b1.size)
  clear kA kB HS HM j0 j1 j2 h3 HK1 HT1
  go_wp2
  go_ret2
  exact ⟨rfl, b2⟩

set_option maxRecDepth 100000 in
set_option maxHeartbeats 1000000 in
theorem rsOpen_by (ts b s k1 k2 x : List UInt8) (n : Int) (g cap gt ct : Nat) (w : World) (HK : KeysAt w g cap) (HT : TabS w gt) (h44 : 44 ≤ s.length) (hs : s.length ≤ 65580)
    (HS : Hid (RSumIs ts b n k2)) (m : List UInt8) (HM : Hid (RMacIs ts k2 (s.take (s.length - 32)) m)) (hq : m = s.drop (s.length - 32))
    (HD : Hid (RCipIs ts b n k1)) (HC : Hid (RCtrIs k1 (s.take 12) ((s.drop 12).take (s.length - 32 - 12)) x)) :
    Calls Tryd.prog 13 #[.agg #[.slice (some ⟨g, 0, none⟩) 64 cap, .string ⟨⟨ts⟩⟩, .slice (some ⟨gt, 0, none⟩) 256 ct], .string ⟨⟨b⟩⟩, .int .i64 n, .string ⟨⟨s⟩⟩] w fun e w' => e = .returned (.tuple #[.string ⟨⟨x⟩⟩, .int .i64 0]) ∧ Below w.heap.size w w' := by
  obtain ⟨e, he⟩ : ∃ e : Nat, e = s.length - 32 := ⟨_, rfl⟩
  have hl : s.length = e + 32 := by omega
  rw [← he] at HM hq
  have e0 : (s.length : Int) - 32 = (e : Int) := by omega
  have f1 : IntKind.i64.wrap (e : Int) = (e : Int) := by rw [IntKind.wrap_i64]; omega
  have c1 : (ByteArray.mk ⟨s⟩).extract 0 e = ⟨⟨s.take e⟩⟩ := by rw [cut_str, List.drop_zero, Nat.sub_zero]
  have c2 : (ByteArray.mk ⟨s⟩).extract e s.length = ⟨⟨s.drop e⟩⟩ := by rw [cut_str, List.take_of_length_le (by rw [List.length_drop]; exact Nat.le_refl _)]
  have g0 : ¬ (s.length : Int) < 44 := by omega
  have g00 : ¬ (65580 : Int) < (s.length : Int) := by omega
  have g1 : (e : Int) ≤ (s.length : Int) := by omega
  have g2 : ¬ (e : Int) < 0 := by omega
  have g3 : e ≤ s.length := by omega
  rw [← he] at HC
  have c3 : (ByteArray.mk ⟨s⟩).extract 0 12 = ⟨⟨s.take 12⟩⟩ := by rw [cut_str, List.drop_zero]
  have c4 : (ByteArray.mk ⟨s⟩).extract 12 e = ⟨⟨(s.drop 12).take (e - 12)⟩⟩ := cut_str _ _ _
  have g4 : (12 : Int) ≤ (e : Int) := by omega
  have g5 : (12 : Int) ≤ (s.length : Int) := by omega
  have g6 : 12 ≤ s.length := by omega
  have g7 : 12 ≤ e := by omega
  generalize s.take e = s1 at *
  generalize s.drop e = s2 at *
  generalize s.take 12 = s3 at *
  generalize (s.drop 12).take (e - 12) = s4 at *
  subst hq
  clear h44 hs he hl
  go_enter Tryd.func13, Tryd.ntmps13
  go_wp2_with fail
  generalize hW : w.alloc _ = W at *
  have b1 : Below w.heap.size w W := by rw [← hW]; exact (Below.refl _ _).alloc (Nat.le_refl _) _
  have h3 : Thr W w.heap.size (.slice (some ⟨g, 0, none⟩) 64 cap) (.string ⟨⟨ts⟩⟩) (.slice (some ⟨gt, 0, none⟩) 256 ct) := by rw [← hW]; exact Thr.new _ _ _ _ _
  have HK1 := HK.below b1
  have HT1 := HT.below HT.1 b1 b1.size
  clear hW
  have j0 := cell_regrown h3.2.1
  have j1 := cell_regrown h3.2.2.1
  have j2 := cell_regrown h3.2.2.2
  have kA : ∀ d os, Calls Tryd.prog 26 #[.agg #[.slice (some ⟨g, 0, none⟩) 64 cap, .string ⟨⟨ts⟩⟩], .string ⟨⟨b⟩⟩, .int .i64 n] (Go.Sort.grow (redrawn W d) os) fun e w'' => e = .returned (.string ⟨⟨k2⟩⟩) ∧ ∃ p : Regrown, w'' = Go.Sort.grow (redrawn W p.d) p.os := fun d os => Calls.regrown_of (HS.out _ _ _ (HK1.below (below_regrown W d os)))
  have kB : ∀ d os, Calls Tryd.prog 25 #[.agg #[.slice (some ⟨g, 0, none⟩) 64 cap, .string ⟨⟨ts⟩⟩], .string ⟨⟨k2⟩⟩, .string ⟨⟨s1⟩⟩] (Go.Sort.grow (redrawn W d) os) fun e w'' => e = .returned (.string ⟨⟨m⟩⟩) ∧ ∃ p : Regrown, w'' = Go.Sort.grow (redrawn W p.d) p.os := fun d os => Calls.regrown_of (HM.out _ _ _ (HK1.below (below_regrown W d os)))
  refine wp_region_quiet_below (by kernel_rfl) (by kernel_rfl) ?_
  repeat (quiet_step (first | exact kA _ _ | exact kB _ _))
  refine wpQuiet_nil ?_
  intro _ hw'
  obtain ⟨⟨dq, osq⟩, hw''⟩ := hw'
  subst hw''
  have b2 : Below w.heap.size w (Go.Sort.grow (redrawn W dq) osq) := b1.trans ((below_regrown W dq osq).mono b1.size)
  clear kA kB HS HM
  have h4 := h3.below (below_regrown W dq osq)
  have HK2 := HK1.below (below_regrown W dq osq)
  have HT2 := TabS.on HT1 (below_regrown W dq osq)
  clear j0 j1 j2 h3 HK1 HT1 b1
  generalize Go.Sort.grow (redrawn W dq) osq = W2 at *
  clear dq osq
  have j0 := cell_regrown h4.2.1
  have j1 := cell_regrown h4.2.2.1
  have j2 := cell_regrown h4.2.2.2
  have kA : ∀ d os, Calls Tryd.prog 24 #[.agg #[.slice (some ⟨g, 0, none⟩) 64 cap, .string ⟨⟨ts⟩⟩], .string ⟨⟨b⟩⟩, .int .i64 n] (Go.Sort.grow (redrawn W2 d) os) fun e w'' => e = .returned (.string ⟨⟨k1⟩⟩) ∧ ∃ p : Regrown, w'' = Go.Sort.grow (redrawn W2 p.d) p.os := fun d os => Calls.regrown_of (HD.out _ _ _ (HK2.below (below_regrown W2 d os)))
  have kB : ∀ d os, Calls Tryd.prog 23 #[.slice (some ⟨gt, 0, none⟩) 256 ct, .string ⟨⟨k1⟩⟩, .string ⟨⟨s3⟩⟩, .string ⟨⟨s4⟩⟩] (Go.Sort.grow (redrawn W2 d) os) fun e w'' => e = .returned (.string ⟨⟨x⟩⟩) ∧ ∃ p : Regrown, w'' = Go.Sort.grow (redrawn W2 p.d) p.os := fun d os => Calls.regrown_of (HC.out _ _ _ (TabS.on HT2 (below_regrown W2 d os)))
  go_wp2_with fail
  refine wp_region_quiet_below (by kernel_rfl) (by kernel_rfl) ?_
  repeat (quiet_step (first | exact kA _ _ | exact kB _ _))
  refine wpQuiet_nil ?_
  intro _ hw'
  obtain ⟨⟨dq, osq⟩, hw''⟩ := hw'
  subst hw''
  have b3 : Below w.heap.size w (Go.Sort.grow (redrawn W2 dq) osq) := b2.trans ((below_regrown W2 dq osq).mono b2.size)
  clear kA kB HD HC j0 j1 j2 h4 HK2 HT2
  go_wp2
  go_ret2
  exact ⟨rfl, b3⟩
end Go.Proofs.YtdjehpbkkbahcaaDoor

/- The document's answers of layer 7 at any arguments. -/

namespace Go.Proofs.YtdjehpbkkbahcaaDoor
open Go.RowKit

abbrev RSealIs (ts b : List UInt8) (n : Int) (o x s : List UInt8) (q : Int) : Prop := ∀ g cap gt ct w, KeysAt w g cap → TabS w gt → Calls Tryd.prog 11 #[.agg #[.slice (some ⟨g, 0, none⟩) 64 cap, .string ⟨⟨ts⟩⟩, .slice (some ⟨gt, 0, none⟩) 256 ct], .string ⟨⟨b⟩⟩, .int .i64 n, .string ⟨⟨o⟩⟩, .string ⟨⟨x⟩⟩] w fun e w' => e = .returned (.tuple #[.string ⟨⟨s⟩⟩, .int .i64 q]) ∧ Below w.heap.size w w'
abbrev ROpenIs (ts b : List UInt8) (n : Int) (s x : List UInt8) (q : Int) : Prop := ∀ g cap gt ct w, KeysAt w g cap → TabS w gt → Calls Tryd.prog 13 #[.agg #[.slice (some ⟨g, 0, none⟩) 64 cap, .string ⟨⟨ts⟩⟩, .slice (some ⟨gt, 0, none⟩) 256 ct], .string ⟨⟨b⟩⟩, .int .i64 n, .string ⟨⟨s⟩⟩] w fun e w' => e = .returned (.tuple #[.string ⟨⟨x⟩⟩, .int .i64 q]) ∧ Below w.heap.size w w'
abbrev RChkIs (ts b : List UInt8) (n : Int) (x m : List UInt8) : Prop := ∀ g cap gt ct w, KeysAt w g cap → Calls Tryd.prog 14 #[.agg #[.slice (some ⟨g, 0, none⟩) 64 cap, .string ⟨⟨ts⟩⟩, .slice (some ⟨gt, 0, none⟩) 256 ct], .string ⟨⟨b⟩⟩, .int .i64 n, .string ⟨⟨x⟩⟩] w fun e w' => e = .returned (.string ⟨⟨m⟩⟩) ∧ Below w.heap.size w w'

theorem rcipIs (b : List UInt8) (n : Int) (hb : b.length ≤ 4000) : RCipIs (Sh.txt Sh.start) b n (Sl.ck b n) := fun g cap w h => rCipher_by _ b _ n g cap w h (De.key_length _ _ _) (Lib.hid (rkeyIs b _ n hb (by decide)))
theorem rsumIs (b : List UInt8) (n : Int) (hb : b.length ≤ 4000) : RSumIs (Sh.txt Sh.start) b n (Sl.sk b n) := fun g cap w h => rSum_by _ b _ n g cap w h (Lib.hid (rkeyIs b _ n hb (by decide)))
theorem rctrIs (b o x : List UInt8) (n : Int) : RCtrIs (Sl.ck b n) o x (Sl.cip b n o x) := fun gt ct w h => refCipher_any (Sl.ck b n) o x gt ct w h
theorem rmcIs (b s : List UInt8) (n : Int) (hs : s.length ≤ 4000) : RMacIs (Sh.txt Sh.start) (Sl.sk b n) s (Sl.mc b n s) := rmacIs (Sl.sk b n) s (by rw [Sl.sk_length]; decide) hs
theorem newS_any (w : World) : Calls Tryd.prog 9 #[] w (NewSPost (Sh.txt Sh.start) w) := NewS_by _ w (Lib.hid fun w => New_any w) (Lib.hid fun w => Table_any w)

theorem rchkIs (b x : List UInt8) (n : Int) (hb : b.length ≤ 4000) (hx : x.length ≤ 4000) : RChkIs (Sh.txt Sh.start) b n x (Sl.chk b n x) := fun g cap gt ct w h =>
  rsSum_by _ b _ x _ n g cap gt ct w h (Lib.hid (rkeyIs b _ n hb (by decide))) (Lib.hid (rmacIs _ x (by rw [De.key_length]; decide) hx))
theorem rsealIs (b o x : List UInt8) (n : Int) (hb : b.length ≤ 4000) (ho : o.length = 12) (hx : x.length ≤ 3000) : RSealIs (Sh.txt Sh.start) b n o x (Sl.sld b n o x) 0 := fun g cap gt ct w hk ht => by
  have hc := Sl.cip_le b n o x
  exact rsSeal_by _ b o x (Sl.ck b n) (Sl.cip b n o x) (Sl.sk b n) _ n g cap gt ct w hk ht ho (by omega) (by omega) (Nat.le_of_eq (Sl.mc_length _ _ _)) (Lib.hid (rcipIs b n hb)) (Lib.hid (rctrIs b o x n)) (Lib.hid (rsumIs b n hb)) (Lib.hid (rmcIs b _ n (by rw [List.length_append]; omega)))
theorem rsealNo (b o x : List UInt8) (n : Int) (ho : o.length ≠ 12) : RSealIs (Sh.txt Sh.start) b n o x [] 1 := fun g cap gt ct w _ _ => rsSeal_no _ b o x n g cap gt ct w ho
theorem ropenIs (b s : List UInt8) (n : Int) (hb : b.length ≤ 4000) (hs : s.length ≤ 3000) : ROpenIs (Sh.txt Sh.start) b n s (Sl.opn b n s).1 ((Sl.opn b n s).2 : Nat) := fun g cap gt ct w hk ht => by
  by_cases h : s.length < 44
  · rw [Sl.opn, if_pos h]
    exact rsOpen_short _ b s n g cap gt ct w h
  · have h44 : 44 ≤ s.length := by omega
    have HM := rmcIs b (s.take (s.length - 32)) n (by rw [List.length_take]; omega)
    rw [Sl.opn, if_neg h]
    by_cases h2 : Sl.mc b n (s.take (s.length - 32)) = s.drop (s.length - 32)
    · rw [if_pos h2]
      exact rsOpen_by _ b s _ _ _ n g cap gt ct w hk ht h44 (by omega) (Lib.hid (rsumIs b n hb)) _ (Lib.hid HM) h2 (Lib.hid (rcipIs b n hb)) (Lib.hid (rctrIs b _ _ n))
    · rw [if_neg h2]
      exact rsOpen_bad _ b s _ _ n g cap gt ct w hk ht h44 (by omega) (Lib.hid (rsumIs b n hb)) (Lib.hid HM) h2
end Go.Proofs.YtdjehpbkkbahcaaDoor

/- SealSeals' walk, by what the calls answer. -/

namespace Go.Proofs.YtdjehpbkkbahcaaDoor
open Go.RowKit

set_option maxRecDepth 100000 in
theorem sealSeals_no (b o x s : List UInt8) (n : Int) (w : World) (HT : Tabs w) (HW : Hid WorksS) (h : 200 < b.length ∨ 200 < x.length ∨ 200 < s.length) :
    Calls Tryd.prog 3 #[.string ⟨⟨b⟩⟩, .int .i64 n, .string ⟨⟨o⟩⟩, .string ⟨⟨x⟩⟩, .string ⟨⟨s⟩⟩] w fun e w' => e = .returned (.bool true) ∧ Below w.heap.size w w' := by
  by_cases h1 : 200 < b.length
  · have k1 : (200 : Int) < (b.length : Int) := by omega
    clear h h1
    go_enter Tryd.func3, Tryd.ntmps3
    go_wp2_with fail
    refine (HW.out w HT).mono ?_
    rintro _ w1 ⟨rfl, b1⟩
    go_wp2
    go_ret
    exact ⟨rfl, b1⟩
  · have k1 : ¬ (200 : Int) < (b.length : Int) := by omega
    by_cases h2 : 200 < x.length
    · have k2 : (200 : Int) < (x.length : Int) := by omega
      clear h h1 h2
      go_enter Tryd.func3, Tryd.ntmps3
      go_wp2_with fail
      refine (HW.out w HT).mono ?_
      rintro _ w1 ⟨rfl, b1⟩
      go_wp2
      go_ret
      exact ⟨rfl, b1⟩
    · have k2 : ¬ (200 : Int) < (x.length : Int) := by omega
      have k3 : (200 : Int) < (s.length : Int) := by omega
      clear h h1 h2
      go_enter Tryd.func3, Tryd.ntmps3
      go_wp2_with fail
      refine (HW.out w HT).mono ?_
      rintro _ w1 ⟨rfl, b1⟩
      go_wp2
      go_ret
      exact ⟨rfl, b1⟩

set_option maxRecDepth 100000 in
set_option maxHeartbeats 1000000 in
theorem sealSeals_yes (ts b o x s u y : List UInt8) (n p q : Int) (w : World) (HT : Tabs w) (HW : Hid WorksS) (h1 : b.length ≤ 200) (h2 : x.length ≤ 200) (h3 : s.length ≤ 200)
    (HN : Hid (∀ w, Calls Tryd.prog 9 #[] w (NewSPost ts w)))
    (H0 : Hid (SealIs b n o x u p)) (H1 : Hid (RSealIs ts b n o x u p)) (H2 : Hid (OpenIs b n s y q)) (H3 : Hid (ROpenIs ts b n s y q)) :
    Calls Tryd.prog 3 #[.string ⟨⟨b⟩⟩, .int .i64 n, .string ⟨⟨o⟩⟩, .string ⟨⟨x⟩⟩, .string ⟨⟨s⟩⟩] w fun e w' => e = .returned (.bool true) ∧ Below w.heap.size w w' := by
  have k1 : ¬ (200 : Int) < (b.length : Int) := by omega
  have k2 : ¬ (200 : Int) < (x.length : Int) := by omega
  have k3 : ¬ (200 : Int) < (s.length : Int) := by omega
  clear h1 h2 h3
  go_enter Tryd.func3, Tryd.ntmps3
  go_wp2_with fail
  refine (HW.out w HT).mono ?_
  rintro _ w1 ⟨rfl, b1⟩
  go_wp2_with fail
  refine (HN.out w1).mono ?_
  rintro _ w2 ⟨g, cap, gt, ct, rfl, HK2, HS2, hb2⟩
  have b2 := b1.trans (hb2.mono b1.size)
  clear hb2 b1 HN HW
  go_wp2_with fail
  obtain ⟨w3, hw3⟩ : ∃ w3, w3 = w2.alloc (Obj.cells #[Value.slice (some ⟨g, 0, none⟩) 64 cap, Value.string ⟨⟨ts⟩⟩, Value.slice (some ⟨gt, 0, none⟩) 256 ct] 28) := ⟨_, rfl⟩
  rw [← hw3]
  have n3 : Below w2.heap.size w2 w3 := by rw [hw3]; exact (Below.refl _ _).alloc (Nat.le_refl _) _
  have t3 : Thr w3 w2.heap.size (.slice (some ⟨g, 0, none⟩) 64 cap) (.string ⟨⟨ts⟩⟩) (.slice (some ⟨gt, 0, none⟩) 256 ct) := by rw [hw3]; exact Thr.new _ _ _ _ _
  have b3 := b2.trans (n3.mono b2.size)
  have HK3 := HK2.below n3
  have HS3 := TabS.on HS2 n3
  clear hw3 n3 b2 HK2 HS2
  generalize w2.heap.size = v at *
  refine (H0.out w3 (HT.below b3)).mono ?_
  rintro _ w4 ⟨rfl, hb4⟩
  have t4 := t3.below hb4
  have b4 := b3.trans (hb4.mono b3.size)
  have HK4 := HK3.below hb4
  have HS4 := TabS.on HS3 hb4
  clear hb4 t3 b3 HK3 HS3 H0
  have q0 := t4.2.1
  have q1 := t4.2.2.1
  have q2 := t4.2.2.2
  go_wp2_with fail
  refine (H1.out _ _ _ _ w4 HK4 HS4).mono ?_
  rintro _ w5 ⟨rfl, hb5⟩
  have t5 := t4.below hb5
  have b5 := b4.trans (hb5.mono b4.size)
  have HK5 := HK4.below hb5
  have HS5 := TabS.on HS4 hb5
  clear hb5 t4 b4 HK4 HS4 H1 q0 q1 q2
  go_wp2_with fail
  refine (H2.out w5 (HT.below b5)).mono ?_
  rintro _ w6 ⟨rfl, hb6⟩
  have t6 := t5.below hb6
  have b6 := b5.trans (hb6.mono b5.size)
  have HK6 := HK5.below hb6
  have HS6 := TabS.on HS5 hb6
  clear hb6 t5 b5 HK5 HS5 H2
  have q0 := t6.2.1
  have q1 := t6.2.2.1
  have q2 := t6.2.2.2
  go_wp2_with fail
  refine (H3.out _ _ _ _ w6 HK6 HS6).mono ?_
  rintro _ w7 ⟨rfl, hb7⟩
  have b7 := b6.trans (hb7.mono b6.size)
  clear hb7 t6 b6 HK6 HS6 H3 q0 q1 q2
  go_wp2
  go_ret
  exact ⟨rfl, b7⟩
end Go.Proofs.YtdjehpbkkbahcaaDoor

/- SealSums' walk, by what the calls answer. -/

namespace Go.Proofs.YtdjehpbkkbahcaaDoor
open Go.RowKit

set_option maxRecDepth 100000 in
theorem sealSums_no (b x s : List UInt8) (n : Int) (w : World) (HT : Tabs w) (HW : Hid WorksS) (h : 200 < b.length ∨ 200 < x.length) :
    Calls Tryd.prog 4 #[.string ⟨⟨b⟩⟩, .int .i64 n, .string ⟨⟨x⟩⟩, .string ⟨⟨s⟩⟩] w fun e w' => e = .returned (.bool true) ∧ Below w.heap.size w w' := by
  by_cases h1 : 200 < b.length
  · have k1 : (200 : Int) < (b.length : Int) := by omega
    clear h h1
    go_enter Tryd.func4, Tryd.ntmps4
    go_wp2_with fail
    refine (HW.out w HT).mono ?_
    rintro _ w1 ⟨rfl, b1⟩
    go_wp2
    go_ret
    exact ⟨rfl, b1⟩
  · have k1 : ¬ (200 : Int) < (b.length : Int) := by omega
    have k2 : (200 : Int) < (x.length : Int) := by omega
    clear h h1
    go_enter Tryd.func4, Tryd.ntmps4
    go_wp2_with fail
    refine (HW.out w HT).mono ?_
    rintro _ w1 ⟨rfl, b1⟩
    go_wp2
    go_ret
    exact ⟨rfl, b1⟩

/-- What Check answers. -/
abbrev CheckIs (b : List UInt8) (n : Int) (x s : List UInt8) (q : Int) : Prop := ∀ w, Tabs w → Calls Tryd.prog 16 #[.string ⟨⟨b⟩⟩, .int .i64 n, .string ⟨⟨x⟩⟩, .string ⟨⟨s⟩⟩] w fun e w' => e = .returned (.int .i64 q) ∧ Below w.heap.size w w'

set_option maxRecDepth 100000 in
set_option maxHeartbeats 1000000 in
theorem sealSums_yes (ts b x s m : List UInt8) (n q : Int) (w : World) (HT : Tabs w) (HW : Hid WorksS) (h1 : b.length ≤ 200) (h2 : x.length ≤ 200) (hq : q = if m = s then 0 else 62)
    (HN : Hid (∀ w, Calls Tryd.prog 9 #[] w (NewSPost ts w)))
    (H0 : Hid (RChkIs ts b n x m)) (H1 : Hid (ChkIs b n x m)) (H2 : Hid (CheckIs b n x s q)) (H3 : Hid (CheckIs b n x m 0)) :
    Calls Tryd.prog 4 #[.string ⟨⟨b⟩⟩, .int .i64 n, .string ⟨⟨x⟩⟩, .string ⟨⟨s⟩⟩] w fun e w' => e = .returned (.bool true) ∧ Below w.heap.size w w' := by
  have k1 : ¬ (200 : Int) < (b.length : Int) := by omega
  have k2 : ¬ (200 : Int) < (x.length : Int) := by omega
  clear h1 h2
  by_cases hms : m = s
  · rw [if_pos hms] at hq
    subst hq
    have hms2 : (m == s) = true := by simpa using hms
    clear hms
    go_enter Tryd.func4, Tryd.ntmps4
    go_wp2_with fail
    refine (HW.out w HT).mono ?_
    rintro _ w1 ⟨rfl, b1⟩
    go_wp2_with fail
    refine (HN.out w1).mono ?_
    rintro _ w2 ⟨g, cap, gt, ct, rfl, HK2, HS2, hb2⟩
    have b2 := b1.trans (hb2.mono b1.size)
    clear hb2 b1 HN HW HS2
    go_wp2_with fail
    obtain ⟨w3, hw3⟩ : ∃ w3, w3 = w2.alloc (Obj.cells #[Value.slice (some ⟨g, 0, none⟩) 64 cap, Value.string ⟨⟨ts⟩⟩, Value.slice (some ⟨gt, 0, none⟩) 256 ct] 28) := ⟨_, rfl⟩
    rw [← hw3]
    have n3 : Below w2.heap.size w2 w3 := by rw [hw3]; exact (Below.refl _ _).alloc (Nat.le_refl _) _
    have b3 := b2.trans (n3.mono b2.size)
    have HK3 := HK2.below n3
    clear hw3 n3 b2 HK2
    generalize w2.heap.size = v at *
    refine (H0.out _ _ _ _ w3 HK3).mono ?_
    rintro _ w4 ⟨rfl, hb4⟩
    have b4 := b3.trans (hb4.mono b3.size)
    clear hb4 b3 HK3 H0
    go_wp2_with fail
    refine (H1.out w4 (HT.below b4)).mono ?_
    rintro _ w5 ⟨rfl, hb5⟩
    have b5 := b4.trans (hb5.mono b4.size)
    clear hb5 b4 H1
    go_wp2_with fail
    refine (H2.out w5 (HT.below b5)).mono ?_
    rintro _ w6 ⟨rfl, hb6⟩
    have b6 := b5.trans (hb6.mono b5.size)
    clear hb6 b5 H2
    go_wp2_with fail
    refine (H3.out w6 (HT.below b6)).mono ?_
    rintro _ w7 ⟨rfl, hb7⟩
    have b7 := b6.trans (hb7.mono b6.size)
    clear hb7 b6 H3
    go_wp2
    go_ret
    exact ⟨rfl, b7⟩
  · rw [if_neg hms] at hq
    subst hq
    have hms2 : (m == s) = false := by simpa using hms
    clear hms
    go_enter Tryd.func4, Tryd.ntmps4
    go_wp2_with fail
    refine (HW.out w HT).mono ?_
    rintro _ w1 ⟨rfl, b1⟩
    go_wp2_with fail
    refine (HN.out w1).mono ?_
    rintro _ w2 ⟨g, cap, gt, ct, rfl, HK2, HS2, hb2⟩
    have b2 := b1.trans (hb2.mono b1.size)
    clear hb2 b1 HN HW HS2
    go_wp2_with fail
    obtain ⟨w3, hw3⟩ : ∃ w3, w3 = w2.alloc (Obj.cells #[Value.slice (some ⟨g, 0, none⟩) 64 cap, Value.string ⟨⟨ts⟩⟩, Value.slice (some ⟨gt, 0, none⟩) 256 ct] 28) := ⟨_, rfl⟩
    rw [← hw3]
    have n3 : Below w2.heap.size w2 w3 := by rw [hw3]; exact (Below.refl _ _).alloc (Nat.le_refl _) _
    have b3 := b2.trans (n3.mono b2.size)
    have HK3 := HK2.below n3
    clear hw3 n3 b2 HK2
    generalize w2.heap.size = v at *
    refine (H0.out _ _ _ _ w3 HK3).mono ?_
    rintro _ w4 ⟨rfl, hb4⟩
    have b4 := b3.trans (hb4.mono b3.size)
    clear hb4 b3 HK3 H0
    go_wp2_with fail
    refine (H1.out w4 (HT.below b4)).mono ?_
    rintro _ w5 ⟨rfl, hb5⟩
    have b5 := b4.trans (hb5.mono b4.size)
    clear hb5 b4 H1
    go_wp2_with fail
    refine (H2.out w5 (HT.below b5)).mono ?_
    rintro _ w6 ⟨rfl, hb6⟩
    have b6 := b5.trans (hb6.mono b5.size)
    clear hb6 b5 H2
    go_wp2_with fail
    refine (H3.out w6 (HT.below b6)).mono ?_
    rintro _ w7 ⟨rfl, hb7⟩
    have b7 := b6.trans (hb7.mono b6.size)
    clear hb7 b6 H3
    go_wp2
    go_ret
    exact ⟨rfl, b7⟩
end Go.Proofs.YtdjehpbkkbahcaaDoor

/- The walks of SealSeals and SealSums at any arguments. -/

namespace Go.Proofs.YtdjehpbkkbahcaaDoor
open Go.RowKit

theorem sealSeals_walk (b o x s : List UInt8) (n : Int) (w : World) (HT : Tabs w) :
    Calls Tryd.prog 3 #[.string ⟨⟨b⟩⟩, .int .i64 n, .string ⟨⟨o⟩⟩, .string ⟨⟨x⟩⟩, .string ⟨⟨s⟩⟩] w fun e w' => e = .returned (.bool true) ∧ Below w.heap.size w w' := by
  have HW := Lib.hid worksS_any
  by_cases h : 200 < b.length ∨ 200 < x.length ∨ 200 < s.length
  · exact sealSeals_no b o x s n w HT HW h
  · have h1 : b.length ≤ 200 := by omega
    have h2 : x.length ≤ 200 := by omega
    have h3 : s.length ≤ 200 := by omega
    clear h
    by_cases ho : o.length = 12
    · exact sealSeals_yes _ b o x s _ _ n _ _ w HT HW h1 h2 h3 (Lib.hid fun w => newS_any w) (Lib.hid (sealIs b o x n (by omega) ho (by omega))) (Lib.hid (rsealIs b o x n (by omega) ho (by omega))) (Lib.hid (openIs b s n (by omega) (by omega))) (Lib.hid (ropenIs b s n (by omega) (by omega)))
    · exact sealSeals_yes _ b o x s _ _ n _ _ w HT HW h1 h2 h3 (Lib.hid fun w => newS_any w) (Lib.hid (slSeal_no b o x n ho)) (Lib.hid (rsealNo b o x n ho)) (Lib.hid (openIs b s n (by omega) (by omega))) (Lib.hid (ropenIs b s n (by omega) (by omega)))

theorem sealSums_walk (b x s : List UInt8) (n : Int) (w : World) (HT : Tabs w) :
    Calls Tryd.prog 4 #[.string ⟨⟨b⟩⟩, .int .i64 n, .string ⟨⟨x⟩⟩, .string ⟨⟨s⟩⟩] w fun e w' => e = .returned (.bool true) ∧ Below w.heap.size w w' := by
  have HW := Lib.hid worksS_any
  by_cases h : 200 < b.length ∨ 200 < x.length
  · exact sealSums_no b x s n w HT HW h
  · have h1 : b.length ≤ 200 := by omega
    have h2 : x.length ≤ 200 := by omega
    clear h
    exact sealSums_yes _ b x s (Sl.chk b n x) n _ w HT HW h1 h2 rfl (Lib.hid fun w => newS_any w) (Lib.hid (rchkIs b x n (by omega) (by omega))) (Lib.hid (chkIs b x n (by omega) (by omega)))
      (Lib.hid fun w hT => slCheck_any b x s n w hT (by omega) (by omega)) (Lib.hid fun w hT => check_own b x _ n rfl w hT (by omega) (by omega))
end Go.Proofs.YtdjehpbkkbahcaaDoor

