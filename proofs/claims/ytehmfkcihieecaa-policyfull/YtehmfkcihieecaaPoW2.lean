/- names, Valid. (Laid with NS=1; written by wip/tools/gen/pot.py.) -/
import Derived.Test.YtehmfkcihieecaaPoW1
namespace Go.Proofs.Ytehmfkcihieecaa.Po
open Go.RowKit
open Te Te.Tt
open Go (Lit DataW MemPlace keyOf maxLen)

theorem nodup_snoc {l : List Nm} {x : Nm} : (l ++ [x]).Nodup ↔ l.Nodup ∧ x ∉ l := by
  rw [List.nodup_append]
  constructor
  · rintro ⟨h1, -, h3⟩
    exact ⟨h1, fun hx => h3 x hx x (by simp) rfl⟩
  · rintro ⟨h1, h2⟩
    refine ⟨h1, by simp, fun y hy z hz e => ?_⟩
    simp only [List.mem_singleton] at hz
    subst hz e
    exact h2 hy
theorem nms_bad {l : List Nm} {i : Nat} (hi : i < l.length) (h : isName l[i] = false ∨ l[i] ∈ l.take i) : nms l = false := by
  rw [Bool.eq_false_iff]
  intro hn
  simp only [nms, Bool.and_eq_true, decide_eq_true_eq, List.all_eq_true] at hn
  obtain ⟨-, h1, h2⟩ := hn
  rcases h with h | h
  · rw [h1 _ (List.getElem_mem hi)] at h; cases h
  · rw [← List.take_append_drop (i + 1) l, List.take_succ_eq_append_getElem hi] at h2
    exact (nodup_snoc.1 (List.nodup_append.1 h2).1).2 h

set_option maxHeartbeats 2000000 in
set_option maxRecDepth 100000 in
theorem names_any (l : List Nm) (A : Option Addr) (c : Nat) (S : Nat → Prop) (w : World) (hr : SRd w S l A) (hc : l.length ≤ c) :
    Calls Try.prog 50 #[.slice A l.length c] w fun e w' => e = .returned (.bool (nms l)) ∧ w' = w := by
  by_cases h50 : l.length ≤ 50
  case neg =>
    have e : nms l = false := by simp [nms, h50]
    rw [e]
    obtain ⟨m, hm⟩ : ∃ m, m = l.length := ⟨_, rfl⟩
    rw [← hm] at h50 ⊢
    have i1 : (50 : Int) < (m : Int) := by omega
    clear hr hc e hm
    go_enter Try.func50, Try.ntmps50
    go_wp2
    go_ret
    exact ⟨rfl, rfl⟩
  case pos =>
    obtain ⟨m, hm⟩ : ∃ m, m = l.length := ⟨_, rfl⟩
    obtain ⟨R, hR⟩ : ∃ R, R = nms l := ⟨_, rfl⟩
    have HM := Lib.hid hm
    have HR := Lib.hid hR
    have HRD := Lib.hid hr
    rw [← hm] at h50 hc
    rw [← hR, ← hm]
    have i1 : ¬ (50 : Int) < (m : Int) := by omega
    clear hr hm hR
    go_enter Try.func50, Try.ntmps50
    go_wp2
    go_loopw [3, 4, 10] (fun _ _ iv wr => ∃ i : Nat, i ≤ m ∧ iv = .int .i64 (i : Nat) ∧ Hid ((l.take i).all isName = true ∧ (l.take i).Nodup) ∧ wr = w) (fun _ _ iv _ => m - (intOf iv).toNat)
    case atStart => exact ⟨0, by omega, rfl, Lib.hid ⟨by simp, by simp⟩, rfl⟩
    case round =>
      obtain ⟨i, hi, rfl, HA, rfl⟩ := hrel
      by_cases hlt : i < m
      · have hil : (i : Int) < (m : Int) := by omega
        have hlt1 : i < l.length := by rw [← HM.out]; exact hlt
        obtain ⟨b, o, rfl, -, hcell⟩ := HRD.out.resolve_left (fun h => by rw [h] at hlt1; simp at hlt1)
        have hx := hcell i hlt1
        obtain ⟨x, hxe⟩ : ∃ x, x = l[i] := ⟨_, rfl⟩
        rw [← hxe] at hx
        have hta := List.take_succ_eq_append_getElem hlt1
        rw [← hxe] at hta
        have hbad := fun h => nms_bad hlt1 h
        rw [← hxe, ← HR.out] at hbad
        have HN := Lib.hid (Name_any x wr)
        have hcon := Contains_any (l.take i) (some ⟨b, o, none⟩) c S x wr (HRD.out.take i) (by simp; omega)
        have hlen : (l.take i).length = i := by simp; omega
        rw [hlen] at hcon
        have HC := Lib.hid hcon
        have HTA := Lib.hid hta
        have HB := Lib.hid hbad
        have hic : i ≤ c := by omega
        obtain ⟨q, hq⟩ : ∃ q, q = isName x := ⟨_, rfl⟩
        obtain ⟨d, hd⟩ : ∃ d, d = decide (x ∈ l.take i) := ⟨_, rfl⟩
        rw [← hq] at HN
        rw [← hd] at HC
        have HQ := Lib.hid hq
        have HD := Lib.hid hd
        clear hxe hta hbad hcon hlen hq hd hcell hlt1
        cases q
        case false =>
          go_wp2_with (first | (go_at_call 49; refine HN.out.mono ?_; rintro _ w2 ⟨rfl, rfl⟩))
          go_ret
          refine ⟨?_, rfl⟩
          rw [HB.out (.inl HQ.out.symm)]; rfl
        case true =>
        cases d
        case true =>
          go_wp2_with (first | (go_at_call 49; refine HN.out.mono ?_; rintro _ w2 ⟨rfl, rfl⟩) | (go_at_call 28; refine HC.out.mono ?_; rintro _ w2 ⟨rfl, rfl⟩))
          go_ret
          refine ⟨?_, rfl⟩
          rw [HB.out (.inr (of_decide_eq_true HD.out.symm))]; rfl
        case false =>
          have HA' : Hid ((l.take (i + 1)).all isName = true ∧ (l.take (i + 1)).Nodup) := by
            refine ⟨?_, ?_⟩
            · rw [HTA.out, List.all_append, HA.out.1]; simp [← HQ.out]
            · rw [HTA.out, nodup_snoc]; exact ⟨HA.out.2, of_decide_eq_false HD.out.symm⟩
          clear HA
          go_wp2_with (first | (go_at_call 49; refine HN.out.mono ?_; rintro _ w2 ⟨rfl, rfl⟩) | (go_at_call 28; refine HC.out.mono ?_; rintro _ w2 ⟨rfl, rfl⟩))
          go_roundw
          case rel => exact ⟨i + 1, by omega, by go_num, HA', trivial⟩
          case measure => simp [intOf]; omega
      · have hil : ¬ (i : Int) < (m : Int) := by omega
        have hie : l.take i = l := List.take_of_length_le (by rw [← HM.out]; omega)
        have HE : Hid (R = true) := by
          have h := HA.out
          rw [hie] at h
          have h5 : l.length ≤ 50 := by rw [← HM.out]; exact h50
          rw [Hid, HR.out]; simp [nms, h.1, h.2, h5]
        clear HA hie
        go_wp2
        go_ret
        refine ⟨?_, rfl⟩
        rw [HE.out]; rfl

theorem vp_of {p : Pr} {q d e : Bool} (h1 : q = isName p.nm) (h2 : d = nms p.al) (h3 : e = nms p.ac) : vp p = (q && (d && (e && (decide (1 ≤ p.ver) && (decide (p.ver ≤ 1000) && (decide (0 ≤ p.li) && (decide (p.li ≤ 1099511627776) && decide (p.gr.length ≤ 20)))))))) := by
  rw [vp, h1, h2, h3]

set_option maxHeartbeats 4000000 in
set_option maxRecDepth 100000 in
theorem Valid_any (p : Pr) (S : Nat → Prop) (v : Value) (w : World) (hv : PV w S p v) (hS : ∀ b, S b → b < w.heap.size) :
    Calls Try.prog 39 #[v] w fun e w' => e = .returned (.bool (vp p)) ∧ Below w.heap.size w w' := by
  obtain ⟨A, a, C, c, G, g, rfl, h1, h2, h3, l1, l2⟩ := hv
  obtain ⟨W, hW⟩ : ∃ W, W = w.alloc (.cells #[.string ⟨⟨p.nm⟩⟩, .int .i64 p.ver, .bool p.tr, .bool p.se, .slice A p.al.length a, .slice C p.ac.length c, .slice G p.gr.length g, .int .i64 p.li] 32) := ⟨_, rfl⟩
  have hb : Below w.heap.size w W := by rw [hW]; exact (Below.refl _ _).alloc (Nat.le_refl _) _
  have hkk : ∀ b, S b → W.heap[b]? = w.heap[b]? := fun b h => hb.block b (hS b h)
  have hN1 := names_any p.al A a S W (h1.keep (fun _ h => h) hkk) l1
  have hN2 := names_any p.ac C c S W (h2.keep (fun _ h => h) hkk) l2
  have hNm := Name_any p.nm W
  obtain ⟨q, hq⟩ : ∃ q, q = isName p.nm := ⟨_, rfl⟩
  obtain ⟨d, hd⟩ : ∃ d, d = nms p.al := ⟨_, rfl⟩
  obtain ⟨e, he⟩ : ∃ e, e = nms p.ac := ⟨_, rfl⟩
  rw [vp_of hq hd he]
  rw [← hq] at hNm
  rw [← hd] at hN1
  rw [← he] at hN2
  clear hq hd he h1 h2 h3 l1 l2 hkk
  obtain ⟨nm, ver, tr, se, al, ac, gr, li⟩ := p
  simp only at *
  obtain ⟨z, hz⟩ : ∃ z, z = w.heap.size := ⟨_, rfl⟩
  have hg : W.heap[z]? = some (.cells #[.string ⟨⟨nm⟩⟩, .int .i64 ver, .bool tr, .bool se, .slice A al.length a, .slice C ac.length c, .slice G gr.length g, .int .i64 li] 32 (0, 0)) := by rw [hW, hz]; exact heap_alloc_new _ _
  obtain ⟨c0, c1, c2, c3, c4, c5, c6, c7⟩ := cell8 hg
  generalize al.length = la at *
  generalize ac.length = lc at *
  generalize gr.length = lg at *
  have HN := Lib.hid hNm
  have HN1 := Lib.hid hN1
  have HN2 := Lib.hid hN2
  have HB := Lib.hid hb
  have HZ := Lib.hid hz
  have HW := Lib.hid hW
  clear hNm hN1 hN2 hb hz hW hg hS
  go_enter Try.func39, Try.ntmps39
  go_wp2_with fail
  rw [← HW.out, ← HZ.out]
  refine HN.out.mono ?_
  rintro _ w2 ⟨rfl, rfl⟩
  cases q
  case false =>
    go_wp2
    go_ret
    exact ⟨rfl, HB.out⟩
  case true =>
  go_wp2_with fail
  refine HN1.out.mono ?_
  rintro _ w2 ⟨rfl, rfl⟩
  cases d
  case false =>
    go_wp2
    go_ret
    exact ⟨rfl, HB.out⟩
  case true =>
  go_wp2_with fail
  refine HN2.out.mono ?_
  rintro _ w2 ⟨rfl, rfl⟩
  cases e
  case false =>
    go_wp2
    go_ret
    exact ⟨rfl, HB.out⟩
  case true =>
  by_cases a1 : 1 ≤ ver
  case neg =>
    go_wp2
    go_ret
    refine ⟨ret_b ?_, HB.out⟩
    rw [Bool.eq_iff_iff]
    simp
    try omega
  case pos =>
  by_cases a2 : ver ≤ 1000
  case neg =>
    go_wp2
    go_ret
    refine ⟨ret_b ?_, HB.out⟩
    rw [Bool.eq_iff_iff]
    simp
    try omega
  case pos =>
  by_cases a3 : 0 ≤ li
  case neg =>
    go_wp2
    go_ret
    refine ⟨ret_b ?_, HB.out⟩
    rw [Bool.eq_iff_iff]
    simp
    try omega
  case pos =>
  by_cases a4 : li ≤ 1099511627776
  case neg =>
    go_wp2
    go_ret
    refine ⟨ret_b ?_, HB.out⟩
    rw [Bool.eq_iff_iff]
    simp
    try omega
  case pos =>
  by_cases a5 : (lg : Int) ≤ 20
  case neg =>
    go_wp2
    go_ret
    refine ⟨ret_b ?_, HB.out⟩
    rw [Bool.eq_iff_iff]
    simp
    try omega
  case pos =>
  go_wp2
  go_ret
  refine ⟨ret_b ?_, HB.out⟩
  rw [Bool.eq_iff_iff]
  simp
  try omega
end Go.Proofs.Ytehmfkcihieecaa.Po
