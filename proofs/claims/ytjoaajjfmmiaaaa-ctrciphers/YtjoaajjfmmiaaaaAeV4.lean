/- The reference's Encrypt: what lies in memory. -/
import Derived.Test.YtjoaajjfmmiaaaaAeV3
namespace Go.Proofs.Ytjoaajjfmmiaaaa
open Go.RowKit

def Row (w : World) (g : Nat) (l : List UInt8) : Prop := w.heap[g]? = some (.cells (bcells l) 5 (0, 0))
theorem Row.lt {w : World} {g : Nat} {l : List UInt8} (h : Row w g l) : g < w.heap.size := (Array.getElem?_eq_some_iff.1 h).1
theorem Row.get {w : World} {g : Nat} {l : List UInt8} (h : Row w g l) (i : Nat) (hi : i < l.length) (x : UInt8) (hx : l.getD i 0 = x) : w.cell? ⟨g, i, none⟩ = some (.int .u8 (x.toNat : Nat)) := bget h hi x hx
theorem Row.free {w : World} {g : Nat} {l : List UInt8} (h : Row w g l) (i : Nat) : w.frozen? ⟨g, i, none⟩ = false := frozen_of_row _ _ _ _ _ h
theorem Row.alloc {w : World} {g : Nat} {l : List UInt8} (h : Row w g l) (o : Obj) : Row (w.alloc o) g l := by
  show (w.alloc o).heap[g]? = _
  rw [heap_alloc_old _ _ h.lt]; exact h
theorem Row.new (w : World) (l : List UInt8) : Row (w.alloc (.cells (bcells l) 5)) w.heap.size l := heap_alloc_new _ _
theorem Row.put {w : World} {g : Nat} {l : List UInt8} (h : Row w g l) (i : Nat) (x : UInt8) : Row (w.setCell ⟨g, i, none⟩ (.int .u8 (x.toNat : Nat))) g (l.set i x) := bset h x
theorem Row.other {w : World} {g g' : Nat} {l : List UInt8} (h : Row w g l) (hne : g ≠ g') (i : Nat) (v : Value) : Row (w.setCell ⟨g', i, none⟩ v) g l := by
  show (w.setCell ⟨g', i, none⟩ v).heap[g]? = _
  rw [bset_other hne]; exact h

/-- Two rows, the second of which is being written. -/
structure Two (w wr : World) (a b : Nat) (A B : List UInt8) : Prop where
  below : Below w.heap.size w wr
  la : w.heap.size ≤ a
  lb : w.heap.size ≤ b
  ne : a ≠ b
  ra : Row wr a A
  rb : Row wr b B
theorem Two.drew {w wr : World} {a b : Nat} {A B : List UInt8} (h : Two w wr a b A B) : Two w wr.drew a b A B := ⟨h.below.drew, h.la, h.lb, h.ne, h.ra, h.rb⟩
theorem Two.put {w wr : World} {a b : Nat} {A B : List UInt8} (h : Two w wr a b A B) (i : Nat) (x : UInt8) : Two w (wr.setCell ⟨b, i, none⟩ (.int .u8 (x.toNat : Nat))) a b A (B.set i x) :=
  ⟨h.below.setCell h.lb _, h.la, h.lb, h.ne, h.ra.other h.ne _ _, h.rb.put _ _⟩
/-- Three rows, the third of which is being written. -/
structure Three (w wr : World) (a b c : Nat) (A B C : List UInt8) : Prop where
  below : Below w.heap.size w wr
  la : w.heap.size ≤ a
  lb : w.heap.size ≤ b
  lc : w.heap.size ≤ c
  ac : a ≠ c
  bc : b ≠ c
  ra : Row wr a A
  rb : Row wr b B
  rc : Row wr c C
theorem Three.drew {w wr : World} {a b c : Nat} {A B C : List UInt8} (h : Three w wr a b c A B C) : Three w wr.drew a b c A B C := ⟨h.below.drew, h.la, h.lb, h.lc, h.ac, h.bc, h.ra, h.rb, h.rc⟩
theorem Three.put {w wr : World} {a b c : Nat} {A B C : List UInt8} (h : Three w wr a b c A B C) (i : Nat) (x : UInt8) : Three w (wr.setCell ⟨c, i, none⟩ (.int .u8 (x.toNat : Nat))) a b c A B (C.set i x) :=
  ⟨h.below.setCell h.lc _, h.la, h.lb, h.lc, h.ac, h.bc, h.ra.other h.ac _ _, h.rb.other h.bc _ _, h.rc.put _ _⟩

/-- A step of the writing. -/
theorem Two.next {w wr : World} {a b k : Nat} {A L S : List UInt8} (h : Two w wr a b A (fil L S k)) (hL : L.length = 16) (hS : S.length = 16) (hk : k < 16) (x : UInt8) (hx : L.getD k 0 = x) : Two w (wr.setCell ⟨b, k, none⟩ (.int .u8 (x.toNat : Nat))) a b A (fil L S (k + 1)) := by
  rw [← fil_set hL hS hk x hx]
  exact h.put k x
theorem Three.next {w wr : World} {a b c k : Nat} {A B L S : List UInt8} (h : Three w wr a b c A B (fil L S k)) (hL : L.length = 16) (hS : S.length = 16) (hk : k < 16) (x : UInt8) (hx : L.getD k 0 = x) : Three w (wr.setCell ⟨c, k, none⟩ (.int .u8 (x.toNat : Nat))) a b c A B (fil L S (k + 1)) := by
  rw [← fil_set hL hS hk x hx]
  exact h.put k x
theorem fil_here {L S : List UInt8} {k : Nat} (hL : L.length = 16) (hS : S.length = 16) (hk : k < 16) : k < (fil L S k).length := by rw [fil_length hL hS (by omega)]; exact hk
theorem set_set_fil {L S : List UInt8} {k : Nat} (hL : L.length = 16) (hS : S.length = 16) (hk : k < 16) (x y : UInt8) (hy : L.getD k 0 = y) : ((fil L S k).set k x).set k y = fil L S (k + 1) := by
  rw [List.set_set, fil_set hL hS hk y hy]

theorem turn_sw (s : List UInt8) (c r : Nat) (hc : c < 4) (hr : r < 4) : (Ae.turned (Ae.swapped s)).getD (4 * c + r) 0 = Ae.sw (s.getD (4 * ((c + r) % 4) + r) 0) := by
  rw [Ae.turned, Ae.mk16_at _ _ (by omega), show ((4 * c + r) / 4 + (4 * c + r) % 4) % 4 * 4 + (4 * c + r) % 4 = 4 * ((c + r) % 4) + r by omega, Ae.swapped, Ae.mk16_at _ _ (by omega)]
theorem mix_at (t : List UInt8) (c r : Nat) (hc : c < 4) (hr : r < 4) : (Ae.mixed t).getD (4 * c + r) 0 = Ae.tw (t.getD (4 * c + r) 0) ^^^ Ae.th (t.getD (4 * c + (r + 1) % 4) 0) ^^^ t.getD (4 * c + (r + 2) % 4) 0 ^^^ t.getD (4 * c + (r + 3) % 4) 0 := by
  rw [Ae.mixed, Ae.mk16_at _ _ (by omega), show (4 * c + r) / 4 = c by omega, show (4 * c + r) % 4 = r by omega]
  rfl
theorem plus_at (a k : List UInt8) (j : Nat) (hj : j < 16) : (Ae.plus a k).getD j 0 = a.getD j 0 ^^^ k.getD j 0 := Ae.mk16_at _ j hj
theorem key_at (E : List UInt8) (i j : Nat) (hj : j < 16) (h : 16 * i + j < E.length) : (Ae.key16 E i).getD j 0 = E[16 * i + j] := by
  rw [Ae.key16, List.getD_eq_getElem?_getD, List.getElem?_take, if_pos hj, List.getElem?_drop, List.getElem?_eq_getElem h]
  rfl
theorem refT2 (x : UInt8) (W : World) : Calls Try.prog 23 #[.int .u8 (x.toNat : Nat), .int .u8 2] W fun e w' => e = .returned (.int .u8 ((Ae.tw x).toNat : Nat)) ∧ w' = W := by
  have := refTimes_any x 2 W
  rw [Ae.tm_two] at this
  exact this.mono fun _ _ ⟨h, g⟩ => ⟨h, g.symm⟩
theorem refT3 (x : UInt8) (W : World) : Calls Try.prog 23 #[.int .u8 (x.toNat : Nat), .int .u8 3] W fun e w' => e = .returned (.int .u8 ((Ae.th x).toNat : Nat)) ∧ w' = W := by
  have := refTimes_any x 3 W
  rw [Ae.tm_three] at this
  exact this.mono fun _ _ ⟨h, g⟩ => ⟨h, g.symm⟩

set_option maxRecDepth 100000 in
theorem refEncrypt_no (k b : List UInt8) (v : Value) (w : World) (h : ¬ (k.length = 16 ∧ b.length = 16)) :
    Calls Try.prog 16 #[v, .string ⟨⟨k⟩⟩, .string ⟨⟨b⟩⟩] w fun e w' => e = .returned (.string ⟨⟨[]⟩⟩) ∧ w = w' := by
  by_cases hk : k.length = 16
  · have hb : b.length ≠ 16 := fun e => h ⟨hk, e⟩
    have e1 : ((k.length : Int) != 16) = false := by simp [hk]
    have e2 : (k.length != 16) = false := by simp [hk]
    have e3 : ((b.length : Int) != 16) = true := by simp; omega
    have e4 : (b.length != 16) = true := by simpa using hb
    clear h hk hb
    go_enter Try.func16, Try.ntmps16
    go_wp2
    go_ret
    exact ⟨rfl, rfl⟩
  · have e1 : ((k.length : Int) != 16) = true := by simp; omega
    have e2 : (k.length != 16) = true := by simpa using hk
    clear h hk
    go_enter Try.func16, Try.ntmps16
    go_wp2
    go_ret
    exact ⟨rfl, rfl⟩
end Go.Proofs.Ytjoaajjfmmiaaaa
