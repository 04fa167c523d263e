/- Plain mathematics of terms: sizes, texts, parts, order, what is valid. No program in here. -/
import Derived.Lib.ItoaNum
import Derived.Test.YticofjbngfjjlaaGreatDoorRows
import Derived.WalkKit
import Derived.Below
import Derived.Maps.AppendAt
import Derived.Lib.Hide
import Derived.RangeFuncBox
import Derived.Laws.CopyRow
import Derived.Laws.CopyOwn
import Derived.Laws.MakeOwn
import Derived.Lib.SlBuf
namespace Go.Proofs.YticofjbngfjjlaaGreatDoor.Te
namespace Tt
open Go

/-- A term. -/
inductive Tm where
  | mk (k : Int) (s : List UInt8) (n : Int) (l : List Tm)
instance : Inhabited Tm := ⟨.mk 0 [] 0 []⟩

theorem Tm.ind {P : Tm → Prop} (h : ∀ k s n l, (∀ x ∈ l, P x) → P (.mk k s n l)) : ∀ x, P x :=
  fun x => Tm.rec (motive_1 := P) (motive_2 := fun l => ∀ x ∈ l, P x) (fun k s n l hl => h k s n l hl) (by simp) (fun x l hx hl => by
    intro y hy
    rcases List.mem_cons.1 hy with rfl | hy
    · exact hx
    · exact hl y hy) x

def Tm.k : Tm → Int | .mk k _ _ _ => k
def Tm.s : Tm → List UInt8 | .mk _ s _ _ => s
def Tm.n : Tm → Int | .mk _ _ n _ => n
def Tm.l : Tm → List Tm | .mk _ _ _ l => l

mutual
def sz : Tm → Nat
  | .mk _ _ _ l => 1 + szs l
def szs : List Tm → Nat
  | [] => 0
  | x :: r => sz x + szs r
end
mutual
def bk : Tm → Nat
  | .mk _ s _ l => 1 + s.length + bks l
def bks : List Tm → Nat
  | [] => 0
  | x :: r => bk x + bks r
end
theorem sz_pos (x : Tm) : 1 ≤ sz x := by cases x; rw [sz]; omega
theorem bk_pos (x : Tm) : 1 ≤ bk x := by cases x; rw [bk]; omega
theorem szs_mem : ∀ (l : List Tm) (x : Tm), x ∈ l → sz x ≤ szs l
  | y :: r, x, h => by
    rw [szs]
    rcases List.mem_cons.1 h with rfl | h
    · omega
    · have := szs_mem r x h; omega
theorem bks_mem : ∀ (l : List Tm) (x : Tm), x ∈ l → bk x ≤ bks l
  | y :: r, x, h => by
    rw [bks]
    rcases List.mem_cons.1 h with rfl | h
    · omega
    · have := bks_mem r x h; omega
theorem szs_len : ∀ (l : List Tm), l.length ≤ szs l
  | [] => by rw [szs]; simp
  | x :: r => by have := szs_len r; have := sz_pos x; rw [szs]; simp; omega
theorem bks_len : ∀ (l : List Tm), l.length ≤ bks l
  | [] => by rw [bks]; simp
  | x :: r => by have := bks_len r; have := bk_pos x; rw [bks]; simp; omega
theorem szs_app : ∀ (l m : List Tm), szs (l ++ m) = szs l + szs m
  | [], m => by simp [szs]
  | x :: r, m => by simp only [List.cons_append, szs, szs_app r m]; omega
theorem bks_app : ∀ (l m : List Tm), bks (l ++ m) = bks l + bks m
  | [], m => by simp [bks]
  | x :: r, m => by simp only [List.cons_append, bks, bks_app r m]; omega
theorem sz_le_bk : ∀ x, sz x ≤ bk x := Tm.ind (by
  intro k s n l ih
  rw [sz, bk]
  have : szs l ≤ bks l := by
    clear k s n
    induction l with
    | nil => simp [szs, bks]
    | cons x r ihr =>
      rw [szs, bks]
      have := ih x (by simp)
      have := ihr (fun y hy => ih y (by simp [hy]))
      omega
  omega)

theorem szs_take_succ (l : List Tm) (i : Nat) (h : i < l.length) : szs (l.take (i + 1)) = szs (l.take i) + sz l[i] := by
  rw [List.take_succ_eq_append_getElem h, szs_app]
  simp [szs]
theorem szs_take_le (l : List Tm) (i : Nat) : szs (l.take i) ≤ szs l := by
  have := szs_app (l.take i) (l.drop i)
  rw [List.take_append_drop] at this
  omega

/-! ### Texts -/
def jn : List (List UInt8) → List UInt8
  | [] => []
  | [a] => a
  | a :: b :: r => a ++ 32 :: jn (b :: r)
def ky (h : List UInt8) (n : Int) : List (List UInt8) → List UInt8
  | [a, b] => h ++ a ++ 32 :: (Lib.itoa n ++ 32 :: (b ++ [41]))
  | _ => [63]
def tx (k : Int) (s : List UInt8) (n : Int) (ts : List (List UInt8)) : List UInt8 :=
  if k = 0 then s else if k = 1 then Lib.itoa n else if k = 2 then [107, 101, 121, 40] ++ s ++ 32 :: (Lib.itoa n ++ [41]) else
  if k = 3 then 91 :: (jn ts ++ [93]) else if k = 4 then ky [115, 101, 97, 108, 40] n ts else if k = 5 then ky [115, 117, 109, 40] n ts else [63]
mutual
def text : Tm → List UInt8
  | .mk k s n l => tx k s n (texts l)
def texts : List Tm → List (List UInt8)
  | [] => []
  | x :: r => text x :: texts r
end
theorem texts_map : ∀ l, texts l = l.map text
  | [] => by simp [texts]
  | x :: r => by simp [texts, texts_map r]
theorem texts_len (l : List Tm) : (texts l).length = l.length := by rw [texts_map]; simp

/-- What stands in a list ahead of the i-th text. -/
def pj (ts : List (List UInt8)) : List UInt8 := ts.flatMap fun a => 32 :: a
theorem jn_pj : ∀ (a : List UInt8) (r : List (List UInt8)), jn (a :: r) = a ++ pj r
  | a, [] => by simp [jn, pj]
  | a, b :: r => by rw [jn, jn_pj b r]; simp [pj]
theorem jn_snoc : ∀ (l : List (List UInt8)) (a : List UInt8), l ≠ [] → jn (l ++ [a]) = jn l ++ 32 :: a
  | [], _, h => absurd rfl h
  | x :: r, a, _ => by
    rw [List.cons_append, jn_pj, jn_pj]
    simp [pj]

/-! ### Names, shapes, parts -/
def nmB (c : UInt8) : Bool := (decide (97 ≤ c.toNat) && decide (c.toNat ≤ 122)) || (decide (48 ≤ c.toNat) && decide (c.toNat ≤ 57)) || c.toNat == 45 || c.toNat == 46 || c.toNat == 47
def isName (s : List UInt8) : Bool := decide (1 ≤ s.length) && decide (s.length ≤ 40) && s.all nmB
def fk : List Tm → Int
  | [] => 0
  | x :: _ => x.k
/-- What is wrong with a term's own fields. -/
def mis : Tm → Bool
  | .mk k s n l =>
    if k = 0 then !isName s || decide (n ≠ 0) || decide (0 < l.length) else
    if k = 1 then decide (s ≠ []) || decide (0 < l.length) else
    if k = 2 then (decide (s ≠ []) && !isName s) || decide (n < 1) || decide (0 < l.length) else
    if k = 3 then decide (s ≠ []) || decide (n ≠ 0) || decide (64 < l.length) else
    if k = 4 ∨ k = 5 then decide (s ≠ []) || decide (n < 1) || decide (255 < n) || decide (l.length ≠ 2) || decide (fk l ≠ 2) else true
def odd (p : Nat × Tm) : Bool := decide (16 < p.1) || mis p.2

mutual
/-- A term and all in it, each with the number of others that it stands in. -/
def parts (d : Nat) : Tm → List (Nat × Tm)
  | .mk k s n l => (d, .mk k s n l) :: partss (d + 1) l
def partss (d : Nat) : List Tm → List (Nat × Tm)
  | [] => []
  | x :: r => parts d x ++ partss d r
end
theorem partss_app (d : Nat) : ∀ l m, partss d (l ++ m) = partss d l ++ partss d m
  | [], m => by simp [partss]
  | x :: r, m => by simp [partss, partss_app d r m]
theorem partss_take_succ (d : Nat) (l : List Tm) (i : Nat) (h : i < l.length) : partss d (l.take (i + 1)) = partss d (l.take i) ++ parts d l[i] := by
  rw [List.take_succ_eq_append_getElem h, partss_app]
  simp [partss]
mutual
theorem parts_len (d : Nat) : ∀ x, (parts d x).length = sz x
  | .mk k s n l => by rw [parts, sz, List.length_cons, partss_len (d + 1) l]; omega
theorem partss_len (d : Nat) : ∀ l, (partss d l).length = szs l
  | [] => by simp [partss, szs]
  | x :: r => by rw [partss, szs, List.length_append, parts_len d x, partss_len d r]
end
/-- May it be, so deep? -/
def vld (d : Nat) (x : Tm) : Bool := !(parts d x).any odd
theorem vld_mk (d : Nat) (k : Int) (s : List UInt8) (n : Int) (l : List Tm) : vld d (.mk k s n l) = (decide (d ≤ 16) && !mis (.mk k s n l) && l.all (vld (d + 1))) := by
  have h : ∀ l : List Tm, (!(partss (d + 1) l).any odd) = l.all (vld (d + 1)) := by
    intro l
    induction l with
    | nil => simp [partss]
    | cons x r ih => rw [partss, List.any_append, Bool.not_or, ih]; simp [vld]
  have h2 : (!decide (16 < d)) = decide (d ≤ 16) := by
    by_cases h : d ≤ 16
    · simp [h]
    · simp [h]; omega
  rw [vld, parts, List.any_cons, Bool.not_or, h l, odd, Bool.not_or, h2]

/-! ### Order -/
def ci (a b : Int) : Int := if a < b then -1 else if a = b then 0 else 1
def hd (k : Int) (s : List UInt8) (n : Int) (k' : Int) (s' : List UInt8) (n' : Int) (c : List UInt8 → List UInt8 → Int) : Int :=
  if ci k k' ≠ 0 then ci k k' else if c s s' ≠ 0 then c s s' else ci n n'
def cs : List UInt8 → List UInt8 → Int
  | [], [] => 0
  | [], _ :: _ => -1
  | _ :: _, [] => 1
  | x :: r, y :: q => if x.toNat < y.toNat then -1 else if x = y then cs r q else 1
mutual
def ord : Tm → Tm → Int
  | .mk k s n l, .mk k' s' n' l' => if hd k s n k' s' n' cs ≠ 0 then hd k s n k' s' n' cs else ords l l'
def ords : List Tm → List Tm → Int
  | [], [] => 0
  | [], _ :: _ => -1
  | _ :: _, [] => 1
  | x :: r, y :: q => if ord x y ≠ 0 then ord x y else ords r q
end

/-! ### Names of a list -/
def names : Tm → Option (List (List UInt8))
  | .mk k _ _ l => if k = 3 ∧ l.all (fun p => decide (p.k = 0)) then some (l.map Tm.s) else none
end Tt
end Go.Proofs.YticofjbngfjjlaaGreatDoor.Te

/- Plain mathematics of depth. -/

namespace Go.Proofs.YticofjbngfjjlaaGreatDoor.Te
namespace Tt

mutual
/-- How deep a term is nested. -/
def dp : Tm → Nat
  | .mk _ _ _ l => dps l
def dps : List Tm → Nat
  | [] => 0
  | x :: r => max (1 + dp x) (dps r)
end
mutual
/-- Has every part the right shape? -/
def sh : Tm → Bool
  | .mk k s n l => !mis (.mk k s n l) && shs l
def shs : List Tm → Bool
  | [] => true
  | x :: r => sh x && shs r
end
theorem shs_all : ∀ l, shs l = l.all sh
  | [] => by simp [shs]
  | x :: r => by simp [shs, shs_all r]
theorem dps_le : ∀ (l : List Tm) (m : Nat), dps l ≤ m ↔ ∀ x ∈ l, 1 + dp x ≤ m
  | [], m => by simp [dps]
  | x :: r, m => by rw [dps, Nat.max_le, dps_le r m]; simp
theorem dps_app : ∀ l m : List Tm, dps (l ++ m) = max (dps l) (dps m)
  | [], m => by simp [dps]
  | x :: r, m => by rw [List.cons_append, dps, dps, dps_app r m, Nat.max_assoc]
theorem dps_take_succ (l : List Tm) (i : Nat) (h : i < l.length) : dps (l.take (i + 1)) = max (dps (l.take i)) (1 + dp l[i]) := by
  rw [List.take_succ_eq_append_getElem h, dps_app]
  simp [dps]
theorem dp_sz : ∀ x, dp x < sz x := Tm.ind (by
  intro k s n l ih
  rw [dp, sz]
  have : dps l ≤ szs l := by
    rw [dps_le]
    intro x hx
    have := ih x hx
    have := szs_mem l x hx
    omega
  omega)
theorem vld_dp : ∀ (x : Tm) (d : Nat), vld d x = (decide (d + dp x ≤ 16) && sh x) := Tm.ind (by
  intro k s n l ih d
  rw [vld_mk, dp, sh, shs_all, Bool.eq_iff_iff]
  simp only [Bool.and_eq_true, decide_eq_true_eq, List.all_eq_true]
  constructor
  · rintro ⟨⟨h1, h2⟩, h3⟩
    have h4 : ∀ x ∈ l, d + 1 + dp x ≤ 16 ∧ sh x = true := by
      intro x hx
      have := h3 x hx
      rw [ih x hx] at this
      simpa using this
    refine ⟨?_, h2, fun x hx => (h4 x hx).2⟩
    have h5 := (dps_le l (16 - d)).2 fun x hx => by have := (h4 x hx).1; omega
    omega
  · rintro ⟨h1, h2, h3⟩
    have h5 := (dps_le l (16 - d)).1 (by omega)
    refine ⟨⟨by omega, h2⟩, fun x hx => ?_⟩
    rw [ih x hx]
    have := h5 x hx
    simp only [Bool.and_eq_true, decide_eq_true_eq]
    exact ⟨by omega, h3 x hx⟩)

/-- A term in so many lists. -/
def wrap : Nat → Tm → Tm
  | 0, x => x
  | i + 1, x => .mk 3 [] 0 [wrap i x]
theorem wrap_dp : ∀ (i : Nat) (x : Tm), dp (wrap i x) = dp x + i
  | 0, x => rfl
  | i + 1, x => by rw [wrap, dp, dps, wrap_dp i x]; simp [dps]; omega
theorem wrap_sz : ∀ (i : Nat) (x : Tm), sz (wrap i x) = sz x + i
  | 0, x => rfl
  | i + 1, x => by rw [wrap, sz, szs, wrap_sz i x]; simp [szs]; omega
theorem wrap_sh : ∀ (i : Nat) (x : Tm), sh (wrap i x) = sh x
  | 0, x => rfl
  | i + 1, x => by rw [wrap, sh, shs, wrap_sh i x]; simp [shs, mis]
theorem wrap_vld (i : Nat) (x : Tm) : vld 0 (wrap i x) = (vld 0 x && decide (dp x + i ≤ 16)) := by
  rw [vld_dp, vld_dp, wrap_dp, wrap_sh, Bool.eq_iff_iff]
  simp only [Bool.and_eq_true, decide_eq_true_eq, Nat.zero_add]
  constructor
  · rintro ⟨h1, h2⟩
    exact ⟨⟨by omega, h2⟩, h1⟩
  · rintro ⟨⟨h1, h2⟩, h3⟩
    exact ⟨h3, h2⟩
theorem szs_rep (m : Nat) (x : Tm) : szs (List.replicate m x) = m * sz x := by
  induction m with
  | zero => simp [szs]
  | succ m ih => rw [List.replicate_succ, szs, ih, Nat.succ_mul]; omega
theorem rep_vld (m : Nat) (x : Tm) (h0 : 0 < m) (h : m ≤ 64) : vld 0 (.mk 3 [] 0 (List.replicate m x)) = (vld 0 x && decide (dp x < 16)) := by
  rw [vld_mk, vld_dp]
  have hm : mis (.mk 3 [] 0 (List.replicate m x)) = false := by simp [mis]; omega
  rw [hm, Bool.eq_iff_iff]
  simp only [Bool.and_eq_true, decide_eq_true_eq, List.all_eq_true, List.mem_replicate, Nat.zero_le, Bool.not_false, true_and, Nat.zero_add]
  constructor
  · intro h1
    have := h1 x ⟨by omega, rfl⟩
    rw [vld_dp] at this
    simp only [Bool.and_eq_true, decide_eq_true_eq] at this
    exact ⟨⟨by omega, this.2⟩, by omega⟩
  · rintro ⟨⟨h1, h2⟩, h3⟩ y ⟨_, rfl⟩
    rw [vld_dp]
    simp only [Bool.and_eq_true, decide_eq_true_eq]
    exact ⟨by omega, h2⟩
theorem rep65_vld (x : Tm) : vld 0 (.mk 3 [] 0 (List.replicate 65 x)) = false := by
  rw [vld_mk]
  have hm : mis (.mk 3 [] 0 (List.replicate 65 x)) = true := by simp [mis]
  rw [hm]; simp
end Tt
end Go.Proofs.YticofjbngfjjlaaGreatDoor.Te

/- A term in memory. -/

namespace Go.Proofs.YticofjbngfjjlaaGreatDoor.Te
open Go.RowKit
open Tt

theorem heap_alloc_new (w : World) (o : Obj) : (w.alloc o).heap[w.heap.size]? = some o := World.alloc_heap_new w o
theorem heap_alloc_old (w : World) (o : Obj) {i : Nat} (h : i < w.heap.size) : (w.alloc o).heap[i]? = w.heap[i]? := Below.heap_alloc w o i h

/-- What an int holds. -/
def InR (n : Int) : Prop := -9223372036854775808 ≤ n ∧ n ≤ 9223372036854775807

mutual
/-- The value v is the term x in the world w; whatever memory it leads to lies in blocks that S lets. -/
def Rep (w : World) (S : Nat → Prop) : Tm → Value → Prop
  | .mk k s n l, v => ∃ (A : Option Addr) (cap : Nat), v = .agg #[.int .i64 k, .string ⟨⟨s⟩⟩, .int .i64 n, .slice A l.length cap] ∧ InR n ∧ (l = [] ∨ ∃ b o, A = some ⟨b, o, none⟩ ∧ S b ∧ Reps w S l b o)
/-- The terms l lie one behind the other from cell o of block b on. -/
def Reps (w : World) (S : Nat → Prop) : List Tm → Nat → Nat → Prop
  | [], _, _ => True
  | x :: r, b, o => (∃ v0 v1 v2 v3, w.cell? ⟨b, o, none⟩ = some v0 ∧ w.cell? ⟨b, o + 1, none⟩ = some v1 ∧ w.cell? ⟨b, o + 2, none⟩ = some v2 ∧ w.cell? ⟨b, o + 3, none⟩ = some v3 ∧ Rep w S x (.agg #[v0, v1, v2, v3])) ∧ Reps w S r b (o + 4)
end

/-- A slice whose terms are l. -/
def TRow (w : World) (S : Nat → Prop) (l : List Tm) (A : Option Addr) : Prop := l = [] ∨ ∃ b o, A = some ⟨b, o, none⟩ ∧ S b ∧ Reps w S l b o

theorem rep_mk {w : World} {S : Nat → Prop} {k : Int} {s : List UInt8} {n : Int} {l : List Tm} {v : Value} :
    Rep w S (.mk k s n l) v ↔ ∃ (A : Option Addr) (cap : Nat), v = .agg #[.int .i64 k, .string ⟨⟨s⟩⟩, .int .i64 n, .slice A l.length cap] ∧ InR n ∧ TRow w S l A := by
  rw [Rep]; rfl

theorem rep_keep {w w' : World} {S S' : Nat → Prop} (hS : ∀ b, S b → S' b) (hc : ∀ b o, S b → w'.cell? ⟨b, o, none⟩ = w.cell? ⟨b, o, none⟩) :
    ∀ x v, Rep w S x v → Rep w' S' x v := fun x =>
  Tm.rec (motive_1 := fun x => ∀ v, Rep w S x v → Rep w' S' x v) (motive_2 := fun l => ∀ b o, S b → Reps w S l b o → Reps w' S' l b o)
    (fun k s n l hl v h => by
      rw [Rep] at h ⊢
      obtain ⟨A, cap, rfl, hn, h⟩ := h
      refine ⟨A, cap, rfl, hn, ?_⟩
      rcases h with h | ⟨b, o, rfl, hb, hr⟩
      · exact .inl h
      · exact .inr ⟨b, o, rfl, hS b hb, hl b o hb hr⟩)
    (fun b o _ _ => by rw [Reps]; trivial)
    (fun x l hx hl b o hb h => by
      rw [Reps] at h ⊢
      obtain ⟨⟨v0, v1, v2, v3, h0, h1, h2, h3, h4⟩, h5⟩ := h
      exact ⟨⟨v0, v1, v2, v3, by rw [hc b _ hb, h0], by rw [hc b _ hb, h1], by rw [hc b _ hb, h2], by rw [hc b _ hb, h3], hx _ h4⟩, hl b _ hb h5⟩) x

theorem trow_keep {w w' : World} {S S' : Nat → Prop} {l : List Tm} {A : Option Addr} (hS : ∀ b, S b → S' b) (hc : ∀ b o, S b → w'.cell? ⟨b, o, none⟩ = w.cell? ⟨b, o, none⟩) (h : TRow w S l A) : TRow w' S' l A := by
  have h1 := rep_keep hS hc (.mk 0 [] 0 l) _ (rep_mk.2 ⟨A, 0, rfl, ⟨by omega, by omega⟩, h⟩)
  obtain ⟨A', cap', hv, _, hr⟩ := rep_mk.1 h1
  injection hv with hv
  simp at hv
  rw [hv.1]
  exact hr

theorem rep_alloc {w : World} {S S' : Nat → Prop} {x : Tm} {v : Value} (h : Rep w S x v) (o : Obj) (hS : ∀ b, S b → b < w.heap.size ∧ S' b) : Rep (w.alloc o) S' x v :=
  rep_keep (fun b hb => (hS b hb).2) (fun b _ hb => World.cell?_of_block (Below.heap_alloc w o b (hS b hb).1)) _ _ h
theorem rep_below {w w' : World} {S : Nat → Prop} {x : Tm} {v : Value} (h : Rep w S x v) (hb : Below w.heap.size w w') (hS : ∀ b, S b → b < w.heap.size) : Rep w' S x v :=
  rep_keep (fun _ h => h) (fun c o hc => hb.cell (p := ⟨c, o, none⟩) (hS c hc)) _ _ h
theorem trow_below {w w' : World} {S : Nat → Prop} {l : List Tm} {A : Option Addr} (h : TRow w S l A) (hb : Below w.heap.size w w') (hS : ∀ b, S b → b < w.heap.size) : TRow w' S l A :=
  trow_keep (fun _ h => h) (fun c o hc => hb.cell (p := ⟨c, o, none⟩) (hS c hc)) h
theorem rep_at {w w' : World} {n : Nat} {S : Nat → Prop} {x : Tm} {v : Value} (h : Rep w S x v) (hb : Below n w w') (hS : ∀ b, S b → b < n) : Rep w' S x v :=
  rep_keep (fun _ h => h) (fun c o hc => hb.cell (p := ⟨c, o, none⟩) (hS c hc)) _ _ h
theorem trow_at {w w' : World} {n : Nat} {S : Nat → Prop} {l : List Tm} {A : Option Addr} (h : TRow w S l A) (hb : Below n w w') (hS : ∀ b, S b → b < n) : TRow w' S l A :=
  trow_keep (fun _ h => h) (fun c o hc => hb.cell (p := ⟨c, o, none⟩) (hS c hc)) h

theorem reps_at {w : World} {S : Nat → Prop} : ∀ (l : List Tm) (b o i : Nat) (x : Tm), Reps w S l b o → l[i]? = some x →
    ∃ v0 v1 v2 v3, w.cell? ⟨b, o + i * 4, none⟩ = some v0 ∧ w.cell? ⟨b, o + i * 4 + 1, none⟩ = some v1 ∧ w.cell? ⟨b, o + i * 4 + 2, none⟩ = some v2 ∧ w.cell? ⟨b, o + i * 4 + 3, none⟩ = some v3 ∧ Rep w S x (.agg #[v0, v1, v2, v3])
  | [], _, _, _, _, _, h => by simp at h
  | y :: r, b, o, 0, x, h, hx => by
    rw [Reps] at h
    simp at hx
    subst hx
    simpa using h.1
  | y :: r, b, o, i + 1, x, h, hx => by
    rw [Reps] at h
    simp at hx
    have := reps_at r b (o + 4) i x h.2 hx
    have e : o + 4 + i * 4 = o + (i + 1) * 4 := by omega
    rw [e] at this
    exact this

/-- The i-th term of a slice: its cells, and that they are it. -/
theorem trow_get {w w' : World} {n : Nat} {S : Nat → Prop} {l : List Tm} {A : Option Addr} {i : Nat} (h : TRow w S l A) (hb : Below n w w') (hS : ∀ b, S b → b < n) (hi : i < l.length) :
    ∃ b o k s m q B cb, A = some ⟨b, o, none⟩ ∧ S b ∧ l[i] = .mk k s m q ∧ w'.cell? ⟨b, o + i * 4, none⟩ = some (.int .i64 k) ∧ w'.cell? ⟨b, o + i * 4 + 1, none⟩ = some (.string ⟨⟨s⟩⟩) ∧ w'.cell? ⟨b, o + i * 4 + 2, none⟩ = some (.int .i64 m) ∧ w'.cell? ⟨b, o + i * 4 + 3, none⟩ = some (.slice B q.length cb) ∧
      Rep w' S (.mk k s m q) (.agg #[.int .i64 k, .string ⟨⟨s⟩⟩, .int .i64 m, .slice B q.length cb]) := by
  rcases h with h | ⟨b, o, rfl, hSb, hreps⟩
  · rw [h] at hi; simp at hi
  · obtain ⟨v0, v1, v2, v3, d0, d1, d2, d3, hrep⟩ := reps_at l b o i _ hreps (List.getElem?_eq_getElem hi)
    cases hx : l[i] with
    | mk k s m q =>
      rw [hx] at hrep
      have hrep' := rep_at hrep hb hS
      obtain ⟨B, cb, hv, hm, hrow'⟩ := rep_mk.1 hrep
      injection hv with hv
      simp at hv
      obtain ⟨rfl, rfl, rfl, rfl⟩ := hv
      have hbS := hS b hSb
      exact ⟨b, o, k, s, m, q, B, cb, rfl, hSb, rfl, (hb.cell (p := ⟨b, o + i * 4, none⟩) hbS).trans d0, (hb.cell (p := ⟨b, o + i * 4 + 1, none⟩) hbS).trans d1, (hb.cell (p := ⟨b, o + i * 4 + 2, none⟩) hbS).trans d2, (hb.cell (p := ⟨b, o + i * 4 + 3, none⟩) hbS).trans d3, hrep'⟩

/-- The cells xs are the terms l, four cells each. -/
def Els (w : World) (S : Nat → Prop) : List Tm → List Value → Prop
  | [], xs => xs = []
  | x :: r, v0 :: v1 :: v2 :: v3 :: xs => Rep w S x (.agg #[v0, v1, v2, v3]) ∧ Els w S r xs
  | _ :: _, _ => False

theorem els_keep {w w' : World} {S S' : Nat → Prop} (hS : ∀ b, S b → S' b) (hc : ∀ b o, S b → w'.cell? ⟨b, o, none⟩ = w.cell? ⟨b, o, none⟩) :
    ∀ l xs, Els w S l xs → Els w' S' l xs
  | [], xs, h => by rw [Els] at h ⊢; exact h
  | x :: r, v0 :: v1 :: v2 :: v3 :: xs, h => by rw [Els] at h ⊢; exact ⟨rep_keep hS hc _ _ h.1, els_keep hS hc r xs h.2⟩
  | _ :: _, [], h => by simp [Els] at h
  | _ :: _, [_], h => by simp [Els] at h
  | _ :: _, [_, _], h => by simp [Els] at h
  | _ :: _, [_, _, _], h => by simp [Els] at h

theorem els_app {w : World} {S : Nat → Prop} : ∀ l xs m ys, Els w S l xs → Els w S m ys → Els w S (l ++ m) (xs ++ ys)
  | [], xs, m, ys, h, h' => by
    rw [Els] at h
    subst h
    exact h'
  | y :: r, u0 :: u1 :: u2 :: u3 :: xs, m, ys, h, h' => by
    rw [Els] at h
    simp only [List.cons_append]
    rw [Els]
    exact ⟨h.1, els_app r xs m ys h.2 h'⟩
  | _ :: _, [], _, _, h, _ => by simp [Els] at h
  | _ :: _, [_], _, _, h, _ => by simp [Els] at h
  | _ :: _, [_, _], _, _, h, _ => by simp [Els] at h
  | _ :: _, [_, _, _], _, _, h, _ => by simp [Els] at h
theorem els_one {w : World} {S : Nat → Prop} {x : Tm} {v0 v1 v2 v3 : Value} (hx : Rep w S x (.agg #[v0, v1, v2, v3])) : Els w S [x] [v0, v1, v2, v3] := by
  rw [Els]; exact ⟨hx, by rw [Els]⟩

theorem els_reps {w : World} {S : Nat → Prop} {b : Nat} : ∀ l xs o, Els w S l xs → (∀ j u, xs[j]? = some u → w.cell? ⟨b, o + j, none⟩ = some u) → Reps w S l b o
  | [], xs, o, _, _ => by rw [Reps]; trivial
  | x :: r, v0 :: v1 :: v2 :: v3 :: xs, o, h, hc => by
    rw [Els] at h
    rw [Reps]
    refine ⟨⟨v0, v1, v2, v3, hc 0 v0 rfl, hc 1 v1 rfl, hc 2 v2 rfl, hc 3 v3 rfl, h.1⟩, els_reps r xs (o + 4) h.2 fun j u hj => ?_⟩
    have := hc (j + 4) u (by simpa using hj)
    rw [show o + (j + 4) = o + 4 + j by omega] at this
    exact this
  | _ :: _, [], _, h, _ => by simp [Els] at h
  | _ :: _, [_], _, h, _ => by simp [Els] at h
  | _ :: _, [_, _], _, h, _ => by simp [Els] at h
  | _ :: _, [_, _, _], _, h, _ => by simp [Els] at h

theorem els_len {w : World} {S : Nat → Prop} : ∀ l xs, Els w S l xs → xs.length = l.length * 4
  | [], xs, h => by rw [Els] at h; subst h; rfl
  | x :: r, v0 :: v1 :: v2 :: v3 :: xs, h => by
    rw [Els] at h
    have := els_len r xs h.2
    simp [this]; omega
  | _ :: _, [], h => by simp [Els] at h
  | _ :: _, [_], h => by simp [Els] at h
  | _ :: _, [_, _], h => by simp [Els] at h
  | _ :: _, [_, _, _], h => by simp [Els] at h

/-- The cells of a row are its terms. -/
theorem reps_els {w : World} {S : Nat → Prop} {b : Nat} : ∀ l o, Reps w S l b o → ∃ xs, Els w S l xs ∧ ∀ j u, xs[j]? = some u → w.cell? ⟨b, o + j, none⟩ = some u
  | [], o, _ => ⟨[], by rw [Els], by simp⟩
  | x :: r, o, h => by
    rw [Reps] at h
    obtain ⟨⟨v0, v1, v2, v3, h0, h1, h2, h3, h4⟩, h5⟩ := h
    obtain ⟨xs, he, hc⟩ := reps_els r (o + 4) h5
    refine ⟨v0 :: v1 :: v2 :: v3 :: xs, by rw [Els]; exact ⟨h4, he⟩, fun j u hj => ?_⟩
    match j, hj with
    | 0, hj => simp at hj; subst hj; simpa using h0
    | 1, hj => simp at hj; subst hj; exact h1
    | 2, hj => simp at hj; subst hj; exact h2
    | 3, hj => simp at hj; subst hj; exact h3
    | j + 4, hj =>
      have := hc j u (by simpa using hj)
      rw [show o + 4 + j = o + (j + 4) by omega] at this
      exact this

/-- A row that the call owns, and whose cells are terms, is a slice of them. -/
theorem trow_of_own {w : World} {S : Nat → Prop} {base n cap : Nat} {A : Option Addr} {l : List Tm} {xs : List Value} (h : w.ownsRow base 25 4 (.slice A n cap) n xs) (he : Els w S l xs) (hl : l.length = n) (hS : ∀ b, (Value.slice A n cap).ownBlock = some b → S b) : TRow w S l A := by
  rcases h.2 with ⟨hv, hn⟩ | ⟨g, cap', cur, hv, _⟩
  · exact .inl (List.eq_nil_of_length_eq_zero (by omega))
  · injection hv with h1 h2 h3
    subst h1
    refine .inr ⟨g, 0, rfl, hS g rfl, els_reps l xs 0 he fun j u hj => ?_⟩
    have := h.cells (g := g) rfl j u hj
    rw [Nat.zero_add]
    simpa [Addr.add_lit] using this

theorem cell4 {w : World} {g : Nat} {v0 v1 v2 v3 : Value} {t : TypeId} {fr : Nat × Nat} (h : w.heap[g]? = some (.cells #[v0, v1, v2, v3] t fr)) :
    w.cell? ⟨g, 0, none⟩ = some v0 ∧ w.cell? ⟨g, 1, none⟩ = some v1 ∧ w.cell? ⟨g, 2, none⟩ = some v2 ∧ w.cell? ⟨g, 3, none⟩ = some v3 :=
  ⟨by rw [cell_of_row _ _ _ _ _ _ h]; rfl, by rw [cell_of_row _ _ _ _ _ _ h]; rfl, by rw [cell_of_row _ _ _ _ _ _ h]; rfl, by rw [cell_of_row _ _ _ _ _ _ h]; rfl⟩

/-- The cells of a term's block. -/
abbrev tcells (k : Int) (s : List UInt8) (n : Int) (A : Option Addr) (m ca : Nat) : Array Value := #[.int .i64 k, .string ⟨⟨s⟩⟩, .int .i64 n, .slice A m ca]

/-- Block g holds a term. -/
def Hold (w : World) (S : Nat → Prop) (g : Nat) (k : Int) (s : List UInt8) (n : Int) (l : List Tm) (A : Option Addr) (ca : Nat) : Prop :=
  w.heap[g]? = some (.cells #[.int .i64 k, .string ⟨⟨s⟩⟩, .int .i64 n, .slice A l.length ca] 25 (0, 0)) ∧ Rep w S (.mk k s n l) (.agg #[.int .i64 k, .string ⟨⟨s⟩⟩, .int .i64 n, .slice A l.length ca]) ∧ ∀ b, S b → b < w.heap.size

section
variable {w w' : World} {S : Nat → Prop} {g : Nat} {k : Int} {s : List UInt8} {n : Int} {l : List Tm} {A : Option Addr} {ca : Nat}
theorem Hold.lt (h : Hold w S g k s n l A ca) : g < w.heap.size := (Array.getElem?_eq_some_iff.1 h.1).1
theorem Hold.below (h : Hold w S g k s n l A ca) (hb : Below w.heap.size w w') : Hold w' S g k s n l A ca :=
  ⟨(hb.block g h.lt).trans h.1, rep_below h.2.1 hb h.2.2, fun b hb' => Nat.lt_of_lt_of_le (h.2.2 b hb') hb.size⟩
theorem Hold.alloc (h : Hold w S g k s n l A ca) (o : Obj) : Hold (w.alloc o) S g k s n l A ca := h.below ((Below.refl _ _).alloc (Nat.le_refl _) o)
theorem Hold.drew (h : Hold w S g k s n l A ca) : Hold w.drew S g k s n l A ca := h.below (Below.refl _ _).drew
theorem Hold.new (h : Rep w S (.mk k s n l) (.agg #[.int .i64 k, .string ⟨⟨s⟩⟩, .int .i64 n, .slice A l.length ca])) (hS : ∀ b, S b → b < w.heap.size) :
    Hold (w.alloc (.cells #[.int .i64 k, .string ⟨⟨s⟩⟩, .int .i64 n, .slice A l.length ca] 25)) S w.heap.size k s n l A ca :=
  ⟨heap_alloc_new w _, rep_alloc h _ (fun c hc => ⟨hS c hc, hc⟩), fun b hb => by have := hS b hb; simp; omega⟩
theorem Hold.cells (h : Hold w S g k s n l A ca) : w.cell? ⟨g, 0, none⟩ = some (.int .i64 k) ∧ w.cell? ⟨g, 1, none⟩ = some (.string ⟨⟨s⟩⟩) ∧ w.cell? ⟨g, 2, none⟩ = some (.int .i64 n) ∧ w.cell? ⟨g, 3, none⟩ = some (.slice A l.length ca) := cell4 h.1
theorem Hold.rep (h : Hold w S g k s n l A ca) : Rep w S (.mk k s n l) (.agg #[.int .i64 k, .string ⟨⟨s⟩⟩, .int .i64 n, .slice A l.length ca]) := h.2.1
theorem Hold.row (h : Hold w S g k s n l A ca) : TRow w S l A := by
  obtain ⟨A', ca', hv, _, hr⟩ := rep_mk.1 h.2.1
  injection hv with hv
  simp at hv
  rw [hv.1]; exact hr
theorem Hold.inr (h : Hold w S g k s n l A ca) : InR n := by
  obtain ⟨A', ca', hv, hn, hr⟩ := rep_mk.1 h.2.1
  exact hn
theorem Hold.low (h : Hold w S g k s n l A ca) : ∀ b, S b → b < w.heap.size := h.2.2
end
end Go.Proofs.YticofjbngfjjlaaGreatDoor.Te

/- Of, Num, Key, List, Seal, Sum. -/

namespace Go.Proofs.YticofjbngfjjlaaGreatDoor.Te
open Go.RowKit
open Tt

/-- The blocks that there are. -/
abbrev Lo (w : World) : Nat → Prop := fun b => b < w.heap.size

theorem infoT : (Tryz.prog.info? 25).map (fun i => (i.zero, i.size, i.bytes)) = some (some (.agg #[.int .i64 0, .string ⟨#[]⟩, .int .i64 0, .slice none 0 0]), 4, 56) := by kernel_rfl
theorem infoT4 : (Tryz.prog.info? 25).map (·.size) = some 4 := by kernel_rfl

theorem results_term {fn : Func} {p : Tmp} (h : fn.results = #[.cell p 25]) (tmps : Array Value) (w : World) (g : Nat) (t : TypeId) (v0 v1 v2 v3 : Value) (fr : Nat × Nat)
    (hp : tmps.getD p undef = .pointer (some ⟨g, 0, none⟩)) (hg : w.heap[g]? = some (.cells #[v0, v1, v2, v3] t fr)) :
    (results fn tmps).run Tryz.prog w = .ok (.agg #[v0, v1, v2, v3]) w :=
  results_cell_row h tmps w g t _ fr _ hp hg Tryz.underlying25 rfl infoT4

theorem set4 {w : World} {g : Nat} {v0 v1 v2 v3 : Value} {t : TypeId} (h : w.heap[g]? = some (.cells #[v0, v1, v2, v3] t (0, 0))) (u0 u1 u2 u3 : Value) :
    (((w.setCell ⟨g, 0, none⟩ u0).setCell ⟨g, 1, none⟩ u1).setCell ⟨g, 2, none⟩ u2).setCell ⟨g, 3, none⟩ u3 = w.setRow g #[u0, u1, u2, u3] := by
  have e0 := setCell_eq_setRow w g 0 _ t (0, 0) u0 h
  have h0 := setRow_heap w g _ #[u0, v1, v2, v3] t (0, 0) h
  have e1 := setCell_eq_setRow (w.setRow g #[u0, v1, v2, v3]) g 1 _ t (0, 0) u1 h0
  have h1 := setRow_heap w g _ #[u0, u1, v2, v3] t (0, 0) h
  have e2 := setCell_eq_setRow (w.setRow g #[u0, u1, v2, v3]) g 2 _ t (0, 0) u2 h1
  have h2 := setRow_heap w g _ #[u0, u1, u2, v3] t (0, 0) h
  have e3 := setCell_eq_setRow (w.setRow g #[u0, u1, u2, v3]) g 3 _ t (0, 0) u3 h2
  rw [e0]
  show (((w.setRow g #[u0, v1, v2, v3]).setCell _ _).setCell _ _).setCell _ _ = _
  rw [e1, setRow_setRow]
  show ((w.setRow g #[u0, u1, v2, v3]).setCell _ _).setCell _ _ = _
  rw [e2, setRow_setRow]
  show (w.setRow g #[u0, u1, u2, v3]).setCell _ _ = _
  rw [e3, setRow_setRow]
  rfl
theorem below_setRow4 {B g : Nat} {w0 w : World} (hb : Below B w0 w) (hBg : B ≤ g) (cs : Array Value) : Below B w0 (w.setRow g cs) :=
  hb.trans ⟨rfl, rfl, rfl, by simp [World.setRow], fun k hk => setRow_other w g k cs (by omega)⟩

section
variable {P : Program}
/-- copy, whatever the size of an element. -/
theorem run_copy_rows (w : World) (dT sT ty elem : TypeId) (g o dLen dCap : Nat) (a : Addr) (sLen sCap size : Nat) (cur : Array Value) (t : TypeId) (cs : List Value)
    (hu : P.underlying dT = some (.slice elem)) (hs : (P.info? elem).map (·.size) = some size)
    (hg : w.heap[g]? = some (.cells cur t (0, 0))) (hn : cs.length = Nat.min sLen dLen * size)
    (hsrc : ∀ j v, cs[j]? = some v → w.cell? (a.add j) = some v) (hfit : o + cs.length ≤ cur.size) (h1 : ∀ v ∈ cs, v.oneCell' = true) :
    (Builtin.copy_ #[dT, sT] ty #[.slice (some ⟨g, o, none⟩) dLen dCap, .slice (some a) sLen sCap]).run P w =
      .ok (goInt (Nat.min sLen dLen)) (w.setRow g (cur.toList.take o ++ cs ++ cur.toList.drop (o + cs.length)).toArray) := by
  have hl := run_loadCells_list (P := P) w a cs hsrc
  have hst := run_storeCells_at P g o t cs 0 cur w hg (by simpa using hfit) h1
  cases hq : P.info? elem with
  | none => simp [hq] at hs
  | some i =>
    have hi : i.size = size := by simpa [hq] using hs
    simp [Builtin.copy_, run_underlying hu, Builtin.lenOf, Builtin.firstCells, sizeOf, typeInfo, hq, hi, ← hn, hl, hst]
theorem run_copy_zero (w : World) (dT sT ty elem : TypeId) (d a : Option Addr) (dLen dCap sLen sCap size : Nat) (hu : P.underlying dT = some (.slice elem)) (hs : (P.info? elem).map (·.size) = some size) (hn : Nat.min sLen dLen = 0) :
    (Builtin.copy_ #[dT, sT] ty #[.slice d dLen dCap, .slice a sLen sCap]).run P w = .ok (goInt 0) w := by
  cases hq : P.info? elem with
  | none => simp [hq] at hs
  | some i =>
    have hl : ∀ (x : Addr), (loadCells x 0).run P w = .ok #[] w := fun x => by simpa using run_loadCells_list (P := P) w x [] (by simp)
    cases d <;> cases a <;> simp [Builtin.copy_, run_underlying hu, Builtin.lenOf, Builtin.firstCells, sizeOf, typeInfo, hq, hn, storeCells, hl]
end

set_option maxHeartbeats 400000 in
set_option maxRecDepth 100000 in
theorem Of_any (s : List UInt8) (w : World) :
    Calls Tryz.prog 25 #[.string ⟨⟨s⟩⟩] w fun e w' => e = .returned (.agg #[.int .i64 0, .string ⟨⟨s⟩⟩, .int .i64 0, .slice none 0 0]) ∧ Below w.heap.size w w' := by
  go_enter Tryz.func25, Tryz.ntmps25
  go_wp2
  exact bodyPost_ret (results_term Tryz.results25 _ _ w.heap.size _ _ _ _ _ _ rfl (heap_alloc_new w _)) rfl ⟨rfl, (Below.refl _ _).alloc (Nat.le_refl _) _⟩
set_option maxHeartbeats 400000 in
set_option maxRecDepth 100000 in
theorem Num_any (n : Int) (w : World) :
    Calls Tryz.prog 28 #[.int .i64 n] w fun e w' => e = .returned (.agg #[.int .i64 1, .string ⟨#[]⟩, .int .i64 n, .slice none 0 0]) ∧ Below w.heap.size w w' := by
  go_enter Tryz.func28, Tryz.ntmps28
  go_wp2
  exact bodyPost_ret (results_term Tryz.results28 _ _ w.heap.size _ _ _ _ _ _ rfl (heap_alloc_new w _)) rfl ⟨rfl, (Below.refl _ _).alloc (Nat.le_refl _) _⟩
set_option maxHeartbeats 400000 in
set_option maxRecDepth 100000 in
theorem Key_any (s : List UInt8) (n : Int) (w : World) :
    Calls Tryz.prog 27 #[.string ⟨⟨s⟩⟩, .int .i64 n] w fun e w' => e = .returned (.agg #[.int .i64 2, .string ⟨⟨s⟩⟩, .int .i64 n, .slice none 0 0]) ∧ Below w.heap.size w w' := by
  go_enter Tryz.func27, Tryz.ntmps27
  go_wp2
  exact bodyPost_ret (results_term Tryz.results27 _ _ w.heap.size _ _ _ _ _ _ rfl (heap_alloc_new w _)) rfl ⟨rfl, (Below.refl _ _).alloc (Nat.le_refl _) _⟩

/-- A row of terms that was made just now, without room. -/
def NewRow (S : Nat → Prop) (n : Nat) (w' : World) (l : List Tm) (v : Value) : Prop :=
  ∃ g xs, v = .slice (some ⟨g, 0, none⟩) l.length l.length ∧ n ≤ g ∧ w'.heap[g]? = some (.cells xs.toArray 25 (0, 0)) ∧ Els w' S l xs

/-- A slice whose terms are l; S lets the blocks that they lead to. -/
def LRow (w : World) (S : Nat → Prop) (l : List Tm) (A : Option Addr) : Prop :=
  l = [] ∨ ∃ b o xs, A = some ⟨b, o, none⟩ ∧ b < w.heap.size ∧ Els w S l xs ∧ ∀ j u, xs[j]? = some u → w.cell? ⟨b, o + j, none⟩ = some u
theorem TRow.lrow {w : World} {S : Nat → Prop} {l : List Tm} {A : Option Addr} (h : TRow w S l A) (hS : ∀ b, S b → b < w.heap.size) : LRow w S l A := by
  rcases h with h | ⟨b, o, rfl, hb, hr⟩
  · exact .inl h
  · obtain ⟨xs, he, hc⟩ := reps_els l o hr
    exact .inr ⟨b, o, xs, rfl, hS b hb, he, hc⟩

theorem els_one_cell {w : World} {S : Nat → Prop} : ∀ l xs, Els w S l xs → ∀ v ∈ xs, v.oneCell' = true
  | [], xs, h => by rw [Els] at h; subst h; simp
  | x :: r, v0 :: v1 :: v2 :: v3 :: xs, h => by
    rw [Els] at h
    obtain ⟨k, s, n, l⟩ := x
    obtain ⟨A, cap, hv, -⟩ := rep_mk.1 h.1
    injection hv with hv
    simp at hv
    obtain ⟨rfl, rfl, rfl, rfl⟩ := hv
    intro v hv
    simp at hv
    rcases hv with rfl | rfl | rfl | rfl | hv
    · rfl
    · rfl
    · rfl
    · rfl
    · exact els_one_cell r xs h.2 v hv
  | _ :: _, [], h => by simp [Els] at h
  | _ :: _, [_], h => by simp [Els] at h
  | _ :: _, [_, _], h => by simp [Els] at h
  | _ :: _, [_, _, _], h => by simp [Els] at h

theorem makeT_any (n : Nat) (h : n ≤ 1000000) (W : World) : ∃ cur : Array Value, cur.size = n * 4 ∧ (Instr.makeSlice 23 (.int .i64 (n : Int)) (.int .i64 (n : Int))).run Tryz.prog W = .ok (.slice (some ⟨W.heap.size, 0, none⟩) n n) (W.alloc (.cells cur 25)) := by
  obtain ⟨i, hi, he⟩ := Option.map_eq_some_iff.1 infoT
  simp only [Prod.mk.injEq] at he
  obtain ⟨hz, hs, hb⟩ := he
  have hr := run_make (P := Tryz.prog) W 23 25 i _ Tryz.underlying23 hi hz .i64 .i64 n n (by omega) (by omega) (by rw [hb]; omega) (by omega)
  rw [hr, hs, Int.toNat_natCast]
  exact ⟨_, size_madeCells _ _, rfl⟩

set_option maxHeartbeats 400000 in
set_option maxRecDepth 100000 in
theorem List_any (l : List Tm) (A : Option Addr) (ca : Nat) (S : Nat → Prop) (w : World) (hn : l.length ≤ 1000000) (hr : LRow w S l A) (hS : ∀ b, S b → b < w.heap.size) :
    Calls Tryz.prog 56 #[.slice A l.length ca] w fun e w' => ∃ u, e = .returned (.agg #[.int .i64 3, .string ⟨#[]⟩, .int .i64 0, u]) ∧ Below w.heap.size w w' ∧ NewRow S w.heap.size w' l u := by
  obtain ⟨n, hnl⟩ : ∃ n, n = l.length := ⟨_, rfl⟩
  obtain ⟨cur, hcs, hmk⟩ := makeT_any n (by omega) (w.alloc (.cells #[.int .i64 0, .string ⟨#[]⟩, .int .i64 0, .slice none 0 0] 25))
  rw [World.size_alloc] at hmk
  obtain ⟨W2, hW2⟩ : ∃ W2, W2 = ((w.alloc (.cells #[.int .i64 0, .string ⟨#[]⟩, .int .i64 0, .slice none 0 0] 25)).alloc (.cells cur 25)) := ⟨_, rfl⟩
  rw [← hW2] at hmk
  have hB2 : Below w.heap.size w W2 := by rw [hW2]; exact ((Below.refl _ _).alloc (Nat.le_refl _) _).alloc (by simp) _
  have hg1 : W2.heap[w.heap.size + 1]? = some (.cells cur 25 (0, 0)) := by
    rw [hW2]
    have := heap_alloc_new (w.alloc (.cells #[.int .i64 0, .string ⟨#[]⟩, .int .i64 0, .slice none 0 0] 25)) (.cells cur 25)
    rwa [World.size_alloc] at this
  have hg0 : W2.heap[w.heap.size]? = some (.cells #[.int .i64 0, .string ⟨#[]⟩, .int .i64 0, .slice none 0 0] 25 (0, 0)) := by
    rw [hW2, heap_alloc_old _ _ (by simp)]; exact heap_alloc_new w _
  obtain ⟨W3, xs, hcp, hB3, hg3, hel, hg30⟩ : ∃ W3 xs, (Builtin.copy_ #[23, 23] 3 #[.slice (some ⟨w.heap.size + 1, 0, none⟩) n n, .slice A n ca]).run Tryz.prog W2 = .ok (goInt n) W3 ∧ Below w.heap.size w W3 ∧ W3.heap[w.heap.size + 1]? = some (.cells (List.toArray xs) 25 (0, 0)) ∧ Els W3 S l xs ∧ W3.heap[w.heap.size]? = some (.cells #[.int .i64 0, .string ⟨#[]⟩, .int .i64 0, .slice none 0 0] 25 (0, 0)) := by
    rcases hr with rfl | ⟨b, o, xs, rfl, hSb, he, hc⟩
    · have hn0 : n = 0 := hnl
      subst hn0
      refine ⟨W2, [], by rw [run_copy_zero W2 23 23 3 25 _ _ _ _ _ _ 4 Tryz.underlying23 infoT4 (by simp)]; rfl, hB2, ?_, by rw [Els], hg0⟩
      rw [hg1]
      have : cur = #[] := Array.eq_empty_of_size_eq_zero (by omega)
      rw [this]
    · have hlen := els_len l xs he
      have hmin : Nat.min n n = n := Nat.min_self n
      have hr := run_copy_rows (P := Tryz.prog) W2 23 23 3 25 (w.heap.size + 1) 0 n n ⟨b, o, none⟩ n ca 4 cur 25 xs Tryz.underlying23 infoT4 hg1 (by rw [hmin, hlen, hnl]) (fun j v hj => by
        have h1 := hc j v hj
        have h2 := hB2.cell (p := ⟨b, o + j, none⟩) hSb
        rw [h1] at h2
        simpa [Addr.add_lit] using h2) (by omega) (els_one_cell l xs he)
      rw [hmin] at hr
      have hrow : (cur.toList.take 0 ++ xs ++ cur.toList.drop (0 + xs.length)).toArray = xs.toArray := by
        rw [List.take_zero, List.nil_append, List.drop_of_length_le (by simp; omega), List.append_nil]
      rw [hrow] at hr
      have hB3 : Below w.heap.size w (W2.setRow (w.heap.size + 1) xs.toArray) := hB2.trans ⟨rfl, rfl, rfl, by simp [World.setRow], fun k hk => setRow_other W2 _ k _ (by omega)⟩
      refine ⟨_, xs, hr, hB3, setRow_heap W2 _ cur _ _ _ hg1, els_keep (fun _ h => h) (fun c q hc => hB3.cell (p := ⟨c, q, none⟩) (hS c hc)) l xs he, ?_⟩
      rw [setRow_other W2 _ _ _ (by omega)]; exact hg0
  have HG3 := Lib.hid hg3
  have HEL := Lib.hid hel
  have HB3 := Lib.hid hB3
  have HNL := Lib.hid hnl
  have HG0 := Lib.hid hg30
  obtain ⟨c0, c1, c2, c3⟩ := cell4 hg30
  have f0 := fun k => frozen_of_row _ _ k _ _ hg30
  rw [← hnl]
  clear hg3 hel hB3 hr hB2 hg1 hg0 hW2 hnl hn hg30
  go_enter Tryz.func56, Tryz.ntmps56
  go_wp2
  rw [set4 HG0.out]
  have hb := below_setRow4 HB3.out (Nat.le_refl _) #[.int .i64 3, .string ⟨#[]⟩, .int .i64 0, .slice (some ⟨w.heap.size + 1, 0, none⟩) n n]
  refine bodyPost_ret (results_term Tryz.results56 _ _ w.heap.size _ _ _ _ _ _ rfl (setRow_heap _ _ _ _ _ _ HG0.out)) rfl ⟨_, rfl, hb, ?_⟩
  refine ⟨w.heap.size + 1, xs, by rw [← HNL.out], by omega, ?_, ?_⟩
  · rw [setRow_other _ _ _ _ (by omega)]; exact HG3.out
  · exact els_keep (fun _ h => h) (fun c q hc => World.cell?_of_block (a := ⟨c, q, none⟩) (setRow_other _ _ _ _ (by show c ≠ _; have := hS c hc; omega))) l xs HEL.out

theorem NewRow.rep {S : Nat → Prop} {m : Nat} {w' : World} {l : List Tm} {u : Value} (h : NewRow S m w' l u) (hS : ∀ b, S b → b < w'.heap.size) (k : Int) (s : List UInt8) (n : Int) (hn : InR n) : Rep w' (Lo w') (.mk k s n l) (.agg #[.int .i64 k, .string ⟨⟨s⟩⟩, .int .i64 n, u]) := by
  obtain ⟨g, xs, rfl, hg, hc, he⟩ := h
  refine rep_mk.2 ⟨_, _, rfl, hn, .inr ⟨g, 0, rfl, (Array.getElem?_eq_some_iff.1 hc).1, ?_⟩⟩
  refine els_reps l xs 0 (els_keep hS (fun _ _ _ => rfl) l xs he) fun j u hj => ?_
  have hj2 : j < xs.length := (List.getElem?_eq_some_iff.1 hj).1
  rw [Nat.zero_add, cell_of_row _ _ _ _ _ _ hc]
  simpa using hj
theorem Rep.lo {w w' : World} {x : Tm} {v : Value} (h : Rep w (Lo w) x v) (hb : Below w.heap.size w w') : Rep w' (Lo w') x v :=
  rep_keep (fun _ hb' => Nat.lt_of_lt_of_le hb' hb.size) (fun c o hc => hb.cell (p := ⟨c, o, none⟩) hc) _ _ h
theorem TRow.lo {w w' : World} {l : List Tm} {A : Option Addr} (h : TRow w (Lo w) l A) (hb : Below w.heap.size w w') : TRow w' (Lo w') l A :=
  trow_keep (fun _ hb' => Nat.lt_of_lt_of_le hb' hb.size) (fun c o hc => hb.cell (p := ⟨c, o, none⟩) hc) h
theorem NewRow.keep {S : Nat → Prop} {m : Nat} {w w' : World} {l : List Tm} {u : Value} (h : NewRow S m w l u) (hS : ∀ b, S b → b < w.heap.size) (hb : Below w.heap.size w w') : NewRow S m w' l u := by
  obtain ⟨g, xs, rfl, hg, hc, he⟩ := h
  have hlt := (Array.getElem?_eq_some_iff.1 hc).1
  exact ⟨g, xs, rfl, hg, (hb.block g hlt).trans hc, els_keep (fun _ h => h) (fun c o hc => hb.cell (p := ⟨c, o, none⟩) (hS c hc)) l xs he⟩

theorem run_fieldL (v0 v1 v2 : Value) (p : Option Addr) (n c : Nat) (W : World) : (Instr.field 25 (.agg #[v0, v1, v2, .slice p n c]) 3).run Tryz.prog W = .ok (.slice p n c) W := by
  simp [Instr.field, run_underlying Tryz.underlying25, asAgg, part]
/-- Two terms that lie in a new row of two. -/
theorem lrow_two {w : World} {S : Nat → Prop} {x y : Tm} {a0 a1 a2 a3 b0 b1 b2 b3 : Value} (hx : Rep w S x (.agg #[a0, a1, a2, a3])) (hy : Rep w S y (.agg #[b0, b1, b2, b3])) (hS : ∀ b, S b → b < w.heap.size) (t : TypeId) :
    LRow (w.alloc (.cells #[a0, a1, a2, a3, b0, b1, b2, b3] t)) S [x, y] (some ⟨w.heap.size, 0, none⟩) := by
  refine .inr ⟨w.heap.size, 0, [a0, a1, a2, a3, b0, b1, b2, b3], rfl, by simp, by rw [Els, Els, Els]; exact ⟨rep_alloc hx _ (fun b hb => ⟨hS b hb, hb⟩), rep_alloc hy _ (fun b hb => ⟨hS b hb, hb⟩), rfl⟩, fun j u hj => ?_⟩
  rw [Nat.zero_add, cell_of_row _ _ _ _ _ _ (heap_alloc_new w _)]
  simpa using hj

set_option maxHeartbeats 400000 in
set_option maxRecDepth 100000 in
theorem Seal_any (x y : Tm) (vx vy : Value) (n : Int) (S : Nat → Prop) (w : World) (hx : Rep w S x vx) (hy : Rep w S y vy) (hS : ∀ b, S b → b < w.heap.size) :
    Calls Tryz.prog 26 #[vx, .int .i64 n, vy] w fun e w' => ∃ u, e = .returned (.agg #[.int .i64 4, .string ⟨#[]⟩, .int .i64 n, u]) ∧ Below w.heap.size w w' ∧ NewRow S w.heap.size w' [x, y] u := by
  obtain ⟨k1, s1, n1, l1⟩ := x
  obtain ⟨k2, s2, n2, l2⟩ := y
  have hx0 := hx
  have hy0 := hy
  obtain ⟨A1, c1, rfl, -, -⟩ := rep_mk.1 hx
  obtain ⟨A2, c2, rfl, -, -⟩ := rep_mk.1 hy
  clear hx hy
  obtain ⟨z, hz⟩ : ∃ z, z = w.heap.size := ⟨_, rfl⟩
  obtain ⟨W3, hW3⟩ : ∃ W3, W3 = (((w.alloc (.cells #[.int .i64 k1, .string ⟨⟨s1⟩⟩, .int .i64 n1, .slice A1 l1.length c1] 25)).alloc (.cells #[.int .i64 k2, .string ⟨⟨s2⟩⟩, .int .i64 n2, .slice A2 l2.length c2] 25)).alloc (.cells #[.int .i64 0, .string ⟨#[]⟩, .int .i64 0, .slice none 0 0] 25)) := ⟨_, rfl⟩
  have hB3 : Below w.heap.size w W3 := by rw [hW3]; exact (((Below.refl _ _).alloc (Nat.le_refl _) _).alloc (by simp) _).alloc (by simp; omega) _
  have hs3 : W3.heap.size = z + 3 := by rw [hW3, hz]; simp
  have hg2 : W3.heap[z + 2]? = some (.cells #[.int .i64 0, .string ⟨#[]⟩, .int .i64 0, .slice none 0 0] 25 (0, 0)) := by
    have := heap_alloc_new ((w.alloc (.cells #[.int .i64 k1, .string ⟨⟨s1⟩⟩, .int .i64 n1, .slice A1 l1.length c1] 25)).alloc (.cells #[.int .i64 k2, .string ⟨⟨s2⟩⟩, .int .i64 n2, .slice A2 l2.length c2] 25)) (.cells #[.int .i64 0, .string ⟨#[]⟩, .int .i64 0, .slice none 0 0] 25)
    rw [← hW3, World.size_alloc, World.size_alloc, ← hz] at this
    exact this
  have hS3 : ∀ b, S b → b < W3.heap.size := fun b hb => Nat.lt_of_lt_of_le (hS b hb) hB3.size
  have hrow := lrow_two (rep_below hx0 hB3 hS) (rep_below hy0 hB3 hS) hS3 25
  obtain ⟨W4, hW4⟩ : ∃ W4, W4 = (W3.alloc (.cells #[.int .i64 k1, .string ⟨⟨s1⟩⟩, .int .i64 n1, .slice A1 l1.length c1, .int .i64 k2, .string ⟨⟨s2⟩⟩, .int .i64 n2, .slice A2 l2.length c2] 25)) := ⟨_, rfl⟩
  have hB4 : Below (z + 3) W3 W4 := by rw [hW4, ← hs3]; exact (Below.refl _ _).alloc (Nat.le_refl _) _
  have hs4 : W4.heap.size = z + 4 := by rw [hW4]; simp [hs3]
  rw [← hW4, hs3] at hrow
  have HL := Lib.hid (List_any [.mk k1 s1 n1 l1, .mk k2 s2 n2 l2] _ 2 S W4 (by simp) hrow (fun b hb => by have := hS3 b hb; omega))
  have HG2 := Lib.hid ((hB4.block (z + 2) (by omega)).trans hg2)
  have HB4 : Hid (Below w.heap.size w W4) := hB3.trans (hB4.mono (by omega))
  have HW4 := Lib.hid hW4
  have HW3 := Lib.hid hW3
  have HZ := Lib.hid hz
  have HS4 := Lib.hid hs4
  have hfd := fun a b c p W => run_fieldL a b c p 2 2 W
  clear hS3 hx0 hy0 hg2 hrow hB3 hB4 hW3 hW4 hs3 hs4 hz
  go_enter Tryz.func26, Tryz.ntmps26
  go_wp2_with fail
  have e4 := HW4.out
  rw [HW3.out] at e4
  rw [← e4, ← HZ.out]
  refine HL.out.mono ?_
  rintro _ w1 ⟨u, rfl, hb1, hnr⟩
  have hg := (hb1.block (z + 2) (by rw [HS4.out]; omega)).trans HG2.out
  obtain ⟨g, xs, rfl, hgz, hc, he⟩ := hnr
  have HC := Lib.hid hc
  have HE := Lib.hid he
  have HGZ : Hid (z + 4 ≤ g) := by rw [← HS4.out]; exact hgz
  have HB1 : Hid (Below w.heap.size w w1) := HB4.out.trans (hb1.mono HB4.out.size)
  have HG := Lib.hid hg
  obtain ⟨c0, c1, c2, c3⟩ := cell4 hg
  have f0 := fun k => frozen_of_row _ _ k _ _ hg
  clear hg hb1 e4 HL hc he hgz
  go_wp2
  rw [set4 HG.out]
  have hzw : w.heap.size ≤ z + 2 := by rw [HZ.out]; omega
  have hgz := HGZ.out
  have hb := below_setRow4 HB1.out hzw #[.int .i64 4, .string ⟨#[]⟩, .int .i64 n, .slice (some ⟨g, 0, none⟩) 2 2]
  refine bodyPost_ret (results_term Tryz.results26 _ _ (z + 2) _ _ _ _ _ _ rfl (setRow_heap _ _ _ _ _ _ HG.out)) rfl ⟨_, rfl, hb, ?_⟩
  refine ⟨g, xs, rfl, by omega, ?_, ?_⟩
  · rw [setRow_other _ _ _ _ (by omega)]; exact HC.out
  · exact els_keep (fun _ h => h) (fun c q hc => World.cell?_of_block (a := ⟨c, q, none⟩) (setRow_other _ _ _ _ (by show c ≠ _; have := hS c hc; omega))) _ xs HE.out

set_option maxHeartbeats 400000 in
set_option maxRecDepth 100000 in
theorem Sum_any (x y : Tm) (vx vy : Value) (n : Int) (S : Nat → Prop) (w : World) (hx : Rep w S x vx) (hy : Rep w S y vy) (hS : ∀ b, S b → b < w.heap.size) :
    Calls Tryz.prog 175 #[vx, .int .i64 n, vy] w fun e w' => ∃ u, e = .returned (.agg #[.int .i64 5, .string ⟨#[]⟩, .int .i64 n, u]) ∧ Below w.heap.size w w' ∧ NewRow S w.heap.size w' [x, y] u := by
  obtain ⟨k1, s1, n1, l1⟩ := x
  obtain ⟨k2, s2, n2, l2⟩ := y
  have hx0 := hx
  have hy0 := hy
  obtain ⟨A1, c1, rfl, -, -⟩ := rep_mk.1 hx
  obtain ⟨A2, c2, rfl, -, -⟩ := rep_mk.1 hy
  clear hx hy
  obtain ⟨z, hz⟩ : ∃ z, z = w.heap.size := ⟨_, rfl⟩
  obtain ⟨W3, hW3⟩ : ∃ W3, W3 = (((w.alloc (.cells #[.int .i64 k1, .string ⟨⟨s1⟩⟩, .int .i64 n1, .slice A1 l1.length c1] 25)).alloc (.cells #[.int .i64 k2, .string ⟨⟨s2⟩⟩, .int .i64 n2, .slice A2 l2.length c2] 25)).alloc (.cells #[.int .i64 0, .string ⟨#[]⟩, .int .i64 0, .slice none 0 0] 25)) := ⟨_, rfl⟩
  have hB3 : Below w.heap.size w W3 := by rw [hW3]; exact (((Below.refl _ _).alloc (Nat.le_refl _) _).alloc (by simp) _).alloc (by simp; omega) _
  have hs3 : W3.heap.size = z + 3 := by rw [hW3, hz]; simp
  have hg2 : W3.heap[z + 2]? = some (.cells #[.int .i64 0, .string ⟨#[]⟩, .int .i64 0, .slice none 0 0] 25 (0, 0)) := by
    have := heap_alloc_new ((w.alloc (.cells #[.int .i64 k1, .string ⟨⟨s1⟩⟩, .int .i64 n1, .slice A1 l1.length c1] 25)).alloc (.cells #[.int .i64 k2, .string ⟨⟨s2⟩⟩, .int .i64 n2, .slice A2 l2.length c2] 25)) (.cells #[.int .i64 0, .string ⟨#[]⟩, .int .i64 0, .slice none 0 0] 25)
    rw [← hW3, World.size_alloc, World.size_alloc, ← hz] at this
    exact this
  have hS3 : ∀ b, S b → b < W3.heap.size := fun b hb => Nat.lt_of_lt_of_le (hS b hb) hB3.size
  have hrow := lrow_two (rep_below hx0 hB3 hS) (rep_below hy0 hB3 hS) hS3 25
  obtain ⟨W4, hW4⟩ : ∃ W4, W4 = (W3.alloc (.cells #[.int .i64 k1, .string ⟨⟨s1⟩⟩, .int .i64 n1, .slice A1 l1.length c1, .int .i64 k2, .string ⟨⟨s2⟩⟩, .int .i64 n2, .slice A2 l2.length c2] 25)) := ⟨_, rfl⟩
  have hB4 : Below (z + 3) W3 W4 := by rw [hW4, ← hs3]; exact (Below.refl _ _).alloc (Nat.le_refl _) _
  have hs4 : W4.heap.size = z + 4 := by rw [hW4]; simp [hs3]
  rw [← hW4, hs3] at hrow
  have HL := Lib.hid (List_any [.mk k1 s1 n1 l1, .mk k2 s2 n2 l2] _ 2 S W4 (by simp) hrow (fun b hb => by have := hS3 b hb; omega))
  have HG2 := Lib.hid ((hB4.block (z + 2) (by omega)).trans hg2)
  have HB4 : Hid (Below w.heap.size w W4) := hB3.trans (hB4.mono (by omega))
  have HW4 := Lib.hid hW4
  have HW3 := Lib.hid hW3
  have HZ := Lib.hid hz
  have HS4 := Lib.hid hs4
  have hfd := fun a b c p W => run_fieldL a b c p 2 2 W
  clear hS3 hx0 hy0 hg2 hrow hB3 hB4 hW3 hW4 hs3 hs4 hz
  go_enter Tryz.func175, Tryz.ntmps175
  go_wp2_with fail
  have e4 := HW4.out
  rw [HW3.out] at e4
  rw [← e4, ← HZ.out]
  refine HL.out.mono ?_
  rintro _ w1 ⟨u, rfl, hb1, hnr⟩
  have hg := (hb1.block (z + 2) (by rw [HS4.out]; omega)).trans HG2.out
  obtain ⟨g, xs, rfl, hgz, hc, he⟩ := hnr
  have HC := Lib.hid hc
  have HE := Lib.hid he
  have HGZ : Hid (z + 4 ≤ g) := by rw [← HS4.out]; exact hgz
  have HB1 : Hid (Below w.heap.size w w1) := HB4.out.trans (hb1.mono HB4.out.size)
  have HG := Lib.hid hg
  obtain ⟨c0, c1, c2, c3⟩ := cell4 hg
  have f0 := fun k => frozen_of_row _ _ k _ _ hg
  clear hg hb1 e4 HL hc he hgz
  go_wp2
  rw [set4 HG.out]
  have hzw : w.heap.size ≤ z + 2 := by rw [HZ.out]; omega
  have hgz := HGZ.out
  have hb := below_setRow4 HB1.out hzw #[.int .i64 5, .string ⟨#[]⟩, .int .i64 n, .slice (some ⟨g, 0, none⟩) 2 2]
  refine bodyPost_ret (results_term Tryz.results175 _ _ (z + 2) _ _ _ _ _ _ rfl (setRow_heap _ _ _ _ _ _ HG.out)) rfl ⟨_, rfl, hb, ?_⟩
  refine ⟨g, xs, rfl, by omega, ?_, ?_⟩
  · rw [setRow_other _ _ _ _ (by omega)]; exact HC.out
  · exact els_keep (fun _ h => h) (fun c q hc => World.cell?_of_block (a := ⟨c, q, none⟩) (setRow_other _ _ _ _ (by show c ≠ _; have := hS c hc; omega))) _ xs HE.out
end Go.Proofs.YticofjbngfjjlaaGreatDoor.Te

/- The document's Size, Large; the law's digits. -/

namespace Go.Proofs.YticofjbngfjjlaaGreatDoor.Te
open Go.RowKit
open Tt

def RSizeSaid (x : Tm) : Prop := ∀ (S : Nat → Prop) (v : Value) (w : World), sz x ≤ 4000000 → Rep w S x v → (∀ b, S b → b < w.heap.size) →
  Calls Tryz.prog 57 #[v] w fun e w' => e = .returned (.int .i64 (sz x : Nat)) ∧ Below w.heap.size w w'

set_option maxHeartbeats 1000000 in
set_option maxRecDepth 100000 in
theorem refSize_any : ∀ x, RSizeSaid x := Tm.ind (by
  intro k s m q ih S v w hsz hr hS
  obtain ⟨A, ca, rfl, -, hrow⟩ := rep_mk.1 hr
  rw [sz] at hsz ⊢
  have hql := szs_len q
  obtain ⟨z, hz⟩ : ∃ z, z = w.heap.size := ⟨_, rfl⟩
  obtain ⟨n, hn⟩ : ∃ n, n = q.length := ⟨_, rfl⟩
  have hg0 := heap_alloc_new w (.cells #[.int .i64 k, .string ⟨⟨s⟩⟩, .int .i64 m, .slice A n ca] 25)
  have hb0 : Below w.heap.size w (w.alloc (.cells #[.int .i64 k, .string ⟨⟨s⟩⟩, .int .i64 m, .slice A n ca] 25)) := (Below.refl _ _).alloc (Nat.le_refl _) _
  rw [← hz] at hg0
  have HG0 := Lib.hid hg0
  have HB0 := Lib.hid hb0
  have HR := Lib.hid hrow
  have HS := Lib.hid hS
  have HI := Lib.hid ih
  have HZ := Lib.hid hz
  have HN := Lib.hid hn
  rw [← hn] at hql ⊢
  clear hr hrow hS ih hg0 hb0 hz hn
  go_enter Tryz.func57, Tryz.ntmps57
  go_wp2
  rw [← HZ.out]
  go_loopw [3, 4] (fun nv iv wr => ∃ i : Nat, i ≤ n ∧ iv = .int .i64 (i : Nat) ∧ nv = .int .i64 ((1 + szs (q.take i) : Nat) : Int) ∧ Hid (Below w.heap.size w wr) ∧ Hid (wr.heap[z]? = some (.cells #[.int .i64 k, .string ⟨⟨s⟩⟩, .int .i64 m, .slice A n ca] 25 (0, 0)))) (fun _ iv _ => n - (intOf iv).toNat)
  case atStart => exact ⟨0, by omega, rfl, by simp [szs], HB0, HG0⟩
  case round =>
    obtain ⟨i, hi, rfl, rfl, HB, HG⟩ := hrel
    obtain ⟨c0, c1, c2, c3⟩ := cell4 HG.out
    by_cases hlt : i < n
    · have hlt1 : i < q.length := by rw [← HN.out]; exact hlt
      have hil : (i : Int) < (n : Int) := by omega
      obtain ⟨b, o, k1, s1, m1, q1, B1, cb1, rfl, hSb, hx, d0, d1, d2, d3, hrep⟩ := trow_get HR.out HB.out HS.out hlt1
      have hts := szs_take_succ q i hlt1
      have htl := szs_take_le q (i + 1)
      have hmem : q[i] ∈ q := List.getElem_mem hlt1
      have hc := HI.out _ hmem
      rw [hx] at hts hc
      have hcall := hc S _ wr (by omega) hrep (fun b hb => Nat.lt_of_lt_of_le (HS.out b hb) HB.out.size)
      have HC := Lib.hid hcall
      obtain ⟨t, ht⟩ : ∃ t, t = sz (.mk k1 s1 m1 q1) := ⟨_, rfl⟩
      rw [← ht] at HC hts
      obtain ⟨u, hu⟩ : ∃ u, u = 1 + szs (q.take i) := ⟨_, rfl⟩
      rw [← hu]
      have HT : Hid (1 + szs (q.take (i + 1)) = u + t) := by show _ = _; omega
      have hsum : u + t ≤ 4000001 := by omega
      have hzl := (Array.getElem?_eq_some_iff.1 HG.out).1
      clear hcall hc hx hrep hmem hts htl hu ht
      go_wp2_with fail
      refine HC.out.mono ?_
      rintro _ w1 ⟨rfl, b1⟩
      have HB1 : Hid (Below w.heap.size w w1) := HB.out.trans (b1.mono HB.out.size)
      have HG1 := Lib.hid ((b1.block z hzl).trans HG.out)
      clear b1 HC HB HG c0 c1 c2 c3 d0 d1 d2 d3
      go_wp2
      go_roundw
      case rel => exact ⟨i + 1, by omega, by go_num, by rw [HT.out]; go_num, HB1, HG1⟩
      case measure => simp [intOf]; omega
    · have hie : q.take i = q := List.take_of_length_le (by rw [← HN.out]; omega)
      rw [hie]
      have hil : ¬ (i : Int) < (n : Int) := by omega
      go_wp2
      go_ret
      exact ⟨rfl, HB.out⟩)

set_option maxHeartbeats 400000 in
set_option maxRecDepth 100000 in
theorem Large_any (x : Tm) (most : Nat) (S : Nat → Prop) (v : Value) (w : World) (hsz : sz x ≤ 4000000) (hr : Rep w S x v) (hS : ∀ b, S b → b < w.heap.size) :
    Calls Tryz.prog 29 #[v, .int .i64 (most : Nat)] w fun e w' => e = .returned (.bool (decide (most < sz x))) ∧ Below w.heap.size w w' := by
  have hc := refSize_any x S v
  obtain ⟨t, ht⟩ : ∃ t, t = sz x := ⟨_, rfl⟩
  rw [← ht] at hc hsz ⊢
  clear ht
  obtain ⟨k, s, n, q⟩ := x
  have hr0 := hr
  obtain ⟨A, ca, rfl, -, -⟩ := rep_mk.1 hr
  have hb1 : Below w.heap.size w (w.alloc (.cells #[.int .i64 k, .string ⟨⟨s⟩⟩, .int .i64 n, .slice A q.length ca] 25)) := (Below.refl _ _).alloc (Nat.le_refl _) _
  have HC := Lib.hid (hc _ hsz (rep_below hr0 hb1 hS) (fun b hb => Nat.lt_of_lt_of_le (hS b hb) hb1.size))
  have HB1 := Lib.hid hb1
  clear hc hr hr0 hS hb1
  go_enter Tryz.func29, Tryz.ntmps29
  go_wp2_with fail
  refine HC.out.mono ?_
  rintro _ w1 ⟨rfl, b1⟩
  have HB2 : Hid (Below w.heap.size w w1) := HB1.out.trans (b1.mono HB1.out.size)
  clear b1 HC
  go_wp2
  go_ret
  refine ⟨?_, HB2.out⟩
  have : decide ((most : Int) < (t : Int)) = decide (most < t) := by simp
  simp
end Go.Proofs.YticofjbngfjjlaaGreatDoor.Te

/- The law's digits. -/

namespace Go.Proofs.YticofjbngfjjlaaGreatDoor.Te
open Go.RowKit
open Tt

def dgc (i : Nat) (c : UInt8) : Bool := (decide (48 ≤ c.toNat) && decide (c.toNat ≤ 57)) || (decide (i = 0) && decide (c.toNat = 45))
def pfx (s : List UInt8) (i : Nat) : Bool := (List.range i).all fun j => dgc j (s.getD j 0)
theorem pfx_succ (s : List UInt8) (i : Nat) (h : i < s.length) : pfx s (i + 1) = (pfx s i && dgc i s[i]) := by
  rw [pfx, List.range_succ, List.all_append]
  simp [pfx, h]
mutual
/-- Has it a name that reads as a number? -/
def dg : Tm → Bool
  | .mk k s _ l => (decide (k = 0) && decide (s ≠ []) && pfx s s.length) || dgl l
def dgl : List Tm → Bool
  | [] => false
  | x :: r => dg x || dgl r
end
theorem dgl_any : ∀ l, dgl l = l.any dg
  | [] => by simp [dgl]
  | x :: r => by simp [dgl, dgl_any r]
theorem byteAt2 (s : List UInt8) (k : Nat) (h : k < s.length) : (ByteArray.mk ⟨s⟩)[k]'h = s[k] := rfl
theorem ret_b2 {a b : Bool} (h : a = b) : Ending.returned (.bool a) = .returned (.bool b) := by rw [h]

/-- The first part: what follows from the loop over the terms within. -/
def Rest (q : List Tm) (R : Bool) : Prop := R = dgl q

end Go.Proofs.YticofjbngfjjlaaGreatDoor.Te

