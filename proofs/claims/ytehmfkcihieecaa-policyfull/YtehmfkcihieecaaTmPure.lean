/- Plain mathematics of terms: sizes, texts, parts, order, what is valid. No program in here. -/
import Derived.Lib.ItoaNum
namespace Go.Proofs.Ytehmfkcihieecaa.Te
namespace Tt
open Go

/-- A term. -/
inductive Tm where
  | mk (k : Int) (s : List UInt8) (n : Int) (l : List Tm)
instance : Inhabited Tm := ⟨.mk 0 [] 0 []⟩

theorem Tm.ind {P : Tm → Prop} (h : ∀ k s n l, (∀ x ∈ l, P x) → P (.mk k s n l)) : ∀ x, P x :=
  fun x => Tm.rec (motive_1 := P) (motive_2 := fun l => ∀ x ∈ l, P x) (fun k s n l hl => h k s n l hl) (by simp) (fun x l hx hl => by
    intro y hy
    rcases List.mem_cons.1 hy with rfl | hy
    · exact hx
    · exact hl y hy) x

def Tm.k : Tm → Int | .mk k _ _ _ => k
def Tm.s : Tm → List UInt8 | .mk _ s _ _ => s
def Tm.n : Tm → Int | .mk _ _ n _ => n
def Tm.l : Tm → List Tm | .mk _ _ _ l => l

mutual
def sz : Tm → Nat
  | .mk _ _ _ l => 1 + szs l
def szs : List Tm → Nat
  | [] => 0
  | x :: r => sz x + szs r
end
mutual
def bk : Tm → Nat
  | .mk _ s _ l => 1 + s.length + bks l
def bks : List Tm → Nat
  | [] => 0
  | x :: r => bk x + bks r
end
theorem sz_pos (x : Tm) : 1 ≤ sz x := by cases x; rw [sz]; omega
theorem bk_pos (x : Tm) : 1 ≤ bk x := by cases x; rw [bk]; omega
theorem szs_mem : ∀ (l : List Tm) (x : Tm), x ∈ l → sz x ≤ szs l
  | y :: r, x, h => by
    rw [szs]
    rcases List.mem_cons.1 h with rfl | h
    · omega
    · have := szs_mem r x h; omega
theorem bks_mem : ∀ (l : List Tm) (x : Tm), x ∈ l → bk x ≤ bks l
  | y :: r, x, h => by
    rw [bks]
    rcases List.mem_cons.1 h with rfl | h
    · omega
    · have := bks_mem r x h; omega
theorem szs_len : ∀ (l : List Tm), l.length ≤ szs l
  | [] => by rw [szs]; simp
  | x :: r => by have := szs_len r; have := sz_pos x; rw [szs]; simp; omega
theorem bks_len : ∀ (l : List Tm), l.length ≤ bks l
  | [] => by rw [bks]; simp
  | x :: r => by have := bks_len r; have := bk_pos x; rw [bks]; simp; omega
theorem szs_app : ∀ (l m : List Tm), szs (l ++ m) = szs l + szs m
  | [], m => by simp [szs]
  | x :: r, m => by simp only [List.cons_append, szs, szs_app r m]; omega
theorem bks_app : ∀ (l m : List Tm), bks (l ++ m) = bks l + bks m
  | [], m => by simp [bks]
  | x :: r, m => by simp only [List.cons_append, bks, bks_app r m]; omega
theorem sz_le_bk : ∀ x, sz x ≤ bk x := Tm.ind (by
  intro k s n l ih
  rw [sz, bk]
  have : szs l ≤ bks l := by
    clear k s n
    induction l with
    | nil => simp [szs, bks]
    | cons x r ihr =>
      rw [szs, bks]
      have := ih x (by simp)
      have := ihr (fun y hy => ih y (by simp [hy]))
      omega
  omega)

theorem szs_take_succ (l : List Tm) (i : Nat) (h : i < l.length) : szs (l.take (i + 1)) = szs (l.take i) + sz l[i] := by
  rw [List.take_succ_eq_append_getElem h, szs_app]
  simp [szs]
theorem szs_take_le (l : List Tm) (i : Nat) : szs (l.take i) ≤ szs l := by
  have := szs_app (l.take i) (l.drop i)
  rw [List.take_append_drop] at this
  omega

/-! ### Texts -/
def jn : List (List UInt8) → List UInt8
  | [] => []
  | [a] => a
  | a :: b :: r => a ++ 32 :: jn (b :: r)
def ky (h : List UInt8) (n : Int) : List (List UInt8) → List UInt8
  | [a, b] => h ++ a ++ 32 :: (Lib.itoa n ++ 32 :: (b ++ [41]))
  | _ => [63]
def tx (k : Int) (s : List UInt8) (n : Int) (ts : List (List UInt8)) : List UInt8 :=
  if k = 0 then s else if k = 1 then Lib.itoa n else if k = 2 then [107, 101, 121, 40] ++ s ++ 32 :: (Lib.itoa n ++ [41]) else
  if k = 3 then 91 :: (jn ts ++ [93]) else if k = 4 then ky [115, 101, 97, 108, 40] n ts else if k = 5 then ky [115, 117, 109, 40] n ts else [63]
mutual
def text : Tm → List UInt8
  | .mk k s n l => tx k s n (texts l)
def texts : List Tm → List (List UInt8)
  | [] => []
  | x :: r => text x :: texts r
end
theorem texts_map : ∀ l, texts l = l.map text
  | [] => by simp [texts]
  | x :: r => by simp [texts, texts_map r]
theorem texts_len (l : List Tm) : (texts l).length = l.length := by rw [texts_map]; simp

/-- What stands in a list ahead of the i-th text. -/
def pj (ts : List (List UInt8)) : List UInt8 := ts.flatMap fun a => 32 :: a
theorem jn_pj : ∀ (a : List UInt8) (r : List (List UInt8)), jn (a :: r) = a ++ pj r
  | a, [] => by simp [jn, pj]
  | a, b :: r => by rw [jn, jn_pj b r]; simp [pj]
theorem jn_snoc : ∀ (l : List (List UInt8)) (a : List UInt8), l ≠ [] → jn (l ++ [a]) = jn l ++ 32 :: a
  | [], _, h => absurd rfl h
  | x :: r, a, _ => by
    rw [List.cons_append, jn_pj, jn_pj]
    simp [pj]

/-! ### Names, shapes, parts -/
def nmB (c : UInt8) : Bool := (decide (97 ≤ c.toNat) && decide (c.toNat ≤ 122)) || (decide (48 ≤ c.toNat) && decide (c.toNat ≤ 57)) || c.toNat == 45 || c.toNat == 46 || c.toNat == 47
def isName (s : List UInt8) : Bool := decide (1 ≤ s.length) && decide (s.length ≤ 40) && s.all nmB
def fk : List Tm → Int
  | [] => 0
  | x :: _ => x.k
/-- What is wrong with a term's own fields. -/
def mis : Tm → Bool
  | .mk k s n l =>
    if k = 0 then !isName s || decide (n ≠ 0) || decide (0 < l.length) else
    if k = 1 then decide (s ≠ []) || decide (0 < l.length) else
    if k = 2 then (decide (s ≠ []) && !isName s) || decide (n < 1) || decide (0 < l.length) else
    if k = 3 then decide (s ≠ []) || decide (n ≠ 0) || decide (64 < l.length) else
    if k = 4 ∨ k = 5 then decide (s ≠ []) || decide (n < 1) || decide (255 < n) || decide (l.length ≠ 2) || decide (fk l ≠ 2) else true
def odd (p : Nat × Tm) : Bool := decide (16 < p.1) || mis p.2

mutual
/-- A term and all in it, each with the number of others that it stands in. -/
def parts (d : Nat) : Tm → List (Nat × Tm)
  | .mk k s n l => (d, .mk k s n l) :: partss (d + 1) l
def partss (d : Nat) : List Tm → List (Nat × Tm)
  | [] => []
  | x :: r => parts d x ++ partss d r
end
theorem partss_app (d : Nat) : ∀ l m, partss d (l ++ m) = partss d l ++ partss d m
  | [], m => by simp [partss]
  | x :: r, m => by simp [partss, partss_app d r m]
theorem partss_take_succ (d : Nat) (l : List Tm) (i : Nat) (h : i < l.length) : partss d (l.take (i + 1)) = partss d (l.take i) ++ parts d l[i] := by
  rw [List.take_succ_eq_append_getElem h, partss_app]
  simp [partss]
mutual
theorem parts_len (d : Nat) : ∀ x, (parts d x).length = sz x
  | .mk k s n l => by rw [parts, sz, List.length_cons, partss_len (d + 1) l]; omega
theorem partss_len (d : Nat) : ∀ l, (partss d l).length = szs l
  | [] => by simp [partss, szs]
  | x :: r => by rw [partss, szs, List.length_append, parts_len d x, partss_len d r]
end
/-- May it be, so deep? -/
def vld (d : Nat) (x : Tm) : Bool := !(parts d x).any odd
theorem vld_mk (d : Nat) (k : Int) (s : List UInt8) (n : Int) (l : List Tm) : vld d (.mk k s n l) = (decide (d ≤ 16) && !mis (.mk k s n l) && l.all (vld (d + 1))) := by
  have h : ∀ l : List Tm, (!(partss (d + 1) l).any odd) = l.all (vld (d + 1)) := by
    intro l
    induction l with
    | nil => simp [partss]
    | cons x r ih => rw [partss, List.any_append, Bool.not_or, ih]; simp [vld]
  have h2 : (!decide (16 < d)) = decide (d ≤ 16) := by
    by_cases h : d ≤ 16
    · simp [h]
    · simp [h]; omega
  rw [vld, parts, List.any_cons, Bool.not_or, h l, odd, Bool.not_or, h2]

/-! ### Order -/
def ci (a b : Int) : Int := if a < b then -1 else if a = b then 0 else 1
def hd (k : Int) (s : List UInt8) (n : Int) (k' : Int) (s' : List UInt8) (n' : Int) (c : List UInt8 → List UInt8 → Int) : Int :=
  if ci k k' ≠ 0 then ci k k' else if c s s' ≠ 0 then c s s' else ci n n'
def cs : List UInt8 → List UInt8 → Int
  | [], [] => 0
  | [], _ :: _ => -1
  | _ :: _, [] => 1
  | x :: r, y :: q => if x.toNat < y.toNat then -1 else if x = y then cs r q else 1
mutual
def ord : Tm → Tm → Int
  | .mk k s n l, .mk k' s' n' l' => if hd k s n k' s' n' cs ≠ 0 then hd k s n k' s' n' cs else ords l l'
def ords : List Tm → List Tm → Int
  | [], [] => 0
  | [], _ :: _ => -1
  | _ :: _, [] => 1
  | x :: r, y :: q => if ord x y ≠ 0 then ord x y else ords r q
end

/-! ### Names of a list -/
def names : Tm → Option (List (List UInt8))
  | .mk k _ _ l => if k = 3 ∧ l.all (fun p => decide (p.k = 0)) then some (l.map Tm.s) else none
end Tt
end Go.Proofs.Ytehmfkcihieecaa.Te
