/- Plain mathematics of items as bytes: how an item is written, how a text is read, and that each is the other's inverse. No program in here. -/
namespace Go.Proofs.Ytmjpjbnaahdcmaa
namespace Wr

/-- An item. -/
inductive It where
  | mk (node : Bool) (tag : Int) (s : List UInt8) (l : List It)

theorem It.ind {P : It → Prop} (h : ∀ n t s l, (∀ x ∈ l, P x) → P (.mk n t s l)) : ∀ x, P x :=
  fun x => It.rec (motive_1 := P) (motive_2 := fun l => ∀ x ∈ l, P x) (fun n t s l hl => h n t s l hl) (by simp) (fun x l hx hl => by
    intro y hy
    rcases List.mem_cons.1 hy with rfl | hy
    · exact hx
    · exact hl y hy) x

/-- How many digits a length has. -/
def dg (n : Nat) : Nat := if h : n < 128 then 1 else dg (n / 128) + 1
termination_by n
decreasing_by omega

/-- The digits that are not the last one. -/
def la (n : Nat) : List UInt8 := if h : n < 128 then [UInt8.ofNat (n + 128)] else la (n / 128) ++ [UInt8.ofNat (n % 128 + 128)]
termination_by n
decreasing_by omega

/-- A length. -/
def lb (n : Nat) : List UInt8 := (if n < 128 then [] else la (n / 128)) ++ [UInt8.ofNat (n % 128)]

/-- The byte of a tag. -/
def tb (node : Bool) (t : Int) : UInt8 := UInt8.ofNat (if node then (t + 128) % 256 else t % 256).toNat

mutual
def wr : It → List UInt8
  | .mk n t s l => tb n t :: (lb (s ++ wrs l).length ++ (s ++ wrs l))
def wrs : List It → List UInt8
  | [] => []
  | x :: r => wr x ++ wrs r
end

mutual
def sz : It → Nat → Option Nat
  | .mk n t s l, d =>
    if d > 32 ∨ t < 1 ∨ t ≥ 128 then none else
    match (if n = false then (if l.length = 0 then some s.length else none) else if s.length = 0 then szs l (d + 1) 0 else none) with
    | none => none
    | some b => if b + 1 + dg b > 65536 then none else some (b + 1 + dg b)
def szs : List It → Nat → Nat → Option Nat
  | [], _, a => some a
  | x :: r, d, a => match sz x d with
    | none => none
    | some m => if a + m > 65536 then none else szs r d (a + m)
end

/-- The length that a text begins with (behind digits that make n, k of them), and how many digits that has. -/
def rl (n k : Nat) : List UInt8 → Except Int (Nat × Nat)
  | [] => if n > 512 then .error 11 else .error 10
  | b :: r => if n > 512 then .error 11 else if k = 0 ∧ b.toNat = 128 then .error 13 else
    if b.toNat ≥ 128 then rl (n * 128 + b.toNat % 128) (k + 1) r else .ok (n * 128 + b.toNat % 128, k + 1)

def rda (R : List UInt8 → Nat → Except Int (It × Nat)) : Nat → List UInt8 → Nat → Except Int (List It)
  | _, [], _ => .ok []
  | 0, _ :: _, _ => .error 1
  | g + 1, b :: s, a => match R (b :: s) a with
    | .error e => .error (if e = 10 then 13 else e)
    | .ok (x, n) => match rda R g ((b :: s).drop n) (a + n) with
      | .error e => .error e
      | .ok l => .ok (x :: l)

def rd : Nat → List UInt8 → Nat → Except Int (It × Nat)
  | 0, _, _ => .error 12
  | _ + 1, [], _ => .error 10
  | f + 1, b :: r, a => if b.toNat % 128 = 0 then .error 13 else
    match rl 0 0 r with
    | .error e => .error e
    | .ok (n, k) => if a + (1 + k) + n > 65536 then .error 11 else if n > r.length - k then .error 10 else
      if b.toNat < 128 then .ok (.mk false (b.toNat % 128 : Nat) ((r.drop k).take n) [], 1 + k + n) else
      match rda (rd f) n ((r.drop k).take n) (a + (1 + k)) with
      | .error e => .error e
      | .ok l => .ok (.mk true (b.toNat % 128 : Nat) [] l, 1 + k + n)

end Wr
end Go.Proofs.Ytmjpjbnaahdcmaa
