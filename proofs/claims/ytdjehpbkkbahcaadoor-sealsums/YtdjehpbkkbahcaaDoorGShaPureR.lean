/- The plain mathematics of the document's constants: rows of digits, roots, primes. -/
import Derived.Test.YtdjehpbkkbahcaaDoorGPur
namespace Sh

def dg (n : Nat) : List Nat := [n % 65536, n / 65536 % 65536, n / 65536 / 65536]
/-- One row of a product: behind k digits of b. -/
def tin (b : List Nat) (i x : Nat) (out : List Nat) : Nat → List Nat × Nat
  | 0 => (out, 0)
  | k + 1 =>
    ((tin b i x out k).1.set (i + k) (((tin b i x out k).1.getD (i + k) 0 + x * b.getD k 0 + (tin b i x out k).2) % 65536),
      ((tin b i x out k).1.getD (i + k) 0 + x * b.getD k 0 + (tin b i x out k).2) / 65536)
/-- A product, behind i digits of a. -/
def tou (a b : List Nat) : Nat → List Nat
  | 0 => List.replicate (a.length + b.length) 0
  | i + 1 => (tin b i (a.getD i 0) (tou a b i) b.length).1.set (i + b.length) (tin b i (a.getD i 0) (tou a b i) b.length).2
def tm (a b : List Nat) : List Nat := tou a b a.length
/-- Is the row more, by its first m digits? -/
def abv (a b : List Nat) : Nat → Bool
  | 0 => false
  | m + 1 => if a.getD m 0 = b.getD m 0 then abv a b m else decide (b.getD m 0 < a.getD m 0)
def above (a b : List Nat) : Bool := abv a b (max a.length b.length)
def want (p : Nat) (cube : Bool) : List Nat := if cube then [0, 0, 0, 0, 0, 0, p] else [0, 0, 0, 0, p]
def pw (d : List Nat) (cube : Bool) : List Nat := if cube then tm (tm d d) d else tm d d
/-- j bits are left. -/
def rg (p : Nat) (cube : Bool) : Nat → Nat → Nat
  | 0, n => n
  | j + 1, n => rg p cube j (if above (pw (dg (n + 2 ^ j)) cube) (want p cube) then n else n + 2 ^ j)
def root (p : Nat) (cube : Bool) : Nat := rg p cube 38 0 % 4294967296

/-- The first 64 primes. -/
def PR : List Nat := [2, 3, 5, 7, 11, 13, 17, 19, 23, 29, 31, 37, 41, 43, 47, 53, 59, 61, 67, 71, 73, 79, 83, 89, 97, 101, 103, 107, 109, 113, 127, 131, 137, 139, 149, 151, 157, 163, 167, 173, 179, 181, 191, 193, 197, 199, 211, 223, 227, 229, 233, 239, 241, 251, 257, 263, 269, 271, 277, 281, 283, 293, 307, 311]

set_option maxRecDepth 1000000
theorem c0 : root 2 true = 1116352408 := by decide +kernel
theorem c1 : root 3 true = 1899447441 := by decide +kernel
theorem c2 : root 5 true = 3049323471 := by decide +kernel
theorem c3 : root 7 true = 3921009573 := by decide +kernel
theorem c4 : root 11 true = 961987163 := by decide +kernel
theorem c5 : root 13 true = 1508970993 := by decide +kernel
theorem c6 : root 17 true = 2453635748 := by decide +kernel
theorem c7 : root 19 true = 2870763221 := by decide +kernel
theorem c8 : root 23 true = 3624381080 := by decide +kernel
theorem c9 : root 29 true = 310598401 := by decide +kernel
theorem c10 : root 31 true = 607225278 := by decide +kernel
theorem c11 : root 37 true = 1426881987 := by decide +kernel
theorem c12 : root 41 true = 1925078388 := by decide +kernel
theorem c13 : root 43 true = 2162078206 := by decide +kernel
theorem c14 : root 47 true = 2614888103 := by decide +kernel
theorem c15 : root 53 true = 3248222580 := by decide +kernel
theorem c16 : root 59 true = 3835390401 := by decide +kernel
theorem c17 : root 61 true = 4022224774 := by decide +kernel
theorem c18 : root 67 true = 264347078 := by decide +kernel
theorem c19 : root 71 true = 604807628 := by decide +kernel
theorem c20 : root 73 true = 770255983 := by decide +kernel
theorem c21 : root 79 true = 1249150122 := by decide +kernel
theorem c22 : root 83 true = 1555081692 := by decide +kernel
theorem c23 : root 89 true = 1996064986 := by decide +kernel
theorem c24 : root 97 true = 2554220882 := by decide +kernel
theorem c25 : root 101 true = 2821834349 := by decide +kernel
theorem c26 : root 103 true = 2952996808 := by decide +kernel
theorem c27 : root 107 true = 3210313671 := by decide +kernel
theorem c28 : root 109 true = 3336571891 := by decide +kernel
theorem c29 : root 113 true = 3584528711 := by decide +kernel
theorem c30 : root 127 true = 113926993 := by decide +kernel
theorem c31 : root 131 true = 338241895 := by decide +kernel
theorem c32 : root 137 true = 666307205 := by decide +kernel
theorem c33 : root 139 true = 773529912 := by decide +kernel
theorem c34 : root 149 true = 1294757372 := by decide +kernel
theorem c35 : root 151 true = 1396182291 := by decide +kernel
theorem c36 : root 157 true = 1695183700 := by decide +kernel
theorem c37 : root 163 true = 1986661051 := by decide +kernel
theorem c38 : root 167 true = 2177026350 := by decide +kernel
theorem c39 : root 173 true = 2456956037 := by decide +kernel
theorem c40 : root 179 true = 2730485921 := by decide +kernel
theorem c41 : root 181 true = 2820302411 := by decide +kernel
theorem c42 : root 191 true = 3259730800 := by decide +kernel
theorem c43 : root 193 true = 3345764771 := by decide +kernel
theorem c44 : root 197 true = 3516065817 := by decide +kernel
theorem c45 : root 199 true = 3600352804 := by decide +kernel
theorem c46 : root 211 true = 4094571909 := by decide +kernel
theorem c47 : root 223 true = 275423344 := by decide +kernel
theorem c48 : root 227 true = 430227734 := by decide +kernel
theorem c49 : root 229 true = 506948616 := by decide +kernel
theorem c50 : root 233 true = 659060556 := by decide +kernel
theorem c51 : root 239 true = 883997877 := by decide +kernel
theorem c52 : root 241 true = 958139571 := by decide +kernel
theorem c53 : root 251 true = 1322822218 := by decide +kernel
theorem c54 : root 257 true = 1537002063 := by decide +kernel
theorem c55 : root 263 true = 1747873779 := by decide +kernel
theorem c56 : root 269 true = 1955562222 := by decide +kernel
theorem c57 : root 271 true = 2024104815 := by decide +kernel
theorem c58 : root 277 true = 2227730452 := by decide +kernel
theorem c59 : root 281 true = 2361852424 := by decide +kernel
theorem c60 : root 283 true = 2428436474 := by decide +kernel
theorem c61 : root 293 true = 2756734187 := by decide +kernel
theorem c62 : root 307 true = 3204031479 := by decide +kernel
theorem c63 : root 311 true = 3329325298 := by decide +kernel
theorem q0 : root 2 false = 1779033703 := by decide +kernel
theorem q1 : root 3 false = 3144134277 := by decide +kernel
theorem q2 : root 5 false = 1013904242 := by decide +kernel
theorem q3 : root 7 false = 2773480762 := by decide +kernel
theorem q4 : root 11 false = 1359893119 := by decide +kernel
theorem q5 : root 13 false = 2600822924 := by decide +kernel
theorem q6 : root 17 false = 528734635 := by decide +kernel
theorem q7 : root 19 false = 1541459225 := by decide +kernel
theorem cubes : PR.map (fun p => root p true) = KK := by
  simp only [PR, List.map_cons, List.map_nil, c0, c1, c2, c3, c4, c5, c6, c7, c8, c9, c10, c11, c12, c13, c14, c15, c16, c17, c18, c19, c20, c21, c22, c23, c24, c25, c26, c27, c28, c29, c30, c31, c32, c33, c34, c35, c36, c37, c38, c39, c40, c41, c42, c43, c44, c45, c46, c47, c48, c49, c50, c51, c52, c53, c54, c55, c56, c57, c58, c59, c60, c61, c62, c63]
  rfl
theorem squares : (PR.take 8).map (fun p => root p false) = SQ := by
  simp only [PR, List.take_succ_cons, List.take_zero, List.map_cons, List.map_nil, q0, q1, q2, q3, q4, q5, q6, q7]
  rfl
end Sh

