/- The plain mathematics of SHA-256 over numbers: words below 2^32, lists of words, no program. -/
namespace Sh

/-- A word turned right by n bits. -/
def rot (x n : Nat) : Nat := x / 2 ^ n + x % 2 ^ n * 2 ^ (32 - n)
def s0 (x : Nat) : Nat := rot x 7 ^^^ rot x 18 ^^^ x / 8
def s1 (x : Nat) : Nat := rot x 17 ^^^ rot x 19 ^^^ x / 1024
def S0 (x : Nat) : Nat := rot x 2 ^^^ rot x 13 ^^^ rot x 22
def S1 (x : Nat) : Nat := rot x 6 ^^^ rot x 11 ^^^ rot x 25
def ch (e f g : Nat) : Nat := (e &&& f) ^^^ ((4294967295 - e) &&& g)
def ma (a b c : Nat) : Nat := (a &&& b) ^^^ (a &&& c) ^^^ (b &&& c)

/-- The number that some bytes are, the greatest first. -/
def num (s : List UInt8) : Nat := s.foldl (fun a b => a * 256 + b.toNat) 0
def word (s : List UInt8) : Nat := num (s.take 4)

/-- The next word of a block's words. -/
def nxt (l : List Nat) (t : Nat) : Nat := (s1 (l.getD (t - 2) 0) + l.getD (t - 7) 0 + s0 (l.getD (t - 15) 0) + l.getD (t - 16) 0) % 4294967296
/-- The first t words of a block. -/
def sp (b : List UInt8) : Nat → List Nat
  | 0 => []
  | t + 1 => sp b t ++ [if t < 16 then word (b.drop (4 * t)) else nxt (sp b t) t]

structure St where
  (a b c d e f g h : Nat)

def St.list (v : St) : List Nat := [v.a, v.b, v.c, v.d, v.e, v.f, v.g, v.h]

def KK : List Nat := [1116352408, 1899447441, 3049323471, 3921009573, 961987163, 1508970993, 2453635748, 2870763221, 3624381080, 310598401, 607225278, 1426881987, 1925078388, 2162078206, 2614888103, 3248222580, 3835390401, 4022224774, 264347078, 604807628, 770255983, 1249150122, 1555081692, 1996064986, 2554220882, 2821834349, 2952996808, 3210313671, 3336571891, 3584528711, 113926993, 338241895, 666307205, 773529912, 1294757372, 1396182291, 1695183700, 1986661051, 2177026350, 2456956037, 2730485921, 2820302411, 3259730800, 3345764771, 3516065817, 3600352804, 4094571909, 275423344, 430227734, 506948616, 659060556, 883997877, 958139571, 1322822218, 1537002063, 1747873779, 1955562222, 2024104815, 2227730452, 2361852424, 2428436474, 2756734187, 3204031479, 3329325298]
def SQ : List Nat := [1779033703, 3144134277, 1013904242, 2773480762, 1359893119, 2600822924, 528734635, 1541459225]

def start : St := ⟨1779033703, 3144134277, 1013904242, 2773480762, 1359893119, 2600822924, 528734635, 1541459225⟩

def tt (v : St) (k w : Nat) : Nat := (v.h + S1 v.e + ch v.e v.f v.g + k + w) % 4294967296
def uu (v : St) : Nat := (S0 v.a + ma v.a v.b v.c) % 4294967296
def rnd (k w : Nat) (v : St) : St := ⟨(tt v k w + uu v) % 4294967296, v.a, v.b, v.c, (v.d + tt v k w) % 4294967296, v.e, v.f, v.g⟩
/-- The state behind t rounds. -/
def rn (ws : List Nat) (v : St) : Nat → St
  | 0 => v
  | t + 1 => rnd (KK.getD t 0) (ws.getD t 0) (rn ws v t)
def plus (v u : St) : St := ⟨(v.a + u.a) % 4294967296, (v.b + u.b) % 4294967296, (v.c + u.c) % 4294967296, (v.d + u.d) % 4294967296, (v.e + u.e) % 4294967296, (v.f + u.f) % 4294967296, (v.g + u.g) % 4294967296, (v.h + u.h) % 4294967296⟩
/-- The state behind one block. -/
def beh (v : St) (b : List UInt8) : St := plus v (rn (sp b 64) v 64)
/-- The state behind k blocks of a text. -/
def thr (v : St) (s : List UInt8) : Nat → St
  | 0 => v
  | k + 1 => beh (thr v s k) ((s.drop (k * 64)).take 64)

def byt (x : Nat) : UInt8 := UInt8.ofNat x
def wb (x : Nat) : List UInt8 := [byt (x / 16777216), byt (x / 65536), byt (x / 256), byt x]
/-- A state as bytes. -/
def txt (v : St) : List UInt8 := v.list.flatMap wb
def rds (s : List UInt8) : St := ⟨word s, word (s.drop 4), word (s.drop 8), word (s.drop 12), word (s.drop 16), word (s.drop 20), word (s.drop 24), word (s.drop 28)⟩

def noughts (n : Nat) : Nat := (64 - (n % 64 + 9) % 64) % 64
def cnt (n : Nat) : List UInt8 := (List.range 8).map fun i => byt (8 * n % 18446744073709551616 / 2 ^ (8 * (7 - i)))
/-- What is laid behind n bytes. -/
def pad (n : Nat) : List UInt8 := 128 :: (List.replicate (noughts n) 0 ++ cnt n)

def blocks (v : St) (s : List UInt8) : St := thr v s (s.length / 64)
def sum (s : List UInt8) : List UInt8 := txt (blocks start (s ++ pad s.length))
def block (st b : List UInt8) : List UInt8 := if st.length = 32 ∧ b.length = 64 then txt (beh (rds st) b) else []

set_option maxRecDepth 100000 in
theorem sum_abc : sum [97, 98, 99] = [186, 120, 22, 191, 143, 1, 207, 234, 65, 65, 64, 222, 93, 174, 34, 35, 176, 3, 97, 163, 150, 23, 122, 156, 180, 16, 255, 97, 242, 0, 21, 173] := by decide +kernel
end Sh
