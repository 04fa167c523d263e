/- The plain mathematics of HMAC with SHA-256, over lists of bytes: no program. -/
import Derived.Test.YtdjehpbkkbahcaaDoorShaPureD
namespace Hm

/-- Each byte with another one. -/
def xr (x : UInt8) (s : List UInt8) : List UInt8 := s.map (· ^^^ x)
/-- A key that is no longer than a block. -/
def cut (k : List UInt8) : List UInt8 := if 64 < k.length then Sh.sum k else k
/-- A key as a block. -/
def key (k : List UInt8) : List UInt8 := cut k ++ List.replicate (64 - (cut k).length) 0
def mac (k s : List UInt8) : List UInt8 := Sh.sum (xr 92 (key k) ++ Sh.sum (xr 54 (key k) ++ s))

theorem sum_length (s : List UInt8) : (Sh.sum s).length = 32 := Sh.txt_length _
theorem cut_le (k : List UInt8) : (cut k).length ≤ 64 := by
  unfold cut
  split
  · rw [sum_length]; omega
  · omega
theorem key_length (k : List UInt8) : (key k).length = 64 := by
  have := cut_le k
  rw [key, List.length_append, List.length_replicate]
  omega
theorem cut_short {k : List UInt8} (h : k.length ≤ 64) : cut k = k := by rw [cut, if_neg (by omega)]
theorem cut_long {k : List UInt8} (h : 64 < k.length) : cut k = Sh.sum k := by rw [cut, if_pos h]
theorem key_key (k : List UInt8) : key (key k) = key k := by
  have h := key_length k
  conv => lhs; rw [key, cut_short (by omega), h]
  simp
theorem mac_key (k s : List UInt8) : mac (key k) s = mac k s := by rw [mac, mac, key_key]
theorem key_more (k : List UInt8) (n : Nat) (h : k.length + n ≤ 64) : key (k ++ List.replicate n 0) = key k := by
  rw [key, key, cut_short (by rw [List.length_append, List.length_replicate]; omega), cut_short (by omega), List.length_append, List.length_replicate, List.append_assoc, List.replicate_append_replicate]
  congr 2
  omega
theorem mac_more (k s : List UInt8) (n : Nat) (h : k.length + n ≤ 64) : mac (k ++ List.replicate n 0) s = mac k s := by rw [mac, mac, key_more k n h]
theorem key_take (k : List UInt8) (h : k.length ≤ 64) : (key k).take k.length = k := by
  rw [key, cut_short h, List.take_append_of_le_length (Nat.le_refl _), List.take_of_length_le (Nat.le_refl _)]
theorem xr_length (x : UInt8) (s : List UInt8) : (xr x s).length = s.length := by simp [xr]
theorem mac_length (k s : List UInt8) : (mac k s).length = 32 := sum_length _

set_option maxRecDepth 100000 in
theorem mac_jefe : mac [74, 101, 102, 101] [119, 104, 97, 116, 32, 100, 111, 32, 121, 97, 32, 119, 97, 110, 116, 32, 102, 111, 114, 32, 110, 111, 116, 104, 105, 110, 103, 63] = [91, 220, 193, 70, 191, 96, 117, 78, 106, 4, 36, 38, 8, 149, 117, 199, 90, 0, 63, 8, 157, 39, 57, 131, 157, 236, 88, 185, 100, 236, 56, 67] := by decide +kernel
end Hm
