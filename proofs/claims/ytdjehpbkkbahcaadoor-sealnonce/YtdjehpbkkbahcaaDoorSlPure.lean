/- The plain mathematics of what is ciphered, and then summed: no program. -/
import Derived.Test.YtdjehpbkkbahcaaDoorCtPure
import Derived.Test.YtdjehpbkkbahcaaDoorDePure
namespace Sl

/-- The key that ciphers, and the one that sums. -/
def ck (b : List UInt8) (n : Int) : List UInt8 := (De.key b n [99, 105, 112, 104, 101, 114]).take 16
def sk (b : List UInt8) (n : Int) : List UInt8 := De.key b n [115, 117, 109]
def cip (b : List UInt8) (n : Int) (o x : List UInt8) : List UInt8 := Ct.cipA (ck b n) o x
def mc (b : List UInt8) (n : Int) (s : List UInt8) : List UInt8 := Hm.mac (sk b n) s
/-- What is summed, and what is sealed. -/
def hd (b : List UInt8) (n : Int) (o x : List UInt8) : List UInt8 := o ++ cip b n o x
def sld (b : List UInt8) (n : Int) (o x : List UInt8) : List UInt8 := hd b n o x ++ mc b n (hd b n o x)
/-- The sum of a body. -/
def chk (b : List UInt8) (n : Int) (x : List UInt8) : List UInt8 := Hm.mac (De.key b n [99, 104, 101, 99, 107]) x
/-- What is opened, and the error's number. -/
def opn (b : List UInt8) (n : Int) (s : List UInt8) : List UInt8 × Nat :=
  if s.length < 44 then ([], 10) else if mc b n (s.take (s.length - 32)) = s.drop (s.length - 32) then (cip b n (s.take 12) ((s.drop 12).take (s.length - 32 - 12)), 0) else ([], 20)

theorem ck_length (b : List UInt8) (n : Int) : (ck b n).length = 16 := by rw [ck, List.length_take, De.key_length]; rfl
theorem sk_length (b : List UInt8) (n : Int) : (sk b n).length = 32 := De.key_length _ _ _
theorem mc_length (b : List UInt8) (n : Int) (s : List UInt8) : (mc b n s).length = 32 := Hm.mac_length _ _
theorem chk_length (b : List UInt8) (n : Int) (s : List UInt8) : (chk b n s).length = 32 := Hm.mac_length _ _
theorem cip_length (b : List UInt8) (n : Int) {o x : List UInt8} (ho : o.length = 12) (hx : x.length ≤ 1048576) : (cip b n o x).length = x.length := Ct.cipA_full (ck_length b n) ho hx
theorem cip_le (b : List UInt8) (n : Int) (o x : List UInt8) : (cip b n o x).length ≤ x.length := by
  rw [cip, Ct.cipA, Ct.xr, List.length_zipWith]
  omega
theorem cip_twice (b : List UInt8) (n : Int) {o x : List UInt8} (ho : o.length = 12) (hx : x.length ≤ 1048576) : cip b n o (cip b n o x) = x := Ct.cipA_twice (ck_length b n) ho hx
theorem hd_length (b : List UInt8) (n : Int) {o x : List UInt8} (ho : o.length = 12) (hx : x.length ≤ 1048576) : (hd b n o x).length = x.length + 12 := by
  rw [hd, List.length_append, cip_length b n ho hx, ho]
  omega
theorem sld_length (b : List UInt8) (n : Int) {o x : List UInt8} (ho : o.length = 12) (hx : x.length ≤ 1048576) : (sld b n o x).length = x.length + 44 := by
  rw [sld, List.length_append, hd_length b n ho hx, mc_length]

/-- What is opened of a head with any 32 bytes behind it. -/
theorem opn_head (b : List UInt8) (n : Int) {o x t : List UInt8} (ho : o.length = 12) (hx : x.length ≤ 1048576) (ht : t.length = 32) :
    opn b n (hd b n o x ++ t) = if mc b n (hd b n o x) = t then (x, 0) else ([], 20) := by
  have hl := hd_length b n ho hx
  have hn : (hd b n o x ++ t).length - 32 = (hd b n o x).length := by rw [List.length_append, ht]; omega
  have h0 : ¬ (hd b n o x ++ t).length < 44 := by rw [List.length_append, ht, hl]; omega
  rw [opn, if_neg h0, hn, List.take_left, List.drop_left]
  by_cases h : mc b n (hd b n o x) = t
  · rw [if_pos h, if_pos h]
    have h1 : (hd b n o x ++ t).take 12 = o := by
      rw [List.take_append_of_le_length (by omega), hd, List.take_append_of_le_length (by omega), List.take_of_length_le (by omega)]
    have h2 : ((hd b n o x ++ t).drop 12).take ((hd b n o x).length - 12) = cip b n o x := by
      rw [← List.drop_take, List.take_left, hd, List.drop_append_of_le_length (by omega), List.drop_of_length_le (by omega)]
      rfl
    rw [h1, h2, cip_twice b n ho hx]
  · rw [if_neg h, if_neg h]
theorem opn_back (b : List UInt8) (n : Int) {o x : List UInt8} (ho : o.length = 12) (hx : x.length ≤ 1048576) : opn b n (sld b n o x) = (x, 0) := by
  rw [sld, opn_head b n ho hx (mc_length _ _ _), if_pos rfl]
theorem sld_nonce (b : List UInt8) (n : Int) {o x : List UInt8} (ho : o.length = 12) : (sld b n o x).take 12 = o := by
  rw [sld, hd, List.append_assoc, List.take_append_of_le_length (by omega), List.take_of_length_le (by omega)]
theorem sld_iff (b : List UInt8) (n : Int) {o p x : List UInt8} (ho : o.length = 12) (hp : p.length = 12) : sld b n o x = sld b n p x ↔ o = p := by
  constructor
  · intro h
    rw [← sld_nonce b n (x := x) ho, h, sld_nonce b n hp]
  · rintro rfl
    rfl
theorem str_at (k o : List UInt8) {i m l : Nat} (hm : i < m) (hl : i < l) : (Ct.str k o m).getD i 0 = (Ct.str k o l).getD i 0 := by
  have aux : ∀ {a c : Nat}, i < a → a ≤ c → (Ct.str k o a).getD i 0 = (Ct.str k o c).getD i 0 := by
    intro a c ha hc
    rw [← Ct.str_begins k o hc, List.getD_eq_getElem?_getD, List.getD_eq_getElem?_getD, List.getElem?_take, if_pos ha]
  rcases Nat.le_total m l with h | h
  · exact aux hm h
  · exact (aux hl h).symm
theorem sld_at (b : List UInt8) (n : Int) {o x : List UInt8} {i : Nat} (ho : o.length = 12) (hx : x.length ≤ 1048576) (hi : i < x.length) :
    (sld b n o x).getD (12 + i) 0 = x.getD i 0 ^^^ (Ct.str (ck b n) o x.length).getD i 0 := by
  have hc := cip_length b n ho hx
  rw [sld, hd, List.append_assoc, List.getD_eq_getElem?_getD, List.getElem?_append_right (by omega), ho, Nat.add_sub_cancel_left, List.getElem?_append_left (by omega), ← List.getD_eq_getElem?_getD, cip, Ct.cipA_yes (ck_length b n) ho hx]
  exact Ct.xr_getD _ _ _ hi (by rw [Ct.str_length]; exact hi)
theorem xor_right {x y z : UInt8} : x ^^^ z = y ^^^ z ↔ x = y := by
  constructor
  · intro h
    have := congrArg (· ^^^ z) h
    simpa [UInt8.xor_assoc] using this
  · rintro rfl
    rfl
/-- Two bodies sealed with the same nonce part where the bodies do. -/
theorem sld_alike (b : List UInt8) (n : Int) {o x y : List UInt8} {i : Nat} (ho : o.length = 12) (hx : x.length ≤ 1048576) (hy : y.length ≤ 1048576) (hi : i < x.length) (hj : i < y.length) :
    ((sld b n o x).getD (12 + i) 0 = (sld b n o y).getD (12 + i) 0) ↔ x.getD i 0 = y.getD i 0 := by
  rw [sld_at b n ho hx hi, sld_at b n ho hy hj, str_at _ _ hi hj]
  exact xor_right
end Sl
