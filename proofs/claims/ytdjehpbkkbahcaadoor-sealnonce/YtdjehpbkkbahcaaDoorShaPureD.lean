/- The plain mathematics of SHA-256: a state's bytes are read as that state. -/
import Derived.Test.YtdjehpbkkbahcaaDoorShaPureC
namespace Sh

theorem word_wb (x : Nat) (hx : x < 4294967296) (r : List UInt8) : word (wb x ++ r) = x := by
  have h : word (wb x ++ r) = (((0 * 256 + (byt (x / 16777216)).toNat) * 256 + (byt (x / 65536)).toNat) * 256 + (byt (x / 256)).toNat) * 256 + (byt x).toNat := rfl
  have e : ∀ n, (byt n).toNat = n % 256 := fun n => UInt8.toNat_ofNat'
  rw [h, e, e, e, e]
  omega
theorem rds_txt (v : St) (h : v.Ok) : rds (txt v) = v := by
  obtain ⟨a, b, c, d, e, f, g, i⟩ := v
  obtain ⟨ha, hb, hc, hd, he, hf, hg, hi⟩ := h
  simp only at ha hb hc hd he hf hg hi
  have ht : txt ⟨a, b, c, d, e, f, g, i⟩ = wb a ++ (wb b ++ (wb c ++ (wb d ++ (wb e ++ (wb f ++ (wb g ++ (wb i ++ []))))))) := rfl
  have h0 : word (txt ⟨a, b, c, d, e, f, g, i⟩) = a := by rw [ht, word_wb a ha]
  have h1 : word ((txt ⟨a, b, c, d, e, f, g, i⟩).drop 4) = b := word_wb b hb (wb c ++ (wb d ++ (wb e ++ (wb f ++ (wb g ++ (wb i ++ []))))))
  have h2 : word ((txt ⟨a, b, c, d, e, f, g, i⟩).drop 8) = c := word_wb c hc (wb d ++ (wb e ++ (wb f ++ (wb g ++ (wb i ++ [])))))
  have h3 : word ((txt ⟨a, b, c, d, e, f, g, i⟩).drop 12) = d := word_wb d hd (wb e ++ (wb f ++ (wb g ++ (wb i ++ []))))
  have h4 : word ((txt ⟨a, b, c, d, e, f, g, i⟩).drop 16) = e := word_wb e he (wb f ++ (wb g ++ (wb i ++ [])))
  have h5 : word ((txt ⟨a, b, c, d, e, f, g, i⟩).drop 20) = f := word_wb f hf (wb g ++ (wb i ++ []))
  have h6 : word ((txt ⟨a, b, c, d, e, f, g, i⟩).drop 24) = g := word_wb g hg (wb i ++ [])
  have h7 : word ((txt ⟨a, b, c, d, e, f, g, i⟩).drop 28) = i := word_wb i hi []
  rw [rds, h0, h1, h2, h3, h4, h5, h6, h7]
theorem block_txt (v : St) (h : v.Ok) (b : List UInt8) (hb : b.length = 64) : block (txt v) b = txt (beh v b) := by
  rw [block, if_pos ⟨txt_length v, hb⟩, rds_txt v h]
theorem pad_mod (n : Nat) : (n + (pad n).length) % 64 = 0 := by rw [pad_length]; unfold noughts; omega
theorem pad_ge (n : Nat) : 9 ≤ (pad n).length := by rw [pad_length]; omega
end Sh
