/- AES's columns, numbers alone: mixed four times a column is what it was. -/
set_option linter.unusedVariables false
set_option linter.unusedSimpArgs false
namespace Go.Proofs.Ytabhdkjepbkooaa

/-- the product with x in GF(2^8) -/
def dblV (b : BitVec 8) : BitVec 8 := (b <<< 1) ^^^ ((b >>> 7) * 0x1b#8)
theorem dblV_xor (a b : BitVec 8) : dblV (a ^^^ b) = dblV a ^^^ dblV b := by
  revert a b
  decide +kernel
structure Col where
  v : BitVec 8
  w : BitVec 8
  x : BitVec 8
  y : BitVec 8
/-- MixColumns on a column, as the program reckons it -/
def mixV (c : Col) : Col :=
  ⟨c.v ^^^ (dblV (c.v ^^^ c.w) ^^^ (c.v ^^^ c.w ^^^ c.x ^^^ c.y)), c.w ^^^ (dblV (c.w ^^^ c.x) ^^^ (c.v ^^^ c.w ^^^ c.x ^^^ c.y)),
   c.x ^^^ (dblV (c.x ^^^ c.y) ^^^ (c.v ^^^ c.w ^^^ c.x ^^^ c.y)), c.y ^^^ (dblV (c.y ^^^ c.v) ^^^ (c.v ^^^ c.w ^^^ c.x ^^^ c.y))⟩
theorem xself (a b : BitVec 8) : a ^^^ (a ^^^ b) = b := by rw [← BitVec.xor_assoc, BitVec.xor_self, BitVec.zero_xor]
theorem xleft (a b c : BitVec 8) : a ^^^ (b ^^^ c) = b ^^^ (a ^^^ c) := by rw [← BitVec.xor_assoc, BitVec.xor_comm a b, BitVec.xor_assoc]
theorem mixV_two (v w x y : BitVec 8) : mixV (mixV ⟨v, w, x, y⟩) = ⟨v ^^^ (dblV (dblV v) ^^^ dblV (dblV x)), w ^^^ (dblV (dblV w) ^^^ dblV (dblV y)), x ^^^ (dblV (dblV x) ^^^ dblV (dblV v)), y ^^^ (dblV (dblV y) ^^^ dblV (dblV w))⟩ := by
  simp only [mixV, dblV_xor, Col.mk.injEq]
  generalize dblV (dblV v) = vv
  generalize dblV (dblV w) = ww
  generalize dblV (dblV x) = xx
  generalize dblV (dblV y) = yy
  generalize dblV v = v1
  generalize dblV w = w1
  generalize dblV x = x1
  generalize dblV y = y1
  refine ⟨?_, ?_, ?_, ?_⟩ <;> simp [BitVec.xor_assoc, BitVec.xor_comm, xleft, xself, BitVec.xor_self]
theorem mixV_four (c : Col) : mixV (mixV (mixV (mixV c))) = c := by
  obtain ⟨v, w, x, y⟩ := c
  rw [mixV_two, mixV_two]
  simp only [dblV_xor, Col.mk.injEq]
  generalize dblV (dblV (dblV (dblV v))) = v4
  generalize dblV (dblV (dblV (dblV w))) = w4
  generalize dblV (dblV (dblV (dblV x))) = x4
  generalize dblV (dblV (dblV (dblV y))) = y4
  generalize dblV (dblV v) = vv
  generalize dblV (dblV w) = ww
  generalize dblV (dblV x) = xx
  generalize dblV (dblV y) = yy
  refine ⟨?_, ?_, ?_, ?_⟩ <;> simp [BitVec.xor_assoc, BitVec.xor_comm, xleft, xself, BitVec.xor_self]
end Go.Proofs.Ytabhdkjepbkooaa
