/- Products of blocks and round keys, numbers alone. -/
import Derived.Test.YtabhdkjepbkooaaAk
set_option linter.unusedVariables false
set_option linter.unusedSimpArgs false
namespace Go.Proofs.Ytabhdkjepbkooaa

/-- the first n terms of a product -/
def partV (e f : BitVec 128) (n : Nat) : BitVec 128 := xsum n (fun i => if e.getMsbD i then raiseN i f else 0)
theorem partV_zero (e f : BitVec 128) : partV e f 0 = 0 := rfl
theorem partV_succ (e f : BitVec 128) (n : Nat) : partV e f (n + 1) = if e.getMsbD n then partV e f n ^^^ raiseN n f else partV e f n := by
  show partV e f n ^^^ (if e.getMsbD n then raiseN n f else 0) = _
  cases e.getMsbD n
  · rw [if_neg (by simp), if_neg (by simp)]; exact BitVec.xor_zero
  · rfl
theorem partV_all (e f : BitVec 128) : partV e f 128 = timesV e f := rfl
theorem top_bit (w : BitVec 64) (i : Nat) (hi : i < 64) : (w <<< i) >>> 63 = if w.getMsbD i then 1 else 0 := by
  apply BitVec.eq_of_getLsbD_eq
  intro k hk
  rw [BitVec.getLsbD_ushiftRight, BitVec.getLsbD_shiftLeft, BitVec.getMsbD_eq_getLsbD]
  by_cases h : k = 0
  · subst h
    rw [show 63 + 0 - i = 64 - 1 - i by omega]
    cases hb : w.getLsbD (64 - 1 - i) <;> simp [hi] <;> omega
  · cases hb : decide (i < 64) && w.getLsbD (64 - 1 - i)
    · simp; omega
    · simp [h, BitVec.getLsbD_one]; omega
theorem elV_msb (bs : List (BitVec 8)) (i : Nat) (hi : i < 128) : (elV bs).getMsbD i = (bs.getD (i / 8) 0).getLsbD (7 - i % 8) := by
  rw [BitVec.getMsbD_eq_getLsbD, decide_eq_true hi, Bool.true_and, elV_bit _ _ (by omega), show 15 - (128 - 1 - i) / 8 = i / 8 by omega, show (128 - 1 - i) % 8 = 7 - i % 8 by omega]

/-- the word that is added to the one a key's length ahead -/
def subW (n : Nat) (ws : List (BitVec 8)) (mark : BitVec 8) (j : Nat) : BitVec 8 :=
  let x := fun k => ws.getD (ws.length - 4 + k) 0
  if ws.length % n = 0 then boxAt boxL (x ((j + 1) % 4)) ^^^ (if j = 0 then mark else 0)
  else if ws.length % n = 16 ∧ n = 32 then boxAt boxL (x j) else x j
/-- a word more -/
def expS (n : Nat) (p : List (BitVec 8) × BitVec 8) : List (BitVec 8) × BitVec 8 :=
  (p.1 ++ (List.range 4).map (fun j => subW n p.1 p.2 j ^^^ p.1.getD (p.1.length - n + j) 0), if p.1.length % n = 0 then dblV p.2 else p.2)
def expN (n : Nat) (p : List (BitVec 8) × BitVec 8) : Nat → List (BitVec 8) × BitVec 8
  | 0 => p
  | k + 1 => expS n (expN n p k)
theorem expN_length (n : Nat) (p : List (BitVec 8) × BitVec 8) : ∀ k, (expN n p k).1.length = p.1.length + 4 * k
  | 0 => rfl
  | k + 1 => by rw [expN, expS, List.length_append, expN_length n p k]; simp; omega
/-- the number of round keys -/
def cntL (n : Nat) : Nat := n / 4 + 7
/-- all of them, one behind the other -/
def wholeL (key : List (BitVec 8)) : List (BitVec 8) := (expN key.length (key, 1) (4 * cntL key.length - key.length / 4)).1
def keysL (key : List (BitVec 8)) : List (List (BitVec 8)) := (List.range (cntL key.length)).map (fun i => ((wholeL key).drop (16 * i)).take 16)
theorem wholeL_length (key : List (BitVec 8)) (h : key.length = 16 ∨ key.length = 24 ∨ key.length = 32) : (wholeL key).length = 16 * cntL key.length := by
  unfold wholeL
  rw [expN_length]
  unfold cntL
  rcases h with h | h | h <;> rw [h]
theorem keysL_length (key : List (BitVec 8)) : (keysL key).length = cntL key.length := by simp [keysL]
theorem keysL_get (key : List (BitVec 8)) (i : Nat) (hi : i < cntL key.length) : (keysL key)[i]? = some (((wholeL key).drop (16 * i)).take 16) := by
  simp [keysL, hi]
/-- the cipher of a key -/
def encA (key b : List (BitVec 8)) : List (BitVec 8) := encL (cntL key.length - 1) 0 (keysL key) b
def decA (key b : List (BitVec 8)) : List (BitVec 8) := decL (cntL key.length - 1) 0 (keysL key) b
theorem encL_length (last : Nat) : ∀ (ks : List (List (BitVec 8))) (i : Nat) (s : List (BitVec 8)), s.length = 16 → (encL last i ks s).length = 16
  | [], _, _, h => h
  | k :: ks, i, s, h => encL_length last ks (i + 1) _ (encR_length _ _ _ _)
theorem encA_length (key b : List (BitVec 8)) (h : b.length = 16) : (encA key b).length = 16 := encL_length _ _ _ _ h
theorem decA_length (key b : List (BitVec 8)) (h : b.length = 16) : (decA key b).length = 16 := decL_length _ _ _ _ h
theorem decA_encA (key b : List (BitVec 8)) (h : b.length = 16) : decA key (encA key b) = b := decL_encL _ _ _ _ h
theorem encA_decA (key b : List (BitVec 8)) (h : b.length = 16) : encA key (decA key b) = b := encL_decL _ _ _ _ h
/-- round by round: encrypting from the front, decrypting from the back -/
theorem encL_snoc (last : Nat) : ∀ (ks : List (List (BitVec 8))) (i : Nat) (k s : List (BitVec 8)), encL last i (ks ++ [k]) s = encR last (i + ks.length) k (encL last i ks s)
  | [], i, k, s => rfl
  | x :: ks, i, k, s => by
    rw [List.cons_append, encL, encL_snoc last ks (i + 1) k, encL, List.length_cons, show i + 1 + ks.length = i + (ks.length + 1) by omega]
theorem decL_drop (last : Nat) (ks : List (List (BitVec 8))) (s : List (BitVec 8)) (i : Nat) (k : List (BitVec 8)) (h : ks[i]? = some k) : decL last i (ks.drop i) s = decR last i k (decL last (i + 1) (ks.drop (i + 1)) s) := by
  have hi := (List.getElem?_eq_some_iff.1 h).1
  rw [List.drop_eq_getElem_cons hi, decL]
  rw [List.getElem?_eq_getElem hi] at h
  injection h with h
  rw [h]
/-- FIPS 197's example -/
theorem enc_example : encA [0, 1, 2, 3, 4, 5, 6, 7, 8, 9, 10, 11, 12, 13, 14, 15] [0, 0x11, 0x22, 0x33, 0x44, 0x55, 0x66, 0x77, 0x88, 0x99, 0xaa, 0xbb, 0xcc, 0xdd, 0xee, 0xff] = [0x69, 0xc4, 0xe0, 0xd8, 0x6a, 0x7b, 0x04, 0x30, 0xd8, 0xcd, 0xb7, 0x80, 0x70, 0xb4, 0xc5, 0x5a] := by decide +kernel
end Go.Proofs.Ytabhdkjepbkooaa
