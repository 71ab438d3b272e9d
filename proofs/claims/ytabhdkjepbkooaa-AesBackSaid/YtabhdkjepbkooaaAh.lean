/- AES's rounds on lists, numbers alone: decrypting undoes encrypting, and the other way round. -/
import Derived.Test.YtabhdkjepbkooaaAg
set_option linter.unusedVariables false
set_option linter.unusedSimpArgs false
namespace Go.Proofs.Ytabhdkjepbkooaa

def boxL : List (BitVec 8) := [99, 124, 119, 123, 242, 107, 111, 197, 48, 1, 103, 43, 254, 215, 171, 118, 202, 130, 201, 125, 250, 89, 71, 240, 173, 212, 162, 175, 156, 164, 114, 192, 183, 253, 147, 38, 54, 63, 247, 204, 52, 165, 229, 241, 113, 216, 49, 21, 4, 199, 35, 195, 24, 150, 5, 154, 7, 18, 128, 226, 235, 39, 178, 117, 9, 131, 44, 26, 27, 110, 90, 160, 82, 59, 214, 179, 41, 227, 47, 132, 83, 209, 0, 237, 32, 252, 177, 91, 106, 203, 190, 57, 74, 76, 88, 207, 208, 239, 170, 251, 67, 77, 51, 133, 69, 249, 2, 127, 80, 60, 159, 168, 81, 163, 64, 143, 146, 157, 56, 245, 188, 182, 218, 33, 16, 255, 243, 210, 205, 12, 19, 236, 95, 151, 68, 23, 196, 167, 126, 61, 100, 93, 25, 115, 96, 129, 79, 220, 34, 42, 144, 136, 70, 238, 184, 20, 222, 94, 11, 219, 224, 50, 58, 10, 73, 6, 36, 92, 194, 211, 172, 98, 145, 149, 228, 121, 231, 200, 55, 109, 141, 213, 78, 169, 108, 86, 244, 234, 101, 122, 174, 8, 186, 120, 37, 46, 28, 166, 180, 198, 232, 221, 116, 31, 75, 189, 139, 138, 112, 62, 181, 102, 72, 3, 246, 14, 97, 53, 87, 185, 134, 193, 29, 158, 225, 248, 152, 17, 105, 217, 142, 148, 155, 30, 135, 233, 206, 85, 40, 223, 140, 161, 137, 13, 191, 230, 66, 104, 65, 153, 45, 15, 176, 84, 187, 22]
def invL : List (BitVec 8) := [82, 9, 106, 213, 48, 54, 165, 56, 191, 64, 163, 158, 129, 243, 215, 251, 124, 227, 57, 130, 155, 47, 255, 135, 52, 142, 67, 68, 196, 222, 233, 203, 84, 123, 148, 50, 166, 194, 35, 61, 238, 76, 149, 11, 66, 250, 195, 78, 8, 46, 161, 102, 40, 217, 36, 178, 118, 91, 162, 73, 109, 139, 209, 37, 114, 248, 246, 100, 134, 104, 152, 22, 212, 164, 92, 204, 93, 101, 182, 146, 108, 112, 72, 80, 253, 237, 185, 218, 94, 21, 70, 87, 167, 141, 157, 132, 144, 216, 171, 0, 140, 188, 211, 10, 247, 228, 88, 5, 184, 179, 69, 6, 208, 44, 30, 143, 202, 63, 15, 2, 193, 175, 189, 3, 1, 19, 138, 107, 58, 145, 17, 65, 79, 103, 220, 234, 151, 242, 207, 206, 240, 180, 230, 115, 150, 172, 116, 34, 231, 173, 53, 133, 226, 249, 55, 232, 28, 117, 223, 110, 71, 241, 26, 113, 29, 41, 197, 137, 111, 183, 98, 14, 170, 24, 190, 27, 252, 86, 62, 75, 198, 210, 121, 32, 154, 219, 192, 254, 120, 205, 90, 244, 31, 221, 168, 51, 136, 7, 199, 49, 177, 18, 16, 89, 39, 128, 236, 95, 96, 81, 127, 169, 25, 181, 74, 13, 45, 229, 122, 159, 147, 201, 156, 239, 160, 224, 59, 77, 174, 42, 245, 176, 200, 235, 187, 60, 131, 83, 153, 97, 23, 43, 4, 126, 186, 119, 214, 38, 225, 105, 20, 99, 85, 33, 12, 125]
def boxAt (l : List (BitVec 8)) (x : BitVec 8) : BitVec 8 := l.getD x.toNat 0
theorem box_inv : ∀ x : BitVec 8, boxAt invL (boxAt boxL x) = x := by decide +kernel
theorem inv_box : ∀ x : BitVec 8, boxAt boxL (boxAt invL x) = x := by decide +kernel
/-- a state off a function of the place -/
def st16 (f : Nat → BitVec 8) : List (BitVec 8) := (List.range 16).map f
theorem st16_length (f : Nat → BitVec 8) : (st16 f).length = 16 := by simp [st16]
theorem st16_get (f : Nat → BitVec 8) (i : Nat) (h : i < 16) : (st16 f).getD i 0 = f i := by
  rw [st16, List.getD_eq_getElem?_getD, List.getElem?_map, List.getElem?_range h]; rfl
theorem st16_of (s : List (BitVec 8)) (h : s.length = 16) : st16 (fun i => s.getD i 0) = s := by
  refine List.ext_getElem (by rw [st16_length, h]) fun i h1 h2 => ?_
  simp [st16, List.getD_eq_getElem?_getD, List.getElem?_eq_getElem h2]
theorem st16_congr {f g : Nat → BitVec 8} (h : ∀ i, i < 16 → f i = g i) : st16 f = st16 g := by
  unfold st16
  exact List.map_congr_left fun i hi => h i (List.mem_range.1 hi)
theorem replL (f : Nat → BitVec 8) : (st16 f).length = 16 := st16_length f
def addV (s k : List (BitVec 8)) : List (BitVec 8) := st16 (fun i => s.getD i 0 ^^^ k.getD i 0)
def replV (s : List (BitVec 8)) : List (BitVec 8) := st16 (fun i => boxAt boxL (s.getD (5 * i % 16) 0))
def putV (s : List (BitVec 8)) : List (BitVec 8) := st16 (fun i => boxAt invL (s.getD (13 * i % 16) 0))
def colV (s : List (BitVec 8)) (c : Nat) : Col := ⟨s.getD (4 * c) 0, s.getD (4 * c + 1) 0, s.getD (4 * c + 2) 0, s.getD (4 * c + 3) 0⟩
def Col.at_ (c : Col) (r : Nat) : BitVec 8 := if r = 0 then c.v else if r = 1 then c.w else if r = 2 then c.x else c.y
def mixS (s : List (BitVec 8)) : List (BitVec 8) := st16 (fun i => (mixV (colV s (i / 4))).at_ (i % 4))
theorem add_twice (s k : List (BitVec 8)) (h : s.length = 16) : addV (addV s k) k = s := by
  rw [← st16_of s h]
  unfold addV
  refine st16_congr fun i hi => ?_
  rw [st16_get _ i hi, st16_get _ i hi, BitVec.xor_assoc, BitVec.xor_self, BitVec.xor_zero]
theorem put_repl (s : List (BitVec 8)) (h : s.length = 16) : putV (replV s) = s := by
  conv => rhs; rw [← st16_of s h]
  unfold putV replV
  refine st16_congr fun i hi => ?_
  rw [st16_get _ _ (Nat.mod_lt _ (by decide)), box_inv, show 5 * (13 * i % 16) % 16 = i by omega]
theorem repl_put (s : List (BitVec 8)) (h : s.length = 16) : replV (putV s) = s := by
  conv => rhs; rw [← st16_of s h]
  unfold putV replV
  refine st16_congr fun i hi => ?_
  rw [st16_get _ _ (Nat.mod_lt _ (by decide)), inv_box, show 13 * (5 * i % 16) % 16 = i by omega]
theorem col_mix (s : List (BitVec 8)) (c : Nat) (hc : c < 4) : colV (mixS s) c = mixV (colV s c) := by
  rw [colV, mixS]
  rw [st16_get _ _ (by omega), st16_get _ _ (by omega), st16_get _ _ (by omega), st16_get _ _ (by omega)]
  rw [show 4 * c / 4 = c by omega, show (4 * c + 1) / 4 = c by omega, show (4 * c + 2) / 4 = c by omega, show (4 * c + 3) / 4 = c by omega, show 4 * c % 4 = 0 by omega, show (4 * c + 1) % 4 = 1 by omega, show (4 * c + 2) % 4 = 2 by omega, show (4 * c + 3) % 4 = 3 by omega]
  rfl
theorem col_at (s : List (BitVec 8)) (i : Nat) (h : i < 16) : (colV s (i / 4)).at_ (i % 4) = s.getD i 0 := by
  have hr : i % 4 = 0 ∨ i % 4 = 1 ∨ i % 4 = 2 ∨ i % 4 = 3 := by omega
  rcases hr with hr | hr | hr | hr <;> rw [hr]
  · show s.getD (4 * (i / 4)) 0 = _
    rw [show 4 * (i / 4) = i by omega]
  · show s.getD (4 * (i / 4) + 1) 0 = _
    rw [show 4 * (i / 4) + 1 = i by omega]
  · show s.getD (4 * (i / 4) + 2) 0 = _
    rw [show 4 * (i / 4) + 2 = i by omega]
  · show s.getD (4 * (i / 4) + 3) 0 = _
    rw [show 4 * (i / 4) + 3 = i by omega]
theorem mix_four (s : List (BitVec 8)) (h : s.length = 16) : mixS (mixS (mixS (mixS s))) = s := by
  conv => rhs; rw [← st16_of s h]
  rw [mixS]
  refine st16_congr fun i hi => ?_
  rw [col_mix _ _ (by omega), col_mix _ _ (by omega), col_mix _ _ (by omega), mixV_four, col_at s i hi]
/-- a round of Encrypt with its round key, and of Decrypt -/
def encR (last i : Nat) (k s : List (BitVec 8)) : List (BitVec 8) :=
  addV (if 0 < i then (if i < last then mixS (replV s) else replV s) else s) k
def decR (last i : Nat) (k s : List (BitVec 8)) : List (BitVec 8) :=
  if 0 < i then (if i < last then putV (mixS (mixS (mixS (addV s k)))) else putV (addV s k)) else addV s k
theorem addV_length (s k : List (BitVec 8)) : (addV s k).length = 16 := st16_length _
theorem mixS_length (s : List (BitVec 8)) : (mixS s).length = 16 := st16_length _
theorem replV_length (s : List (BitVec 8)) : (replV s).length = 16 := st16_length _
theorem encR_length (last i : Nat) (k s : List (BitVec 8)) : (encR last i k s).length = 16 := addV_length _ _
theorem decR_length (last i : Nat) (k s : List (BitVec 8)) : (decR last i k s).length = 16 := by
  unfold decR putV addV
  split
  · split <;> exact st16_length _
  · exact st16_length _
theorem dec_enc (last i : Nat) (k s : List (BitVec 8)) (h : s.length = 16) : decR last i k (encR last i k s) = s := by
  unfold decR encR
  by_cases h0 : 0 < i
  · rw [if_pos h0, if_pos h0]
    by_cases h1 : i < last
    · rw [if_pos h1, if_pos h1, add_twice (mixS (replV s)) k (mixS_length _), mix_four (replV s) (replV_length _), put_repl s h]
    · rw [if_neg h1, if_neg h1, add_twice (replV s) k (replV_length _), put_repl s h]
  · rw [if_neg h0, if_neg h0, add_twice s k h]
theorem enc_dec (last i : Nat) (k s : List (BitVec 8)) (h : s.length = 16) : encR last i k (decR last i k s) = s := by
  unfold decR encR
  by_cases h0 : 0 < i
  · rw [if_pos h0, if_pos h0]
    by_cases h1 : i < last
    · rw [if_pos h1, if_pos h1, repl_put (mixS (mixS (mixS (addV s k)))) (mixS_length _), mix_four (addV s k) (addV_length _ _), add_twice s k h]
    · rw [if_neg h1, if_neg h1, repl_put (addV s k) (addV_length _ _), add_twice s k h]
  · rw [if_neg h0, if_neg h0, add_twice s k h]
/-- the rounds from i on, with their keys -/
def encL (last : Nat) : Nat → List (List (BitVec 8)) → List (BitVec 8) → List (BitVec 8)
  | _, [], s => s
  | i, k :: ks, s => encL last (i + 1) ks (encR last i k s)
def decL (last : Nat) : Nat → List (List (BitVec 8)) → List (BitVec 8) → List (BitVec 8)
  | _, [], s => s
  | i, k :: ks, s => decR last i k (decL last (i + 1) ks s)
theorem decL_length (last : Nat) : ∀ (ks : List (List (BitVec 8))) (i : Nat) (s : List (BitVec 8)), s.length = 16 → (decL last i ks s).length = 16
  | [], _, _, h => h
  | k :: ks, i, s, h => decR_length _ _ _ _
theorem decL_encL (last : Nat) : ∀ (ks : List (List (BitVec 8))) (i : Nat) (s : List (BitVec 8)), s.length = 16 → decL last i ks (encL last i ks s) = s
  | [], _, _, _ => rfl
  | k :: ks, i, s, h => by
    rw [encL, decL, decL_encL last ks (i + 1) _ (encR_length _ _ _ _), dec_enc last i k s h]
theorem encL_decL (last : Nat) : ∀ (ks : List (List (BitVec 8))) (i : Nat) (s : List (BitVec 8)), s.length = 16 → encL last i ks (decL last i ks s) = s
  | [], _, _, _ => rfl
  | k :: ks, i, s, h => by
    rw [decL, encL, enc_dec last i k _ (decL_length last ks (i + 1) s h), encL_decL last ks (i + 1) s h]
end Go.Proofs.Ytabhdkjepbkooaa
