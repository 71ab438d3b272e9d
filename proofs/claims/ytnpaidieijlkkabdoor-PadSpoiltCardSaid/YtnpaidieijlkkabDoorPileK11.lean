/- Parts of one proof, joined: WPq, Tabs3, Tabs8. -/
import Derived.Test.YtnpaidieijlkkabDoorPileK10
import Derived.Test.YtnpaidieijlkkabDoorPileK3
import Derived.Lib.LaidTab
import Derived.Stop.LaidErr

/- PadPSS: the combined contracts. -/
set_option linter.unusedVariables false
set_option linter.unusedSimpArgs false
namespace Go.Proofs.YtnpaidieijlkkabDoor
open Go.RowKit Go.Shelf

theorem hd8 (m : BitVec 8) (s : Nat) (hs : s ≤ 7) : ((1 : BitVec 8) ^^^ m) &&& ((0xff : BitVec 8) >>> s) ≠ ((0 : BitVec 8) ^^^ m) &&& ((0xff : BitVec 8) >>> s) := by
  intro h
  have h2 := congrArg (fun x : BitVec 8 => x.getLsbD 0) h
  have h3 : s < 8 := by omega
  have hk : ((0xff : BitVec 8) >>> s).getLsbD 0 = true := by
    rcases (by omega : s = 0 ∨ s = 1 ∨ s = 2 ∨ s = 3 ∨ s = 4 ∨ s = 5 ∨ s = 6 ∨ s = 7) with rfl | rfl | rfl | rfl | rfl | rfl | rfl | rfl <;> decide
  simp only [BitVec.getLsbD_and, BitVec.getLsbD_xor, hk, Bool.and_true] at h2
  cases hm : m.getLsbD 0 <;> rw [hm] at h2 <;> exact absurd h2 (by decide)
theorem blk_more (Z : Nat) (salt : List (BitVec 8)) : (pssBlk Z (1 :: salt)).drop Z = 1 :: 1 :: salt := by
  rw [pssBlk, List.drop_left' (by simp)]
  rfl
theorem blk_less (Z : Nat) (salt : List (BitVec 8)) : (pssBlk (Z + 1) salt).drop Z = 0 :: 1 :: salt := by
  rw [pssBlk, List.replicate_succ', List.append_assoc, List.drop_left' (by simp)]
  rfl
theorem ver_more {k : Int} (hk : KindOk k) (Z s : Nat) (hash salt : List (BitVec 8)) (N : Nat) (hN : szN k + salt.length + 2 + (Z + 1) = N) :
    verSalt k N (szN k) (salt.length + 1) (pssL k (Z + 1) s hash salt) = 1 :: salt := by
  have he : N - szN k - 1 = Z + 1 + 1 + salt.length := by omega
  have hl : (headAnd s (maskK k (pssBlk (Z + 1) salt) (pssH k hash salt))).length = Z + 1 + 1 + salt.length := by rw [headAnd_length, maskK_length hk, pssBlk_length]
  have h1 : (pssL k (Z + 1) s hash salt).take (Z + 1 + 1 + salt.length) = headAnd s (maskK k (pssBlk (Z + 1) salt) (pssH k hash salt)) := by rw [pssL, List.take_left' hl]
  have h2 : ((pssL k (Z + 1) s hash salt).drop (Z + 1 + 1 + salt.length)).take (szN k) = pssH k hash salt := by rw [pssL, List.drop_left' hl, List.take_left' (pssH_length hk _ _)]
  rw [verSalt, he, h1, h2, show Z + 1 + 1 + salt.length - (salt.length + 1) = Z + 1 by omega]
  have h3 : maskK k (headAnd s (maskK k (pssBlk (Z + 1) salt) (pssH k hash salt))) (pssH k hash salt) = xorL (headAnd s (maskK k (pssBlk (Z + 1) salt) (pssH k hash salt))) (mgfL k (pssH k hash salt) (Z + 1 + 1 + salt.length)) := by rw [maskK, hl]
  rw [h3, xorL_drop, headAnd_drop, ← xorL_drop]
  have h4 : xorL (maskK k (pssBlk (Z + 1) salt) (pssH k hash salt)) (mgfL k (pssH k hash salt) (Z + 1 + 1 + salt.length)) = pssBlk (Z + 1) salt := by
    have h := maskK_twice hk (pssBlk (Z + 1) salt) (pssH k hash salt)
    rw [maskK, maskK_length hk, pssBlk_length] at h
    exact h
  rw [h4, pssBlk, List.drop_left' (by simp)]
  rfl
theorem xor_heads (a b m : List (BitVec 8)) (hm : 0 < m.length) (s : Nat) (hs : s ≤ 7) : headAnd s (xorL (1 :: a) m) ≠ headAnd s (xorL (0 :: b) m) := by
  intro h
  cases m with
  | nil => exact absurd hm (by decide)
  | cons m0 ms =>
    have h2 := congrArg List.head? h
    exact hd8 m0 s hs (Option.some.inj h2)
theorem headAnd_0 (l : List (BitVec 8)) : headAnd 0 l = l := headAnd_zero l
theorem pss_more {k : Int} (hk : KindOk k) (Z s : Nat) (hs : s ≤ 7) (hash salt : List (BitVec 8)) : pssL k Z s hash (1 :: salt) ≠ pssL k (Z + 1) s hash salt := by
  intro h
  rw [pssL, pssL] at h
  have hl : (headAnd s (maskK k (pssBlk Z (1 :: salt)) (pssH k hash (1 :: salt)))).length = (headAnd s (maskK k (pssBlk (Z + 1) salt) (pssH k hash salt))).length := by
    rw [headAnd_length, headAnd_length, maskK_length hk, maskK_length hk, pssBlk_length, pssBlk_length, List.length_cons]; omega
  obtain ⟨h1, h2⟩ := List.append_inj h hl
  have h3 : pssH k hash (1 :: salt) = pssH k hash salt := (List.append_inj h2 (by rw [pssH_length hk, pssH_length hk])).1
  have e1 : (pssBlk Z (1 :: salt)).length = Z + 2 + salt.length := by rw [pssBlk_length, List.length_cons]; omega
  have e2 : (pssBlk (Z + 1) salt).length = Z + 2 + salt.length := by rw [pssBlk_length]
  rw [h3, maskK, maskK, e1, e2] at h1
  have hm := mgfL_length hk (pssH k hash salt) (Z + 2 + salt.length)
  obtain ⟨M, hM⟩ : ∃ M, mgfL k (pssH k hash salt) (Z + 2 + salt.length) = M := ⟨_, rfl⟩
  rw [hM] at h1 hm
  cases Z with
  | zero => exact xor_heads (1 :: salt) (1 :: salt) M (by omega) s hs h1
  | succ Z =>
    have h5 := congrArg (List.drop (Z + 1)) h1
    rw [headAnd_drop, headAnd_drop, xorL_drop, xorL_drop, blk_more, blk_less] at h5
    refine xor_heads (1 :: salt) (1 :: salt) (M.drop (Z + 1)) (by rw [List.length_drop]; omega) 0 (by decide) ?_
    rw [headAnd_0, headAnd_0]
    exact h5
theorem psb_kind {k b : Int} {n : Nat} (h : psB k b n = true) : KindOk k ∧ n = szN k ∧ sizeV k = n ∧ 1 ≤ b ∧ b ≤ 65536 := by
  obtain ⟨h1, h2, h3⟩ := of_decide_eq_true h
  obtain ⟨h4, h5⟩ := okB_kind h1
  exact ⟨h4, h5, (of_decide_eq_true h1).2.symm, h2, h3⟩
def peL (k b : Int) (hash salt : List (BitVec 8)) : List (BitVec 8) := if psR k b hash.length salt.length = 0 then pssL k ((b.toNat + 7) / 8 - hash.length - salt.length - 2) (8 * ((b.toNat + 7) / 8) - b.toNat) hash salt else []
theorem pe_cases (k b : Int) (hash salt : List (BitVec 8)) : (psB k b hash.length = false ∧ psR k b hash.length salt.length = 7 ∧ peL k b hash salt = []) ∨
    (∃ B N : Nat, b = B ∧ (B + 7) / 8 = N ∧ psB k b hash.length = true ∧ N < hash.length + salt.length + 2 ∧ psR k b hash.length salt.length = 33 ∧ peL k b hash salt = []) ∨
    (∃ B N Z : Nat, b = B ∧ (B + 7) / 8 = N ∧ psB k b hash.length = true ∧ hash.length + salt.length + 2 + Z = N ∧ psR k b hash.length salt.length = 0 ∧ peL k b hash salt = pssL k Z (8 * N - B) hash salt) := by
  cases h : psB k b hash.length with
  | false =>
    have e : psR k b hash.length salt.length = 7 := by rw [psR, if_pos h]
    exact .inl ⟨rfl, e, by rw [peL, e, if_neg (by decide)]⟩
  | true =>
    obtain ⟨hk, hn, hz, h1, h2⟩ := psb_kind h
    by_cases hc : (b + 7) / 8 < sizeV k + 2 ∨ (b + 7) / 8 - sizeV k - 2 < salt.length
    · have e : psR k b hash.length salt.length = 33 := by rw [psR, if_neg (by rw [h]; decide), if_pos hc]
      rw [hz] at hc
      exact .inr (.inl ⟨b.toNat, (b.toNat + 7) / 8, by omega, rfl, rfl, by omega, e, by rw [peL, e, if_neg (by decide)]⟩)
    · have e : psR k b hash.length salt.length = 0 := by rw [psR, if_neg (by rw [h]; decide), if_neg hc]
      rw [hz] at hc
      exact .inr (.inr ⟨b.toNat, (b.toNat + 7) / 8, (b.toNat + 7) / 8 - hash.length - salt.length - 2, by omega, rfl, rfl, by omega, e, by rw [peL, e, if_pos rfl]⟩)
theorem pencpss_all (w : World) (k : Int) (hGS : StartsG w) (hGR : RootsG w) (b : Int) (A1 : Option Addr) (n1 c1 : Nat) (hash : List (BitVec 8)) (h1 : SlV w w.heap.size A1 n1 c1 (hash.map W8)) (z1 : A1 = none → c1 = 0)
    (A2 : Option Addr) (n2 c2 : Nat) (salt : List (BitVec 8)) (h2 : SlV w w.heap.size A2 n2 c2 (salt.map W8)) (z2 : A2 = none → c2 = 0) (hn2 : n2 ≤ 1000000) :
    Calls Tryd.prog 6 #[.int .i64 k, .int .i64 b, .slice A1 n1 c1, .slice A2 n2 c2] w fun e w' => ∃ v, e = .returned (.tuple #[v, .int .i64 (psR k b hash.length salt.length)]) ∧ FreshV w' w.heap.size v (peL k b hash salt) ∧ Below w.heap.size w w' := by
  have hl1 : hash.length = n1 := by simpa using h1.len.symm
  have hl2 : salt.length = n2 := by simpa using h2.len.symm
  rcases pe_cases k b hash salt with ⟨hp, e1, e2⟩ | ⟨B, N, rfl, hN, hp, hd, e1, e2⟩ | ⟨B, N, Z, rfl, hN, hp, hd, e1, e2⟩
  · rw [e1, e2]
    refine (pencpss_no1 w k b A1 n1 c1 _ (by rw [← hl1]; exact hp)).mono ?_
    rintro e w' ⟨rfl, rfl⟩
    exact ⟨_, rfl, FreshV.nil_ _ _, Below.refl _ _⟩
  · rw [e1, e2]
    refine (pencpss_no2 w k B N A1 n1 c1 A2 n2 c2 (by rw [← hl1]; exact hp) hN hn2 (by omega)).mono ?_
    rintro e w' ⟨rfl, rfl⟩
    exact ⟨_, rfl, FreshV.nil_ _ _, Below.refl _ _⟩
  · rw [e1, e2]
    exact pencpss_ok w k hGS hGR B N hN _ A1 n1 c1 hash h1 z1 (by rw [← hl1]; exact hp) A2 n2 c2 salt h2 z2 (Nat.le_refl _) Z (by omega)
theorem rencpss_all (w : World) (k : Int) (b : Int) (A1 : Option Addr) (n1 c1 : Nat) (hash : List (BitVec 8)) (h1 : SlV w w.heap.size A1 n1 c1 (hash.map W8)) (z1 : A1 = none → c1 = 0)
    (A2 : Option Addr) (n2 c2 : Nat) (salt : List (BitVec 8)) (h2 : SlV w w.heap.size A2 n2 c2 (salt.map W8)) (z2 : A2 = none → c2 = 0) :
    Calls Tryd.prog 23 #[.int .i64 k, .int .i64 b, .slice A1 n1 c1, .slice A2 n2 c2] w fun e w' => ∃ v, e = .returned (.tuple #[v, .int .i64 (psR k b hash.length salt.length)]) ∧ FreshV w' w.heap.size v (peL k b hash salt) ∧ Below w.heap.size w w' := by
  have hl1 : hash.length = n1 := by simpa using h1.len.symm
  have hl2 : salt.length = n2 := by simpa using h2.len.symm
  have hno := rencpss_no w k b A1 n1 c1 A2 n2 c2
  rw [← hl1, ← hl2] at hno
  rcases pe_cases k b hash salt with ⟨hp, e1, e2⟩ | ⟨B, N, rfl, hN, hp, hd, e1, e2⟩ | ⟨B, N, Z, rfl, hN, hp, hd, e1, e2⟩
  · rw [e1] at hno
    rw [e1, e2]
    subst hl1 hl2
    refine (hno (by decide)).mono ?_
    rintro e w' ⟨rfl, rfl⟩
    exact ⟨_, rfl, FreshV.nil_ _ _, Below.refl _ _⟩
  · rw [e1] at hno
    rw [e1, e2]
    subst hl1 hl2
    refine (hno (by decide)).mono ?_
    rintro e w' ⟨rfl, rfl⟩
    exact ⟨_, rfl, FreshV.nil_ _ _, Below.refl _ _⟩
  · rw [e1, e2]
    exact rencpss_ok w k B N hN _ A1 n1 c1 hash h1 z1 (by rw [← hl1]; exact hp) A2 n2 c2 salt h2 z2 (Nat.le_refl _) Z (by omega)
def pvR (k b : Int) (hash em : List (BitVec 8)) (s : Int) : Bool :=
  decide (psB k b hash.length = true ∧ (b.toNat + 7) / 8 = em.length ∧ 0 ≤ s ∧ s.toNat + hash.length + 1 < em.length ∧ pssL k (em.length - hash.length - s.toNat - 2) (8 * em.length - b.toNat) hash (verSalt k em.length hash.length s.toNat em) = em)
theorem pverpss_all (w : World) (k : Int) (hGS : StartsG w) (hGR : RootsG w) (b : Int) (A1 : Option Addr) (n1 c1 : Nat) (hash : List (BitVec 8)) (h1 : SlV w w.heap.size A1 n1 c1 (hash.map W8)) (z1 : A1 = none → c1 = 0)
    (A3 : Option Addr) (n3 c3 : Nat) (em : List (BitVec 8)) (h3 : SlV w w.heap.size A3 n3 c3 (em.map W8)) (s : Int) :
    Calls Tryd.prog 7 #[.int .i64 k, .int .i64 b, .slice A1 n1 c1, .slice A3 n3 c3, .int .i64 s] w fun e w' => e = .returned (.bool (pvR k b hash em s)) ∧ Below w.heap.size w w' := by
  obtain rfl : hash.length = n1 := by simpa using h1.len.symm
  obtain rfl : em.length = n3 := by simpa using h3.len.symm
  cases hp : psB k b hash.length with
  | false =>
    rw [pvR, decide_eq_false (fun h => by rw [hp] at h; exact absurd h.1 (by decide))]
    refine (pverpss_no1 w k b A1 _ c1 _ _ hp).mono ?_
    rintro e w' ⟨rfl, rfl⟩
    exact ⟨rfl, Below.refl _ _⟩
  | true =>
    obtain ⟨hk, hn, hz, hb1, hb2⟩ := psb_kind hp
    obtain ⟨B, rfl⟩ : ∃ B : Nat, b = B := ⟨b.toNat, by omega⟩
    by_cases hN : (B + 7) / 8 = em.length
    · by_cases hs : s < 0 ∨ (em.length : Int) - hash.length - 1 ≤ s
      · rw [pvR, decide_eq_false (fun h => by omega)]
        refine (pverpss_no3 w k B _ A1 _ c1 A3 c3 s hp hN hs).mono ?_
        rintro e w' ⟨rfl, rfl⟩
        exact ⟨rfl, Below.refl _ _⟩
      · obtain ⟨S, rfl⟩ : ∃ S : Nat, s = S := ⟨s.toNat, by omega⟩
        have hrun := pverpss_run w k hGS hGR B _ hN _ A1 _ c1 hash h1 z1 hp A3 c3 em h3 (Nat.le_refl _) S (by omega)
        refine hrun.mono ?_
        rintro e w' ⟨rfl, hb⟩
        refine ⟨?_, hb⟩
        rw [pvR, Int.toNat_natCast, Int.toNat_natCast]
        congr 2
        apply decide_eq_decide.2
        exact ⟨fun h => ⟨hp, hN, by omega, by omega, h⟩, fun h => h.2.2.2.2⟩
    · rw [pvR, decide_eq_false (fun h => hN (by have := h.2.1; rw [Int.toNat_natCast] at this; exact this))]
      refine (pverpss_no2 w k B _ A1 _ c1 A3 _ c3 _ hp rfl (by omega)).mono ?_
      rintro e w' ⟨rfl, rfl⟩
      exact ⟨rfl, Below.refl _ _⟩
theorem rverpss_all (w : World) (k : Int) (b : Int) (A1 : Option Addr) (n1 c1 : Nat) (hash : List (BitVec 8)) (h1 : SlV w w.heap.size A1 n1 c1 (hash.map W8)) (z1 : A1 = none → c1 = 0)
    (A3 : Option Addr) (n3 c3 : Nat) (em : List (BitVec 8)) (h3 : SlV w w.heap.size A3 n3 c3 (em.map W8)) (s : Int) :
    Calls Tryd.prog 8 #[.int .i64 k, .int .i64 b, .slice A1 n1 c1, .slice A3 n3 c3, .int .i64 s] w fun e w' => e = .returned (.bool (pvR k b hash em s)) ∧ Below w.heap.size w w' := by
  obtain rfl : hash.length = n1 := by simpa using h1.len.symm
  obtain rfl : em.length = n3 := by simpa using h3.len.symm
  by_cases hs0 : s < 0
  · rw [pvR, decide_eq_false (fun h => by omega)]
    refine (rverpss_no1 w k b _ _ s hs0).mono ?_
    rintro e w' ⟨rfl, rfl⟩
    exact ⟨rfl, Below.refl _ _⟩
  · obtain ⟨S, rfl⟩ : ∃ S : Nat, s = S := ⟨s.toNat, by omega⟩
    by_cases hr : psR k b hash.length S = 0
    · have hp : psB k b hash.length = true := by
        cases h : psB k b hash.length with
        | true => rfl
        | false => rw [psR, if_pos h] at hr; exact absurd hr (by decide)
      obtain ⟨hk, hn, hz, hb1, hb2⟩ := psb_kind hp
      obtain ⟨B, rfl⟩ : ∃ B : Nat, b = B := ⟨b.toNat, by omega⟩
      have hc : ¬ (((B : Int) + 7) / 8 < sizeV k + 2 ∨ ((B : Int) + 7) / 8 - sizeV k - 2 < S) := by
        intro h
        rw [psR, if_neg (by rw [hp]; decide), if_pos h] at hr
        exact absurd hr (by decide)
      rw [hz] at hc
      by_cases hN : (B + 7) / 8 = em.length
      · have hrun := rverpss_run w k B _ hN _ A1 _ c1 hash h1 z1 hp A3 c3 em h3 (Nat.le_refl _) S (by omega)
        refine hrun.mono ?_
        rintro e w' ⟨rfl, hb⟩
        refine ⟨?_, hb⟩
        rw [pvR, Int.toNat_natCast, Int.toNat_natCast]
        congr 2
        apply decide_eq_decide.2
        exact ⟨fun h => ⟨hp, hN, by omega, by omega, h⟩, fun h => h.2.2.2.2⟩
      · rw [pvR, decide_eq_false (fun h => hN (by have := h.2.1; rw [Int.toNat_natCast] at this; exact this))]
        refine (rverpss_no3 w k B _ rfl (by omega) A1 _ c1 A3 _ c3 S (by omega) hr (by omega)).mono ?_
        rintro e w' ⟨rfl, rfl⟩
        exact ⟨rfl, Below.refl _ _⟩
    · have hf : ¬ (psB k b hash.length = true ∧ (b.toNat + 7) / 8 = em.length ∧ (0 : Int) ≤ S ∧ (S : Int).toNat + hash.length + 1 < em.length ∧ pssL k (em.length - hash.length - (S : Int).toNat - 2) (8 * em.length - b.toNat) hash (verSalt k em.length hash.length (S : Int).toNat em) = em) := by
        rintro ⟨h2, h3, h4, h5, -⟩
        obtain ⟨hk, hn, hz, hb1, hb2⟩ := psb_kind h2
        apply hr
        rw [psR, if_neg (by rw [h2]; decide), if_neg (by rw [hz]; omega)]
      rw [pvR, decide_eq_false hf]
      refine (rverpss_no2 w k b A1 _ c1 _ S (by omega) hr).mono ?_
      rintro e w' ⟨rfl, rfl⟩
      exact ⟨rfl, Below.refl _ _⟩
theorem pe_back (k b : Int) (hash salt : List (BitVec 8)) (h : psR k b hash.length salt.length = 0) : pvR k b hash (peL k b hash salt) (salt.length : Int) = true ∧ pvR k b hash (peL k b hash salt) ((salt.length : Int) + 1) = false := by
  rcases pe_cases k b hash salt with ⟨hp, e1, e2⟩ | ⟨B, N, rfl, hN, hp, hd, e1, e2⟩ | ⟨B, N, Z, rfl, hN, hp, hd, e1, e2⟩
  · rw [e1] at h; cases h
  · rw [e1] at h; cases h
  · obtain ⟨hk, hn, hz, hb1, hb2⟩ := psb_kind hp
    rw [e2]
    have hlen : (pssL k Z (8 * N - B) hash salt).length = N := by rw [pssL_length hk]; omega
    have e3 : ((salt.length : Int) + 1).toNat = salt.length + 1 := by omega
    constructor
    · rw [pvR, hlen, Int.toNat_natCast, Int.toNat_natCast, hn]
      apply decide_eq_true
      refine ⟨by rw [← hn]; exact hp, hN, by omega, by omega, ?_⟩
      exact pss_back hk Z (8 * N - B) hash salt N (by omega)
    · rw [pvR, hlen, Int.toNat_natCast, e3, hn]
      apply decide_eq_false
      rintro ⟨-, -, -, h5, h6⟩
      obtain ⟨Z, rfl⟩ : ∃ Y, Z = Y + 1 := ⟨Z - 1, by omega⟩
      rw [ver_more hk Z (8 * N - B) hash salt N (by omega), show N - szN k - (salt.length + 1) - 2 = Z by omega] at h6
      exact pss_more hk Z (8 * N - B) (by omega) hash salt h6
end Go.Proofs.YtnpaidieijlkkabDoor

/- From the row's tables to the walks' facts: starts (rows of rows) and roots. -/
set_option linter.unusedVariables false
set_option linter.unusedSimpArgs false
namespace Go.Proofs.YtnpaidieijlkkabDoor
open Go.RowKit

theorem cells_of_tabs {H : Type} {enc : TypeId × Value → H} {P : Program} {w : World} {base : Nat} {sp : Nat → Bool} {held : Bool} {fuel : Nat} {t t2 e : TypeId} {n m : Nat} {k : IntKind} {cs : List Value} {zss : List (List Int)} {p : List MemPlace}
    (ht : P.underlying t = some (.array n t2)) (ht2 : P.underlying t2 = some (.array m e)) (he : P.underlying e = some (.int k)) (hce : P.cellsOf e = 1) (hc2 : P.cellsOf t2 = m)
    (h : DataW.trod enc P w base sp held fuel t cs = some (.agg (zss.map (Lib.tabData k)), p)) {i : Nat} {zs : List Int} (hi : zss[i]? = some zs) {j : Nat} {z : Int} (hj : zs[j]? = some z) : cs[i * m + j]? = some (.int k z) := by
  cases fuel with
  | zero => simp [DataW.trod] at h
  | succ fuel =>
    simp only [DataW.trod, ht, hc2] at h
    split at h
    · obtain ⟨xs, hm, hx⟩ := Option.map_eq_some_iff.1 h
      have hxs : xs.map (·.1) = zss.map (Lib.tabData (H := H) k) := by
        have := congrArg Prod.fst hx
        simpa using this
      have hxl : xs.length = n := by simpa using Lib.mapM_length hm
      have hzl : zss.length = n := by
        have := congrArg List.length hxs
        simp at this
        omega
      have hin : i < n := by rw [← hzl]; exact (List.getElem?_eq_some_iff.1 hi).1
      obtain ⟨b, hb, hf⟩ := Lib.mapM_at hm i i (by simp [hin])
      have hb1 : b.1 = Lib.tabData k zs := by
        have h1 : (xs.map (·.1))[i]? = some b.1 := by simp [hb]
        rw [hxs, List.getElem?_map, hi] at h1
        exact (Option.some.inj h1).symm
      obtain ⟨b1, b2⟩ := b
      dsimp only at hb1
      subst hb1
      have hc := Lib.cells_of_tab ht2 he hce hc2 hf
      have hjm : j < m := by
        have h2 := congrArg List.length hc
        have h3 := (List.getElem?_eq_some_iff.1 hj).1
        rw [List.length_take, List.length_map] at h2
        omega
      have h4 := congrArg (·[j]?) hc
      simp only [List.getElem?_map, hj, List.getElem?_take, if_pos hjm, List.getElem?_drop, Option.map_some] at h4
      exact h4
    · cases h

def startsZ : List (List Int) := [[0, 0, 0, 0, 0, 0, 0, 0], (startsL 1).map fun x => (x.toNat : Int), (startsL 2).map fun x => (x.toNat : Int), (startsL 3).map fun x => (x.toNat : Int), (startsL 4).map fun x => (x.toNat : Int), (startsL 5).map fun x => (x.toNat : Int)]
theorem startsZ_at (k : Nat) (h1 : 1 ≤ k) (h5 : k ≤ 5) : startsZ[k]? = some ((startsL k).map fun x => (x.toNat : Int)) := by
  rcases (by omega : k = 1 ∨ k = 2 ∨ k = 3 ∨ k = 4 ∨ k = 5) with rfl | rfl | rfl | rfl | rfl <;> rfl
theorem startsG_of {W : World} {rest : List (String × DataW Unit)} {t t2 e : TypeId} (hg : Tryd.prog.globalNamed "bailey/hashes.starts" = some 0) (hty : (Tryd.prog.globals[0]?).map (·.type) = some t)
    (ht : Tryd.prog.underlying t = some (.array 6 t2)) (ht2 : Tryd.prog.underlying t2 = some (.array 8 e)) (he : Tryd.prog.underlying e = some (.int .u64)) (hce : Tryd.prog.cellsOf e = 1) (hc2 : Tryd.prog.cellsOf t2 = 8)
    (h : laidMet Tryd.prog (("bailey/hashes.starts", .agg (startsZ.map (Lib.tabData .u64))) :: rest) W) : StartsG W := by
  obtain ⟨ps, ⟨g', t', cs, fuel, p, q, hg', ht', hvar, hd, _, _⟩, _⟩ := h
  obtain rfl := Option.some.inj (hg.symm.trans hg')
  obtain rfl := Option.some.inj (hty.symm.trans ht')
  have hc : ∀ (k : Nat) (zs : List Int), startsZ[k]? = some zs → ∀ (j : Nat) (z : Int), zs[j]? = some z → W.cell? ⟨0, k * 8 + j, none⟩ = some (.int .u64 z) := fun k zs hk j z hj => by
    have h1 := cells_of_tabs ht ht2 he hce hc2 hd hk hj
    rw [World.var?_cell hg hvar]
    simpa using h1
  refine ⟨World.block_lt_of_cell? W _ (hc 0 _ rfl 0 0 rfl), fun k h1 h5 j v hv => ?_⟩
  rw [List.getElem?_map, Option.map_eq_some_iff] at hv
  obtain ⟨x, hx, rfl⟩ := hv
  exact hc k _ (startsZ_at k h1 h5) j _ (by rw [List.getElem?_map, hx]; rfl)
theorem rootsG_of {W : World} (t : Lib.TabIs Tryd.prog W "bailey/hashes.roots" .u64 (rootsL.map fun x => (x.toNat : Int))) (g : Tryd.prog.globalNamed "bailey/hashes.roots" = some 1) : RootsG W := by
  have hl : (rootsL.map fun x => (x.toNat : Int)).length = 80 := rfl
  have hc := fun i (hi : i < 80) => t.cell g i (by rw [hl]; exact hi)
  refine ⟨World.block_lt_of_cell? W _ (hc 0 (by decide)), fun k x hx => ?_⟩
  have hk : k < 80 := (List.getElem?_eq_some_iff.1 hx).1
  rw [hc k hk, List.getD_eq_getElem?_getD, List.getElem?_map, hx]
  rfl
/-- a block's cells laid anew -/
def layAt (cs : Array Value) : Obj → Obj
  | .cells _ t frozen => .cells cs t frozen
  | o => o
def startsC : Array Value := (startsZ.flatten.map fun z => Value.int .u64 z).toArray
def rootsC : Array Value := (rootsL.map fun x => Value.int .u64 (x.toNat : Int)).toArray
theorem rows_starts : (Rows.laid_bailey_hashes_starts : DataW Unit) = .agg (startsZ.map (Lib.tabData .u64)) := by kernel_rfl
theorem rows_roots : (Rows.laid_bailey_hashes_roots : DataW Unit) = Lib.tabData .u64 (rootsL.map fun x => (x.toNat : Int)) := by kernel_rfl
theorem gStarts : Tryd.prog.globalNamed "bailey/hashes.starts" = some 0 := by kernel_rfl
theorem gRoots : Tryd.prog.globalNamed "bailey/hashes.roots" = some 1 := by kernel_rfl
theorem tStarts : (Tryd.prog.globals[0]?).map (·.type) = some 70 := by kernel_rfl
theorem tRoots : (Tryd.prog.globals[1]?).map (·.type) = some 107 := by kernel_rfl
theorem cells8 : Tryd.prog.cellsOf 69 = 8 := by kernel_rfl
theorem cells80 : Tryd.prog.cellsOf 107 = 80 := by kernel_rfl
theorem cells64 : Tryd.prog.cellsOf 68 = 1 := by kernel_rfl
theorem hashTabs {W : World} (h : laidMet Tryd.prog [("bailey/hashes.starts", Rows.laid_bailey_hashes_starts), ("bailey/hashes.roots", Rows.laid_bailey_hashes_roots)] W) : StartsG W ∧ RootsG W := by
  rw [rows_starts, rows_roots] at h
  exact ⟨startsG_of gStarts tStarts Tryd.underlying70 Tryd.underlying69 Tryd.underlying68 cells64 cells8 h,
    rootsG_of (Lib.tabIs_of_head gRoots tRoots Tryd.underlying107 Tryd.underlying68 cells64 cells80 h.tail) gRoots⟩
end Go.Proofs.YtnpaidieijlkkabDoor

/- The variables that the pad laws' cards list. -/
set_option linter.unusedVariables false
set_option linter.unusedSimpArgs false
namespace Go.Proofs.YtnpaidieijlkkabDoor
open Go.RowKit Go.Shelf
/-- the values of a flat datum, of one of rows -/
def lits1 : DataW Unit → List Value
  | .agg l => l.filterMap fun d => match d with
    | .lit (.int k n) => some (Value.int k n)
    | _ => none
  | _ => []
def lits2 : DataW Unit → List Value
  | .agg l => (l.map lits1).flatten
  | _ => []
def acceptC : Array Value := (lits2 Rows.laid_unicode_utf8_acceptRanges).toArray
def firstC : Array Value := (lits1 Rows.laid_unicode_utf8_first).toArray
theorem hashTabs8 {W : World} (h : laidMet Tryd.prog [("unicode/utf8.acceptRanges", Rows.laid_unicode_utf8_acceptRanges), ("bailey/hashes.starts", Rows.laid_bailey_hashes_starts), ("bailey/hashes.roots", Rows.laid_bailey_hashes_roots), ("unicode/utf8.first", Rows.laid_unicode_utf8_first)] W) : StartsG W ∧ RootsG W := by
  have h1 := h.tail
  rw [rows_starts, rows_roots] at h1
  exact ⟨startsG_of gStarts tStarts Tryd.underlying70 Tryd.underlying69 Tryd.underlying68 cells64 cells8 h1,
    rootsG_of (Lib.tabIs_of_head gRoots tRoots Tryd.underlying107 Tryd.underlying68 cells64 cells80 h1.tail) gRoots⟩
end Go.Proofs.YtnpaidieijlkkabDoor
