/- LimbShift, walked. -/
import Derived.Test.YtfiakaenenbhpaaRefM
import Derived.Test.YtfiakaenenbhpaaOpen
import Derived.Deep.RegionHeld3
import Derived.Deep.DeepCutAuto
namespace Go.Proofs.Ytfiakaenenbhpaa
open Go.RowKit Go.Shelf
attribute [local go_sem] Oper.semAt_some

/-- what Shl answers, whatever the shift -/
def ShlTells (N : Nat) (s : Int) (ys : List Nat) : Prop := Dg b64 ys ∧ ((s < 0 ∨ 65536 < s) → ys = []) ∧ (∀ k : Nat, s = (k : Int) → k ≤ 65536 → Nm b64 ys (N * 2 ^ k))
def ShrTells (N : Nat) (s : Int) (ys : List Nat) : Prop := Dg b64 ys ∧ (s < 0 → ys = []) ∧ (∀ k : Nat, s = (k : Int) → Nm b64 ys (N / 2 ^ k))

theorem shl_gen (w : World) (B : Nat) (hB : B ≤ w.heap.size) (A : Option Addr) (n c : Nat) (xs : List Nat) (hs : Sl w B A n c xs) (hd : Dg b64 xs) (hn : n ≤ 1000000000) (s : Int) :
    Calls Try.prog 22 #[.slice A n c, .int .i64 s] w fun e w' => ∃ A2 n2 c2 ys, e = .returned (.slice A2 n2 c2) ∧ Sl w' w'.heap.size A2 n2 c2 ys ∧ ShlTells (V b64 xs) s ys ∧ Below w.heap.size w w' := by
  by_cases h : s < 0 ∨ 65536 < s
  · refine (shl_no w B A n c xs hs s h).mono ?_
    rintro e w' ⟨rfl, rfl⟩
    exact ⟨none, 0, 0, [], rfl, Sl.nil _ _ _ (by omega), ⟨fun x hx => (by cases hx), fun _ => rfl, fun k hk hk' => (by omega)⟩, Below.refl _ _⟩
  · obtain ⟨k, rfl⟩ := Int.eq_ofNat_of_zero_le (show 0 ≤ s by omega)
    refine (shl_any w B hB A n c xs hs hd hn k (by omega)).mono ?_
    rintro e w' ⟨ys, hN, A2, n2, c2, rfl, hs2, hb⟩
    exact ⟨A2, n2, c2, ys, rfl, hs2, ⟨hN.1, fun h' => absurd h' h, fun k' hk' _ => (by have e : k = k' := (by omega); subst e; exact hN)⟩, hb⟩
theorem shr_gen (w : World) (B : Nat) (hB : B ≤ w.heap.size) (A : Option Addr) (n c : Nat) (xs : List Nat) (hs : Sl w B A n c xs) (hd : Dg b64 xs) (hn : n ≤ 1000000000) (s : Int) (hs1 : s ≤ 9223372036854775807) :
    Calls Try.prog 23 #[.slice A n c, .int .i64 s] w fun e w' => ∃ A2 n2 c2 ys, e = .returned (.slice A2 n2 c2) ∧ Sl w' w'.heap.size A2 n2 c2 ys ∧ ShrTells (V b64 xs) s ys ∧ Below w.heap.size w w' := by
  by_cases h : s < 0
  · refine (shr_no w B A n c xs hs s h).mono ?_
    rintro e w' ⟨rfl, rfl⟩
    exact ⟨none, 0, 0, [], rfl, Sl.nil _ _ _ (by omega), ⟨fun x hx => (by cases hx), fun _ => rfl, fun k hk => (by omega)⟩, Below.refl _ _⟩
  · obtain ⟨k, rfl⟩ := Int.eq_ofNat_of_zero_le (show 0 ≤ s by omega)
    refine (shr_any w B hB A n c xs hs hd hn k (by omega)).mono ?_
    rintro e w' ⟨ys, hN, A2, n2, c2, rfl, hs2, hb⟩
    exact ⟨A2, n2, c2, ys, rfl, hs2, ⟨hN.1, fun h' => absurd h' h, fun k' hk' => (by have e : k = k' := (by omega); subst e; exact hN)⟩, hb⟩

set_option maxRecDepth 100000 in
set_option maxHeartbeats 800000 in
theorem lbit_gen (w : World) (B : Nat) (A : Option Addr) (n c : Nat) (xs : List Nat) (hs : Sl w B A n c xs) (hd : Dg b64 xs) (i : Int) (hi : i ≤ 9223372036854775807) :
    Calls Try.prog 30 #[.slice A n c, .int .i64 i] w fun e w' => e = .returned (.int .u64 (if i < 0 then 0 else ((V b64 xs / 2 ^ i.toNat % 2 : Nat) : Int))) ∧ w = w' := by
  by_cases hi0 : i < 0
  · rw [if_pos hi0]
    exact bit_neg w A n c i hi0
  · rw [if_neg hi0]
    obtain ⟨i, rfl⟩ := Int.eq_ofNat_of_zero_le (Int.not_lt.1 hi0)
    rw [Int.toNat_natCast]
    exact bit_any w B A n c xs hs hd i (by omega)
theorem p2_len {ps : List Nat} {k t : Nat} (h : Nm b32 ps (2 ^ k)) (hk : k < 32 * t) : ps.length ≤ t := by
  refine h.length_le (by decide) ?_
  rw [show b32 = 2 ^ 32 from rfl, ← Nat.pow_mul]
  exact Nat.pow_lt_pow_right (by decide) hk
theorem mul_len {N k t : Nat} {zs : List Nat} (hN : N < b64 ^ 20) (h : Nm b32 zs (N * 2 ^ k)) (hk : k < 64 * t) : zs.length ≤ 2 * (20 + t) := by
  refine len32 h ?_
  rw [Nat.pow_add]
  refine Nat.mul_lt_mul'' hN ?_
  rw [b64_pow]
  exact Nat.pow_lt_pow_right (by decide) hk
theorem quo_len {N P : Nat} {zs : List Nat} (hN : N < b64 ^ 20) (h : Nm b32 zs (N / P)) : zs.length ≤ 40 := len32 (k := 20) h (Nat.lt_of_le_of_lt (Nat.div_le_self _ _) hN)
theorem newbox (w : World) (t : TypeId) (v : Value) : ∃ W, w.alloc (.cells #[v] t) = W ∧ Below w.heap.size w W ∧ W.cell? ⟨w.heap.size, 0, none⟩ = some v ∧ W.frozen? ⟨w.heap.size, 0, none⟩ = false ∧ W.heap.size = w.heap.size + 1 :=
  ⟨_, rfl, (Below.refl _ _).alloc (Nat.le_refl _) _, (Boxed.new w t v).cell, (Boxed.new w t v).frozen, by simp⟩
/-- a box below the heap's end holds v -/
def Bx (b : Nat) (v : Value) (W : World) : Prop := W.cell? ⟨b, 0, none⟩ = some v ∧ W.frozen? ⟨b, 0, none⟩ = false ∧ b < W.heap.size
theorem Bx.later {b : Nat} {v : Value} {W W' : World} (h : Bx b v W) (hb : Below W.heap.size W W') : Bx b v W' :=
  ⟨(hb.cell (p := ⟨b, 0, none⟩) h.2.2).trans h.1, (hb.frozen (p := ⟨b, 0, none⟩) h.2.2).trans h.2.1, Nat.lt_of_lt_of_le h.2.2 hb.size⟩
theorem bits_le {N k m : Nat} (h : IsBits N k) (hN : N < 2 ^ m) : k ≤ m := by
  apply Classical.byContradiction
  intro hne
  have h1 := h.2 (by omega)
  have h2 : 2 ^ m ≤ 2 ^ (k - 1) := Nat.pow_le_pow_right (by decide) (by omega)
  omega
theorem bits_le64 {N k t : Nat} (h : IsBits N k) (hN : N < b64 ^ t) : k ≤ 64 * t := by
  rw [b64_pow] at hN
  exact bits_le h hN
/-- the four ways of the law's shift -/
theorem shift_cases (K : Int) : K < 0 ∨ 65536 < K ∨ (∃ k : Nat, K = k ∧ k ≤ 5000) ∨ (∃ k j : Nat, K = k ∧ 5000 < k ∧ k ≤ 65536 ∧ k % 5001 = j ∧ j ≤ 5000) := by
  by_cases h1 : K < 0
  · exact .inl h1
  by_cases h2 : 65536 < K
  · exact .inr (.inl h2)
  obtain ⟨k, rfl⟩ := Int.eq_ofNat_of_zero_le (show 0 ≤ K by omega)
  by_cases h3 : k ≤ 5000
  · exact .inr (.inr (.inl ⟨k, rfl, h3⟩))
  · exact .inr (.inr (.inr ⟨k, k % 5001, rfl, by omega, by omega, rfl, by omega⟩))

set_option maxRecDepth 100000 in
set_option maxHeartbeats 4000000 in
theorem shift_walk (w : World) (A1 : Option Addr) (n1 c1 : Nat) (xs : List Nat) (hs1 : Sl w w.heap.size A1 n1 c1 xs) (hd1 : Dg b64 xs) (K I M : Int) (hK : K ≤ 9223372036854775807) (hI : I ≤ 9223372036854775807) :
    Calls Try.prog 5 #[.slice A1 n1 c1, .int .i64 K, .int .i64 I, .int .i64 M] w fun e w' => RetV w (.bool true) e w' := by
  have hda := hd1.take 20
  have hVa := V20 hd1
  refine (callsIn_wide (n := 9)).1 ?_
  refine callsIn_of_wp_marks Try.func5 rfl trivial ?_ rfl
  simp only [Try.ntmps5, List.size_toArray, List.length_cons, List.length_nil, Nat.reduceAdd, Nat.reduceSub, Array.replicate_succ, Array.replicate_zero, List.push_toArray, List.append_toArray, List.nil_append, List.cons_append]
  have hB : Below w.heap.size w w := Below.refl _ _
  obtain ⟨W1, e7, hc, c7, f7, s7⟩ := newbox w 3 (.int .i64 M)
  have h7 : Bx w.heap.size (.int .i64 M) W1 := ⟨c7, f7, by omega⟩
  replace hs1 := hs1.later hc (Nat.le_refl _)
  replace hB := hB.trans hc
  clear hc c7 f7
  obtain ⟨W2, e8, hc, c8, f8, s8⟩ := newbox W1 4 (.bool false)
  have h8 : Bx W1.heap.size (.bool false) W2 := ⟨c8, f8, by omega⟩
  replace hs1 := hs1.later hc (Nat.le_refl _)
  replace h7 := h7.later hc
  replace hB := hB.trans (hc.mono hB.size)
  have l78 : w.heap.size < W1.heap.size := by omega
  clear hc c8 f8 s8 s7
  obtain ⟨n0, hn0⟩ : ∃ n0, w.heap.size = n0 := ⟨_, rfl⟩
  obtain ⟨b8, hb8⟩ : ∃ n0, W1.heap.size = n0 := ⟨_, rfl⟩
  rw [hn0] at h7 l78
  rw [hb8] at h8 l78
  have HN0 := Lib.hid hn0
  gi_wp2_with fail
  clear e7 e8 hb8 W1 hn0
  refine ⟨trivial, (callsIn_wide.2 (begun_any _)).mono ?_⟩
  rintro e w3 ⟨rfl, hc⟩
  replace hs1 := hs1.later hc (Nat.le_refl _)
  replace h7 := h7.later hc
  replace h8 := h8.later hc
  replace hB := hB.trans (hc.mono hB.size)
  clear hc
  have l9 := h8.2.2
  obtain ⟨W4, e9, hc, c9, f9, s9⟩ := newbox w3 4 (.bool true)
  have h9 : Bx w3.heap.size (.bool true) W4 := ⟨c9, f9, by omega⟩
  replace hs1 := hs1.later hc (Nat.le_refl _)
  replace h7 := h7.later hc
  replace h8 := h8.later hc
  replace hB := hB.trans (hc.mono hB.size)
  clear hc
  obtain ⟨b9, hb9⟩ : ∃ b9, w3.heap.size = b9 := ⟨_, rfl⟩
  rw [hb9] at h9 l9
  gi_wp2_with fail
  clear e9 c9 f9 s9 hb9
  refine ⟨trivial, (callsIn_wide.2 (few_any W4 _ _ _ _ xs hs1)).mono ?_⟩
  rintro e w5 ⟨Aa, na, ca, rfl, ha, hc⟩
  replace hs1 := hs1.later hc (Nat.le_refl _)
  replace h7 := h7.later hc
  replace h8 := h8.later hc
  replace h9 := h9.later hc
  replace hB := hB.trans (hc.mono hB.size)
  clear hc
  clear hs1
  have hna : na ≤ 20 := by rw [ha.len, List.length_take]; exact Nat.min_le_left _ _
  obtain ⟨qa, hqa⟩ : ∃ qa, xs.take 20 = qa := ⟨_, rfl⟩
  rw [hqa] at ha hda hVa
  clear hqa hd1
  gi_wp2_with fail
  refine ⟨trivial, (callsIn_wide.2 (from_any w5 _ (Nat.le_refl _) _ _ _ _ ha hda (by omega))).mono ?_⟩
  rintro e w6 ⟨dx, hX, Ax, nx, cx, rfl, hx, hc⟩
  replace h7 := h7.later hc
  replace h8 := h8.later hc
  replace h9 := h9.later hc
  replace ha := ha.later hc (Nat.le_refl _)
  replace hB := hB.trans (hc.mono hB.size)
  clear hc
  have hnx : nx ≤ 40 := by rw [hx.len]; exact len32 hX hVa
  have l10 := h9.2.2
  obtain ⟨W7, e10, hc, c9, f9, s9⟩ := newbox w6 26 (.slice Ax nx cx)
  have h10 : Bx w6.heap.size (.slice Ax nx cx) W7 := ⟨c9, f9, by omega⟩
  replace h7 := h7.later hc
  replace h8 := h8.later hc
  replace h9 := h9.later hc
  replace ha := ha.later hc (Nat.le_refl _)
  replace hx := hx.later hc (Nat.le_refl _)
  replace hB := hB.trans (hc.mono hB.size)
  clear hc
  obtain ⟨b10, hb10⟩ : ∃ b10, w6.heap.size = b10 := ⟨_, rfl⟩
  rw [hb10] at h10 l10
  gi_wp2_with fail
  clear e10 c9 f9 s9 hb10
  refine ⟨trivial, (callsIn_wide.2 (shl_gen W7 _ (Nat.le_refl _) _ _ _ _ ha hda (by omega) K)).mono ?_⟩
  rintro e w8 ⟨Au, nu, cu, us, rfl, hu, htu, hc⟩
  replace h7 := h7.later hc
  replace h8 := h8.later hc
  replace h9 := h9.later hc
  replace ha := ha.later hc (Nat.le_refl _)
  replace hx := hx.later hc (Nat.le_refl _)
  replace h10 := h10.later hc
  replace hB := hB.trans (hc.mono hB.size)
  clear hc
  gi_wp2_with fail
  refine ⟨trivial, (callsIn_wide.2 (shr_gen w8 _ (Nat.le_refl _) _ _ _ _ ha hda (by omega) K hK)).mono ?_⟩
  rintro e w9 ⟨Ad, nd, cd, ds, rfl, hd, htd, hc⟩
  replace h7 := h7.later hc
  replace h8 := h8.later hc
  replace h9 := h9.later hc
  replace ha := ha.later hc (Nat.le_refl _)
  replace hx := hx.later hc (Nat.le_refl _)
  replace h10 := h10.later hc
  replace hu := hu.later hc (Nat.le_refl _)
  replace hB := hB.trans (hc.mono hB.size)
  clear hc
  have HTU := Lib.hid htu
  have HTD := Lib.hid htd
  clear htu htd
  rcases shift_cases K with h | h | ⟨k, rfl, hk⟩ | ⟨k, j, rfl, hk, hk2, hkj, hj⟩
  · have hl0 : nu = 0 := by rw [hu.len, HTU.out.2.1 (.inl h)]; rfl
    have hl1 : nd = 0 := by rw [hd.len, HTD.out.2.1 h]; rfl
    subst hl0 hl1
    have t1 : ¬ (5000 : Int) < K := by omega
    have c10 := h10.1
    gi_wp2_with fail
    refine ⟨trivial, (callsIn_wide.2 (rbits_any w9 _ _ _ _ dx hx _ hX (by omega))).mono ?_⟩
    rintro e wa ⟨kb, rfl, hkb, rfl⟩
    have l15 := h10.2.2
    obtain ⟨W15, e15, hc, c9, f9, s9⟩ := newbox w9 3 (.int .i64 (kb : Int))
    have h15 : Bx w9.heap.size (.int .i64 (kb : Int)) W15 := ⟨c9, f9, by omega⟩
    replace h7 := h7.later hc
    replace h8 := h8.later hc
    replace h9 := h9.later hc
    replace h10 := h10.later hc
    replace ha := ha.later hc (Nat.le_refl _)
    replace hx := hx.later hc (Nat.le_refl _)
    replace hB := hB.trans (hc.mono hB.size)
    clear hc
    obtain ⟨b15, hb15⟩ : ∃ b, w9.heap.size = b := ⟨_, rfl⟩
    rw [hb15] at h15 l15
    gi_wp2_with fail
    clear e15 c9 f9 s9 hb15 c10
    refine ⟨trivial, (callsIn_wide.2 (each_any W15 _ _ _ _ _ ha hda (by omega))).mono ?_⟩
    rintro e w16 ⟨g5, A5, n5, c5, ys5, rfl, hN5, hg5, hc5, hs5, hc⟩
    replace h7 := h7.later hc
    replace h8 := h8.later hc
    replace h9 := h9.later hc
    replace h10 := h10.later hc
    replace h15 := h15.later hc
    replace ha := ha.later hc (Nat.le_refl _)
    replace hx := hx.later hc (Nat.le_refl _)
    replace hB := hB.trans (hc.mono hB.size)
    clear hc
    have hnf := eql_nilFunc g5
    obtain ⟨W17, e17, hBW, c17, f17, s17⟩ := newbox w16 3 (.int .i64 (kb : Int))
    obtain ⟨b17, hb17⟩ : ∃ b, w16.heap.size = b := ⟨_, rfl⟩
    have c15 := h15.1
    rw [hb17] at c17 f17 s17 hBW hg5 hs5
    gi_wp2_with fail
    clear e17 hnf c15
    have hkb1 : kb ≤ 1280 := by have := bits_le64 hkb hVa; omega
    have hn5 : n5 ≤ 20 := by rw [hs5.len]; exact hN5.length_le (by decide) hVa
    have hkb2 : IsBits (V b64 ys5) kb := by rw [hN5.2.2]; exact hkb
    have hes := each_stops 8 (by decide) g5 b17 n5 c5 A5 ys5 kb hkb2 hN5.1 (by omega) (by omega) W17 (by omega) (by omega) ((hBW.cell (p := ⟨g5, 0, none⟩) hg5).trans hc5) (hs5.below hBW)
    obtain ⟨NN, hNN⟩ : ∃ NN, V b64 qa = NN := ⟨_, rfl⟩
    rw [hN5.2.2, hNN] at hes
    have HNN := Lib.hid hNN
    have HES := Lib.hid hes
    have HKB := Lib.hid hkb
    have HS17 := Lib.hid s17
    have HB17 := Lib.hid hb17
    have hXN : V b32 dx = NN := by rw [hX.2.2]; exact hNN
    have HXN := Lib.hid hXN
    have hdx := hX.1
    have HL10 := Lib.hid (show b8 < b17 ∧ b9 < b17 by rw [← hb17]; exact ⟨h8.2.2, h9.2.2⟩)
    clear hes hkb hkb2 hN5 hc5 hs5 hNN s17 hXN hX hb17
    have hBn : n0 ≤ b17 := by have := hB.size; rw [HN0.out] at this; have := HB17.out; omega
    refine wpIn_rangeFunc_ownG rfl (by omega) (gf := 50) (lb := #[.pointer (some ⟨g5, 0, none⟩)]) rfl trivial (enters_of Try.func50 (by kernel_rfl) rfl)
      HES.out KpB.trans (KpB.put (by rw [HS17.out]; omega) (by rw [HS17.out]; omega)) (Below.refl _ _) (fun _ => rfl)
      (fun pre W => (W.cell? ⟨b17, 0, none⟩ = some (.int .i64 ((kb : Int) - (pre.length : Nat))) ∧ W.frozen? ⟨b17, 0, none⟩ = false) ∧ Below w16.heap.size w16 W)
      (fun c pre W => (c = .ret ∧ ((∃ (ini : List (Ix kb)) (last : Ix kb), pre = ini ++ [last] ∧ last.1 + ini.length + 1 ≠ kb) ∨ W.cell? ⟨b8, 0, none⟩ = some (.bool true))) ∧ Below n0 w W)
      (OwnFrom.and (Own.from (fun s A B row hs hg hr => ⟨cell_kept hs.1 hg hr, (frozen_kept hs.1 hg hr).trans hs.2⟩) _) (ownFrom_below (Nat.le_refl _) (by rw [HS17.out, HB17.out]; omega)))
      (fun c => OwnFrom.and (Own.from (fun s A B row hs hg hr => ⟨hs.1, hs.2.imp id (fun h => cell_kept h hg hr)⟩) _) (ownFrom_below (by rw [← HN0.out]; exact Nat.le_refl _) (by rw [HS17.out]; omega)))
      ⟨⟨by simpa using c17, f17⟩, by rw [HB17.out]; exact hBW⟩
      ?a1x1 ?assign1 ?body1 ?done1 ?stop1
    case assign1 =>
      intro l x W K hK
      gi_wp2
      exact hK
    case body1 =>
      rintro l pre x W ⟨⟨hc, hf⟩, hBw⟩ hpl
      obtain ⟨pl, hpl2⟩ : ∃ pl, pre.length = pl := ⟨_, rfl⟩
      rw [hpl2] at hc hpl
      have HP := Lib.hid hpl2
      clear hpl2
      obtain ⟨kt, hkt⟩ : ∃ kt, kb = pl + kt := ⟨kb - pl, by omega⟩
      obtain ⟨km, hkm⟩ : ∃ km, kt = km + 1 := ⟨kt - 1, by omega⟩
      have hcK : W.cell? ⟨b17, 0, none⟩ = some (.int .i64 (kt : Int)) := by rw [hc]; congr 2; omega
      have hk1 : (kt : Int) - 1 = (km : Int) := by omega
      have hk2 : (km : Int) ≤ 1280 := by omega
      have hk3 : (kt : Int) ≤ 1280 := by omega
      obtain ⟨dd, hdd⟩ : ∃ dd, pl + 1 = dd := ⟨_, rfl⟩
      have hk4 : (kb : Int) - km = (dd : Int) := by omega
      have c7W := (h7.later hBw).1
      have c8W := (h8.later hBw).1
      have f8W := (h8.later hBw).2.1
      have c9W := (h9.later hBw).1
      have c10W := (h10.later hBw).1
      have c15W := (h15.later hBw).1
      have hxW := hx.later hBw (Nat.le_refl _)
      have n7 : n0 ≠ b17 := by have := h7.2.2; have := HB17.out; omega
      have n8 : b8 ≠ b17 := by have := h8.2.2; have := HB17.out; omega
      have n9 : b9 ≠ b17 := by have := h9.2.2; have := HB17.out; omega
      have n10 : b10 ≠ b17 := by have := h10.2.2; have := HB17.out; omega
      have n15 : b15 ≠ b17 := by have := h15.2.2; have := HB17.out; omega
      have n7' : b17 ≠ n0 := fun e => n7 e.symm
      have n8' : b17 ≠ b8 := fun e => n8 e.symm
      have n9' : b17 ≠ b9 := fun e => n9 e.symm
      have n10' : b17 ≠ b10 := fun e => n10 e.symm
      have n15' : b17 ≠ b15 := fun e => n15 e.symm
      have cS := World.cell?_setCell_same' W ⟨b17, 0, none⟩ (.int .i64 (km : Int)) (by rw [hcK]; rfl)
      obtain ⟨WS, hWS⟩ : ∃ WS, W.setCell ⟨b17, 0, none⟩ (.int .i64 (km : Int)) = WS := ⟨_, rfl⟩
      have hBS : Below b17 W WS := by rw [← hWS]; exact (Below.refl _ _).setCell (p := ⟨b17, 0, none⟩) (Nat.le_refl _) _
      have hg5S : WS.heap[g5]? = W.heap[g5]? := by rw [← hWS]; exact Below.heap_setCell _ _ _ _ (by show g5 ≠ b17; omega)
      have fS : WS.frozen? ⟨b17, 0, none⟩ = false := by rw [← hWS, World.frozen?_setCell]; exact hf
      have hKF : KeepsOthers W WS := by rw [← hWS]; exact KeepsOthers.setCell _ _ _
      rw [hWS] at cS
      have hBb : Below b17 w16 WS := by have := HB17.out; rw [this] at hBw; exact hBw.trans hBS
      have hBw' : Below w16.heap.size w16 WS := by rw [HB17.out]; exact hBb
      have c7S := (h7.later hBw').1
      have c8S := (h8.later hBw').1
      have f8S := (h8.later hBw').2.1
      have c9S := (h9.later hBw').1
      have c10S := (h10.later hBw').1
      have c15S := (h15.later hBw').1
      have hxS := hx.later hBw' (Nat.le_refl _)
      have hsS : W.heap.size ≤ WS.heap.size := hBS.size
      have HKT := Lib.hid hkt
      have HKM := Lib.hid hkm
      have HDD := Lib.hid hdd
      have hbelS : ∀ v, Below n0 w (WS.setCell ⟨b8, 0, none⟩ v) := fun v => by
        have h1 := (hB.trans (hBw'.mono hB.size)).setCell (p := ⟨b8, 0, none⟩) (by show w.heap.size ≤ b8; rw [HN0.out]; omega) v
        rw [HN0.out] at h1
        exact h1
      have HBEL := Lib.hid hbelS
      clear hc hkt hkm hdd hbelS
      obtain ⟨i, hi⟩ := x
      by_cases hx1 : i = km
      · subst hx1
        have hbit := rbit_any WS _ _ _ _ _ hxS hdx (i : Int) (by omega)
        rw [if_neg (by omega), Int.toNat_natCast, HXN.out] at hbit
        obtain ⟨bv, hbv⟩ : ∃ bv, NN / 2 ^ i % 2 = bv := ⟨_, rfl⟩
        rw [hbv] at hbit
        have hbvi : (NN : Int) / 2 ^ i % 2 = (bv : Int) := by rw [← hbv, Int.natCast_emod, Int.natCast_ediv, Int.natCast_pow]; rfl
        dsimp only
        rw [hbvi]
        clear hbvi
        have HBIT := Lib.hid hbit
        clear hbit hbv
        by_cases hM : (dd : Int) = M
        · have hMt : ((dd : Int) == M) = true := by simp [hM]
          have HM := Lib.hid hM
          clear hM
          gi_wp2_with (refine ⟨trivial, ?_⟩; gi_at_call 28; refine (CallsIn.inRound l (callsIn_wide.2 HBIT.out)).mono ?_; rintro e w' ⟨rfl, rfl⟩)
          exact ⟨(hKF.trans (KeepsOthers.setCell _ _ _)).from _, ⟨rfl, .inr (World.cell?_setCell_same' WS ⟨b8, 0, none⟩ (.bool true) (by rw [c8S]; rfl))⟩, HBEL.out _⟩
        · have hMt : ((dd : Int) == M) = false := by simp [hM]
          have HM := Lib.hid hM
          clear hM
          gi_wp2_with (refine ⟨trivial, ?_⟩; gi_at_call 28; refine (CallsIn.inRound l (callsIn_wide.2 HBIT.out)).mono ?_; rintro e w' ⟨rfl, rfl⟩)
          refine ⟨hKF.from _, ⟨hBS, hg5S⟩, ⟨?_, fS⟩, hBw'⟩
          rw [List.length_append, HP.out]
          rw [cS]
          congr 2
          have := HKT.out
          have := HKM.out
          simp
          omega
      · have hne : ((i : Int) != (km : Int)) = true := by simp; omega
        have hne2 : ((i : Int) == (km : Int)) = false := by simp; omega
        have HX1 := Lib.hid hx1
        gi_wp2
        refine ⟨trivial, ?_⟩
        gi_wp2
        refine ⟨(hKF.trans (KeepsOthers.setCell _ _ _)).from _, ⟨rfl, .inl ⟨pre, ⟨i, hi⟩, rfl, ?_⟩⟩, HBEL.out _⟩
        have := HKT.out
        have := HKM.out
        have := HP.out
        have := HX1.out
        show i + pre.length + 1 ≠ kb
        omega
    case done1 =>
      rintro D ds W hD hds ⟨⟨hc, hf⟩, hBw⟩ hK
      have hl : ds.length = kb := by have := congrArg List.length hds; simpa [downL] using this
      rw [hl] at hc
      have hc0 : W.cell? ⟨b17, 0, none⟩ = some (.int .i64 0) := by rw [hc]; congr 2; omega
      clear hds hl hc
      have c8W := (h8.later hBw).1
      have f8W := (h8.later hBw).2.1
      have c9W := (h9.later hBw).1
      have c10W := (h10.later hBw).1
      have c15W := (h15.later hBw).1
      have hxW0 := hx.later hBw (Nat.le_refl _)
      have haW0 := ha.later hBw (Nat.le_refl _)
      have hxW : Sl W.drew W.drew.heap.size Ax nx cx dx := hxW0
      have haW : Sl W.drew W.drew.heap.size Aa na ca qa := haW0
      obtain ⟨bi, hbi⟩ : ∃ z : Int, (if I < 0 then 0 else ((NN / 2 ^ I.toNat % 2 : Nat) : Int)) = z := ⟨_, rfl⟩
      have q1 := lbit_gen W.drew _ _ _ _ _ haW hda I hI
      have q2 := rbit_any W.drew _ _ _ _ _ hxW hdx I hI
      rw [HNN.out, hbi] at q1
      rw [HXN.out, hbi] at q2
      have q3 := bits_any W.drew _ _ _ _ _ haW hda (by omega)
      have Q1 := Lib.hid q1
      have Q2 := Lib.hid q2
      have Q3 := Lib.hid q3
      clear q1 q2 q3 hbi
      have hDlt : b8 ≠ D := by have := h8.2.2; have := HB17.out; have := HS17.out; omega
      gi_wp2
      have m8 : b8 ≠ b9 := by omega
      have m8' : b8 ≠ b15 := by omega
      have m8'' : b8 ≠ b10 := by omega
      have m17 : b8 ≠ b17 := by have := HL10.out; omega
      refine wpIn_wide.2 ?_
      refine wp_region_noPanic ?_
      go_region_held3 (fun w' => w'.cell? ⟨b9, 0, none⟩ = some (.bool true) ∧ w'.cell? ⟨b17, 0, none⟩ = some (.int .i64 0) ∧ w'.cell? ⟨b15, 0, none⟩ = some (.int .i64 (kb : Int)) ∧ w'.cell? ⟨b10, 0, none⟩ = some (.slice Ax nx cx)) (go_keep)
        (first | (go_at_call 29; refine Q3.out.mono ?_; rintro e w' ⟨kc, rfl, hkc, rfl⟩; obtain rfl := HKB.out.unique hkc; clear hkc) | (go_at_call 30; refine Q1.out.mono ?_; rintro e w' ⟨rfl, rfl⟩) | (go_at_call 28; refine Q2.out.mono ?_; rintro e w' ⟨rfl, rfl⟩))
      all_goals
        refine NoPanic.normal ?_
        gi_wp2
        have c8' : ((W.setCell ⟨b8, 0, none⟩ (.bool true)).drew).cell? ⟨b8, 0, none⟩ = some (.bool true) := World.cell?_setCell_same' W _ _ (by rw [c8W]; rfl)
        have hKF : ((W.setCell ⟨b8, 0, none⟩ (.bool true)).drew).heap[D]? = some (.deferred (some [])) := (KeepsOthers.setCell W ⟨b8, 0, none⟩ (.bool true)).same D _ hK rfl
        refine ⟨by simp, .inl ⟨_, _, rfl, run_takeDeferred hKF, ?_⟩⟩
        have hc5 := cell_kept c8' (grownBy_putObj' _ D (.deferred none)) (fun r e => by cases e; exact ⟨_, hKF, rfl⟩)
        refine ⟨.bool true, ?_, rfl, ?_⟩
        · simp [results, Try.f5, go_sem, hc5]
        · have hb := ((hB.trans (hBw.mono hB.size)).setCell (p := ⟨b8, 0, none⟩) (by show w.heap.size ≤ b8; rw [HN0.out]; omega) (.bool true)).drew
          rw [HN0.out] at hb ⊢
          exact hb.trans (belowK_b (w := W17) (by rw [HS17.out]; omega) _ D _ _ hD hKF rfl rfl)
    case stop1 =>
      rintro D c pre W hD ⟨k', hk', hkp⟩ ⟨⟨rfl, hor⟩, hBx⟩ hK
      have c8W : W.cell? ⟨b8, 0, none⟩ = some (.bool true) := by
        rcases hor with ⟨ini, last, e1, e2⟩ | h
        · exfalso
          rw [e1] at hkp
          obtain ⟨k2, rfl⟩ : ∃ k2, k' = k2 + 1 := by
            cases k' with
            | zero => simp [downL] at hkp
            | succ k2 => exact ⟨k2, rfl⟩
          rw [downL_succ, List.map_append] at hkp
          obtain ⟨hini, hlast⟩ := List.append_inj' hkp rfl
          have hl : last.1 = kb - 1 - k2 := by simpa using hlast
          have hl2 : ini.length = k2 := by have := congrArg List.length hini; simpa [downL] using this
          omega
        · exact h
      have HKP := Lib.hid hkp
      clear hkp hor
      gi_wp2
      refine ⟨by simp, .inl ⟨_, _, rfl, run_takeDeferred hK, ?_⟩⟩
      have hc5 := cell_kept c8W (grownBy_putObj' _ D (.deferred none)) (fun r e => by cases e; exact ⟨_, hK, rfl⟩)
      refine ⟨.bool true, ?_, rfl, ?_⟩
      · simp [results, Try.f5, go_sem, hc5]
      · rw [HN0.out]
        exact hBx.trans (belowK_b (w := W17) (by rw [HS17.out]; omega) _ D _ _ hD hK rfl rfl)
  · have hl0 : nu = 0 := by rw [hu.len, HTU.out.2.1 (.inr h)]; rfl
    subst hl0
    have t1 : (5000 : Int) < K := by omega
    have t2 : ¬ K ≤ 65536 := by omega
    have t3 : ¬ K < 0 := by omega
    have c10 := h10.1
    gi_wp2_with fail
    refine ⟨trivial, (callsIn_wide.2 (rbits_any w9 _ _ _ _ dx hx _ hX (by omega))).mono ?_⟩
    rintro e wa ⟨kb, rfl, hkb, rfl⟩
    have l15 := h10.2.2
    obtain ⟨W15, e15, hc, c9, f9, s9⟩ := newbox w9 3 (.int .i64 (kb : Int))
    have h15 : Bx w9.heap.size (.int .i64 (kb : Int)) W15 := ⟨c9, f9, by omega⟩
    replace h7 := h7.later hc
    replace h8 := h8.later hc
    replace h9 := h9.later hc
    replace h10 := h10.later hc
    replace ha := ha.later hc (Nat.le_refl _)
    replace hx := hx.later hc (Nat.le_refl _)
    replace hB := hB.trans (hc.mono hB.size)
    clear hc
    obtain ⟨b15, hb15⟩ : ∃ b, w9.heap.size = b := ⟨_, rfl⟩
    rw [hb15] at h15 l15
    gi_wp2_with fail
    clear e15 c9 f9 s9 hb15 c10
    refine ⟨trivial, (callsIn_wide.2 (each_any W15 _ _ _ _ _ ha hda (by omega))).mono ?_⟩
    rintro e w16 ⟨g5, A5, n5, c5, ys5, rfl, hN5, hg5, hc5, hs5, hc⟩
    replace h7 := h7.later hc
    replace h8 := h8.later hc
    replace h9 := h9.later hc
    replace h10 := h10.later hc
    replace h15 := h15.later hc
    replace ha := ha.later hc (Nat.le_refl _)
    replace hx := hx.later hc (Nat.le_refl _)
    replace hB := hB.trans (hc.mono hB.size)
    clear hc
    have hnf := eql_nilFunc g5
    obtain ⟨W17, e17, hBW, c17, f17, s17⟩ := newbox w16 3 (.int .i64 (kb : Int))
    obtain ⟨b17, hb17⟩ : ∃ b, w16.heap.size = b := ⟨_, rfl⟩
    have c15 := h15.1
    rw [hb17] at c17 f17 s17 hBW hg5 hs5
    gi_wp2_with fail
    clear e17 hnf c15
    have hkb1 : kb ≤ 1280 := by have := bits_le64 hkb hVa; omega
    have hn5 : n5 ≤ 20 := by rw [hs5.len]; exact hN5.length_le (by decide) hVa
    have hkb2 : IsBits (V b64 ys5) kb := by rw [hN5.2.2]; exact hkb
    have hes := each_stops 8 (by decide) g5 b17 n5 c5 A5 ys5 kb hkb2 hN5.1 (by omega) (by omega) W17 (by omega) (by omega) ((hBW.cell (p := ⟨g5, 0, none⟩) hg5).trans hc5) (hs5.below hBW)
    obtain ⟨NN, hNN⟩ : ∃ NN, V b64 qa = NN := ⟨_, rfl⟩
    rw [hN5.2.2, hNN] at hes
    have HNN := Lib.hid hNN
    have HES := Lib.hid hes
    have HKB := Lib.hid hkb
    have HS17 := Lib.hid s17
    have HB17 := Lib.hid hb17
    have hXN : V b32 dx = NN := by rw [hX.2.2]; exact hNN
    have HXN := Lib.hid hXN
    have hdx := hX.1
    have HL10 := Lib.hid (show b8 < b17 ∧ b9 < b17 by rw [← hb17]; exact ⟨h8.2.2, h9.2.2⟩)
    clear hes hkb hkb2 hN5 hc5 hs5 hNN s17 hXN hX hb17
    have hBn : n0 ≤ b17 := by have := hB.size; rw [HN0.out] at this; have := HB17.out; omega
    refine wpIn_rangeFunc_ownG rfl (by omega) (gf := 50) (lb := #[.pointer (some ⟨g5, 0, none⟩)]) rfl trivial (enters_of Try.func50 (by kernel_rfl) rfl)
      HES.out KpB.trans (KpB.put (by rw [HS17.out]; omega) (by rw [HS17.out]; omega)) (Below.refl _ _) (fun _ => rfl)
      (fun pre W => (W.cell? ⟨b17, 0, none⟩ = some (.int .i64 ((kb : Int) - (pre.length : Nat))) ∧ W.frozen? ⟨b17, 0, none⟩ = false) ∧ Below w16.heap.size w16 W)
      (fun c pre W => (c = .ret ∧ ((∃ (ini : List (Ix kb)) (last : Ix kb), pre = ini ++ [last] ∧ last.1 + ini.length + 1 ≠ kb) ∨ W.cell? ⟨b8, 0, none⟩ = some (.bool true))) ∧ Below n0 w W)
      (OwnFrom.and (Own.from (fun s A B row hs hg hr => ⟨cell_kept hs.1 hg hr, (frozen_kept hs.1 hg hr).trans hs.2⟩) _) (ownFrom_below (Nat.le_refl _) (by rw [HS17.out, HB17.out]; omega)))
      (fun c => OwnFrom.and (Own.from (fun s A B row hs hg hr => ⟨hs.1, hs.2.imp id (fun h => cell_kept h hg hr)⟩) _) (ownFrom_below (by rw [← HN0.out]; exact Nat.le_refl _) (by rw [HS17.out]; omega)))
      ⟨⟨by simpa using c17, f17⟩, by rw [HB17.out]; exact hBW⟩
      ?a1x2 ?assign2 ?body2 ?done2 ?stop2
    case assign2 =>
      intro l x W K hK
      gi_wp2
      exact hK
    case body2 =>
      rintro l pre x W ⟨⟨hc, hf⟩, hBw⟩ hpl
      obtain ⟨pl, hpl2⟩ : ∃ pl, pre.length = pl := ⟨_, rfl⟩
      rw [hpl2] at hc hpl
      have HP := Lib.hid hpl2
      clear hpl2
      obtain ⟨kt, hkt⟩ : ∃ kt, kb = pl + kt := ⟨kb - pl, by omega⟩
      obtain ⟨km, hkm⟩ : ∃ km, kt = km + 1 := ⟨kt - 1, by omega⟩
      have hcK : W.cell? ⟨b17, 0, none⟩ = some (.int .i64 (kt : Int)) := by rw [hc]; congr 2; omega
      have hk1 : (kt : Int) - 1 = (km : Int) := by omega
      have hk2 : (km : Int) ≤ 1280 := by omega
      have hk3 : (kt : Int) ≤ 1280 := by omega
      obtain ⟨dd, hdd⟩ : ∃ dd, pl + 1 = dd := ⟨_, rfl⟩
      have hk4 : (kb : Int) - km = (dd : Int) := by omega
      have c7W := (h7.later hBw).1
      have c8W := (h8.later hBw).1
      have f8W := (h8.later hBw).2.1
      have c9W := (h9.later hBw).1
      have c10W := (h10.later hBw).1
      have c15W := (h15.later hBw).1
      have hxW := hx.later hBw (Nat.le_refl _)
      have n7 : n0 ≠ b17 := by have := h7.2.2; have := HB17.out; omega
      have n8 : b8 ≠ b17 := by have := h8.2.2; have := HB17.out; omega
      have n9 : b9 ≠ b17 := by have := h9.2.2; have := HB17.out; omega
      have n10 : b10 ≠ b17 := by have := h10.2.2; have := HB17.out; omega
      have n15 : b15 ≠ b17 := by have := h15.2.2; have := HB17.out; omega
      have n7' : b17 ≠ n0 := fun e => n7 e.symm
      have n8' : b17 ≠ b8 := fun e => n8 e.symm
      have n9' : b17 ≠ b9 := fun e => n9 e.symm
      have n10' : b17 ≠ b10 := fun e => n10 e.symm
      have n15' : b17 ≠ b15 := fun e => n15 e.symm
      have cS := World.cell?_setCell_same' W ⟨b17, 0, none⟩ (.int .i64 (km : Int)) (by rw [hcK]; rfl)
      obtain ⟨WS, hWS⟩ : ∃ WS, W.setCell ⟨b17, 0, none⟩ (.int .i64 (km : Int)) = WS := ⟨_, rfl⟩
      have hBS : Below b17 W WS := by rw [← hWS]; exact (Below.refl _ _).setCell (p := ⟨b17, 0, none⟩) (Nat.le_refl _) _
      have hg5S : WS.heap[g5]? = W.heap[g5]? := by rw [← hWS]; exact Below.heap_setCell _ _ _ _ (by show g5 ≠ b17; omega)
      have fS : WS.frozen? ⟨b17, 0, none⟩ = false := by rw [← hWS, World.frozen?_setCell]; exact hf
      have hKF : KeepsOthers W WS := by rw [← hWS]; exact KeepsOthers.setCell _ _ _
      rw [hWS] at cS
      have hBb : Below b17 w16 WS := by have := HB17.out; rw [this] at hBw; exact hBw.trans hBS
      have hBw' : Below w16.heap.size w16 WS := by rw [HB17.out]; exact hBb
      have c7S := (h7.later hBw').1
      have c8S := (h8.later hBw').1
      have f8S := (h8.later hBw').2.1
      have c9S := (h9.later hBw').1
      have c10S := (h10.later hBw').1
      have c15S := (h15.later hBw').1
      have hxS := hx.later hBw' (Nat.le_refl _)
      have hsS : W.heap.size ≤ WS.heap.size := hBS.size
      have HKT := Lib.hid hkt
      have HKM := Lib.hid hkm
      have HDD := Lib.hid hdd
      have hbelS : ∀ v, Below n0 w (WS.setCell ⟨b8, 0, none⟩ v) := fun v => by
        have h1 := (hB.trans (hBw'.mono hB.size)).setCell (p := ⟨b8, 0, none⟩) (by show w.heap.size ≤ b8; rw [HN0.out]; omega) v
        rw [HN0.out] at h1
        exact h1
      have HBEL := Lib.hid hbelS
      clear hc hkt hkm hdd hbelS
      obtain ⟨i, hi⟩ := x
      by_cases hx1 : i = km
      · subst hx1
        have hbit := rbit_any WS _ _ _ _ _ hxS hdx (i : Int) (by omega)
        rw [if_neg (by omega), Int.toNat_natCast, HXN.out] at hbit
        obtain ⟨bv, hbv⟩ : ∃ bv, NN / 2 ^ i % 2 = bv := ⟨_, rfl⟩
        rw [hbv] at hbit
        have hbvi : (NN : Int) / 2 ^ i % 2 = (bv : Int) := by rw [← hbv, Int.natCast_emod, Int.natCast_ediv, Int.natCast_pow]; rfl
        dsimp only
        rw [hbvi]
        clear hbvi
        have HBIT := Lib.hid hbit
        clear hbit hbv
        by_cases hM : (dd : Int) = M
        · have hMt : ((dd : Int) == M) = true := by simp [hM]
          have HM := Lib.hid hM
          clear hM
          gi_wp2_with (refine ⟨trivial, ?_⟩; gi_at_call 28; refine (CallsIn.inRound l (callsIn_wide.2 HBIT.out)).mono ?_; rintro e w' ⟨rfl, rfl⟩)
          exact ⟨(hKF.trans (KeepsOthers.setCell _ _ _)).from _, ⟨rfl, .inr (World.cell?_setCell_same' WS ⟨b8, 0, none⟩ (.bool true) (by rw [c8S]; rfl))⟩, HBEL.out _⟩
        · have hMt : ((dd : Int) == M) = false := by simp [hM]
          have HM := Lib.hid hM
          clear hM
          gi_wp2_with (refine ⟨trivial, ?_⟩; gi_at_call 28; refine (CallsIn.inRound l (callsIn_wide.2 HBIT.out)).mono ?_; rintro e w' ⟨rfl, rfl⟩)
          refine ⟨hKF.from _, ⟨hBS, hg5S⟩, ⟨?_, fS⟩, hBw'⟩
          rw [List.length_append, HP.out]
          rw [cS]
          congr 2
          have := HKT.out
          have := HKM.out
          simp
          omega
      · have hne : ((i : Int) != (km : Int)) = true := by simp; omega
        have hne2 : ((i : Int) == (km : Int)) = false := by simp; omega
        have HX1 := Lib.hid hx1
        gi_wp2
        refine ⟨trivial, ?_⟩
        gi_wp2
        refine ⟨(hKF.trans (KeepsOthers.setCell _ _ _)).from _, ⟨rfl, .inl ⟨pre, ⟨i, hi⟩, rfl, ?_⟩⟩, HBEL.out _⟩
        have := HKT.out
        have := HKM.out
        have := HP.out
        have := HX1.out
        show i + pre.length + 1 ≠ kb
        omega
    case done2 =>
      rintro D ds W hD hds ⟨⟨hc, hf⟩, hBw⟩ hK
      have hl : ds.length = kb := by have := congrArg List.length hds; simpa [downL] using this
      rw [hl] at hc
      have hc0 : W.cell? ⟨b17, 0, none⟩ = some (.int .i64 0) := by rw [hc]; congr 2; omega
      clear hds hl hc
      have c8W := (h8.later hBw).1
      have f8W := (h8.later hBw).2.1
      have c9W := (h9.later hBw).1
      have c10W := (h10.later hBw).1
      have c15W := (h15.later hBw).1
      have hxW0 := hx.later hBw (Nat.le_refl _)
      have haW0 := ha.later hBw (Nat.le_refl _)
      have hxW : Sl W.drew W.drew.heap.size Ax nx cx dx := hxW0
      have haW : Sl W.drew W.drew.heap.size Aa na ca qa := haW0
      obtain ⟨bi, hbi⟩ : ∃ z : Int, (if I < 0 then 0 else ((NN / 2 ^ I.toNat % 2 : Nat) : Int)) = z := ⟨_, rfl⟩
      have q1 := lbit_gen W.drew _ _ _ _ _ haW hda I hI
      have q2 := rbit_any W.drew _ _ _ _ _ hxW hdx I hI
      rw [HNN.out, hbi] at q1
      rw [HXN.out, hbi] at q2
      have q3 := bits_any W.drew _ _ _ _ _ haW hda (by omega)
      have Q1 := Lib.hid q1
      have Q2 := Lib.hid q2
      have Q3 := Lib.hid q3
      clear q1 q2 q3 hbi
      have hDlt : b8 ≠ D := by have := h8.2.2; have := HB17.out; have := HS17.out; omega
      gi_wp2
      have m8 : b8 ≠ b9 := by omega
      have m8' : b8 ≠ b15 := by omega
      have m8'' : b8 ≠ b10 := by omega
      have m17 : b8 ≠ b17 := by have := HL10.out; omega
      refine wpIn_wide.2 ?_
      refine wp_region_noPanic ?_
      go_region_held3 (fun w' => w'.cell? ⟨b9, 0, none⟩ = some (.bool true) ∧ w'.cell? ⟨b17, 0, none⟩ = some (.int .i64 0) ∧ w'.cell? ⟨b15, 0, none⟩ = some (.int .i64 (kb : Int)) ∧ w'.cell? ⟨b10, 0, none⟩ = some (.slice Ax nx cx)) (go_keep)
        (first | (go_at_call 29; refine Q3.out.mono ?_; rintro e w' ⟨kc, rfl, hkc, rfl⟩; obtain rfl := HKB.out.unique hkc; clear hkc) | (go_at_call 30; refine Q1.out.mono ?_; rintro e w' ⟨rfl, rfl⟩) | (go_at_call 28; refine Q2.out.mono ?_; rintro e w' ⟨rfl, rfl⟩))
      all_goals
        refine NoPanic.normal ?_
        gi_wp2
        have c8' : ((W.setCell ⟨b8, 0, none⟩ (.bool true)).drew).cell? ⟨b8, 0, none⟩ = some (.bool true) := World.cell?_setCell_same' W _ _ (by rw [c8W]; rfl)
        have hKF : ((W.setCell ⟨b8, 0, none⟩ (.bool true)).drew).heap[D]? = some (.deferred (some [])) := (KeepsOthers.setCell W ⟨b8, 0, none⟩ (.bool true)).same D _ hK rfl
        refine ⟨by simp, .inl ⟨_, _, rfl, run_takeDeferred hKF, ?_⟩⟩
        have hc5 := cell_kept c8' (grownBy_putObj' _ D (.deferred none)) (fun r e => by cases e; exact ⟨_, hKF, rfl⟩)
        refine ⟨.bool true, ?_, rfl, ?_⟩
        · simp [results, Try.f5, go_sem, hc5]
        · have hb := ((hB.trans (hBw.mono hB.size)).setCell (p := ⟨b8, 0, none⟩) (by show w.heap.size ≤ b8; rw [HN0.out]; omega) (.bool true)).drew
          rw [HN0.out] at hb ⊢
          exact hb.trans (belowK_b (w := W17) (by rw [HS17.out]; omega) _ D _ _ hD hKF rfl rfl)
    case stop2 =>
      rintro D c pre W hD ⟨k', hk', hkp⟩ ⟨⟨rfl, hor⟩, hBx⟩ hK
      have c8W : W.cell? ⟨b8, 0, none⟩ = some (.bool true) := by
        rcases hor with ⟨ini, last, e1, e2⟩ | h
        · exfalso
          rw [e1] at hkp
          obtain ⟨k2, rfl⟩ : ∃ k2, k' = k2 + 1 := by
            cases k' with
            | zero => simp [downL] at hkp
            | succ k2 => exact ⟨k2, rfl⟩
          rw [downL_succ, List.map_append] at hkp
          obtain ⟨hini, hlast⟩ := List.append_inj' hkp rfl
          have hl : last.1 = kb - 1 - k2 := by simpa using hlast
          have hl2 : ini.length = k2 := by have := congrArg List.length hini; simpa [downL] using this
          omega
        · exact h
      have HKP := Lib.hid hkp
      clear hkp hor
      gi_wp2
      refine ⟨by simp, .inl ⟨_, _, rfl, run_takeDeferred hK, ?_⟩⟩
      have hc5 := cell_kept c8W (grownBy_putObj' _ D (.deferred none)) (fun r e => by cases e; exact ⟨_, hK, rfl⟩)
      refine ⟨.bool true, ?_, rfl, ?_⟩
      · simp [results, Try.f5, go_sem, hc5]
      · rw [HN0.out]
        exact hBx.trans (belowK_b (w := W17) (by rw [HS17.out]; omega) _ D _ _ hD hK rfl rfl)
  · have t1 : ¬ (5000 : Int) < (k : Int) := by omega
    have t2 : ¬ (k : Int) < 0 := by omega
    have t3 : ¬ (65536 : Int) < (k : Int) := by omega
    have c10 := h10.1
    gi_wp2_with fail
    refine wpIn_wide.2 ?_
    refine wp_region_noPanic ?_
    replace h7 : Bx n0 (.int .i64 M) w9.drew := h7
    replace h8 : Bx b8 (.bool false) w9.drew := h8
    replace h9 : Bx b9 (.bool true) w9.drew := h9
    replace h10 : Bx b10 (.slice Ax nx cx) w9.drew := h10
    replace ha : Sl w9.drew w9.drew.heap.size Aa na ca qa := ha
    replace hx : Sl w9.drew w9.drew.heap.size Ax nx cx dx := hx
    replace hu : Sl w9.drew w9.drew.heap.size Au nu cu us := hu
    replace hd : Sl w9.drew w9.drew.heap.size Ad nd cd ds := hd
    replace hB : Below w.heap.size w w9.drew := hB.drew
    clear c10
    have c10 := h10.1
    go_region_held3 (fun w' => w'.cell? ⟨b10, 0, none⟩ = some (.slice Ax nx cx)) (first | assumption | go_keep)
      (first | (go_at_call 25; refine (power2_any _ k (by omega)).mono ?_; rintro e wp ⟨ps, hps, Ap, np, cp, rfl, hp, hc⟩; replace h7 := h7.later hc; replace h8 := h8.later hc; replace h9 := h9.later hc; replace h10 := h10.later hc; replace ha := ha.later hc (Nat.le_refl _); replace hx := hx.later hc (Nat.le_refl _); replace hu := hu.later hc (Nat.le_refl _); replace hd := hd.later hc (Nat.le_refl _); replace hB := hB.trans (hc.mono hB.size); have c10 := h10.1; clear hc) | (go_at_call 24; refine (rquo_any wp _ _ _ _ hx _ _ _ _ hp _ _ hX hps (by omega) (by have h1 := p2_len hps (show k < 32 * 200 by omega); have h2 := hp.len; omega) (Nat.pow_pos (by decide))).mono ?_; rintro e wq ⟨A3, n3, c3, q3, A4, n4, c4, r4, rfl, hq3, hNq, hq4, hNr, hc⟩; replace h7 := h7.later hc; replace h8 := h8.later hc; replace h9 := h9.later hc; replace h10 := h10.later hc; replace ha := ha.later hc (Nat.le_refl _); replace hx := hx.later hc (Nat.le_refl _); replace hu := hu.later hc (Nat.le_refl _); replace hd := hd.later hc (Nat.le_refl _); replace hB := hB.trans (hc.mono hB.size); have c10 := h10.1; clear hc))
    all_goals
      refine NoPanic.normal ?_
      clear hp hps hq4 hNr
      gi_wp2_with fail
      refine wpIn_wide.2 ?_
      refine wp_region_noPanic ?_
      replace h7 : Bx n0 (.int .i64 M) wq.drew := h7
      replace h8 : Bx b8 (.bool false) wq.drew := h8
      replace h9 : Bx b9 (.bool true) wq.drew := h9
      replace h10 : Bx b10 (.slice Ax nx cx) wq.drew := h10
      replace ha : Sl wq.drew wq.drew.heap.size Aa na ca qa := ha
      replace hx : Sl wq.drew wq.drew.heap.size Ax nx cx dx := hx
      replace hu : Sl wq.drew wq.drew.heap.size Au nu cu us := hu
      replace hd : Sl wq.drew wq.drew.heap.size Ad nd cd ds := hd
      replace hB : Below w.heap.size w wq.drew := hB.drew
      replace hq3 : Sl wq.drew wq.drew.heap.size A3 n3 c3 q3 := hq3
      clear c10
      have c10 := h10.1
      have HQ3 := Lib.hid hNq
      clear hNq
      go_region_held3 (fun w' => w'.cell? ⟨b10, 0, none⟩ = some (.slice Ax nx cx)) (first | assumption | go_keep)
        (first | (go_at_call 25; refine (power2_any _ k (by omega)).mono ?_; rintro e wr ⟨ps, hps, Ap, np, cp, rfl, hp, hc⟩; replace hq3 := hq3.later hc (Nat.le_refl _); replace h7 := h7.later hc; replace h8 := h8.later hc; replace h9 := h9.later hc; replace h10 := h10.later hc; replace ha := ha.later hc (Nat.le_refl _); replace hx := hx.later hc (Nat.le_refl _); replace hu := hu.later hc (Nat.le_refl _); replace hd := hd.later hc (Nat.le_refl _); replace hB := hB.trans (hc.mono hB.size); have c10 := h10.1; clear hc) | (go_at_call 15; refine (rmul_any wr _ (Nat.le_refl _) _ _ _ _ hx _ _ _ _ hp hX.1 hps.1 (by omega) (by have h1 := p2_len hps (show k < 32 * 200 by omega); have h2 := hp.len; omega)).mono ?_; rintro e ws ⟨zm, hzm, Am, nm, cm, rfl, hm, hc⟩; rw [hX.2.2, hps.2.2] at hzm; replace hq3 := hq3.later hc (Nat.le_refl _); replace h7 := h7.later hc; replace h8 := h8.later hc; replace h9 := h9.later hc; replace h10 := h10.later hc; replace ha := ha.later hc (Nat.le_refl _); replace hx := hx.later hc (Nat.le_refl _); replace hu := hu.later hc (Nat.le_refl _); replace hd := hd.later hc (Nat.le_refl _); replace hB := hB.trans (hc.mono hB.size); have c10 := h10.1; clear hc) | (go_at_call_of 11 (Value.slice Au nu cu); refine (is_any ws _ (Nat.le_refl _) _ _ _ us hu _ _ _ zm hm _ (HTU.out.2.2 k rfl (by omega)) hzm (by have h1 := mul_len hVa hzm (show k < 64 * 100 by omega); have h2 := hm.len; omega)).mono ?_; rintro e wt ⟨rfl, hc⟩; replace hq3 := hq3.later hc (Nat.le_refl _); replace h7 := h7.later hc; replace h8 := h8.later hc; replace h9 := h9.later hc; replace h10 := h10.later hc; replace ha := ha.later hc (Nat.le_refl _); replace hx := hx.later hc (Nat.le_refl _); replace hu := hu.later hc (Nat.le_refl _); replace hd := hd.later hc (Nat.le_refl _); replace hB := hB.trans (hc.mono hB.size); have c10 := h10.1; clear hc) | (go_at_call 11; refine (is_any wt _ (Nat.le_refl _) _ _ _ ds hd _ _ _ q3 hq3 _ (HTD.out.2.2 k rfl) HQ3.out (by have h1 := hq3.len; have h2 := quo_len hVa HQ3.out; omega)).mono ?_; rintro e wu ⟨rfl, hc⟩; replace h7 := h7.later hc; replace h8 := h8.later hc; replace h9 := h9.later hc; replace h10 := h10.later hc; replace ha := ha.later hc (Nat.le_refl _); replace hx := hx.later hc (Nat.le_refl _); replace hu := hu.later hc (Nat.le_refl _); replace hd := hd.later hc (Nat.le_refl _); replace hB := hB.trans (hc.mono hB.size); have c10 := h10.1; clear hc))
      all_goals
        refine NoPanic.normal ?_
        clear c10
        have c10 := h10.1
        gi_wp2_with fail
        refine ⟨trivial, (callsIn_wide.2 (rbits_any wu _ _ _ _ dx hx _ hX (by omega))).mono ?_⟩
        rintro e wa ⟨kb, rfl, hkb, rfl⟩
        have l15 := h10.2.2
        obtain ⟨W15, e15, hc, c9, f9, s9⟩ := newbox wu 3 (.int .i64 (kb : Int))
        have h15 : Bx wu.heap.size (.int .i64 (kb : Int)) W15 := ⟨c9, f9, by omega⟩
        replace h7 := h7.later hc
        replace h8 := h8.later hc
        replace h9 := h9.later hc
        replace h10 := h10.later hc
        replace ha := ha.later hc (Nat.le_refl _)
        replace hx := hx.later hc (Nat.le_refl _)
        replace hB := hB.trans (hc.mono hB.size)
        clear hc
        obtain ⟨b15, hb15⟩ : ∃ b, wu.heap.size = b := ⟨_, rfl⟩
        rw [hb15] at h15 l15
        gi_wp2_with fail
        clear e15 c9 f9 s9 hb15 c10
        refine ⟨trivial, (callsIn_wide.2 (each_any W15 _ _ _ _ _ ha hda (by omega))).mono ?_⟩
        rintro e w16 ⟨g5, A5, n5, c5, ys5, rfl, hN5, hg5, hc5, hs5, hc⟩
        replace h7 := h7.later hc
        replace h8 := h8.later hc
        replace h9 := h9.later hc
        replace h10 := h10.later hc
        replace h15 := h15.later hc
        replace ha := ha.later hc (Nat.le_refl _)
        replace hx := hx.later hc (Nat.le_refl _)
        replace hB := hB.trans (hc.mono hB.size)
        clear hc
        have hnf := eql_nilFunc g5
        obtain ⟨W17, e17, hBW, c17, f17, s17⟩ := newbox w16 3 (.int .i64 (kb : Int))
        obtain ⟨b17, hb17⟩ : ∃ b, w16.heap.size = b := ⟨_, rfl⟩
        have c15 := h15.1
        rw [hb17] at c17 f17 s17 hBW hg5 hs5
        gi_wp2_with fail
        clear e17 hnf c15
        have hkb1 : kb ≤ 1280 := by have := bits_le64 hkb hVa; omega
        have hn5 : n5 ≤ 20 := by rw [hs5.len]; exact hN5.length_le (by decide) hVa
        have hkb2 : IsBits (V b64 ys5) kb := by rw [hN5.2.2]; exact hkb
        have hes := each_stops 8 (by decide) g5 b17 n5 c5 A5 ys5 kb hkb2 hN5.1 (by omega) (by omega) W17 (by omega) (by omega) ((hBW.cell (p := ⟨g5, 0, none⟩) hg5).trans hc5) (hs5.below hBW)
        obtain ⟨NN, hNN⟩ : ∃ NN, V b64 qa = NN := ⟨_, rfl⟩
        rw [hN5.2.2, hNN] at hes
        have HNN := Lib.hid hNN
        have HES := Lib.hid hes
        have HKB := Lib.hid hkb
        have HS17 := Lib.hid s17
        have HB17 := Lib.hid hb17
        have hXN : V b32 dx = NN := by rw [hX.2.2]; exact hNN
        have HXN := Lib.hid hXN
        have hdx := hX.1
        have HL10 := Lib.hid (show b8 < b17 ∧ b9 < b17 by rw [← hb17]; exact ⟨h8.2.2, h9.2.2⟩)
        clear hes hkb hkb2 hN5 hc5 hs5 hNN s17 hXN hX hb17
        have hBn : n0 ≤ b17 := by have := hB.size; rw [HN0.out] at this; have := HB17.out; omega
        refine wpIn_rangeFunc_ownG rfl (by omega) (gf := 50) (lb := #[.pointer (some ⟨g5, 0, none⟩)]) rfl trivial (enters_of Try.func50 (by kernel_rfl) rfl)
          HES.out KpB.trans (KpB.put (by rw [HS17.out]; omega) (by rw [HS17.out]; omega)) (Below.refl _ _) (fun _ => rfl)
          (fun pre W => (W.cell? ⟨b17, 0, none⟩ = some (.int .i64 ((kb : Int) - (pre.length : Nat))) ∧ W.frozen? ⟨b17, 0, none⟩ = false) ∧ Below w16.heap.size w16 W)
          (fun c pre W => (c = .ret ∧ ((∃ (ini : List (Ix kb)) (last : Ix kb), pre = ini ++ [last] ∧ last.1 + ini.length + 1 ≠ kb) ∨ W.cell? ⟨b8, 0, none⟩ = some (.bool true))) ∧ Below n0 w W)
          (OwnFrom.and (Own.from (fun s A B row hs hg hr => ⟨cell_kept hs.1 hg hr, (frozen_kept hs.1 hg hr).trans hs.2⟩) _) (ownFrom_below (Nat.le_refl _) (by rw [HS17.out, HB17.out]; omega)))
          (fun c => OwnFrom.and (Own.from (fun s A B row hs hg hr => ⟨hs.1, hs.2.imp id (fun h => cell_kept h hg hr)⟩) _) (ownFrom_below (by rw [← HN0.out]; exact Nat.le_refl _) (by rw [HS17.out]; omega)))
          ⟨⟨by simpa using c17, f17⟩, by rw [HB17.out]; exact hBW⟩
          ?a1x3 ?assign3 ?body3 ?done3 ?stop3
        case assign3 =>
          intro l x W K hK
          gi_wp2
          exact hK
        case body3 =>
          rintro l pre x W ⟨⟨hc, hf⟩, hBw⟩ hpl
          obtain ⟨pl, hpl2⟩ : ∃ pl, pre.length = pl := ⟨_, rfl⟩
          rw [hpl2] at hc hpl
          have HP := Lib.hid hpl2
          clear hpl2
          obtain ⟨kt, hkt⟩ : ∃ kt, kb = pl + kt := ⟨kb - pl, by omega⟩
          obtain ⟨km, hkm⟩ : ∃ km, kt = km + 1 := ⟨kt - 1, by omega⟩
          have hcK : W.cell? ⟨b17, 0, none⟩ = some (.int .i64 (kt : Int)) := by rw [hc]; congr 2; omega
          have hk1 : (kt : Int) - 1 = (km : Int) := by omega
          have hk2 : (km : Int) ≤ 1280 := by omega
          have hk3 : (kt : Int) ≤ 1280 := by omega
          obtain ⟨dd, hdd⟩ : ∃ dd, pl + 1 = dd := ⟨_, rfl⟩
          have hk4 : (kb : Int) - km = (dd : Int) := by omega
          have c7W := (h7.later hBw).1
          have c8W := (h8.later hBw).1
          have f8W := (h8.later hBw).2.1
          have c9W := (h9.later hBw).1
          have c10W := (h10.later hBw).1
          have c15W := (h15.later hBw).1
          have hxW := hx.later hBw (Nat.le_refl _)
          have n7 : n0 ≠ b17 := by have := h7.2.2; have := HB17.out; omega
          have n8 : b8 ≠ b17 := by have := h8.2.2; have := HB17.out; omega
          have n9 : b9 ≠ b17 := by have := h9.2.2; have := HB17.out; omega
          have n10 : b10 ≠ b17 := by have := h10.2.2; have := HB17.out; omega
          have n15 : b15 ≠ b17 := by have := h15.2.2; have := HB17.out; omega
          have n7' : b17 ≠ n0 := fun e => n7 e.symm
          have n8' : b17 ≠ b8 := fun e => n8 e.symm
          have n9' : b17 ≠ b9 := fun e => n9 e.symm
          have n10' : b17 ≠ b10 := fun e => n10 e.symm
          have n15' : b17 ≠ b15 := fun e => n15 e.symm
          have cS := World.cell?_setCell_same' W ⟨b17, 0, none⟩ (.int .i64 (km : Int)) (by rw [hcK]; rfl)
          obtain ⟨WS, hWS⟩ : ∃ WS, W.setCell ⟨b17, 0, none⟩ (.int .i64 (km : Int)) = WS := ⟨_, rfl⟩
          have hBS : Below b17 W WS := by rw [← hWS]; exact (Below.refl _ _).setCell (p := ⟨b17, 0, none⟩) (Nat.le_refl _) _
          have hg5S : WS.heap[g5]? = W.heap[g5]? := by rw [← hWS]; exact Below.heap_setCell _ _ _ _ (by show g5 ≠ b17; omega)
          have fS : WS.frozen? ⟨b17, 0, none⟩ = false := by rw [← hWS, World.frozen?_setCell]; exact hf
          have hKF : KeepsOthers W WS := by rw [← hWS]; exact KeepsOthers.setCell _ _ _
          rw [hWS] at cS
          have hBb : Below b17 w16 WS := by have := HB17.out; rw [this] at hBw; exact hBw.trans hBS
          have hBw' : Below w16.heap.size w16 WS := by rw [HB17.out]; exact hBb
          have c7S := (h7.later hBw').1
          have c8S := (h8.later hBw').1
          have f8S := (h8.later hBw').2.1
          have c9S := (h9.later hBw').1
          have c10S := (h10.later hBw').1
          have c15S := (h15.later hBw').1
          have hxS := hx.later hBw' (Nat.le_refl _)
          have hsS : W.heap.size ≤ WS.heap.size := hBS.size
          have HKT := Lib.hid hkt
          have HKM := Lib.hid hkm
          have HDD := Lib.hid hdd
          have hbelS : ∀ v, Below n0 w (WS.setCell ⟨b8, 0, none⟩ v) := fun v => by
            have h1 := (hB.trans (hBw'.mono hB.size)).setCell (p := ⟨b8, 0, none⟩) (by show w.heap.size ≤ b8; rw [HN0.out]; omega) v
            rw [HN0.out] at h1
            exact h1
          have HBEL := Lib.hid hbelS
          clear hc hkt hkm hdd hbelS
          obtain ⟨i, hi⟩ := x
          by_cases hx1 : i = km
          · subst hx1
            have hbit := rbit_any WS _ _ _ _ _ hxS hdx (i : Int) (by omega)
            rw [if_neg (by omega), Int.toNat_natCast, HXN.out] at hbit
            obtain ⟨bv, hbv⟩ : ∃ bv, NN / 2 ^ i % 2 = bv := ⟨_, rfl⟩
            rw [hbv] at hbit
            have hbvi : (NN : Int) / 2 ^ i % 2 = (bv : Int) := by rw [← hbv, Int.natCast_emod, Int.natCast_ediv, Int.natCast_pow]; rfl
            dsimp only
            rw [hbvi]
            clear hbvi
            have HBIT := Lib.hid hbit
            clear hbit hbv
            by_cases hM : (dd : Int) = M
            · have hMt : ((dd : Int) == M) = true := by simp [hM]
              have HM := Lib.hid hM
              clear hM
              gi_wp2_with (refine ⟨trivial, ?_⟩; gi_at_call 28; refine (CallsIn.inRound l (callsIn_wide.2 HBIT.out)).mono ?_; rintro e w' ⟨rfl, rfl⟩)
              exact ⟨(hKF.trans (KeepsOthers.setCell _ _ _)).from _, ⟨rfl, .inr (World.cell?_setCell_same' WS ⟨b8, 0, none⟩ (.bool true) (by rw [c8S]; rfl))⟩, HBEL.out _⟩
            · have hMt : ((dd : Int) == M) = false := by simp [hM]
              have HM := Lib.hid hM
              clear hM
              gi_wp2_with (refine ⟨trivial, ?_⟩; gi_at_call 28; refine (CallsIn.inRound l (callsIn_wide.2 HBIT.out)).mono ?_; rintro e w' ⟨rfl, rfl⟩)
              refine ⟨hKF.from _, ⟨hBS, hg5S⟩, ⟨?_, fS⟩, hBw'⟩
              rw [List.length_append, HP.out]
              rw [cS]
              congr 2
              have := HKT.out
              have := HKM.out
              simp
              omega
          · have hne : ((i : Int) != (km : Int)) = true := by simp; omega
            have hne2 : ((i : Int) == (km : Int)) = false := by simp; omega
            have HX1 := Lib.hid hx1
            gi_wp2
            refine ⟨trivial, ?_⟩
            gi_wp2
            refine ⟨(hKF.trans (KeepsOthers.setCell _ _ _)).from _, ⟨rfl, .inl ⟨pre, ⟨i, hi⟩, rfl, ?_⟩⟩, HBEL.out _⟩
            have := HKT.out
            have := HKM.out
            have := HP.out
            have := HX1.out
            show i + pre.length + 1 ≠ kb
            omega
        case done3 =>
          rintro D ds W hD hds ⟨⟨hc, hf⟩, hBw⟩ hK
          have hl : ds.length = kb := by have := congrArg List.length hds; simpa [downL] using this
          rw [hl] at hc
          have hc0 : W.cell? ⟨b17, 0, none⟩ = some (.int .i64 0) := by rw [hc]; congr 2; omega
          clear hds hl hc
          have c8W := (h8.later hBw).1
          have f8W := (h8.later hBw).2.1
          have c9W := (h9.later hBw).1
          have c10W := (h10.later hBw).1
          have c15W := (h15.later hBw).1
          have hxW0 := hx.later hBw (Nat.le_refl _)
          have haW0 := ha.later hBw (Nat.le_refl _)
          have hxW : Sl W.drew W.drew.heap.size Ax nx cx dx := hxW0
          have haW : Sl W.drew W.drew.heap.size Aa na ca qa := haW0
          obtain ⟨bi, hbi⟩ : ∃ z : Int, (if I < 0 then 0 else ((NN / 2 ^ I.toNat % 2 : Nat) : Int)) = z := ⟨_, rfl⟩
          have q1 := lbit_gen W.drew _ _ _ _ _ haW hda I hI
          have q2 := rbit_any W.drew _ _ _ _ _ hxW hdx I hI
          rw [HNN.out, hbi] at q1
          rw [HXN.out, hbi] at q2
          have q3 := bits_any W.drew _ _ _ _ _ haW hda (by omega)
          have Q1 := Lib.hid q1
          have Q2 := Lib.hid q2
          have Q3 := Lib.hid q3
          clear q1 q2 q3 hbi
          have hDlt : b8 ≠ D := by have := h8.2.2; have := HB17.out; have := HS17.out; omega
          gi_wp2
          have m8 : b8 ≠ b9 := by omega
          have m8' : b8 ≠ b15 := by omega
          have m8'' : b8 ≠ b10 := by omega
          have m17 : b8 ≠ b17 := by have := HL10.out; omega
          refine wpIn_wide.2 ?_
          refine wp_region_noPanic ?_
          go_region_held3 (fun w' => w'.cell? ⟨b9, 0, none⟩ = some (.bool true) ∧ w'.cell? ⟨b17, 0, none⟩ = some (.int .i64 0) ∧ w'.cell? ⟨b15, 0, none⟩ = some (.int .i64 (kb : Int)) ∧ w'.cell? ⟨b10, 0, none⟩ = some (.slice Ax nx cx)) (go_keep)
            (first | (go_at_call 29; refine Q3.out.mono ?_; rintro e w' ⟨kc, rfl, hkc, rfl⟩; obtain rfl := HKB.out.unique hkc; clear hkc) | (go_at_call 30; refine Q1.out.mono ?_; rintro e w' ⟨rfl, rfl⟩) | (go_at_call 28; refine Q2.out.mono ?_; rintro e w' ⟨rfl, rfl⟩))
          all_goals
            refine NoPanic.normal ?_
            gi_wp2
            have c8' : ((W.setCell ⟨b8, 0, none⟩ (.bool true)).drew).cell? ⟨b8, 0, none⟩ = some (.bool true) := World.cell?_setCell_same' W _ _ (by rw [c8W]; rfl)
            have hKF : ((W.setCell ⟨b8, 0, none⟩ (.bool true)).drew).heap[D]? = some (.deferred (some [])) := (KeepsOthers.setCell W ⟨b8, 0, none⟩ (.bool true)).same D _ hK rfl
            refine ⟨by simp, .inl ⟨_, _, rfl, run_takeDeferred hKF, ?_⟩⟩
            have hc5 := cell_kept c8' (grownBy_putObj' _ D (.deferred none)) (fun r e => by cases e; exact ⟨_, hKF, rfl⟩)
            refine ⟨.bool true, ?_, rfl, ?_⟩
            · simp [results, Try.f5, go_sem, hc5]
            · have hb := ((hB.trans (hBw.mono hB.size)).setCell (p := ⟨b8, 0, none⟩) (by show w.heap.size ≤ b8; rw [HN0.out]; omega) (.bool true)).drew
              rw [HN0.out] at hb ⊢
              exact hb.trans (belowK_b (w := W17) (by rw [HS17.out]; omega) _ D _ _ hD hKF rfl rfl)
        case stop3 =>
          rintro D c pre W hD ⟨k', hk', hkp⟩ ⟨⟨rfl, hor⟩, hBx⟩ hK
          have c8W : W.cell? ⟨b8, 0, none⟩ = some (.bool true) := by
            rcases hor with ⟨ini, last, e1, e2⟩ | h
            · exfalso
              rw [e1] at hkp
              obtain ⟨k2, rfl⟩ : ∃ k2, k' = k2 + 1 := by
                cases k' with
                | zero => simp [downL] at hkp
                | succ k2 => exact ⟨k2, rfl⟩
              rw [downL_succ, List.map_append] at hkp
              obtain ⟨hini, hlast⟩ := List.append_inj' hkp rfl
              have hl : last.1 = kb - 1 - k2 := by simpa using hlast
              have hl2 : ini.length = k2 := by have := congrArg List.length hini; simpa [downL] using this
              omega
            · exact h
          have HKP := Lib.hid hkp
          clear hkp hor
          gi_wp2
          refine ⟨by simp, .inl ⟨_, _, rfl, run_takeDeferred hK, ?_⟩⟩
          have hc5 := cell_kept c8W (grownBy_putObj' _ D (.deferred none)) (fun r e => by cases e; exact ⟨_, hK, rfl⟩)
          refine ⟨.bool true, ?_, rfl, ?_⟩
          · simp [results, Try.f5, go_sem, hc5]
          · rw [HN0.out]
            exact hBx.trans (belowK_b (w := W17) (by rw [HS17.out]; omega) _ D _ _ hD hK rfl rfl)
  · have t1 : (5000 : Int) < (k : Int) := by omega
    have t2 : (k : Int) ≤ 65536 := by omega
    have t4 : (k : Int) % 5001 = (j : Int) := by omega
    have t5 : (k : Int).tmod 5001 = (j : Int) := by rw [Int.tmod_eq_emod_of_nonneg (by omega)]; exact t4
    have t6 : ¬ (j : Int) < 0 := by omega
    have t7 : ¬ (65536 : Int) < (j : Int) := by omega
    clear hkj hu hd HTU HTD
    gi_wp2_with fail
    refine ⟨trivial, (callsIn_wide.2 (shl_gen w9 _ (Nat.le_refl _) _ _ _ _ ha hda (by omega) (j : Int))).mono ?_⟩
    rintro e wc ⟨Au', nu', cu', us', rfl, hu, htu, hc⟩
    replace h7 := h7.later hc
    replace h8 := h8.later hc
    replace h9 := h9.later hc
    replace h10 := h10.later hc
    replace ha := ha.later hc (Nat.le_refl _)
    replace hx := hx.later hc (Nat.le_refl _)
    replace hB := hB.trans (hc.mono hB.size)
    clear hc
    gi_wp2_with fail
    refine ⟨trivial, (callsIn_wide.2 (shr_gen wc _ (Nat.le_refl _) _ _ _ _ ha hda (by omega) (j : Int) (by omega))).mono ?_⟩
    rintro e wd ⟨Ad', nd', cd', ds', rfl, hd, htd, hc⟩
    replace hu := hu.later hc (Nat.le_refl _)
    replace h7 := h7.later hc
    replace h8 := h8.later hc
    replace h9 := h9.later hc
    replace h10 := h10.later hc
    replace ha := ha.later hc (Nat.le_refl _)
    replace hx := hx.later hc (Nat.le_refl _)
    replace hB := hB.trans (hc.mono hB.size)
    clear hc
    have HTU := Lib.hid htu
    have HTD := Lib.hid htd
    clear htu htd t4 t5
    have c10 := h10.1
    gi_wp2_with fail
    refine wpIn_wide.2 ?_
    refine wp_region_noPanic ?_
    replace h7 : Bx n0 (.int .i64 M) wd.drew := h7
    replace h8 : Bx b8 (.bool false) wd.drew := h8
    replace h9 : Bx b9 (.bool true) wd.drew := h9
    replace h10 : Bx b10 (.slice Ax nx cx) wd.drew := h10
    replace ha : Sl wd.drew wd.drew.heap.size Aa na ca qa := ha
    replace hx : Sl wd.drew wd.drew.heap.size Ax nx cx dx := hx
    replace hu : Sl wd.drew wd.drew.heap.size Au' nu' cu' us' := hu
    replace hd : Sl wd.drew wd.drew.heap.size Ad' nd' cd' ds' := hd
    replace hB : Below w.heap.size w wd.drew := hB.drew
    clear c10
    have c10 := h10.1
    go_region_held3 (fun w' => w'.cell? ⟨b10, 0, none⟩ = some (.slice Ax nx cx)) (first | assumption | go_keep)
      (first | (go_at_call 25; refine (power2_any _ j (by omega)).mono ?_; rintro e wp ⟨ps, hps, Ap, np, cp, rfl, hp, hc⟩; replace h7 := h7.later hc; replace h8 := h8.later hc; replace h9 := h9.later hc; replace h10 := h10.later hc; replace ha := ha.later hc (Nat.le_refl _); replace hx := hx.later hc (Nat.le_refl _); replace hu := hu.later hc (Nat.le_refl _); replace hd := hd.later hc (Nat.le_refl _); replace hB := hB.trans (hc.mono hB.size); have c10 := h10.1; clear hc) | (go_at_call 24; refine (rquo_any wp _ _ _ _ hx _ _ _ _ hp _ _ hX hps (by omega) (by have h1 := p2_len hps (show j < 32 * 200 by omega); have h2 := hp.len; omega) (Nat.pow_pos (by decide))).mono ?_; rintro e wq ⟨A3, n3, c3, q3, A4, n4, c4, r4, rfl, hq3, hNq, hq4, hNr, hc⟩; replace h7 := h7.later hc; replace h8 := h8.later hc; replace h9 := h9.later hc; replace h10 := h10.later hc; replace ha := ha.later hc (Nat.le_refl _); replace hx := hx.later hc (Nat.le_refl _); replace hu := hu.later hc (Nat.le_refl _); replace hd := hd.later hc (Nat.le_refl _); replace hB := hB.trans (hc.mono hB.size); have c10 := h10.1; clear hc))
    all_goals
      refine NoPanic.normal ?_
      clear hp hps hq4 hNr
      gi_wp2_with fail
      refine wpIn_wide.2 ?_
      refine wp_region_noPanic ?_
      replace h7 : Bx n0 (.int .i64 M) wq.drew := h7
      replace h8 : Bx b8 (.bool false) wq.drew := h8
      replace h9 : Bx b9 (.bool true) wq.drew := h9
      replace h10 : Bx b10 (.slice Ax nx cx) wq.drew := h10
      replace ha : Sl wq.drew wq.drew.heap.size Aa na ca qa := ha
      replace hx : Sl wq.drew wq.drew.heap.size Ax nx cx dx := hx
      replace hu : Sl wq.drew wq.drew.heap.size Au' nu' cu' us' := hu
      replace hd : Sl wq.drew wq.drew.heap.size Ad' nd' cd' ds' := hd
      replace hB : Below w.heap.size w wq.drew := hB.drew
      replace hq3 : Sl wq.drew wq.drew.heap.size A3 n3 c3 q3 := hq3
      clear c10
      have c10 := h10.1
      have HQ3 := Lib.hid hNq
      clear hNq
      go_region_held3 (fun w' => w'.cell? ⟨b10, 0, none⟩ = some (.slice Ax nx cx)) (first | assumption | go_keep)
        (first | (go_at_call 25; refine (power2_any _ j (by omega)).mono ?_; rintro e wr ⟨ps, hps, Ap, np, cp, rfl, hp, hc⟩; replace hq3 := hq3.later hc (Nat.le_refl _); replace h7 := h7.later hc; replace h8 := h8.later hc; replace h9 := h9.later hc; replace h10 := h10.later hc; replace ha := ha.later hc (Nat.le_refl _); replace hx := hx.later hc (Nat.le_refl _); replace hu := hu.later hc (Nat.le_refl _); replace hd := hd.later hc (Nat.le_refl _); replace hB := hB.trans (hc.mono hB.size); have c10 := h10.1; clear hc) | (go_at_call 15; refine (rmul_any wr _ (Nat.le_refl _) _ _ _ _ hx _ _ _ _ hp hX.1 hps.1 (by omega) (by have h1 := p2_len hps (show j < 32 * 200 by omega); have h2 := hp.len; omega)).mono ?_; rintro e ws ⟨zm, hzm, Am, nm, cm, rfl, hm, hc⟩; rw [hX.2.2, hps.2.2] at hzm; replace hq3 := hq3.later hc (Nat.le_refl _); replace h7 := h7.later hc; replace h8 := h8.later hc; replace h9 := h9.later hc; replace h10 := h10.later hc; replace ha := ha.later hc (Nat.le_refl _); replace hx := hx.later hc (Nat.le_refl _); replace hu := hu.later hc (Nat.le_refl _); replace hd := hd.later hc (Nat.le_refl _); replace hB := hB.trans (hc.mono hB.size); have c10 := h10.1; clear hc) | (go_at_call_of 11 (Value.slice Au' nu' cu'); refine (is_any ws _ (Nat.le_refl _) _ _ _ us' hu _ _ _ zm hm _ (HTU.out.2.2 j rfl (by omega)) hzm (by have h1 := mul_len hVa hzm (show j < 64 * 100 by omega); have h2 := hm.len; omega)).mono ?_; rintro e wt ⟨rfl, hc⟩; replace hq3 := hq3.later hc (Nat.le_refl _); replace h7 := h7.later hc; replace h8 := h8.later hc; replace h9 := h9.later hc; replace h10 := h10.later hc; replace ha := ha.later hc (Nat.le_refl _); replace hx := hx.later hc (Nat.le_refl _); replace hu := hu.later hc (Nat.le_refl _); replace hd := hd.later hc (Nat.le_refl _); replace hB := hB.trans (hc.mono hB.size); have c10 := h10.1; clear hc) | (go_at_call 11; refine (is_any wt _ (Nat.le_refl _) _ _ _ ds' hd _ _ _ q3 hq3 _ (HTD.out.2.2 j rfl) HQ3.out (by have h1 := hq3.len; have h2 := quo_len hVa HQ3.out; omega)).mono ?_; rintro e wu ⟨rfl, hc⟩; replace h7 := h7.later hc; replace h8 := h8.later hc; replace h9 := h9.later hc; replace h10 := h10.later hc; replace ha := ha.later hc (Nat.le_refl _); replace hx := hx.later hc (Nat.le_refl _); replace hu := hu.later hc (Nat.le_refl _); replace hd := hd.later hc (Nat.le_refl _); replace hB := hB.trans (hc.mono hB.size); have c10 := h10.1; clear hc))
      all_goals
        refine NoPanic.normal ?_
        clear c10
        have c10 := h10.1
        gi_wp2_with fail
        refine ⟨trivial, (callsIn_wide.2 (rbits_any wu _ _ _ _ dx hx _ hX (by omega))).mono ?_⟩
        rintro e wa ⟨kb, rfl, hkb, rfl⟩
        have l15 := h10.2.2
        obtain ⟨W15, e15, hc, c9, f9, s9⟩ := newbox wu 3 (.int .i64 (kb : Int))
        have h15 : Bx wu.heap.size (.int .i64 (kb : Int)) W15 := ⟨c9, f9, by omega⟩
        replace h7 := h7.later hc
        replace h8 := h8.later hc
        replace h9 := h9.later hc
        replace h10 := h10.later hc
        replace ha := ha.later hc (Nat.le_refl _)
        replace hx := hx.later hc (Nat.le_refl _)
        replace hB := hB.trans (hc.mono hB.size)
        clear hc
        obtain ⟨b15, hb15⟩ : ∃ b, wu.heap.size = b := ⟨_, rfl⟩
        rw [hb15] at h15 l15
        gi_wp2_with fail
        clear e15 c9 f9 s9 hb15 c10
        refine ⟨trivial, (callsIn_wide.2 (each_any W15 _ _ _ _ _ ha hda (by omega))).mono ?_⟩
        rintro e w16 ⟨g5, A5, n5, c5, ys5, rfl, hN5, hg5, hc5, hs5, hc⟩
        replace h7 := h7.later hc
        replace h8 := h8.later hc
        replace h9 := h9.later hc
        replace h10 := h10.later hc
        replace h15 := h15.later hc
        replace ha := ha.later hc (Nat.le_refl _)
        replace hx := hx.later hc (Nat.le_refl _)
        replace hB := hB.trans (hc.mono hB.size)
        clear hc
        have hnf := eql_nilFunc g5
        obtain ⟨W17, e17, hBW, c17, f17, s17⟩ := newbox w16 3 (.int .i64 (kb : Int))
        obtain ⟨b17, hb17⟩ : ∃ b, w16.heap.size = b := ⟨_, rfl⟩
        have c15 := h15.1
        rw [hb17] at c17 f17 s17 hBW hg5 hs5
        gi_wp2_with fail
        clear e17 hnf c15
        have hkb1 : kb ≤ 1280 := by have := bits_le64 hkb hVa; omega
        have hn5 : n5 ≤ 20 := by rw [hs5.len]; exact hN5.length_le (by decide) hVa
        have hkb2 : IsBits (V b64 ys5) kb := by rw [hN5.2.2]; exact hkb
        have hes := each_stops 8 (by decide) g5 b17 n5 c5 A5 ys5 kb hkb2 hN5.1 (by omega) (by omega) W17 (by omega) (by omega) ((hBW.cell (p := ⟨g5, 0, none⟩) hg5).trans hc5) (hs5.below hBW)
        obtain ⟨NN, hNN⟩ : ∃ NN, V b64 qa = NN := ⟨_, rfl⟩
        rw [hN5.2.2, hNN] at hes
        have HNN := Lib.hid hNN
        have HES := Lib.hid hes
        have HKB := Lib.hid hkb
        have HS17 := Lib.hid s17
        have HB17 := Lib.hid hb17
        have hXN : V b32 dx = NN := by rw [hX.2.2]; exact hNN
        have HXN := Lib.hid hXN
        have hdx := hX.1
        have HL10 := Lib.hid (show b8 < b17 ∧ b9 < b17 by rw [← hb17]; exact ⟨h8.2.2, h9.2.2⟩)
        clear hes hkb hkb2 hN5 hc5 hs5 hNN s17 hXN hX hb17
        have hBn : n0 ≤ b17 := by have := hB.size; rw [HN0.out] at this; have := HB17.out; omega
        refine wpIn_rangeFunc_ownG rfl (by omega) (gf := 50) (lb := #[.pointer (some ⟨g5, 0, none⟩)]) rfl trivial (enters_of Try.func50 (by kernel_rfl) rfl)
          HES.out KpB.trans (KpB.put (by rw [HS17.out]; omega) (by rw [HS17.out]; omega)) (Below.refl _ _) (fun _ => rfl)
          (fun pre W => (W.cell? ⟨b17, 0, none⟩ = some (.int .i64 ((kb : Int) - (pre.length : Nat))) ∧ W.frozen? ⟨b17, 0, none⟩ = false) ∧ Below w16.heap.size w16 W)
          (fun c pre W => (c = .ret ∧ ((∃ (ini : List (Ix kb)) (last : Ix kb), pre = ini ++ [last] ∧ last.1 + ini.length + 1 ≠ kb) ∨ W.cell? ⟨b8, 0, none⟩ = some (.bool true))) ∧ Below n0 w W)
          (OwnFrom.and (Own.from (fun s A B row hs hg hr => ⟨cell_kept hs.1 hg hr, (frozen_kept hs.1 hg hr).trans hs.2⟩) _) (ownFrom_below (Nat.le_refl _) (by rw [HS17.out, HB17.out]; omega)))
          (fun c => OwnFrom.and (Own.from (fun s A B row hs hg hr => ⟨hs.1, hs.2.imp id (fun h => cell_kept h hg hr)⟩) _) (ownFrom_below (by rw [← HN0.out]; exact Nat.le_refl _) (by rw [HS17.out]; omega)))
          ⟨⟨by simpa using c17, f17⟩, by rw [HB17.out]; exact hBW⟩
          ?a1x4 ?assign4 ?body4 ?done4 ?stop4
        case assign4 =>
          intro l x W K hK
          gi_wp2
          exact hK
        case body4 =>
          rintro l pre x W ⟨⟨hc, hf⟩, hBw⟩ hpl
          obtain ⟨pl, hpl2⟩ : ∃ pl, pre.length = pl := ⟨_, rfl⟩
          rw [hpl2] at hc hpl
          have HP := Lib.hid hpl2
          clear hpl2
          obtain ⟨kt, hkt⟩ : ∃ kt, kb = pl + kt := ⟨kb - pl, by omega⟩
          obtain ⟨km, hkm⟩ : ∃ km, kt = km + 1 := ⟨kt - 1, by omega⟩
          have hcK : W.cell? ⟨b17, 0, none⟩ = some (.int .i64 (kt : Int)) := by rw [hc]; congr 2; omega
          have hk1 : (kt : Int) - 1 = (km : Int) := by omega
          have hk2 : (km : Int) ≤ 1280 := by omega
          have hk3 : (kt : Int) ≤ 1280 := by omega
          obtain ⟨dd, hdd⟩ : ∃ dd, pl + 1 = dd := ⟨_, rfl⟩
          have hk4 : (kb : Int) - km = (dd : Int) := by omega
          have c7W := (h7.later hBw).1
          have c8W := (h8.later hBw).1
          have f8W := (h8.later hBw).2.1
          have c9W := (h9.later hBw).1
          have c10W := (h10.later hBw).1
          have c15W := (h15.later hBw).1
          have hxW := hx.later hBw (Nat.le_refl _)
          have n7 : n0 ≠ b17 := by have := h7.2.2; have := HB17.out; omega
          have n8 : b8 ≠ b17 := by have := h8.2.2; have := HB17.out; omega
          have n9 : b9 ≠ b17 := by have := h9.2.2; have := HB17.out; omega
          have n10 : b10 ≠ b17 := by have := h10.2.2; have := HB17.out; omega
          have n15 : b15 ≠ b17 := by have := h15.2.2; have := HB17.out; omega
          have n7' : b17 ≠ n0 := fun e => n7 e.symm
          have n8' : b17 ≠ b8 := fun e => n8 e.symm
          have n9' : b17 ≠ b9 := fun e => n9 e.symm
          have n10' : b17 ≠ b10 := fun e => n10 e.symm
          have n15' : b17 ≠ b15 := fun e => n15 e.symm
          have cS := World.cell?_setCell_same' W ⟨b17, 0, none⟩ (.int .i64 (km : Int)) (by rw [hcK]; rfl)
          obtain ⟨WS, hWS⟩ : ∃ WS, W.setCell ⟨b17, 0, none⟩ (.int .i64 (km : Int)) = WS := ⟨_, rfl⟩
          have hBS : Below b17 W WS := by rw [← hWS]; exact (Below.refl _ _).setCell (p := ⟨b17, 0, none⟩) (Nat.le_refl _) _
          have hg5S : WS.heap[g5]? = W.heap[g5]? := by rw [← hWS]; exact Below.heap_setCell _ _ _ _ (by show g5 ≠ b17; omega)
          have fS : WS.frozen? ⟨b17, 0, none⟩ = false := by rw [← hWS, World.frozen?_setCell]; exact hf
          have hKF : KeepsOthers W WS := by rw [← hWS]; exact KeepsOthers.setCell _ _ _
          rw [hWS] at cS
          have hBb : Below b17 w16 WS := by have := HB17.out; rw [this] at hBw; exact hBw.trans hBS
          have hBw' : Below w16.heap.size w16 WS := by rw [HB17.out]; exact hBb
          have c7S := (h7.later hBw').1
          have c8S := (h8.later hBw').1
          have f8S := (h8.later hBw').2.1
          have c9S := (h9.later hBw').1
          have c10S := (h10.later hBw').1
          have c15S := (h15.later hBw').1
          have hxS := hx.later hBw' (Nat.le_refl _)
          have hsS : W.heap.size ≤ WS.heap.size := hBS.size
          have HKT := Lib.hid hkt
          have HKM := Lib.hid hkm
          have HDD := Lib.hid hdd
          have hbelS : ∀ v, Below n0 w (WS.setCell ⟨b8, 0, none⟩ v) := fun v => by
            have h1 := (hB.trans (hBw'.mono hB.size)).setCell (p := ⟨b8, 0, none⟩) (by show w.heap.size ≤ b8; rw [HN0.out]; omega) v
            rw [HN0.out] at h1
            exact h1
          have HBEL := Lib.hid hbelS
          clear hc hkt hkm hdd hbelS
          obtain ⟨i, hi⟩ := x
          by_cases hx1 : i = km
          · subst hx1
            have hbit := rbit_any WS _ _ _ _ _ hxS hdx (i : Int) (by omega)
            rw [if_neg (by omega), Int.toNat_natCast, HXN.out] at hbit
            obtain ⟨bv, hbv⟩ : ∃ bv, NN / 2 ^ i % 2 = bv := ⟨_, rfl⟩
            rw [hbv] at hbit
            have hbvi : (NN : Int) / 2 ^ i % 2 = (bv : Int) := by rw [← hbv, Int.natCast_emod, Int.natCast_ediv, Int.natCast_pow]; rfl
            dsimp only
            rw [hbvi]
            clear hbvi
            have HBIT := Lib.hid hbit
            clear hbit hbv
            by_cases hM : (dd : Int) = M
            · have hMt : ((dd : Int) == M) = true := by simp [hM]
              have HM := Lib.hid hM
              clear hM
              gi_wp2_with (refine ⟨trivial, ?_⟩; gi_at_call 28; refine (CallsIn.inRound l (callsIn_wide.2 HBIT.out)).mono ?_; rintro e w' ⟨rfl, rfl⟩)
              exact ⟨(hKF.trans (KeepsOthers.setCell _ _ _)).from _, ⟨rfl, .inr (World.cell?_setCell_same' WS ⟨b8, 0, none⟩ (.bool true) (by rw [c8S]; rfl))⟩, HBEL.out _⟩
            · have hMt : ((dd : Int) == M) = false := by simp [hM]
              have HM := Lib.hid hM
              clear hM
              gi_wp2_with (refine ⟨trivial, ?_⟩; gi_at_call 28; refine (CallsIn.inRound l (callsIn_wide.2 HBIT.out)).mono ?_; rintro e w' ⟨rfl, rfl⟩)
              refine ⟨hKF.from _, ⟨hBS, hg5S⟩, ⟨?_, fS⟩, hBw'⟩
              rw [List.length_append, HP.out]
              rw [cS]
              congr 2
              have := HKT.out
              have := HKM.out
              simp
              omega
          · have hne : ((i : Int) != (km : Int)) = true := by simp; omega
            have hne2 : ((i : Int) == (km : Int)) = false := by simp; omega
            have HX1 := Lib.hid hx1
            gi_wp2
            refine ⟨trivial, ?_⟩
            gi_wp2
            refine ⟨(hKF.trans (KeepsOthers.setCell _ _ _)).from _, ⟨rfl, .inl ⟨pre, ⟨i, hi⟩, rfl, ?_⟩⟩, HBEL.out _⟩
            have := HKT.out
            have := HKM.out
            have := HP.out
            have := HX1.out
            show i + pre.length + 1 ≠ kb
            omega
        case done4 =>
          rintro D ds W hD hds ⟨⟨hc, hf⟩, hBw⟩ hK
          have hl : ds.length = kb := by have := congrArg List.length hds; simpa [downL] using this
          rw [hl] at hc
          have hc0 : W.cell? ⟨b17, 0, none⟩ = some (.int .i64 0) := by rw [hc]; congr 2; omega
          clear hds hl hc
          have c8W := (h8.later hBw).1
          have f8W := (h8.later hBw).2.1
          have c9W := (h9.later hBw).1
          have c10W := (h10.later hBw).1
          have c15W := (h15.later hBw).1
          have hxW0 := hx.later hBw (Nat.le_refl _)
          have haW0 := ha.later hBw (Nat.le_refl _)
          have hxW : Sl W.drew W.drew.heap.size Ax nx cx dx := hxW0
          have haW : Sl W.drew W.drew.heap.size Aa na ca qa := haW0
          obtain ⟨bi, hbi⟩ : ∃ z : Int, (if I < 0 then 0 else ((NN / 2 ^ I.toNat % 2 : Nat) : Int)) = z := ⟨_, rfl⟩
          have q1 := lbit_gen W.drew _ _ _ _ _ haW hda I hI
          have q2 := rbit_any W.drew _ _ _ _ _ hxW hdx I hI
          rw [HNN.out, hbi] at q1
          rw [HXN.out, hbi] at q2
          have q3 := bits_any W.drew _ _ _ _ _ haW hda (by omega)
          have Q1 := Lib.hid q1
          have Q2 := Lib.hid q2
          have Q3 := Lib.hid q3
          clear q1 q2 q3 hbi
          have hDlt : b8 ≠ D := by have := h8.2.2; have := HB17.out; have := HS17.out; omega
          gi_wp2
          have m8 : b8 ≠ b9 := by omega
          have m8' : b8 ≠ b15 := by omega
          have m8'' : b8 ≠ b10 := by omega
          have m17 : b8 ≠ b17 := by have := HL10.out; omega
          refine wpIn_wide.2 ?_
          refine wp_region_noPanic ?_
          go_region_held3 (fun w' => w'.cell? ⟨b9, 0, none⟩ = some (.bool true) ∧ w'.cell? ⟨b17, 0, none⟩ = some (.int .i64 0) ∧ w'.cell? ⟨b15, 0, none⟩ = some (.int .i64 (kb : Int)) ∧ w'.cell? ⟨b10, 0, none⟩ = some (.slice Ax nx cx)) (go_keep)
            (first | (go_at_call 29; refine Q3.out.mono ?_; rintro e w' ⟨kc, rfl, hkc, rfl⟩; obtain rfl := HKB.out.unique hkc; clear hkc) | (go_at_call 30; refine Q1.out.mono ?_; rintro e w' ⟨rfl, rfl⟩) | (go_at_call 28; refine Q2.out.mono ?_; rintro e w' ⟨rfl, rfl⟩))
          all_goals
            refine NoPanic.normal ?_
            gi_wp2
            have c8' : ((W.setCell ⟨b8, 0, none⟩ (.bool true)).drew).cell? ⟨b8, 0, none⟩ = some (.bool true) := World.cell?_setCell_same' W _ _ (by rw [c8W]; rfl)
            have hKF : ((W.setCell ⟨b8, 0, none⟩ (.bool true)).drew).heap[D]? = some (.deferred (some [])) := (KeepsOthers.setCell W ⟨b8, 0, none⟩ (.bool true)).same D _ hK rfl
            refine ⟨by simp, .inl ⟨_, _, rfl, run_takeDeferred hKF, ?_⟩⟩
            have hc5 := cell_kept c8' (grownBy_putObj' _ D (.deferred none)) (fun r e => by cases e; exact ⟨_, hKF, rfl⟩)
            refine ⟨.bool true, ?_, rfl, ?_⟩
            · simp [results, Try.f5, go_sem, hc5]
            · have hb := ((hB.trans (hBw.mono hB.size)).setCell (p := ⟨b8, 0, none⟩) (by show w.heap.size ≤ b8; rw [HN0.out]; omega) (.bool true)).drew
              rw [HN0.out] at hb ⊢
              exact hb.trans (belowK_b (w := W17) (by rw [HS17.out]; omega) _ D _ _ hD hKF rfl rfl)
        case stop4 =>
          rintro D c pre W hD ⟨k', hk', hkp⟩ ⟨⟨rfl, hor⟩, hBx⟩ hK
          have c8W : W.cell? ⟨b8, 0, none⟩ = some (.bool true) := by
            rcases hor with ⟨ini, last, e1, e2⟩ | h
            · exfalso
              rw [e1] at hkp
              obtain ⟨k2, rfl⟩ : ∃ k2, k' = k2 + 1 := by
                cases k' with
                | zero => simp [downL] at hkp
                | succ k2 => exact ⟨k2, rfl⟩
              rw [downL_succ, List.map_append] at hkp
              obtain ⟨hini, hlast⟩ := List.append_inj' hkp rfl
              have hl : last.1 = kb - 1 - k2 := by simpa using hlast
              have hl2 : ini.length = k2 := by have := congrArg List.length hini; simpa [downL] using this
              omega
            · exact h
          have HKP := Lib.hid hkp
          clear hkp hor
          gi_wp2
          refine ⟨by simp, .inl ⟨_, _, rfl, run_takeDeferred hK, ?_⟩⟩
          have hc5 := cell_kept c8W (grownBy_putObj' _ D (.deferred none)) (fun r e => by cases e; exact ⟨_, hK, rfl⟩)
          refine ⟨.bool true, ?_, rfl, ?_⟩
          · simp [results, Try.f5, go_sem, hc5]
          · rw [HN0.out]
            exact hBx.trans (belowK_b (w := W17) (by rw [HS17.out]; omega) _ D _ _ hD hK rfl rfl)
end Go.Proofs.Ytfiakaenenbhpaa
