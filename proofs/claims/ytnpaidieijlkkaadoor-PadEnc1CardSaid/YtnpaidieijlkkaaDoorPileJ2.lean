/- Parts of one proof, joined: Hc, Hd, He. -/
import Derived.Test.YtnpaidieijlkkaaDoorPileJ1

/- hashes: mix32. -/
set_option linter.unusedVariables false
set_option linter.unusedSimpArgs false
namespace Go.Proofs.YtnpaidieijlkkaaDoor
open Go.RowKit Go.Shelf

def next32 (ws : List (BitVec 32)) (t : Nat) : BitVec 32 :=
  ws.getD (t - 16) 0 + ws.getD (t - 7) 0 + (rl32 25 (ws.getD (t - 15) 0) ^^^ rl32 14 (ws.getD (t - 15) 0) ^^^ ws.getD (t - 15) 0 >>> 3) + (rl32 15 (ws.getD (t - 2) 0) ^^^ rl32 13 (ws.getD (t - 2) 0) ^^^ ws.getD (t - 2) 0 >>> 10)
def sched32 (bs : List (BitVec 8)) : Nat → List (BitVec 32)
  | 0 => []
  | t + 1 => sched32 bs t ++ [if t < 16 then rd32 bs t else next32 (sched32 bs t) t]
theorem sched32_length (bs : List (BitVec 8)) : ∀ t, (sched32 bs t).length = t
  | 0 => rfl
  | t + 1 => by simp [sched32, sched32_length bs t]
theorem set_end {α : Type} (l : List α) (z y : α) (m k : Nat) (h : l.length = k) : (l ++ List.replicate (m + 1) z).set k y = (l ++ [y]) ++ List.replicate m z := by
  subst h
  rw [List.set_append_right _ _ (Nat.le_refl _), Nat.sub_self, List.replicate_succ, List.set_cons_zero]
  simp
theorem get_pre {α : Type} (l r : List α) (d : α) (i : Nat) (h : i < l.length) : (l ++ r)[i]? = some (l.getD i d) := by
  rw [List.getElem?_append_left h, List.getD_eq_getElem?_getD, List.getElem?_eq_getElem h]; rfl
theorem get_end {α : Type} (l : List α) (z : α) (m k : Nat) (h : l.length = k) : (l ++ List.replicate (m + 1) z)[k]? = some z := by
  subst h
  rw [List.getElem?_append_right (Nat.le_refl _), Nat.sub_self]; rfl

structure H32 where
  a : BitVec 32
  b : BitVec 32
  c : BitVec 32
  d : BitVec 32
  e : BitVec 32
  f : BitVec 32
  g : BitVec 32
  h : BitVec 32
def round32 (k wt : BitVec 32) (s : H32) : H32 :=
  ⟨(s.h + (rl32 26 s.e ^^^ rl32 21 s.e ^^^ rl32 7 s.e) + ((s.e &&& s.f) ^^^ (~~~s.e &&& s.g)) + k + wt) + ((rl32 30 s.a ^^^ rl32 19 s.a ^^^ rl32 10 s.a) + ((s.a &&& s.b) ^^^ (s.a &&& s.c) ^^^ (s.b &&& s.c))), s.a, s.b, s.c,
    s.d + (s.h + (rl32 26 s.e ^^^ rl32 21 s.e ^^^ rl32 7 s.e) + ((s.e &&& s.f) ^^^ (~~~s.e &&& s.g)) + k + wt), s.e, s.f, s.g⟩
def rootsL : List (BitVec 64) := [0x428a2f98d728ae22, 0x7137449123ef65cd, 0xb5c0fbcfec4d3b2f, 0xe9b5dba58189dbbc, 0x3956c25bf348b538, 0x59f111f1b605d019, 0x923f82a4af194f9b, 0xab1c5ed5da6d8118, 0xd807aa98a3030242, 0x12835b0145706fbe, 0x243185be4ee4b28c, 0x550c7dc3d5ffb4e2, 0x72be5d74f27b896f, 0x80deb1fe3b1696b1, 0x9bdc06a725c71235, 0xc19bf174cf692694, 0xe49b69c19ef14ad2, 0xefbe4786384f25e3, 0x0fc19dc68b8cd5b5, 0x240ca1cc77ac9c65, 0x2de92c6f592b0275, 0x4a7484aa6ea6e483, 0x5cb0a9dcbd41fbd4, 0x76f988da831153b5, 0x983e5152ee66dfab, 0xa831c66d2db43210, 0xb00327c898fb213f, 0xbf597fc7beef0ee4, 0xc6e00bf33da88fc2, 0xd5a79147930aa725, 0x06ca6351e003826f, 0x142929670a0e6e70, 0x27b70a8546d22ffc, 0x2e1b21385c26c926, 0x4d2c6dfc5ac42aed, 0x53380d139d95b3df, 0x650a73548baf63de, 0x766a0abb3c77b2a8, 0x81c2c92e47edaee6, 0x92722c851482353b, 0xa2bfe8a14cf10364, 0xa81a664bbc423001, 0xc24b8b70d0f89791, 0xc76c51a30654be30, 0xd192e819d6ef5218, 0xd69906245565a910, 0xf40e35855771202a, 0x106aa07032bbd1b8, 0x19a4c116b8d2d0c8, 0x1e376c085141ab53, 0x2748774cdf8eeb99, 0x34b0bcb5e19b48a8, 0x391c0cb3c5c95a63, 0x4ed8aa4ae3418acb, 0x5b9cca4f7763e373, 0x682e6ff3d6b2b8a3, 0x748f82ee5defb2fc, 0x78a5636f43172f60, 0x84c87814a1f0ab72, 0x8cc702081a6439ec, 0x90befffa23631e28, 0xa4506cebde82bde9, 0xbef9a3f7b2c67915, 0xc67178f2e372532b, 0xca273eceea26619c, 0xd186b8c721c0c207, 0xeada7dd6cde0eb1e, 0xf57d4f7fee6ed178, 0x06f067aa72176fba, 0x0a637dc5a2c898a6, 0x113f9804bef90dae, 0x1b710b35131c471b, 0x28db77f523047d84, 0x32caab7b40c72493, 0x3c9ebe0a15c9bebc, 0x431d67c49c100d4c, 0x4cc5d4becb3e42b6, 0x597f299cfc657e2a, 0x5fcb6fab3ad6faec, 0x6c44198c4a475817]
def RootsG (w : World) : Prop := 4 < w.heap.size ∧ ∀ (k : Nat) (x : BitVec 64), rootsL[k]? = some x → w.cell? ⟨4, k, none⟩ = some (W64 x)
theorem RootsG.later {w w' : World} (h : RootsG w) (hb : Below w.heap.size w w') : RootsG w' := ⟨Nat.lt_of_lt_of_le h.1 hb.size, fun k x hx => (hb.cell (p := ⟨4, k, none⟩) h.1).trans (h.2 k x hx)⟩
def K32 (t : Nat) : BitVec 32 := (rootsL.getD t 0 >>> 32).setWidth 32
def st32 (ws : List (BitVec 32)) (s0 : H32) : Nat → H32
  | 0 => s0
  | t + 1 => round32 (K32 t) (ws.getD t 0) (st32 ws s0 t)
def H32.ofL (l : List (BitVec 32)) : H32 := ⟨l.getD 0 0, l.getD 1 0, l.getD 2 0, l.getD 3 0, l.getD 4 0, l.getD 5 0, l.getD 6 0, l.getD 7 0⟩
def H32.toL (s : H32) : List (BitVec 32) := [s.a, s.b, s.c, s.d, s.e, s.f, s.g, s.h]
/-- a block is taken into the words -/
def comp32 (xs : List (BitVec 64)) (bs : List (BitVec 8)) : List (BitVec 64) := addL (lowL xs) (st32 (sched32 bs 64) (H32.ofL (lowL xs)) 64).toL
theorem list8 {α : Type} {l : List α} (h : l.length = 8) : ∃ a b c d e f g i, l = [a, b, c, d, e, f, g, i] := by
  match l, h with
  | [a, b, c, d, e, f, g, i], _ => exact ⟨a, b, c, d, e, f, g, i, rfl⟩
theorem run_index64 (w : World) (ws : List (BitVec 32)) (hl : ws.length = 64) (k : Nat) (hk : k < 64) : (Instr.index 171 (.agg (ws.map W32).toArray) (.int .i64 (k : Int))).run Tryd.prog w = .ok (W32 (ws.getD k 0)) w := by
  have h0 : (0 : Int) ≤ k := by omega
  have h2 : (ws.map W32)[k]? = some (W32 (ws.getD k 0)) := by rw [List.getElem?_map, List.getD_eq_getElem?_getD, List.getElem?_eq_getElem (by omega)]; rfl
  obtain ⟨vs, hvs⟩ : ∃ vs, ws.map W32 = vs := ⟨_, rfl⟩
  obtain ⟨v, hv⟩ : ∃ v, W32 (ws.getD k 0) = v := ⟨_, rfl⟩
  rw [hvs, hv] at h2
  rw [hvs, hv]
  simp only [Instr.index, asIntOf, Sem.run_bind, Sem.run_pure, Result.andThen_ok, run_underlying Tryd.underlying171]
  simp [h0, part, h2, go_sem]
  intro h
  exact absurd h (by omega)
theorem Tryd.arr6432 : (Tryd.prog.info? 171).map (·.size) = some 64 := by kernel_rfl

/-- the schedule's round from 16 on: facts of memory -/
structure Sch (w : World) (g t : Nat) (ws : List (BitVec 32)) : Prop where
  row : RowV 171 w g ((ws ++ List.replicate (64 - t) 0).map W32)
  len : ws.length = t
theorem Sch.at_ {w : World} {g t : Nat} {ws : List (BitVec 32)} (h : Sch w g t ws) {i : Nat} (hi : i < t) : w.cell? ⟨g, i, none⟩ = some (W32 (ws.getD i 0)) :=
  h.row.at_ (by rw [List.getElem?_map, get_pre _ _ 0 _ (by rw [h.len]; exact hi)]; rfl)
theorem Sch.end_ {w : World} {g t : Nat} {ws : List (BitVec 32)} (h : Sch w g t ws) (ht : t < 64) : w.cell? ⟨g, t, none⟩ = some (.int .u32 0) :=
  h.row.at_ (by rw [List.getElem?_map, show 64 - t = (63 - t) + 1 by omega, get_end _ _ _ _ h.len]; rfl)
theorem Sch.put {w : World} {g t : Nat} {ws : List (BitVec 32)} (h : Sch w g t ws) (ht : t < 64) (y : BitVec 32) : Sch (w.setCell ⟨g, t, none⟩ (W32 y)) g (t + 1) (ws ++ [y]) :=
  ⟨by
    have h2 := h.row.set t (W32 y)
    rw [← List.map_set, show 64 - t = (64 - (t + 1)) + 1 by omega, set_end _ _ _ _ _ h.len] at h2
    exact h2, by simp [h.len]⟩

set_option maxRecDepth 100000 in
set_option maxHeartbeats 4000000 in
theorem mix32_any (w : World) (xs : List (BitVec 64)) (hl : xs.length = 8) (B b off n c : Nat) (bs : List (BitVec 8)) (hs : SlV w B (some ⟨b, off, none⟩) n c (bs.map W8)) (hn : n = 64) (hB : B ≤ w.heap.size) (hG : RootsG w) :
    Calls Tryd.prog 132 #[.agg (xs.map W64).toArray, .slice (some ⟨b, off, none⟩) n c] w fun e w' => e = .returned (.agg ((comp32 xs bs).map W64).toArray) ∧ Below w.heap.size w w' := by
  have hlm : (xs.map W64).length = 8 := by simpa using hl
  have HGR := Lib.hid hG
  clear hG
  obtain ⟨R, hR⟩ : ∃ R, comp32 xs bs = R := ⟨_, rfl⟩
  rw [hR]
  have HRES := Lib.hid hR
  clear hR
  obtain ⟨W1, e1, r1, b1, z1⟩ := newV w 122 (xs.map W64) _ rfl
  obtain ⟨W2, e2, r2, b2, z2⟩ := newV W1 122 ((List.replicate 8 (0 : BitVec 64)).map W64) #[.int .u64 0, .int .u64 0, .int .u64 0, .int .u64 0, .int .u64 0, .int .u64 0, .int .u64 0, .int .u64 0] rfl
  obtain ⟨W3, e3, r3, b3, z3⟩ := newV W2 171 ((List.replicate 64 (0 : BitVec 32)).map W32) #[.int .u32 0, .int .u32 0, .int .u32 0, .int .u32 0, .int .u32 0, .int .u32 0, .int .u32 0, .int .u32 0, .int .u32 0, .int .u32 0, .int .u32 0, .int .u32 0, .int .u32 0, .int .u32 0, .int .u32 0, .int .u32 0, .int .u32 0, .int .u32 0, .int .u32 0, .int .u32 0, .int .u32 0, .int .u32 0, .int .u32 0, .int .u32 0, .int .u32 0, .int .u32 0, .int .u32 0, .int .u32 0, .int .u32 0, .int .u32 0, .int .u32 0, .int .u32 0, .int .u32 0, .int .u32 0, .int .u32 0, .int .u32 0, .int .u32 0, .int .u32 0, .int .u32 0, .int .u32 0, .int .u32 0, .int .u32 0, .int .u32 0, .int .u32 0, .int .u32 0, .int .u32 0, .int .u32 0, .int .u32 0, .int .u32 0, .int .u32 0, .int .u32 0, .int .u32 0, .int .u32 0, .int .u32 0, .int .u32 0, .int .u32 0, .int .u32 0, .int .u32 0, .int .u32 0, .int .u32 0, .int .u32 0, .int .u32 0, .int .u32 0, .int .u32 0] rfl
  obtain ⟨g1, hg1⟩ : ∃ g, w.heap.size = g := ⟨_, rfl⟩
  obtain ⟨g2, hg2⟩ : ∃ g, W1.heap.size = g := ⟨_, rfl⟩
  obtain ⟨g3, hg3⟩ : ∃ g, W2.heap.size = g := ⟨_, rfl⟩
  have r1 := (r1.later b2).later b3
  have r2 := r2.later b3
  have hbl : Below w.heap.size w W3 := b1.trans ((b2.trans (b3.mono b2.size)).mono b1.size)
  have hs3 := hs.below (hbl.mono hB)
  rw [hg3] at r3
  rw [hg2] at r2
  rw [hg1] at r1 hbl
  have h12 : g1 < g2 := by omega
  have h23 : g2 < g3 := by omega
  have HG := Lib.hid hg1
  have HBB := Lib.hid hB
  have hB1 : B ≤ g1 := by omega
  have hmx : Tryd.prog.follows .mixedOrders = true := by kernel_rfl
  have hrot := rot32_any
  have HROT := Lib.hid hrot
  clear b1 b2 b3 z1 z2 z3 hs3 hrot
  go_enter Tryd.func132, Tryd.ntmps132
  go_wp2
  clear e1 e2 e3 hg1 hg2 hg3
  go_loopw [23] (fun i wr => ∃ t : Nat, t ≤ 64 ∧ i = .int .i64 (t : Nat) ∧ Sch wr g3 t (sched32 bs t) ∧ RowV 122 wr g1 (xs.map W64) ∧ RowV 122 wr g2 ((List.replicate 8 (0 : BitVec 64)).map W64) ∧ Below g1 w wr) (fun i _ => 64 - (intOf i).toNat)
  case atStart => exact ⟨0, by decide, rfl, ⟨r3, rfl⟩, r1, r2, hbl⟩
  case round =>
    obtain ⟨t, ht, rfl, hsc, hr1, hr2, hBr⟩ := hrel
    have hsr := hs.below ((HG.out ▸ hBr : Below w.heap.size w wr).mono HBB.out)
    by_cases ht64 : t = 64
    · subst ht64
      obtain ⟨ws, hws⟩ : ∃ ws, sched32 bs 64 = ws := ⟨_, rfl⟩
      rw [hws] at hsc
      have hrow3 : RowV 171 wr g3 (ws.map W32) := by
        have h := hsc.row
        rw [Nat.sub_self] at h
        simpa using h
      have hwl : (ws.map W32).length = 64 := by simpa using hsc.len
      have hwl0 : ws.length = 64 := hsc.len
      have hlo := lower_any wr xs hl
      obtain ⟨ss, hss⟩ : ∃ ss, lowL xs = ss := ⟨_, rfl⟩
      have hsl : ss.length = 8 := by rw [← hss]; simp [lowL, hl]
      rw [hss] at hlo
      have HLO := Lib.hid hlo
      have HWS := Lib.hid hws
      have HSS := Lib.hid hss
      clear hsc hsr hws hss hlo
      go_wp2_with (refine wlv_load rfl 122 8 _ Tryd.underlying122 Tryd.arr64 _ rfl g1 rfl _ _ hr1 hlm ?_)
      refine HLO.out.mono ?_
      rintro e w2 ⟨rfl, hb2⟩
      have hrow3 := hrow3.later hb2
      have hr2 := hr2.later hb2
      have hBr := hBr.trans (hb2.mono (by have := hBr.size; have := HG.out; omega))
      obtain ⟨W4, e4, r4, b4, z4⟩ := newV w2 167 ((List.replicate 8 (0 : BitVec 32)).map W32) #[.int .u32 0, .int .u32 0, .int .u32 0, .int .u32 0, .int .u32 0, .int .u32 0, .int .u32 0, .int .u32 0] rfl
      obtain ⟨g4, hg4⟩ : ∃ g, w2.heap.size = g := ⟨_, rfl⟩
      have h3lt := Lib.hid hrow3.lt
      have hrow3 := hrow3.later b4
      have hr2 := hr2.later b4
      have hBr := hBr.trans (b4.mono (by have := hBr.size; have := HG.out; omega))
      rw [hg4] at r4
      have hlz : ((List.replicate 8 (0 : BitVec 32)).map W32).length = 8 := by simp
      have hlss : (ss.map W32).length = 8 := by simpa using hsl
      clear hb2 b4 z4
      go_wp2_with (refine wlv_store rfl 167 8 Tryd.arr32 _ _ rfl g4 (ss.map W32) rfl rfl _ _ r4 hlz hlss (ones32 _) ?_; intro w5 hr5 hb5 hz5)
      obtain ⟨s0, s1, s2, s3, s4, s5, s6, s7, hs8⟩ := list8 hsl
      have hb45 : Below g4 W4 w5 := hb5 _ _ (Below.refl _ _) (Nat.le_refl _)
      have h3l : g3 < g4 := by have := hrow3.lt; have := h3lt.out; omega
      have hrow3 := hrow3.below hb45 h3l
      have hr2 := hr2.below hb45 (by omega)
      have hBr : Below g1 w w5 := hBr.trans (hb45.mono (by omega))
      subst hs8
      have cl : ∀ (k : Nat) (x : BitVec 32), [s0, s1, s2, s3, s4, s5, s6, s7][k]? = some x → w5.cell? ⟨g4, k, none⟩ = some (W32 x) := fun k x hx => hr5.at_ (by rw [List.getElem?_map, hx]; rfl)
      have d0 := cl 0 s0 rfl
      have d1 := cl 1 s1 rfl
      have d2 := cl 2 s2 rfl
      have d3 := cl 3 s3 rfl
      have d4 := cl 4 s4 rfl
      have d5 := cl 5 s5 rfl
      have d6 := cl 6 s6 rfl
      have d7 := cl 7 s7 rfl
      clear cl e4 hb5 hb45
      refine (wpIn_wide (n := 9)).1 (wpIn_region_pure0 rfl hmx [(77, .pointer (some ⟨g4, 0, none⟩)), (78, W32 s0), (79, .pointer (some ⟨g4, 1, none⟩)), (80, W32 s1), (81, .pointer (some ⟨g4, 2, none⟩)), (82, W32 s2), (83, .pointer (some ⟨g4, 3, none⟩)), (84, W32 s3), (85, .pointer (some ⟨g4, 4, none⟩)), (86, W32 s4), (87, .pointer (some ⟨g4, 5, none⟩)), (88, W32 s5), (89, .pointer (some ⟨g4, 6, none⟩)), (90, W32 s6), (91, .pointer (some ⟨g4, 7, none⟩)), (92, W32 s7), (11, W32 s0), (12, W32 s1), (13, W32 s2), (14, W32 s3), (15, W32 s4), (16, W32 s5), (17, W32 s6), (18, W32 s7)] (by kernel_rfl) (by kernel_rfl) (by kernel_rfl) (by kernel_rfl) (by first | rfl | simp) ?ops12 ?end12)
      case ops12 =>
        intro i o hi ho
        have hi3 : i < 24 := hi
        have hi2 : i = 0 ∨ i = 1 ∨ i = 2 ∨ i = 3 ∨ i = 4 ∨ i = 5 ∨ i = 6 ∨ i = 7 ∨ i = 8 ∨ i = 9 ∨ i = 10 ∨ i = 11 ∨ i = 12 ∨ i = 13 ∨ i = 14 ∨ i = 15 ∨ i = 16 ∨ i = 17 ∨ i = 18 ∨ i = 19 ∨ i = 20 ∨ i = 21 ∨ i = 22 ∨ i = 23 := by omega
        rcases hi2 with rfl | rfl | rfl | rfl | rfl | rfl | rfl | rfl | rfl | rfl | rfl | rfl | rfl | rfl | rfl | rfl | rfl | rfl | rfl | rfl | rfl | rfl | rfl | rfl
        all_goals
          have ho' := ho
          simp only [List.getElem?_toArray, List.getElem?_cons_zero, List.getElem?_cons_succ, Option.some.injEq] at ho'
          subst ho'
          refine ⟨(by intro c h; cases h), fun q => ⟨fun _ _ => trivial, ?_⟩⟩
        · exact .inl (by simp [execOp, evP, valP, Act.eval, List.lookup_cons, go_sem, d0, d1, d2, d3, d4, d5, d6, d7])
        · exact .inl (by simp [execOp, evP, valP, Act.eval, List.lookup_cons, go_sem, d0, d1, d2, d3, d4, d5, d6, d7])
        · exact .inl (by simp [execOp, evP, valP, Act.eval, List.lookup_cons, go_sem, d0, d1, d2, d3, d4, d5, d6, d7])
        · exact .inl (by simp [execOp, evP, valP, Act.eval, List.lookup_cons, go_sem, d0, d1, d2, d3, d4, d5, d6, d7])
        · exact .inl (by simp [execOp, evP, valP, Act.eval, List.lookup_cons, go_sem, d0, d1, d2, d3, d4, d5, d6, d7])
        · exact .inl (by simp [execOp, evP, valP, Act.eval, List.lookup_cons, go_sem, d0, d1, d2, d3, d4, d5, d6, d7])
        · exact .inl (by simp [execOp, evP, valP, Act.eval, List.lookup_cons, go_sem, d0, d1, d2, d3, d4, d5, d6, d7])
        · exact .inl (by simp [execOp, evP, valP, Act.eval, List.lookup_cons, go_sem, d0, d1, d2, d3, d4, d5, d6, d7])
        · exact .inl (by simp [execOp, evP, valP, Act.eval, List.lookup_cons, go_sem, d0, d1, d2, d3, d4, d5, d6, d7])
        · exact .inl (by simp [execOp, evP, valP, Act.eval, List.lookup_cons, go_sem, d0, d1, d2, d3, d4, d5, d6, d7])
        · exact .inl (by simp [execOp, evP, valP, Act.eval, List.lookup_cons, go_sem, d0, d1, d2, d3, d4, d5, d6, d7])
        · exact .inl (by simp [execOp, evP, valP, Act.eval, List.lookup_cons, go_sem, d0, d1, d2, d3, d4, d5, d6, d7])
        · exact .inl (by simp [execOp, evP, valP, Act.eval, List.lookup_cons, go_sem, d0, d1, d2, d3, d4, d5, d6, d7])
        · exact .inl (by simp [execOp, evP, valP, Act.eval, List.lookup_cons, go_sem, d0, d1, d2, d3, d4, d5, d6, d7])
        · exact .inl (by simp [execOp, evP, valP, Act.eval, List.lookup_cons, go_sem, d0, d1, d2, d3, d4, d5, d6, d7])
        · exact .inl (by simp [execOp, evP, valP, Act.eval, List.lookup_cons, go_sem, d0, d1, d2, d3, d4, d5, d6, d7])
        · exact .inl (by simp [execOp, evP, valP, Act.eval, List.lookup_cons])
        · exact .inl (by simp [execOp, evP, valP, Act.eval, List.lookup_cons])
        · exact .inl (by simp [execOp, evP, valP, Act.eval, List.lookup_cons])
        · exact .inl (by simp [execOp, evP, valP, Act.eval, List.lookup_cons])
        · exact .inl (by simp [execOp, evP, valP, Act.eval, List.lookup_cons])
        · exact .inl (by simp [execOp, evP, valP, Act.eval, List.lookup_cons])
        · exact .inl (by simp [execOp, evP, valP, Act.eval, List.lookup_cons])
        · exact .inl (by simp [execOp, evP, valP, Act.eval, List.lookup_cons])
      case end12 =>
        intro q
        simp [wrote, valP, Act.put, List.lookup_cons]
        obtain ⟨w6, h6⟩ : ∃ w6, w5.drewN q = w6 := ⟨_, rfl⟩
        rw [h6]
        have hrow6 : RowV 171 w6 g3 (ws.map W32) := by rw [← h6]; exact hrow3
        have hr6 : RowV 122 w6 g2 ((List.replicate 8 (0 : BitVec 64)).map W64) := by rw [← h6]; exact hr2
        have hr46 : RowV 167 w6 g4 ([s0, s1, s2, s3, s4, s5, s6, s7].map W32) := by rw [← h6]; exact hr5
        have hB6 : Below g1 w w6 := by rw [← h6]; exact below_drewN hBr _
        have hG6 := HGR.out.later (HG.out ▸ hB6 : Below w.heap.size w w6)
        obtain ⟨S, hS⟩ : ∃ S : Nat → H32, st32 ws ⟨s0, s1, s2, s3, s4, s5, s6, s7⟩ = S := ⟨_, rfl⟩
        have hS0 : S 0 = ⟨s0, s1, s2, s3, s4, s5, s6, s7⟩ := by rw [← hS]; rfl
        have hS1 : ∀ t, S (t + 1) = round32 (K32 t) (ws.getD t 0) (S t) := fun t => by rw [← hS]; rfl
        have HS := Lib.hid hS
        have HS0 := Lib.hid hS0
        have HS1 := Lib.hid hS1
        have HG6 := Lib.hid hG6
        clear hS hS0 hS1 hG6 h6 hrow3 hr2 hr5 hBr d0 d1 d2 d3 d4 d5 d6 d7 hr1
        go_wp2_with (refine wlv_load rfl 171 64 _ Tryd.underlying171 Tryd.arr6432 _ rfl g3 rfl _ _ hrow6 hwl ?_)
        go_loopw [11, 12, 13, 14, 15, 16, 17, 18, 94] (fun xa xb xc xd xe xf xg xh i wr => ∃ t : Nat, t ≤ 64 ∧ i = .int .i64 (t : Nat) ∧ (xa = W32 (S t).a ∧ xb = W32 (S t).b ∧ xc = W32 (S t).c ∧ xd = W32 (S t).d ∧ xe = W32 (S t).e ∧ xf = W32 (S t).f ∧ xg = W32 (S t).g ∧ xh = W32 (S t).h) ∧ Below w6.heap.size w6 wr) (fun _ _ _ _ _ _ _ _ i _ => 64 - (intOf i).toNat)
        case atStart => exact ⟨0, by decide, rfl, by rw [HS0.out]; exact ⟨rfl, rfl, rfl, rfl, rfl, rfl, rfl, rfl⟩, Below.refl _ _⟩
        case round =>
          obtain ⟨t, ht, rfl, ⟨rfl, rfl, rfl, rfl, rfl, rfl, rfl, rfl⟩, hBr⟩ := hrel
          by_cases ht64 : t = 64
          · subst ht64
            have hr6 := hr6.later hBr
            have hr46 := hr46.later hBr
            have hBw : Below g1 w wr := hB6.trans (hBr.mono (by have := hB6.size; have := HG.out; omega))
            have hR : addL [s0, s1, s2, s3, s4, s5, s6, s7] (S 64).toL = R := by
              rw [← HRES.out, comp32, HSS.out, HWS.out, ← HS.out]; rfl
            have HR := Lib.hid hR
            have h8 : ([s0, s1, s2, s3, s4, s5, s6, s7].map W32).length = 8 := rfl
            obtain ⟨V, hV⟩ : ∃ V, S 64 = V := ⟨_, rfl⟩
            rw [hV] at HR ⊢
            have hadd := add32_any wr [s0, s1, s2, s3, s4, s5, s6, s7] V.toL rfl rfl
            rw [HR.out] at hadd
            have hRl : (R.map W64).length = 8 := by rw [← HR.out]; simp [addL, H32.toL]
            have HADD := Lib.hid hadd
            have HRL := Lib.hid hRl
            clear hR hV hadd hRl hB6 hBr hrow6
            go_wp2_with (refine wlv_load rfl 167 8 _ Tryd.underlying167 Tryd.arr32 _ rfl g4 rfl _ _ hr46 h8 ?_)
            refine HADD.out.mono ?_
            rintro e w8 ⟨rfl, hb8⟩
            have hr6 := hr6.later hb8
            have hBw : Below g1 w w8 := hBw.trans (hb8.mono (by have := hBw.size; have := HG.out; omega))
            have hz8 : ((List.replicate 8 (0 : BitVec 64)).map W64).length = 8 := by simp
            have hRl := HRL.out
            clear hb8 hr46
            go_wp2_with (first | refine wlv_load rfl 122 8 _ Tryd.underlying122 Tryd.arr64 _ rfl g2 rfl _ _ hr6 hz8 ?_ | (refine wlv_store rfl 122 8 Tryd.arr64 _ _ rfl g2 (R.map W64) rfl rfl _ _ hr6 hz8 hRl (ones64 _) ?_; intro w9 hr9 hb9 hz9))
            refine ⟨rfl, _, results_rowV rfl _ g2 _ _ rfl hr9 Tryd.underlying122 Tryd.arr64 hRl, rfl, ?_⟩
            rw [HG.out]
            exact hb9 _ _ hBw (by omega)
          · have hti : (t : Int) < 64 := by omega
            have hix := run_index64 wr ws hwl0 t (by omega)
            have hrl : rootsL.length = 80 := by decide
            have crt := (HG6.out.later hBr).2 t (rootsL.getD t 0) (by rw [List.getD_eq_getElem?_getD, List.getElem?_eq_getElem (by omega)]; rfl)
            obtain ⟨rt, hrt⟩ : ∃ x, rootsL.getD t 0 = x := ⟨_, rfl⟩
            obtain ⟨wt, hwt⟩ : ∃ x, ws.getD t 0 = x := ⟨_, rfl⟩
            obtain ⟨⟨va, vb, vc, vd, ve, vf, vg, vh⟩, hst⟩ : ∃ x, S t = x := ⟨_, rfl⟩
            rw [hrt] at crt
            rw [hwt] at hix
            rw [hst]
            dsimp only
            have HRT := Lib.hid hrt
            have HWT := Lib.hid hwt
            have HST := Lib.hid hst
            have hti80 : (t : Int) < 80 := by omega
            clear hrt hwt hst hrl
            go_wp2
            refine (wpIn_wide (n := 9)).1 (wpIn_region_pure0 rfl hmx [(98, W32 vh), (99, .func (.func 145) #[] #[]), (100, W32 ve), (101, W32 (rl32 26 ve)), (102, .func (.func 145) #[] #[]), (103, W32 ve), (104, W32 (rl32 21 ve)), (105, W32 ((rl32 26 ve) ^^^ (rl32 21 ve))), (106, .func (.func 145) #[] #[]), (107, W32 ve), (108, W32 (rl32 7 ve)), (109, W32 (((rl32 26 ve) ^^^ (rl32 21 ve)) ^^^ (rl32 7 ve))), (110, W32 (vh + (((rl32 26 ve) ^^^ (rl32 21 ve)) ^^^ (rl32 7 ve)))), (111, W32 ve), (112, W32 vf), (113, W32 vg), (114, W32 ((ve &&& vf) ^^^ (~~~ve &&& vg))), (115, W32 ((vh + (((rl32 26 ve) ^^^ (rl32 21 ve)) ^^^ (rl32 7 ve))) + ((ve &&& vf) ^^^ (~~~ve &&& vg)))), (116, .int .i64 (t : Int)), (117, .pointer (some ⟨4, t, none⟩)), (118, W64 rt), (119, W64 (rt >>> 32)), (120, W32 (BitVec.setWidth 32 (rt >>> 32))), (121, W32 (((vh + (((rl32 26 ve) ^^^ (rl32 21 ve)) ^^^ (rl32 7 ve))) + ((ve &&& vf) ^^^ (~~~ve &&& vg))) + (BitVec.setWidth 32 (rt >>> 32)))), (122, W32 wt), (123, W32 ((((vh + (((rl32 26 ve) ^^^ (rl32 21 ve)) ^^^ (rl32 7 ve))) + ((ve &&& vf) ^^^ (~~~ve &&& vg))) + (BitVec.setWidth 32 (rt >>> 32))) + wt)), (21, W32 ((((vh + (((rl32 26 ve) ^^^ (rl32 21 ve)) ^^^ (rl32 7 ve))) + ((ve &&& vf) ^^^ (~~~ve &&& vg))) + (BitVec.setWidth 32 (rt >>> 32))) + wt))] (by kernel_rfl) (by kernel_rfl) (by kernel_rfl) (by kernel_rfl) (by first | rfl | simp) ?ops16 ?end16)
            case ops16 =>
              intro i o hi ho
              have hi3 : i < 27 := hi
              have hi2 : i = 0 ∨ i = 1 ∨ i = 2 ∨ i = 3 ∨ i = 4 ∨ i = 5 ∨ i = 6 ∨ i = 7 ∨ i = 8 ∨ i = 9 ∨ i = 10 ∨ i = 11 ∨ i = 12 ∨ i = 13 ∨ i = 14 ∨ i = 15 ∨ i = 16 ∨ i = 17 ∨ i = 18 ∨ i = 19 ∨ i = 20 ∨ i = 21 ∨ i = 22 ∨ i = 23 ∨ i = 24 ∨ i = 25 ∨ i = 26 := by omega
              rcases hi2 with rfl | rfl | rfl | rfl | rfl | rfl | rfl | rfl | rfl | rfl | rfl | rfl | rfl | rfl | rfl | rfl | rfl | rfl | rfl | rfl | rfl | rfl | rfl | rfl | rfl | rfl | rfl
              all_goals
                have ho' := ho
                simp only [List.getElem?_toArray, List.getElem?_cons_zero, List.getElem?_cons_succ, Option.some.injEq] at ho'
                subst ho'
                refine ⟨(by intro c h; cases h), fun q => ⟨fun _ _ => trivial, ?_⟩⟩
              · exact .inl (by simp [execOp, evP, valP, Act.eval, List.lookup_cons])
              · exact .inl (by simp [execOp, evP, valP, Act.eval, List.lookup_cons])
              · exact .inl (by simp [execOp, evP, valP, Act.eval, List.lookup_cons])
              · refine .inr ⟨145, #[W32 ve, .int .i64 (-6)], ?_, (callsIn_wide.2 (rot32_any _ (ve) (-6) 26 (by decide) (by decide))).mono ?_⟩
                · simp [execOp, evP, valP, Act.eval, List.lookup_cons, go_sem]
                · rintro e w' ⟨rfl, rfl⟩
                  exact ⟨rfl, 0, rfl⟩
              · exact .inl (by simp [execOp, evP, valP, Act.eval, List.lookup_cons])
              · exact .inl (by simp [execOp, evP, valP, Act.eval, List.lookup_cons])
              · refine .inr ⟨145, #[W32 ve, .int .i64 (-11)], ?_, (callsIn_wide.2 (rot32_any _ (ve) (-11) 21 (by decide) (by decide))).mono ?_⟩
                · simp [execOp, evP, valP, Act.eval, List.lookup_cons, go_sem]
                · rintro e w' ⟨rfl, rfl⟩
                  exact ⟨rfl, 0, rfl⟩
              · exact .inl (by simp [execOp, evP, valP, Act.eval, List.lookup_cons, go_sem, crt, hti, hti80, b32_xor, b32_add, b64_d32, c64_32])
              · exact .inl (by simp [execOp, evP, valP, Act.eval, List.lookup_cons])
              · exact .inl (by simp [execOp, evP, valP, Act.eval, List.lookup_cons])
              · refine .inr ⟨145, #[W32 ve, .int .i64 (-25)], ?_, (callsIn_wide.2 (rot32_any _ (ve) (-25) 7 (by decide) (by decide))).mono ?_⟩
                · simp [execOp, evP, valP, Act.eval, List.lookup_cons, go_sem]
                · rintro e w' ⟨rfl, rfl⟩
                  exact ⟨rfl, 0, rfl⟩
              · exact .inl (by simp [execOp, evP, valP, Act.eval, List.lookup_cons, go_sem, crt, hti, hti80, b32_xor, b32_add, b64_d32, c64_32])
              · exact .inl (by simp [execOp, evP, valP, Act.eval, List.lookup_cons, go_sem, crt, hti, hti80, b32_xor, b32_add, b64_d32, c64_32])
              · exact .inl (by simp [execOp, evP, valP, Act.eval, List.lookup_cons])
              · exact .inl (by simp [execOp, evP, valP, Act.eval, List.lookup_cons])
              · exact .inl (by simp [execOp, evP, valP, Act.eval, List.lookup_cons])
              · refine .inr ⟨149, #[W32 ve, W32 vf, W32 vg], ?_, (callsIn_wide.2 (choose32_any _ (ve) (vf) (vg))).mono ?_⟩
                · simp [execOp, evP, valP, Act.eval, List.lookup_cons, go_sem]
                · rintro e w' ⟨rfl, rfl⟩
                  exact ⟨rfl, 0, rfl⟩
              · exact .inl (by simp [execOp, evP, valP, Act.eval, List.lookup_cons, go_sem, crt, hti, hti80, b32_xor, b32_add, b64_d32, c64_32])
              · exact .inl (by simp [execOp, evP, valP, Act.eval, List.lookup_cons])
              · exact .inl (by simp [execOp, evP, valP, Act.eval, List.lookup_cons, go_sem, crt, hti, hti80, b32_xor, b32_add, b64_d32, c64_32])
              · exact .inl (by simp [execOp, evP, valP, Act.eval, List.lookup_cons, go_sem, crt, hti, hti80, b32_xor, b32_add, b64_d32, c64_32])
              · exact .inl (by simp [execOp, evP, valP, Act.eval, List.lookup_cons, go_sem, crt, hti, hti80, b32_xor, b32_add, b64_d32, c64_32] <;> first | exact b32_shr _ _ | exact b32_d3 _ | exact b32_d10 _ | exact b64_d7 _ | exact b64_d6 _ | exact b64_d32 _)
              · exact .inl (by simp [execOp, evP, valP, Act.eval, List.lookup_cons, go_sem, crt, hti, hti80, b32_xor, b32_add, b64_d32, c64_32])
              · exact .inl (by simp [execOp, evP, valP, Act.eval, List.lookup_cons, go_sem, crt, hti, hti80, b32_xor, b32_add, b64_d32, c64_32])
              · exact .inl (by simp [execOp, evP, valP, Act.eval, List.lookup_cons])
              · exact .inl (by simp [execOp, evP, valP, Act.eval, List.lookup_cons, go_sem, crt, hti, hti80, b32_xor, b32_add, b64_d32, c64_32])
              · exact .inl (by simp [execOp, evP, valP, Act.eval, List.lookup_cons])
            case end16 =>
              intro q
              simp [wrote, valP, Act.put, List.lookup_cons]
              obtain ⟨w7, h7⟩ : ∃ x, wr.drewN q = x := ⟨_, rfl⟩
              rw [h7]
              have hB7 : Below w6.heap.size w6 w7 := by rw [← h7]; exact below_drewN hBr _
              clear h7 hBr crt hix
              have a32 := b32_add'
              have o32 := b32_xor
              go_wp2_with fail
              refine (rot32_any _ va (-2) 30 (by decide) (by decide)).mono ?_
              rintro e w' ⟨rfl, rfl⟩
              go_wp2_with fail
              refine (rot32_any _ va (-13) 19 (by decide) (by decide)).mono ?_
              rintro e w' ⟨rfl, rfl⟩
              go_wp2_with fail
              refine (rot32_any _ va (-22) 10 (by decide) (by decide)).mono ?_
              rintro e w' ⟨rfl, rfl⟩
              go_wp2_with fail
              refine (majority32_any _ va vb vc).mono ?_
              rintro e w' ⟨rfl, rfl⟩
              go_wp2
              have hK : K32 t = BitVec.setWidth 32 (rt >>> 32) := by rw [K32, HRT.out]
              refine ⟨⟨t + 1, by omega, by go_num, ?_, hB7⟩, by simp [intOf]; omega⟩
              rw [HS1.out t, HST.out, HWT.out, hK, a32, a32]
              exact ⟨rfl, rfl, rfl, rfl, rfl, rfl, rfl, rfl⟩
    · have hti : (t : Int) < 64 := by omega
      by_cases ht16 : t < 16
      · have hti2 : (t : Int) < 16 := by omega
        have hrd := read32_any wr B b off n c bs hsr t (by omega) (by omega)
        have HRD := Lib.hid hrd
        have ce := hsc.end_ (by omega)
        have hfz := hsc.row.frozen t
        obtain ⟨y, hy⟩ : ∃ y, rd32 bs t = y := ⟨_, rfl⟩
        have hnx := hsc.put (by omega) y
        have hval : sched32 bs (t + 1) = sched32 bs t ++ [y] := by rw [sched32, if_pos ht16, hy]
        rw [← hval] at hnx
        rw [hy] at HRD
        have hrx := hr1.far (p := ⟨g3, t, none⟩) (by show g1 ≠ g3; omega) (W32 y)
        have hry := hr2.far (p := ⟨g3, t, none⟩) (by show g2 ≠ g3; omega) (W32 y)
        have hBx := below_setV hBr (show g1 ≤ g3 by omega) t (W32 y)
        have HNX := Lib.hid hnx
        have HRX := Lib.hid hrx
        have HRY := Lib.hid hry
        have HBX := Lib.hid hBx
        clear hrd hnx hval hrx hry hBx hy
        go_wp2_with fail
        subst hn
        refine HRD.out.mono ?_
        rintro e w2 ⟨rfl, rfl⟩
        go_wp2
        go_roundw
        case rel => exact ⟨t + 1, by omega, by go_num, HNX.out, HRX.out, HRY.out, HBX.out⟩
        case measure => simp [intOf]; omega
      · have hti2 : ¬ (t : Int) < 16 := by omega
        obtain ⟨p15, h15⟩ : ∃ p, t - 15 = p := ⟨_, rfl⟩
        obtain ⟨p2, h2⟩ : ∃ p, t - 2 = p := ⟨_, rfl⟩
        obtain ⟨p16, h16⟩ : ∃ p, t - 16 = p := ⟨_, rfl⟩
        obtain ⟨p7, h7⟩ : ∃ p, t - 7 = p := ⟨_, rfl⟩
        have c15 := hsc.at_ (i := p15) (by omega)
        have c2 := hsc.at_ (i := p2) (by omega)
        have c16 := hsc.at_ (i := p16) (by omega)
        have c7 := hsc.at_ (i := p7) (by omega)
        have ce := hsc.end_ (by omega)
        have hfz := hsc.row.frozen t
        obtain ⟨x, hx⟩ : ∃ x, (sched32 bs t).getD p15 0 = x := ⟨_, rfl⟩
        obtain ⟨y, hy⟩ : ∃ x, (sched32 bs t).getD p2 0 = x := ⟨_, rfl⟩
        obtain ⟨u, hu⟩ : ∃ x, (sched32 bs t).getD p16 0 = x := ⟨_, rfl⟩
        obtain ⟨v, hv⟩ : ∃ x, (sched32 bs t).getD p7 0 = x := ⟨_, rfl⟩
        rw [hx] at c15
        rw [hy] at c2
        rw [hu] at c16
        rw [hv] at c7
        have i15 : (t : Int) - 15 = (p15 : Int) := by omega
        have i2 : (t : Int) - 2 = (p2 : Int) := by omega
        have i16 : (t : Int) - 16 = (p16 : Int) := by omega
        have i7 : (t : Int) - 7 = (p7 : Int) := by omega
        have l15 : (p15 : Int) < 64 := by omega
        have l2 : (p2 : Int) < 64 := by omega
        have l16 : (p16 : Int) < 64 := by omega
        have l7 : (p7 : Int) < 64 := by omega
        have H15 := Lib.hid h15
        have H2 := Lib.hid h2
        have H16 := Lib.hid h16
        have H7 := Lib.hid h7
        have HX := Lib.hid hx
        have HY := Lib.hid hy
        have HU := Lib.hid hu
        have HV := Lib.hid hv
        clear h15 h2 h16 h7 hx hy hu hv
        have k7 := fun w => rot32_any w x (-7) 25 (by decide) (by decide)
        have k18 := fun w => rot32_any w x (-18) 14 (by decide) (by decide)
        have k17 := fun w => rot32_any w y (-17) 15 (by decide) (by decide)
        have k19 := fun w => rot32_any w y (-19) 13 (by decide) (by decide)
        have K7 := Lib.hid k7
        have K18 := Lib.hid k18
        have K17 := Lib.hid k17
        have K19 := Lib.hid k19
        clear k7 k18 k17 k19
        go_wp2
        go_region
        go_wp2
        have w16 : IntKind.i64.wrap (p16 : Int) = (p16 : Int) := by rw [IntKind.wrap_i64]; omega
        have w7 : IntKind.i64.wrap (p7 : Int) = (p7 : Int) := by rw [IntKind.wrap_i64]; omega
        refine (wpIn_wide (n := 9)).1 (wpIn_region_pure rfl hmx [(41, .int .i64 (t : Int)), (42, .int .i64 (t : Int)), (43, .int .i64 (p16 : Int)), (44, .pointer (some ⟨g3, p16, none⟩)), (45, W32 u), (46, .int .i64 (t : Int)), (47, .int .i64 (p7 : Int)), (48, .pointer (some ⟨g3, p7, none⟩)), (49, W32 v), (50, W32 (u + v)), (51, .func (.func 145) #[] #[]), (52, W32 x), (53, W32 (rl32 25 x)), (54, .func (.func 145) #[] #[]), (55, W32 x), (56, W32 (rl32 14 x)), (57, W32 ((rl32 25 x) ^^^ (rl32 14 x))), (58, W32 x), (59, W32 (x >>> 3)), (60, W32 (((rl32 25 x) ^^^ (rl32 14 x)) ^^^ (x >>> 3))), (61, W32 ((u + v) + (((rl32 25 x) ^^^ (rl32 14 x)) ^^^ (x >>> 3)))), (62, .func (.func 145) #[] #[]), (63, W32 y), (64, W32 (rl32 15 y)), (65, .func (.func 145) #[] #[]), (66, W32 y), (67, W32 (rl32 13 y)), (68, W32 ((rl32 15 y) ^^^ (rl32 13 y))), (69, W32 y), (70, W32 (y >>> 10)), (71, W32 (((rl32 15 y) ^^^ (rl32 13 y)) ^^^ (y >>> 10))), (72, W32 (((u + v) + (((rl32 25 x) ^^^ (rl32 14 x)) ^^^ (x >>> 3))) + (((rl32 15 y) ^^^ (rl32 13 y)) ^^^ (y >>> 10)))), (73, .pointer (some ⟨g3, t, none⟩))] (by kernel_rfl) (by kernel_rfl) (by kernel_rfl) (by kernel_rfl) (by first | rfl | simp) 33 (wr.drew.setCell ⟨g3, t, none⟩ (W32 (((u + v) + (((rl32 25 x) ^^^ (rl32 14 x)) ^^^ (x >>> 3))) + (((rl32 15 y) ^^^ (rl32 13 y)) ^^^ (y >>> 10))))) rfl (by kernel_rfl) ?ops9 ?last9 ?end9)
        case ops9 =>
          intro i o hi ho
          have hi2 : i = 0 ∨ i = 1 ∨ i = 2 ∨ i = 3 ∨ i = 4 ∨ i = 5 ∨ i = 6 ∨ i = 7 ∨ i = 8 ∨ i = 9 ∨ i = 10 ∨ i = 11 ∨ i = 12 ∨ i = 13 ∨ i = 14 ∨ i = 15 ∨ i = 16 ∨ i = 17 ∨ i = 18 ∨ i = 19 ∨ i = 20 ∨ i = 21 ∨ i = 22 ∨ i = 23 ∨ i = 24 ∨ i = 25 ∨ i = 26 ∨ i = 27 ∨ i = 28 ∨ i = 29 ∨ i = 30 ∨ i = 31 ∨ i = 32 := by omega
          rcases hi2 with rfl | rfl | rfl | rfl | rfl | rfl | rfl | rfl | rfl | rfl | rfl | rfl | rfl | rfl | rfl | rfl | rfl | rfl | rfl | rfl | rfl | rfl | rfl | rfl | rfl | rfl | rfl | rfl | rfl | rfl | rfl | rfl | rfl
          all_goals
            have ho' := ho
            simp only [List.getElem?_toArray, List.getElem?_cons_zero, List.getElem?_cons_succ, Option.some.injEq] at ho'
            subst ho'
            refine ⟨(by intro c h; cases h), fun q => ⟨fun _ _ => trivial, ?_⟩⟩
          · exact .inl (by simp [execOp, evP, valP, Act.eval, List.lookup_cons])
          · exact .inl (by simp [execOp, evP, valP, Act.eval, List.lookup_cons])
          · exact .inl (by simp [execOp, evP, valP, Act.eval, List.lookup_cons, go_sem, i16, i7, l16, l7, w16, w7, hti, c16, c7, b32_xor, b32_add, b32_d3, b32_d10])
          · exact .inl (by simp [execOp, evP, valP, Act.eval, List.lookup_cons, go_sem, i16, i7, l16, l7, w16, w7, hti, c16, c7, b32_xor, b32_add, b32_d3, b32_d10])
          · exact .inl (by simp [execOp, evP, valP, Act.eval, List.lookup_cons, go_sem, i16, i7, l16, l7, w16, w7, hti, c16, c7, b32_xor, b32_add, b32_d3, b32_d10])
          · exact .inl (by simp [execOp, evP, valP, Act.eval, List.lookup_cons])
          · exact .inl (by simp [execOp, evP, valP, Act.eval, List.lookup_cons, go_sem, i16, i7, l16, l7, w16, w7, hti, c16, c7, b32_xor, b32_add, b32_d3, b32_d10])
          · exact .inl (by simp [execOp, evP, valP, Act.eval, List.lookup_cons, go_sem, i16, i7, l16, l7, w16, w7, hti, c16, c7, b32_xor, b32_add, b32_d3, b32_d10])
          · exact .inl (by simp [execOp, evP, valP, Act.eval, List.lookup_cons, go_sem, i16, i7, l16, l7, w16, w7, hti, c16, c7, b32_xor, b32_add, b32_d3, b32_d10])
          · exact .inl (by simp [execOp, evP, valP, Act.eval, List.lookup_cons, go_sem, i16, i7, l16, l7, w16, w7, hti, c16, c7, b32_xor, b32_add, b32_d3, b32_d10])
          · exact .inl (by simp [execOp, evP, valP, Act.eval, List.lookup_cons])
          · exact .inl (by simp [execOp, evP, valP, Act.eval, List.lookup_cons])
          · refine .inr ⟨145, #[W32 x, .int .i64 (-7)], ?_, (callsIn_wide.2 (K7.out _)).mono ?_⟩
            · simp [execOp, evP, valP, Act.eval, List.lookup_cons, go_sem]
            · rintro e w' ⟨rfl, rfl⟩
              exact ⟨rfl, 0, rfl⟩
          · exact .inl (by simp [execOp, evP, valP, Act.eval, List.lookup_cons])
          · exact .inl (by simp [execOp, evP, valP, Act.eval, List.lookup_cons])
          · refine .inr ⟨145, #[W32 x, .int .i64 (-18)], ?_, (callsIn_wide.2 (K18.out _)).mono ?_⟩
            · simp [execOp, evP, valP, Act.eval, List.lookup_cons, go_sem]
            · rintro e w' ⟨rfl, rfl⟩
              exact ⟨rfl, 0, rfl⟩
          · exact .inl (by simp [execOp, evP, valP, Act.eval, List.lookup_cons, go_sem, i16, i7, l16, l7, w16, w7, hti, c16, c7, b32_xor, b32_add, b32_d3, b32_d10])
          · exact .inl (by simp [execOp, evP, valP, Act.eval, List.lookup_cons])
          · exact .inl (by simp [execOp, evP, valP, Act.eval, List.lookup_cons, go_sem, i16, i7, l16, l7, w16, w7, hti, c16, c7, b32_xor, b32_add, b32_d3, b32_d10] <;> first | exact b32_shr _ _ | exact b32_d3 _ | exact b32_d10 _ | exact b64_d7 _ | exact b64_d6 _ | exact b64_d32 _)
          · exact .inl (by simp [execOp, evP, valP, Act.eval, List.lookup_cons, go_sem, i16, i7, l16, l7, w16, w7, hti, c16, c7, b32_xor, b32_add, b32_d3, b32_d10])
          · exact .inl (by simp [execOp, evP, valP, Act.eval, List.lookup_cons, go_sem, i16, i7, l16, l7, w16, w7, hti, c16, c7, b32_xor, b32_add, b32_d3, b32_d10])
          · exact .inl (by simp [execOp, evP, valP, Act.eval, List.lookup_cons])
          · exact .inl (by simp [execOp, evP, valP, Act.eval, List.lookup_cons])
          · refine .inr ⟨145, #[W32 y, .int .i64 (-17)], ?_, (callsIn_wide.2 (K17.out _)).mono ?_⟩
            · simp [execOp, evP, valP, Act.eval, List.lookup_cons, go_sem]
            · rintro e w' ⟨rfl, rfl⟩
              exact ⟨rfl, 0, rfl⟩
          · exact .inl (by simp [execOp, evP, valP, Act.eval, List.lookup_cons])
          · exact .inl (by simp [execOp, evP, valP, Act.eval, List.lookup_cons])
          · refine .inr ⟨145, #[W32 y, .int .i64 (-19)], ?_, (callsIn_wide.2 (K19.out _)).mono ?_⟩
            · simp [execOp, evP, valP, Act.eval, List.lookup_cons, go_sem]
            · rintro e w' ⟨rfl, rfl⟩
              exact ⟨rfl, 0, rfl⟩
          · exact .inl (by simp [execOp, evP, valP, Act.eval, List.lookup_cons, go_sem, i16, i7, l16, l7, w16, w7, hti, c16, c7, b32_xor, b32_add, b32_d3, b32_d10])
          · exact .inl (by simp [execOp, evP, valP, Act.eval, List.lookup_cons])
          · exact .inl (by simp [execOp, evP, valP, Act.eval, List.lookup_cons, go_sem, i16, i7, l16, l7, w16, w7, hti, c16, c7, b32_xor, b32_add, b32_d3, b32_d10] <;> first | exact b32_shr _ _ | exact b32_d3 _ | exact b32_d10 _ | exact b64_d7 _ | exact b64_d6 _ | exact b64_d32 _)
          · exact .inl (by simp [execOp, evP, valP, Act.eval, List.lookup_cons, go_sem, i16, i7, l16, l7, w16, w7, hti, c16, c7, b32_xor, b32_add, b32_d3, b32_d10])
          · exact .inl (by simp [execOp, evP, valP, Act.eval, List.lookup_cons, go_sem, i16, i7, l16, l7, w16, w7, hti, c16, c7, b32_xor, b32_add, b32_d3, b32_d10])
          · exact .inl (by simp [execOp, evP, valP, Act.eval, List.lookup_cons, go_sem, i16, i7, l16, l7, w16, w7, hti, c16, c7, b32_xor, b32_add, b32_d3, b32_d10])
        case last9 =>
          intro o ho
          have ho' := ho
          simp only [List.getElem?_toArray, List.getElem?_cons_zero, List.getElem?_cons_succ, Option.some.injEq] at ho'
          subst ho'
          refine ⟨(by intro c h; cases h), fun q => ⟨fun _ _ => trivial, .inl ⟨?_, rfl⟩⟩⟩
          simp [execOp, evP, valP, Act.eval, List.lookup_cons, go_sem, ce, hfz, hti]
          try rfl
        case end9 =>
          intro q
          simp [wrote, valP, Act.put, List.lookup_cons]
          have hnx := hsc.put (by omega) ((((u + v) + (((rl32 25 x) ^^^ (rl32 14 x)) ^^^ (x >>> 3))) + (((rl32 15 y) ^^^ (rl32 13 y)) ^^^ (y >>> 10))))
          have hval : sched32 bs (t + 1) = sched32 bs t ++ [(((u + v) + (((rl32 25 x) ^^^ (rl32 14 x)) ^^^ (x >>> 3))) + (((rl32 15 y) ^^^ (rl32 13 y)) ^^^ (y >>> 10)))] := by
            rw [sched32, if_neg ht16, next32, H15.out, H2.out, H16.out, H7.out, HX.out, HY.out, HU.out, HV.out]
          rw [← hval] at hnx
          have hrx := hr1.far (p := ⟨g3, t, none⟩) (by show g1 ≠ g3; omega) (W32 (((u + v) + (((rl32 25 x) ^^^ (rl32 14 x)) ^^^ (x >>> 3))) + (((rl32 15 y) ^^^ (rl32 13 y)) ^^^ (y >>> 10))))
          have hry := hr2.far (p := ⟨g3, t, none⟩) (by show g2 ≠ g3; omega) (W32 (((u + v) + (((rl32 25 x) ^^^ (rl32 14 x)) ^^^ (x >>> 3))) + (((rl32 15 y) ^^^ (rl32 13 y)) ^^^ (y >>> 10))))
          have HRY := Lib.hid hry
          have hBx := below_setV hBr (show g1 ≤ g3 by omega) t (W32 (((u + v) + (((rl32 25 x) ^^^ (rl32 14 x)) ^^^ (x >>> 3))) + (((rl32 15 y) ^^^ (rl32 13 y)) ^^^ (y >>> 10))))
          have HNX := Lib.hid hnx
          have HRX := Lib.hid hrx
          have HBX := Lib.hid hBx
          clear hnx hval hrx hry hBx
          go_wp2
          go_roundw
          case rel => exact ⟨t + 1, by omega, by go_num, ⟨HNX.out.row, HNX.out.len⟩, HRX.out, HRY.out, below_drewN (HBX.out) _⟩
          case measure => simp [intOf]; omega
end Go.Proofs.YtnpaidieijlkkaaDoor

/- hashes: mix64. -/
set_option linter.unusedVariables false
set_option linter.unusedSimpArgs false
namespace Go.Proofs.YtnpaidieijlkkaaDoor
open Go.RowKit Go.Shelf

def next64 (ws : List (BitVec 64)) (t : Nat) : BitVec 64 :=
  ws.getD (t - 16) 0 + ws.getD (t - 7) 0 + (rl64 63 (ws.getD (t - 15) 0) ^^^ rl64 56 (ws.getD (t - 15) 0) ^^^ ws.getD (t - 15) 0 >>> 7) + (rl64 45 (ws.getD (t - 2) 0) ^^^ rl64 3 (ws.getD (t - 2) 0) ^^^ ws.getD (t - 2) 0 >>> 6)
def sched64 (bs : List (BitVec 8)) : Nat → List (BitVec 64)
  | 0 => []
  | t + 1 => sched64 bs t ++ [if t < 16 then rd64 bs t else next64 (sched64 bs t) t]
structure H64 where
  a : BitVec 64
  b : BitVec 64
  c : BitVec 64
  d : BitVec 64
  e : BitVec 64
  f : BitVec 64
  g : BitVec 64
  h : BitVec 64
def round64 (k wt : BitVec 64) (s : H64) : H64 :=
  ⟨(s.h + (rl64 50 s.e ^^^ rl64 46 s.e ^^^ rl64 23 s.e) + ((s.e &&& s.f) ^^^ (~~~s.e &&& s.g)) + k + wt) + ((rl64 36 s.a ^^^ rl64 30 s.a ^^^ rl64 25 s.a) + ((s.a &&& s.b) ^^^ (s.a &&& s.c) ^^^ (s.b &&& s.c))), s.a, s.b, s.c,
    s.d + (s.h + (rl64 50 s.e ^^^ rl64 46 s.e ^^^ rl64 23 s.e) + ((s.e &&& s.f) ^^^ (~~~s.e &&& s.g)) + k + wt), s.e, s.f, s.g⟩
def st64 (ws : List (BitVec 64)) (s0 : H64) : Nat → H64
  | 0 => s0
  | t + 1 => round64 (rootsL.getD t 0) (ws.getD t 0) (st64 ws s0 t)
def H64.ofL (l : List (BitVec 64)) : H64 := ⟨l.getD 0 0, l.getD 1 0, l.getD 2 0, l.getD 3 0, l.getD 4 0, l.getD 5 0, l.getD 6 0, l.getD 7 0⟩
def H64.toL (s : H64) : List (BitVec 64) := [s.a, s.b, s.c, s.d, s.e, s.f, s.g, s.h]
def add64L (xs ys : List (BitVec 64)) : List (BitVec 64) := (xs.zip ys).map (fun p => p.1 + p.2)
/-- a block is taken into the words -/
def comp64 (xs : List (BitVec 64)) (bs : List (BitVec 8)) : List (BitVec 64) := add64L xs (st64 (sched64 bs 80) (H64.ofL xs) 80).toL
theorem run_index80 (w : World) (ws : List (BitVec 64)) (hl : ws.length = 80) (k : Nat) (hk : k < 80) : (Instr.index 173 (.agg (ws.map W64).toArray) (.int .i64 (k : Int))).run Tryd.prog w = .ok (W64 (ws.getD k 0)) w := by
  have h0 : (0 : Int) ≤ k := by omega
  have h2 : (ws.map W64)[k]? = some (W64 (ws.getD k 0)) := by rw [List.getElem?_map, List.getD_eq_getElem?_getD, List.getElem?_eq_getElem (by omega)]; rfl
  obtain ⟨vs, hvs⟩ : ∃ vs, ws.map W64 = vs := ⟨_, rfl⟩
  obtain ⟨v, hv⟩ : ∃ v, W64 (ws.getD k 0) = v := ⟨_, rfl⟩
  rw [hvs, hv] at h2
  rw [hvs, hv]
  simp only [Instr.index, asIntOf, Sem.run_bind, Sem.run_pure, Result.andThen_ok, run_underlying Tryd.underlying173]
  simp [h0, part, h2, go_sem]
  intro h
  exact absurd h (by omega)
theorem Tryd.arr8064 : (Tryd.prog.info? 173).map (·.size) = some 80 := by kernel_rfl
theorem mid_get {α : Type} (A X : List α) (k : Nat) (h : k ≤ A.length) : (A.take k ++ X.drop k)[k]? = X[k]? := by
  rw [List.getElem?_append_right (by rw [List.length_take]; omega), List.length_take, Nat.min_eq_left h, Nat.sub_self, List.getElem?_drop, Nat.add_zero]
theorem mid_set {α : Type} (A X : List α) (k : Nat) (y : α) (h : A[k]? = some y) (hx : k < X.length) : (A.take k ++ X.drop k).set k y = A.take (k + 1) ++ X.drop (k + 1) := by
  have hk : k < A.length := by
    rcases Nat.lt_or_ge k A.length with h' | h'
    · exact h'
    · rw [List.getElem?_eq_none h'] at h; cases h
  have e : A[k] = y := by rw [List.getElem?_eq_getElem hk] at h; exact Option.some.inj h
  rw [List.set_append_right _ _ (by rw [List.length_take]; omega), List.length_take, Nat.min_eq_left (Nat.le_of_lt hk), Nat.sub_self, List.drop_eq_getElem_cons hx, List.set_cons_zero, List.take_succ_eq_append_getElem hk, e, List.append_assoc]
  rfl

/-- the schedule's round from 16 on: facts of memory -/
structure Sch64 (w : World) (g t : Nat) (ws : List (BitVec 64)) : Prop where
  row : RowV 173 w g ((ws ++ List.replicate (80 - t) 0).map W64)
  len : ws.length = t
theorem Sch64.at_ {w : World} {g t : Nat} {ws : List (BitVec 64)} (h : Sch64 w g t ws) {i : Nat} (hi : i < t) : w.cell? ⟨g, i, none⟩ = some (W64 (ws.getD i 0)) :=
  h.row.at_ (by rw [List.getElem?_map, get_pre _ _ 0 _ (by rw [h.len]; exact hi)]; rfl)
theorem Sch64.end_ {w : World} {g t : Nat} {ws : List (BitVec 64)} (h : Sch64 w g t ws) (ht : t < 80) : w.cell? ⟨g, t, none⟩ = some (.int .u64 0) :=
  h.row.at_ (by rw [List.getElem?_map, show 80 - t = (79 - t) + 1 by omega, get_end _ _ _ _ h.len]; rfl)
theorem Sch64.put {w : World} {g t : Nat} {ws : List (BitVec 64)} (h : Sch64 w g t ws) (ht : t < 80) (y : BitVec 64) : Sch64 (w.setCell ⟨g, t, none⟩ (W64 y)) g (t + 1) (ws ++ [y]) :=
  ⟨by
    have h2 := h.row.set t (W64 y)
    rw [← List.map_set, show 80 - t = (80 - (t + 1)) + 1 by omega, set_end _ _ _ _ _ h.len] at h2
    exact h2, by simp [h.len]⟩

set_option maxRecDepth 100000 in
set_option maxHeartbeats 4000000 in
theorem mix64_any (w : World) (xs : List (BitVec 64)) (hl : xs.length = 8) (B b off n c : Nat) (bs : List (BitVec 8)) (hs : SlV w B (some ⟨b, off, none⟩) n c (bs.map W8)) (hn : n = 128) (hB : B ≤ w.heap.size) (hG : RootsG w) :
    Calls Tryd.prog 133 #[.agg (xs.map W64).toArray, .slice (some ⟨b, off, none⟩) n c] w fun e w' => e = .returned (.agg ((comp64 xs bs).map W64).toArray) ∧ Below w.heap.size w w' := by
  subst hn
  have hlm : (xs.map W64).length = 8 := by simpa using hl
  have HGR := Lib.hid hG
  clear hG
  obtain ⟨R, hR⟩ : ∃ R, comp64 xs bs = R := ⟨_, rfl⟩
  rw [hR]
  have HRES := Lib.hid hR
  clear hR
  obtain ⟨W1, e1, r1, b1, z1⟩ := newV w 122 (xs.map W64) _ rfl
  obtain ⟨W2, e2, r2, b2, z2⟩ := newV W1 122 ((List.replicate 8 (0 : BitVec 64)).map W64) #[.int .u64 0, .int .u64 0, .int .u64 0, .int .u64 0, .int .u64 0, .int .u64 0, .int .u64 0, .int .u64 0] rfl
  obtain ⟨W3, e3, r3, b3, z3⟩ := newV W2 173 ((List.replicate 80 (0 : BitVec 64)).map W64) Tryd.zeroCells173 (by first | rfl | kernel_rfl)
  obtain ⟨g1, hg1⟩ : ∃ g, w.heap.size = g := ⟨_, rfl⟩
  obtain ⟨g2, hg2⟩ : ∃ g, W1.heap.size = g := ⟨_, rfl⟩
  obtain ⟨g3, hg3⟩ : ∃ g, W2.heap.size = g := ⟨_, rfl⟩
  have r1 := (r1.later b2).later b3
  have r2 := r2.later b3
  have hbl : Below w.heap.size w W3 := b1.trans ((b2.trans (b3.mono b2.size)).mono b1.size)
  have hs3 := hs.below (hbl.mono hB)
  rw [hg3] at r3
  rw [hg2] at r2
  rw [hg1] at r1 hbl
  have h12 : g1 < g2 := by omega
  have h23 : g2 < g3 := by omega
  have HG := Lib.hid hg1
  have HBB := Lib.hid hB
  have hB1 : B ≤ g1 := by omega
  have hmx : Tryd.prog.follows .mixedOrders = true := by kernel_rfl
  have hrot := rot64_any
  have HROT := Lib.hid hrot
  clear b1 b2 b3 z1 z2 z3 hs3 hrot
  go_enter Tryd.func133, Tryd.ntmps133
  go_wp2
  clear e1 e2 e3 hg1 hg2 hg3
  go_loopw [24] (fun i wr => ∃ t : Nat, t ≤ 80 ∧ i = .int .i64 (t : Nat) ∧ Sch64 wr g3 t (sched64 bs t) ∧ RowV 122 wr g1 (xs.map W64) ∧ RowV 122 wr g2 ((List.replicate 8 (0 : BitVec 64)).map W64) ∧ Below g1 w wr) (fun i _ => 80 - (intOf i).toNat)
  case atStart => exact ⟨0, by decide, rfl, ⟨r3, rfl⟩, r1, r2, hbl⟩
  case round =>
    obtain ⟨t, ht, rfl, hsc, hr1, hr2, hBr⟩ := hrel
    have hsr := hs.below ((HG.out ▸ hBr : Below w.heap.size w wr).mono HBB.out)
    by_cases ht80 : t = 80
    · subst ht80
      obtain ⟨ws, hws⟩ : ∃ ws, sched64 bs 80 = ws := ⟨_, rfl⟩
      rw [hws] at hsc
      have hrow3 : RowV 173 wr g3 (ws.map W64) := by
        have h := hsc.row
        rw [Nat.sub_self] at h
        simpa using h
      have hwl : (ws.map W64).length = 80 := by simpa using hsc.len
      have hwl0 : ws.length = 80 := hsc.len
      have HWS := Lib.hid hws
      clear hsc hsr hws
      obtain ⟨s0, s1, s2, s3, s4, s5, s6, s7, hs8⟩ := list8 hl
      subst hs8
      have cl : ∀ (k : Nat) (x : BitVec 64), [s0, s1, s2, s3, s4, s5, s6, s7][k]? = some x → wr.cell? ⟨g1, k, none⟩ = some (W64 x) := fun k x hx => hr1.at_ (by rw [List.getElem?_map, hx]; rfl)
      have d0 := cl 0 s0 rfl
      have d1 := cl 1 s1 rfl
      have d2 := cl 2 s2 rfl
      have d3 := cl 3 s3 rfl
      have d4 := cl 4 s4 rfl
      have d5 := cl 5 s5 rfl
      have d6 := cl 6 s6 rfl
      have d7 := cl 7 s7 rfl
      clear cl
      go_wp2
      refine (wpIn_wide (n := 9)).1 (wpIn_region_pure0 rfl hmx [(76, .pointer (some ⟨g1, 0, none⟩)), (77, W64 s0), (78, .pointer (some ⟨g1, 1, none⟩)), (79, W64 s1), (80, .pointer (some ⟨g1, 2, none⟩)), (81, W64 s2), (82, .pointer (some ⟨g1, 3, none⟩)), (83, W64 s3), (84, .pointer (some ⟨g1, 4, none⟩)), (85, W64 s4), (86, .pointer (some ⟨g1, 5, none⟩)), (87, W64 s5), (88, .pointer (some ⟨g1, 6, none⟩)), (89, W64 s6), (90, .pointer (some ⟨g1, 7, none⟩)), (91, W64 s7), (10, W64 s0), (11, W64 s1), (12, W64 s2), (13, W64 s3), (14, W64 s4), (15, W64 s5), (16, W64 s6), (17, W64 s7)] (by kernel_rfl) (by kernel_rfl) (by kernel_rfl) (by kernel_rfl) (by first | rfl | simp) ?ops11 ?end11)
      case ops11 =>
        intro i o hi ho
        have hi3 : i < 24 := hi
        have hi2 : i = 0 ∨ i = 1 ∨ i = 2 ∨ i = 3 ∨ i = 4 ∨ i = 5 ∨ i = 6 ∨ i = 7 ∨ i = 8 ∨ i = 9 ∨ i = 10 ∨ i = 11 ∨ i = 12 ∨ i = 13 ∨ i = 14 ∨ i = 15 ∨ i = 16 ∨ i = 17 ∨ i = 18 ∨ i = 19 ∨ i = 20 ∨ i = 21 ∨ i = 22 ∨ i = 23 := by omega
        rcases hi2 with rfl | rfl | rfl | rfl | rfl | rfl | rfl | rfl | rfl | rfl | rfl | rfl | rfl | rfl | rfl | rfl | rfl | rfl | rfl | rfl | rfl | rfl | rfl | rfl
        all_goals
          have ho' := ho
          simp only [List.getElem?_toArray, List.getElem?_cons_zero, List.getElem?_cons_succ, Option.some.injEq] at ho'
          subst ho'
          refine ⟨(by intro c h; cases h), fun q => ⟨fun _ _ => trivial, ?_⟩⟩
        · exact .inl (by simp [execOp, evP, valP, Act.eval, List.lookup_cons, go_sem, d0, d1, d2, d3, d4, d5, d6, d7])
        · exact .inl (by simp [execOp, evP, valP, Act.eval, List.lookup_cons, go_sem, d0, d1, d2, d3, d4, d5, d6, d7])
        · exact .inl (by simp [execOp, evP, valP, Act.eval, List.lookup_cons, go_sem, d0, d1, d2, d3, d4, d5, d6, d7])
        · exact .inl (by simp [execOp, evP, valP, Act.eval, List.lookup_cons, go_sem, d0, d1, d2, d3, d4, d5, d6, d7])
        · exact .inl (by simp [execOp, evP, valP, Act.eval, List.lookup_cons, go_sem, d0, d1, d2, d3, d4, d5, d6, d7])
        · exact .inl (by simp [execOp, evP, valP, Act.eval, List.lookup_cons, go_sem, d0, d1, d2, d3, d4, d5, d6, d7])
        · exact .inl (by simp [execOp, evP, valP, Act.eval, List.lookup_cons, go_sem, d0, d1, d2, d3, d4, d5, d6, d7])
        · exact .inl (by simp [execOp, evP, valP, Act.eval, List.lookup_cons, go_sem, d0, d1, d2, d3, d4, d5, d6, d7])
        · exact .inl (by simp [execOp, evP, valP, Act.eval, List.lookup_cons, go_sem, d0, d1, d2, d3, d4, d5, d6, d7])
        · exact .inl (by simp [execOp, evP, valP, Act.eval, List.lookup_cons, go_sem, d0, d1, d2, d3, d4, d5, d6, d7])
        · exact .inl (by simp [execOp, evP, valP, Act.eval, List.lookup_cons, go_sem, d0, d1, d2, d3, d4, d5, d6, d7])
        · exact .inl (by simp [execOp, evP, valP, Act.eval, List.lookup_cons, go_sem, d0, d1, d2, d3, d4, d5, d6, d7])
        · exact .inl (by simp [execOp, evP, valP, Act.eval, List.lookup_cons, go_sem, d0, d1, d2, d3, d4, d5, d6, d7])
        · exact .inl (by simp [execOp, evP, valP, Act.eval, List.lookup_cons, go_sem, d0, d1, d2, d3, d4, d5, d6, d7])
        · exact .inl (by simp [execOp, evP, valP, Act.eval, List.lookup_cons, go_sem, d0, d1, d2, d3, d4, d5, d6, d7])
        · exact .inl (by simp [execOp, evP, valP, Act.eval, List.lookup_cons, go_sem, d0, d1, d2, d3, d4, d5, d6, d7])
        · exact .inl (by simp [execOp, evP, valP, Act.eval, List.lookup_cons])
        · exact .inl (by simp [execOp, evP, valP, Act.eval, List.lookup_cons])
        · exact .inl (by simp [execOp, evP, valP, Act.eval, List.lookup_cons])
        · exact .inl (by simp [execOp, evP, valP, Act.eval, List.lookup_cons])
        · exact .inl (by simp [execOp, evP, valP, Act.eval, List.lookup_cons])
        · exact .inl (by simp [execOp, evP, valP, Act.eval, List.lookup_cons])
        · exact .inl (by simp [execOp, evP, valP, Act.eval, List.lookup_cons])
        · exact .inl (by simp [execOp, evP, valP, Act.eval, List.lookup_cons])
      case end11 =>
        intro q
        simp [wrote, valP, Act.put, List.lookup_cons]
        obtain ⟨w6, h6⟩ : ∃ w6, wr.drewN q = w6 := ⟨_, rfl⟩
        rw [h6]
        have hrow6 : RowV 173 w6 g3 (ws.map W64) := by rw [← h6]; exact hrow3
        have hr6 : RowV 122 w6 g2 ((List.replicate 8 (0 : BitVec 64)).map W64) := by rw [← h6]; exact hr2
        have hr16 : RowV 122 w6 g1 ([s0, s1, s2, s3, s4, s5, s6, s7].map W64) := by rw [← h6]; exact hr1
        have hB6 : Below g1 w w6 := by rw [← h6]; exact below_drewN hBr _
        have hG6 := HGR.out.later (HG.out ▸ hB6 : Below w.heap.size w w6)
        obtain ⟨S, hS⟩ : ∃ S : Nat → H64, st64 ws ⟨s0, s1, s2, s3, s4, s5, s6, s7⟩ = S := ⟨_, rfl⟩
        have hS0 : S 0 = ⟨s0, s1, s2, s3, s4, s5, s6, s7⟩ := by rw [← hS]; rfl
        have hS1 : ∀ t, S (t + 1) = round64 (rootsL.getD t 0) (ws.getD t 0) (S t) := fun t => by rw [← hS]; rfl
        have HS := Lib.hid hS
        have HS0 := Lib.hid hS0
        have HS1 := Lib.hid hS1
        have HG6 := Lib.hid hG6
        clear hS hS0 hS1 hG6 h6 hrow3 hr2 hBr d0 d1 d2 d3 d4 d5 d6 d7 hr1
        go_wp2_with (refine wlv_load rfl 173 80 _ Tryd.underlying173 Tryd.arr8064 _ rfl g3 rfl _ _ hrow6 hwl ?_)
        go_loopw [10, 11, 12, 13, 14, 15, 16, 17, 93] (fun xa xb xc xd xe xf xg xh i wr => ∃ t : Nat, t ≤ 80 ∧ i = .int .i64 (t : Nat) ∧ (xa = W64 (S t).a ∧ xb = W64 (S t).b ∧ xc = W64 (S t).c ∧ xd = W64 (S t).d ∧ xe = W64 (S t).e ∧ xf = W64 (S t).f ∧ xg = W64 (S t).g ∧ xh = W64 (S t).h) ∧ Below w6.heap.size w6 wr) (fun _ _ _ _ _ _ _ _ i _ => 80 - (intOf i).toNat)
        case atStart => exact ⟨0, by decide, rfl, by rw [HS0.out]; exact ⟨rfl, rfl, rfl, rfl, rfl, rfl, rfl, rfl⟩, Below.refl _ _⟩
        case round =>
          obtain ⟨t, ht, rfl, ⟨rfl, rfl, rfl, rfl, rfl, rfl, rfl, rfl⟩, hBr⟩ := hrel
          by_cases ht80 : t = 80
          · subst ht80
            have hr2 := hr6.later hBr
            have hr1 := hr16.later hBr
            have hBw : Below g1 w wr := hB6.trans (hBr.mono (by have := hB6.size; have := HG.out; omega))
            obtain ⟨V, hV⟩ : ∃ V, S 80 = V := ⟨_, rfl⟩
            have hR : add64L [s0, s1, s2, s3, s4, s5, s6, s7] V.toL = R := by
              rw [← HRES.out, comp64, HWS.out, ← hV, ← HS.out]; rfl
            have HR := Lib.hid hR
            rw [hV]
            clear hR hV hB6 hBr hrow6 hr6 hr16
            obtain ⟨X, hX⟩ : ∃ X, [s0, s1, s2, s3, s4, s5, s6, s7] = X := ⟨_, rfl⟩
            have hXl : X.length = 8 := by rw [← hX]; rfl
            have hRl : R.length = 8 := by rw [← HR.out]; rfl
            rw [hX] at HR hr1
            have HX := Lib.hid hX
            have HRL := Lib.hid hRl
            have HXL := Lib.hid hXl
            clear hX hRl hXl
            go_wp2
            go_loopw [159] (fun i wr => ∃ k : Nat, k ≤ 8 ∧ i = .int .i64 (k : Nat) ∧ RowV 122 wr g1 ((R.take k ++ X.drop k).map W64) ∧ RowV 122 wr g2 ((List.replicate 8 (0 : BitVec 64)).map W64) ∧ Below g1 w wr) (fun i _ => 8 - (intOf i).toNat)
            case atStart => exact ⟨0, by decide, rfl, hr1, hr2, hBw⟩
            case round =>
              clear hr1 hr2 hBw
              obtain ⟨k, hk, rfl, hr1, hr2, hBr⟩ := hrel
              by_cases hk8 : k = 8
              · subst hk8
                rw [List.take_of_length_le (Nat.le_of_eq HRL.out), List.drop_eq_nil_of_le (Nat.le_of_eq HXL.out), List.append_nil] at hr1
                have hRm : (R.map W64).length = 8 := by simpa using HRL.out
                have hz8 : ((List.replicate 8 (0 : BitVec 64)).map W64).length = 8 := by simp
                go_wp2_with (first | refine wlv_load rfl 122 8 _ Tryd.underlying122 Tryd.arr64 _ rfl g1 rfl _ _ hr1 hRm ?_ | (refine wlv_store rfl 122 8 Tryd.arr64 _ _ rfl g2 (R.map W64) rfl rfl _ _ hr2 hz8 hRm (ones64 _) ?_; intro w9 hr9 hb9 hz9))
                refine ⟨rfl, _, results_rowV rfl _ g2 _ _ rfl hr9 Tryd.underlying122 Tryd.arr64 hRm, rfl, ?_⟩
                rw [HG.out]
                exact hb9 _ _ hBr (by omega)
              · have hki : (k : Int) < 8 := by omega
                obtain ⟨x, hx⟩ : ∃ x, X[k]? = some x := ⟨_, List.getElem?_eq_getElem (by have := HXL.out; omega)⟩
                obtain ⟨y, hy⟩ : ∃ x, V.toL[k]? = some x := ⟨_, List.getElem?_eq_getElem (by show k < 8; omega)⟩
                have hix : (Instr.index 122 (.agg #[W64 V.a, W64 V.b, W64 V.c, W64 V.d, W64 V.e, W64 V.f, W64 V.g, W64 V.h]) (.int .i64 (k : Int))).run Tryd.prog wr = .ok (W64 y) wr := run_index8 wr V.toL rfl k y hy
                have hz : R[k]? = some (x + y) := by
                  rw [← HR.out, add64L, List.getElem?_map, List.getElem?_zip_eq_some.2 (⟨hx, hy⟩ : X[k]? = some (x, y).1 ∧ V.toL[k]? = some (x, y).2)]; rfl
                have hcx : wr.cell? ⟨g1, k, none⟩ = some (W64 x) := hr1.at_ (by rw [List.getElem?_map, mid_get _ _ _ (by have := HRL.out; omega), hx]; rfl)
                have hfz := hr1.frozen k
                have a64 := b64_add x y
                have hr3 := hr1.set k (W64 (x + y))
                rw [← List.map_set, mid_set _ _ _ _ hz (by have := HXL.out; omega)] at hr3
                have hr4 := hr2.far (p := ⟨g1, k, none⟩) (by show g2 ≠ g1; omega) (W64 (x + y))
                have hB2 := below_setV hBr (Nat.le_refl g1) k (W64 (x + y))
                have HR3 := Lib.hid hr3
                have HR4 := Lib.hid hr4
                have HB2 := Lib.hid hB2
                clear hr3 hr4 hB2 hr1 hr2 hBr hx hy hz
                go_wp2
                go_roundw
                case rel => exact ⟨k + 1, by omega, by go_num, HR3.out, HR4.out, HB2.out⟩
                case measure => simp [intOf]; omega
          · have hti : (t : Int) < 80 := by omega
            have hix := run_index80 wr ws hwl0 t (by omega)
            have hrl : rootsL.length = 80 := by decide
            have crt := (HG6.out.later hBr).2 t (rootsL.getD t 0) (by rw [List.getD_eq_getElem?_getD, List.getElem?_eq_getElem (by omega)]; rfl)
            obtain ⟨rt, hrt⟩ : ∃ x, rootsL.getD t 0 = x := ⟨_, rfl⟩
            obtain ⟨wt, hwt⟩ : ∃ x, ws.getD t 0 = x := ⟨_, rfl⟩
            obtain ⟨⟨va, vb, vc, vd, ve, vf, vg, vh⟩, hst⟩ : ∃ x, S t = x := ⟨_, rfl⟩
            rw [hrt] at crt
            rw [hwt] at hix
            rw [hst]
            dsimp only
            have HRT := Lib.hid hrt
            have HWT := Lib.hid hwt
            have HST := Lib.hid hst
            clear hrt hwt hst hrl
            go_wp2
            refine (wpIn_wide (n := 9)).1 (wpIn_region_pure0 rfl hmx [(97, W64 vh), (98, .func (.func 151) #[] #[]), (99, W64 ve), (100, W64 (rl64 50 ve)), (101, .func (.func 151) #[] #[]), (102, W64 ve), (103, W64 (rl64 46 ve)), (104, W64 ((rl64 50 ve) ^^^ (rl64 46 ve))), (105, .func (.func 151) #[] #[]), (106, W64 ve), (107, W64 (rl64 23 ve)), (108, W64 (((rl64 50 ve) ^^^ (rl64 46 ve)) ^^^ (rl64 23 ve))), (109, W64 (vh + (((rl64 50 ve) ^^^ (rl64 46 ve)) ^^^ (rl64 23 ve)))), (110, W64 ve), (111, W64 vf), (112, W64 vg), (113, W64 ((ve &&& vf) ^^^ (~~~ve &&& vg))), (114, W64 ((vh + (((rl64 50 ve) ^^^ (rl64 46 ve)) ^^^ (rl64 23 ve))) + ((ve &&& vf) ^^^ (~~~ve &&& vg)))), (115, .int .i64 (t : Int)), (116, .pointer (some ⟨4, t, none⟩)), (117, W64 rt), (118, W64 (((vh + (((rl64 50 ve) ^^^ (rl64 46 ve)) ^^^ (rl64 23 ve))) + ((ve &&& vf) ^^^ (~~~ve &&& vg))) + rt)), (119, W64 wt), (120, W64 ((((vh + (((rl64 50 ve) ^^^ (rl64 46 ve)) ^^^ (rl64 23 ve))) + ((ve &&& vf) ^^^ (~~~ve &&& vg))) + rt) + wt)), (20, W64 ((((vh + (((rl64 50 ve) ^^^ (rl64 46 ve)) ^^^ (rl64 23 ve))) + ((ve &&& vf) ^^^ (~~~ve &&& vg))) + rt) + wt))] (by kernel_rfl) (by kernel_rfl) (by kernel_rfl) (by kernel_rfl) (by first | rfl | simp) ?ops15 ?end15)
            case ops15 =>
              intro i o hi ho
              have hi3 : i < 25 := hi
              have hi2 : i = 0 ∨ i = 1 ∨ i = 2 ∨ i = 3 ∨ i = 4 ∨ i = 5 ∨ i = 6 ∨ i = 7 ∨ i = 8 ∨ i = 9 ∨ i = 10 ∨ i = 11 ∨ i = 12 ∨ i = 13 ∨ i = 14 ∨ i = 15 ∨ i = 16 ∨ i = 17 ∨ i = 18 ∨ i = 19 ∨ i = 20 ∨ i = 21 ∨ i = 22 ∨ i = 23 ∨ i = 24 := by omega
              rcases hi2 with rfl | rfl | rfl | rfl | rfl | rfl | rfl | rfl | rfl | rfl | rfl | rfl | rfl | rfl | rfl | rfl | rfl | rfl | rfl | rfl | rfl | rfl | rfl | rfl | rfl
              all_goals
                have ho' := ho
                simp only [List.getElem?_toArray, List.getElem?_cons_zero, List.getElem?_cons_succ, Option.some.injEq] at ho'
                subst ho'
                refine ⟨(by intro c h; cases h), fun q => ⟨fun _ _ => trivial, ?_⟩⟩
              · exact .inl (by simp [execOp, evP, valP, Act.eval, List.lookup_cons])
              · exact .inl (by simp [execOp, evP, valP, Act.eval, List.lookup_cons])
              · exact .inl (by simp [execOp, evP, valP, Act.eval, List.lookup_cons])
              · refine .inr ⟨151, #[W64 ve, .int .i64 (-14)], ?_, (callsIn_wide.2 (rot64_any _ (ve) (-14) 50 (by decide) (by decide))).mono ?_⟩
                · simp [execOp, evP, valP, Act.eval, List.lookup_cons, go_sem]
                · rintro e w' ⟨rfl, rfl⟩
                  exact ⟨rfl, 0, rfl⟩
              · exact .inl (by simp [execOp, evP, valP, Act.eval, List.lookup_cons])
              · exact .inl (by simp [execOp, evP, valP, Act.eval, List.lookup_cons])
              · refine .inr ⟨151, #[W64 ve, .int .i64 (-18)], ?_, (callsIn_wide.2 (rot64_any _ (ve) (-18) 46 (by decide) (by decide))).mono ?_⟩
                · simp [execOp, evP, valP, Act.eval, List.lookup_cons, go_sem]
                · rintro e w' ⟨rfl, rfl⟩
                  exact ⟨rfl, 0, rfl⟩
              · exact .inl (by simp [execOp, evP, valP, Act.eval, List.lookup_cons, go_sem, crt, hti, b64_xor, b64_add])
              · exact .inl (by simp [execOp, evP, valP, Act.eval, List.lookup_cons])
              · exact .inl (by simp [execOp, evP, valP, Act.eval, List.lookup_cons])
              · refine .inr ⟨151, #[W64 ve, .int .i64 (-41)], ?_, (callsIn_wide.2 (rot64_any _ (ve) (-41) 23 (by decide) (by decide))).mono ?_⟩
                · simp [execOp, evP, valP, Act.eval, List.lookup_cons, go_sem]
                · rintro e w' ⟨rfl, rfl⟩
                  exact ⟨rfl, 0, rfl⟩
              · exact .inl (by simp [execOp, evP, valP, Act.eval, List.lookup_cons, go_sem, crt, hti, b64_xor, b64_add])
              · exact .inl (by simp [execOp, evP, valP, Act.eval, List.lookup_cons, go_sem, crt, hti, b64_xor, b64_add])
              · exact .inl (by simp [execOp, evP, valP, Act.eval, List.lookup_cons])
              · exact .inl (by simp [execOp, evP, valP, Act.eval, List.lookup_cons])
              · exact .inl (by simp [execOp, evP, valP, Act.eval, List.lookup_cons])
              · refine .inr ⟨153, #[W64 ve, W64 vf, W64 vg], ?_, (callsIn_wide.2 (choose64_any _ (ve) (vf) (vg))).mono ?_⟩
                · simp [execOp, evP, valP, Act.eval, List.lookup_cons, go_sem]
                · rintro e w' ⟨rfl, rfl⟩
                  exact ⟨rfl, 0, rfl⟩
              · exact .inl (by simp [execOp, evP, valP, Act.eval, List.lookup_cons, go_sem, crt, hti, b64_xor, b64_add])
              · exact .inl (by simp [execOp, evP, valP, Act.eval, List.lookup_cons])
              · exact .inl (by simp [execOp, evP, valP, Act.eval, List.lookup_cons, go_sem, crt, hti, b64_xor, b64_add])
              · exact .inl (by simp [execOp, evP, valP, Act.eval, List.lookup_cons, go_sem, crt, hti, b64_xor, b64_add])
              · exact .inl (by simp [execOp, evP, valP, Act.eval, List.lookup_cons, go_sem, crt, hti, b64_xor, b64_add])
              · exact .inl (by simp [execOp, evP, valP, Act.eval, List.lookup_cons])
              · exact .inl (by simp [execOp, evP, valP, Act.eval, List.lookup_cons, go_sem, crt, hti, b64_xor, b64_add])
              · exact .inl (by simp [execOp, evP, valP, Act.eval, List.lookup_cons])
            case end15 =>
              intro q
              simp [wrote, valP, Act.put, List.lookup_cons]
              obtain ⟨w7, h7⟩ : ∃ x, wr.drewN q = x := ⟨_, rfl⟩
              rw [h7]
              have hB7 : Below w6.heap.size w6 w7 := by rw [← h7]; exact below_drewN hBr _
              clear h7 hBr crt hix
              have a64 := b64_add
              have o64 := b64_xor
              go_wp2_with fail
              refine (rot64_any _ va (-28) 36 (by decide) (by decide)).mono ?_
              rintro e w' ⟨rfl, rfl⟩
              go_wp2_with fail
              refine (rot64_any _ va (-34) 30 (by decide) (by decide)).mono ?_
              rintro e w' ⟨rfl, rfl⟩
              go_wp2_with fail
              refine (rot64_any _ va (-39) 25 (by decide) (by decide)).mono ?_
              rintro e w' ⟨rfl, rfl⟩
              go_wp2_with fail
              refine (majority64_any _ va vb vc).mono ?_
              rintro e w' ⟨rfl, rfl⟩
              go_wp2
              refine ⟨⟨t + 1, by omega, by go_num, ?_, hB7⟩, by simp [intOf]; omega⟩
              rw [HS1.out t, HST.out, HWT.out, HRT.out]
              first | exact ⟨rfl, rfl, rfl, rfl, rfl, rfl, rfl, rfl⟩ | (rw [a64, a64]; exact ⟨rfl, rfl, rfl, rfl, rfl, rfl, rfl, rfl⟩)
    · have hti : (t : Int) < 80 := by omega
      by_cases ht16 : t < 16
      · have hti2 : (t : Int) < 16 := by omega
        have hrd := read64_any wr B b off 128 c bs hsr t (by omega) (by omega)
        have HRD := Lib.hid hrd
        have ce := hsc.end_ (by omega)
        have hfz := hsc.row.frozen t
        obtain ⟨y, hy⟩ : ∃ y, rd64 bs t = y := ⟨_, rfl⟩
        have hnx := hsc.put (by omega) y
        have hval : sched64 bs (t + 1) = sched64 bs t ++ [y] := by rw [sched64, if_pos ht16, hy]
        rw [← hval] at hnx
        rw [hy] at HRD
        have hrx := hr1.far (p := ⟨g3, t, none⟩) (by show g1 ≠ g3; omega) (W64 y)
        have hry := hr2.far (p := ⟨g3, t, none⟩) (by show g2 ≠ g3; omega) (W64 y)
        have hBx := below_setV hBr (show g1 ≤ g3 by omega) t (W64 y)
        have HNX := Lib.hid hnx
        have HRX := Lib.hid hrx
        have HRY := Lib.hid hry
        have HBX := Lib.hid hBx
        clear hrd hnx hval hrx hry hBx hy
        go_wp2_with fail
        refine HRD.out.mono ?_
        rintro e w2 ⟨rfl, rfl⟩
        go_wp2
        go_roundw
        case rel => exact ⟨t + 1, by omega, by go_num, HNX.out, HRX.out, HRY.out, HBX.out⟩
        case measure => simp [intOf]; omega
      · have hti2 : ¬ (t : Int) < 16 := by omega
        obtain ⟨p15, h15⟩ : ∃ p, t - 15 = p := ⟨_, rfl⟩
        obtain ⟨p2, h2⟩ : ∃ p, t - 2 = p := ⟨_, rfl⟩
        obtain ⟨p16, h16⟩ : ∃ p, t - 16 = p := ⟨_, rfl⟩
        obtain ⟨p7, h7⟩ : ∃ p, t - 7 = p := ⟨_, rfl⟩
        have c15 := hsc.at_ (i := p15) (by omega)
        have c2 := hsc.at_ (i := p2) (by omega)
        have c16 := hsc.at_ (i := p16) (by omega)
        have c7 := hsc.at_ (i := p7) (by omega)
        have ce := hsc.end_ (by omega)
        have hfz := hsc.row.frozen t
        obtain ⟨x, hx⟩ : ∃ x, (sched64 bs t).getD p15 0 = x := ⟨_, rfl⟩
        obtain ⟨y, hy⟩ : ∃ x, (sched64 bs t).getD p2 0 = x := ⟨_, rfl⟩
        obtain ⟨u, hu⟩ : ∃ x, (sched64 bs t).getD p16 0 = x := ⟨_, rfl⟩
        obtain ⟨v, hv⟩ : ∃ x, (sched64 bs t).getD p7 0 = x := ⟨_, rfl⟩
        rw [hx] at c15
        rw [hy] at c2
        rw [hu] at c16
        rw [hv] at c7
        have i15 : (t : Int) - 15 = (p15 : Int) := by omega
        have i2 : (t : Int) - 2 = (p2 : Int) := by omega
        have i16 : (t : Int) - 16 = (p16 : Int) := by omega
        have i7 : (t : Int) - 7 = (p7 : Int) := by omega
        have l15 : (p15 : Int) < 80 := by omega
        have l2 : (p2 : Int) < 80 := by omega
        have l16 : (p16 : Int) < 80 := by omega
        have l7 : (p7 : Int) < 80 := by omega
        have H15 := Lib.hid h15
        have H2 := Lib.hid h2
        have H16 := Lib.hid h16
        have H7 := Lib.hid h7
        have HX := Lib.hid hx
        have HY := Lib.hid hy
        have HU := Lib.hid hu
        have HV := Lib.hid hv
        clear h15 h2 h16 h7 hx hy hu hv
        have k7 := fun w => rot64_any w x (-1) 63 (by decide) (by decide)
        have k18 := fun w => rot64_any w x (-8) 56 (by decide) (by decide)
        have k17 := fun w => rot64_any w y (-19) 45 (by decide) (by decide)
        have k19 := fun w => rot64_any w y (-61) 3 (by decide) (by decide)
        have K7 := Lib.hid k7
        have K18 := Lib.hid k18
        have K17 := Lib.hid k17
        have K19 := Lib.hid k19
        clear k7 k18 k17 k19
        go_wp2
        go_region
        go_wp2
        have w16 : IntKind.i64.wrap (p16 : Int) = (p16 : Int) := by rw [IntKind.wrap_i64]; omega
        have w7 : IntKind.i64.wrap (p7 : Int) = (p7 : Int) := by rw [IntKind.wrap_i64]; omega
        refine (wpIn_wide (n := 9)).1 (wpIn_region_pure rfl hmx [(42, .int .i64 (t : Int)), (43, .int .i64 (t : Int)), (44, .int .i64 (p16 : Int)), (45, .pointer (some ⟨g3, p16, none⟩)), (46, W64 u), (47, .int .i64 (t : Int)), (48, .int .i64 (p7 : Int)), (49, .pointer (some ⟨g3, p7, none⟩)), (50, W64 v), (51, W64 (u + v)), (52, .func (.func 151) #[] #[]), (53, W64 x), (54, W64 (rl64 63 x)), (55, .func (.func 151) #[] #[]), (56, W64 x), (57, W64 (rl64 56 x)), (58, W64 ((rl64 63 x) ^^^ (rl64 56 x))), (59, W64 x), (60, W64 (x >>> 7)), (61, W64 (((rl64 63 x) ^^^ (rl64 56 x)) ^^^ (x >>> 7))), (62, W64 ((u + v) + (((rl64 63 x) ^^^ (rl64 56 x)) ^^^ (x >>> 7)))), (63, .func (.func 151) #[] #[]), (64, W64 y), (65, W64 (rl64 45 y)), (66, .func (.func 151) #[] #[]), (67, W64 y), (68, W64 (rl64 3 y)), (69, W64 ((rl64 45 y) ^^^ (rl64 3 y))), (70, W64 y), (71, W64 (y >>> 6)), (72, W64 (((rl64 45 y) ^^^ (rl64 3 y)) ^^^ (y >>> 6))), (73, W64 (((u + v) + (((rl64 63 x) ^^^ (rl64 56 x)) ^^^ (x >>> 7))) + (((rl64 45 y) ^^^ (rl64 3 y)) ^^^ (y >>> 6)))), (74, .pointer (some ⟨g3, t, none⟩))] (by kernel_rfl) (by kernel_rfl) (by kernel_rfl) (by kernel_rfl) (by first | rfl | simp) 33 (wr.drew.setCell ⟨g3, t, none⟩ (W64 (((u + v) + (((rl64 63 x) ^^^ (rl64 56 x)) ^^^ (x >>> 7))) + (((rl64 45 y) ^^^ (rl64 3 y)) ^^^ (y >>> 6))))) rfl (by kernel_rfl) ?ops9 ?last9 ?end9)
        case ops9 =>
          intro i o hi ho
          have hi2 : i = 0 ∨ i = 1 ∨ i = 2 ∨ i = 3 ∨ i = 4 ∨ i = 5 ∨ i = 6 ∨ i = 7 ∨ i = 8 ∨ i = 9 ∨ i = 10 ∨ i = 11 ∨ i = 12 ∨ i = 13 ∨ i = 14 ∨ i = 15 ∨ i = 16 ∨ i = 17 ∨ i = 18 ∨ i = 19 ∨ i = 20 ∨ i = 21 ∨ i = 22 ∨ i = 23 ∨ i = 24 ∨ i = 25 ∨ i = 26 ∨ i = 27 ∨ i = 28 ∨ i = 29 ∨ i = 30 ∨ i = 31 ∨ i = 32 := by omega
          rcases hi2 with rfl | rfl | rfl | rfl | rfl | rfl | rfl | rfl | rfl | rfl | rfl | rfl | rfl | rfl | rfl | rfl | rfl | rfl | rfl | rfl | rfl | rfl | rfl | rfl | rfl | rfl | rfl | rfl | rfl | rfl | rfl | rfl | rfl
          all_goals
            have ho' := ho
            simp only [List.getElem?_toArray, List.getElem?_cons_zero, List.getElem?_cons_succ, Option.some.injEq] at ho'
            subst ho'
            refine ⟨(by intro c h; cases h), fun q => ⟨fun _ _ => trivial, ?_⟩⟩
          · exact .inl (by simp [execOp, evP, valP, Act.eval, List.lookup_cons])
          · exact .inl (by simp [execOp, evP, valP, Act.eval, List.lookup_cons])
          · exact .inl (by simp [execOp, evP, valP, Act.eval, List.lookup_cons, go_sem, i16, i7, l16, l7, w16, w7, hti, c16, c7, b64_xor, b64_add, b64_d7, b64_d6])
          · exact .inl (by simp [execOp, evP, valP, Act.eval, List.lookup_cons, go_sem, i16, i7, l16, l7, w16, w7, hti, c16, c7, b64_xor, b64_add, b64_d7, b64_d6])
          · exact .inl (by simp [execOp, evP, valP, Act.eval, List.lookup_cons, go_sem, i16, i7, l16, l7, w16, w7, hti, c16, c7, b64_xor, b64_add, b64_d7, b64_d6])
          · exact .inl (by simp [execOp, evP, valP, Act.eval, List.lookup_cons])
          · exact .inl (by simp [execOp, evP, valP, Act.eval, List.lookup_cons, go_sem, i16, i7, l16, l7, w16, w7, hti, c16, c7, b64_xor, b64_add, b64_d7, b64_d6])
          · exact .inl (by simp [execOp, evP, valP, Act.eval, List.lookup_cons, go_sem, i16, i7, l16, l7, w16, w7, hti, c16, c7, b64_xor, b64_add, b64_d7, b64_d6])
          · exact .inl (by simp [execOp, evP, valP, Act.eval, List.lookup_cons, go_sem, i16, i7, l16, l7, w16, w7, hti, c16, c7, b64_xor, b64_add, b64_d7, b64_d6])
          · exact .inl (by simp [execOp, evP, valP, Act.eval, List.lookup_cons, go_sem, i16, i7, l16, l7, w16, w7, hti, c16, c7, b64_xor, b64_add, b64_d7, b64_d6])
          · exact .inl (by simp [execOp, evP, valP, Act.eval, List.lookup_cons])
          · exact .inl (by simp [execOp, evP, valP, Act.eval, List.lookup_cons])
          · refine .inr ⟨151, #[W64 x, .int .i64 (-1)], ?_, (callsIn_wide.2 (rot64_any _ (x) (-1) 63 (by decide) (by decide))).mono ?_⟩
            · simp [execOp, evP, valP, Act.eval, List.lookup_cons, go_sem]
            · rintro e w' ⟨rfl, rfl⟩
              exact ⟨rfl, 0, rfl⟩
          · exact .inl (by simp [execOp, evP, valP, Act.eval, List.lookup_cons])
          · exact .inl (by simp [execOp, evP, valP, Act.eval, List.lookup_cons])
          · refine .inr ⟨151, #[W64 x, .int .i64 (-8)], ?_, (callsIn_wide.2 (rot64_any _ (x) (-8) 56 (by decide) (by decide))).mono ?_⟩
            · simp [execOp, evP, valP, Act.eval, List.lookup_cons, go_sem]
            · rintro e w' ⟨rfl, rfl⟩
              exact ⟨rfl, 0, rfl⟩
          · exact .inl (by simp [execOp, evP, valP, Act.eval, List.lookup_cons, go_sem, i16, i7, l16, l7, w16, w7, hti, c16, c7, b64_xor, b64_add, b64_d7, b64_d6])
          · exact .inl (by simp [execOp, evP, valP, Act.eval, List.lookup_cons])
          · exact .inl (by simp [execOp, evP, valP, Act.eval, List.lookup_cons, go_sem, i16, i7, l16, l7, w16, w7, hti, c16, c7, b64_xor, b64_add, b64_d7, b64_d6] <;> first | exact b32_shr _ _ | exact b32_d3 _ | exact b32_d10 _ | exact b64_d7 _ | exact b64_d6 _ | exact b64_d32 _)
          · exact .inl (by simp [execOp, evP, valP, Act.eval, List.lookup_cons, go_sem, i16, i7, l16, l7, w16, w7, hti, c16, c7, b64_xor, b64_add, b64_d7, b64_d6])
          · exact .inl (by simp [execOp, evP, valP, Act.eval, List.lookup_cons, go_sem, i16, i7, l16, l7, w16, w7, hti, c16, c7, b64_xor, b64_add, b64_d7, b64_d6])
          · exact .inl (by simp [execOp, evP, valP, Act.eval, List.lookup_cons])
          · exact .inl (by simp [execOp, evP, valP, Act.eval, List.lookup_cons])
          · refine .inr ⟨151, #[W64 y, .int .i64 (-19)], ?_, (callsIn_wide.2 (rot64_any _ (y) (-19) 45 (by decide) (by decide))).mono ?_⟩
            · simp [execOp, evP, valP, Act.eval, List.lookup_cons, go_sem]
            · rintro e w' ⟨rfl, rfl⟩
              exact ⟨rfl, 0, rfl⟩
          · exact .inl (by simp [execOp, evP, valP, Act.eval, List.lookup_cons])
          · exact .inl (by simp [execOp, evP, valP, Act.eval, List.lookup_cons])
          · refine .inr ⟨151, #[W64 y, .int .i64 (-61)], ?_, (callsIn_wide.2 (rot64_any _ (y) (-61) 3 (by decide) (by decide))).mono ?_⟩
            · simp [execOp, evP, valP, Act.eval, List.lookup_cons, go_sem]
            · rintro e w' ⟨rfl, rfl⟩
              exact ⟨rfl, 0, rfl⟩
          · exact .inl (by simp [execOp, evP, valP, Act.eval, List.lookup_cons, go_sem, i16, i7, l16, l7, w16, w7, hti, c16, c7, b64_xor, b64_add, b64_d7, b64_d6])
          · exact .inl (by simp [execOp, evP, valP, Act.eval, List.lookup_cons])
          · exact .inl (by simp [execOp, evP, valP, Act.eval, List.lookup_cons, go_sem, i16, i7, l16, l7, w16, w7, hti, c16, c7, b64_xor, b64_add, b64_d7, b64_d6] <;> first | exact b32_shr _ _ | exact b32_d3 _ | exact b32_d10 _ | exact b64_d7 _ | exact b64_d6 _ | exact b64_d32 _)
          · exact .inl (by simp [execOp, evP, valP, Act.eval, List.lookup_cons, go_sem, i16, i7, l16, l7, w16, w7, hti, c16, c7, b64_xor, b64_add, b64_d7, b64_d6])
          · exact .inl (by simp [execOp, evP, valP, Act.eval, List.lookup_cons, go_sem, i16, i7, l16, l7, w16, w7, hti, c16, c7, b64_xor, b64_add, b64_d7, b64_d6])
          · exact .inl (by simp [execOp, evP, valP, Act.eval, List.lookup_cons, go_sem, i16, i7, l16, l7, w16, w7, hti, c16, c7, b64_xor, b64_add, b64_d7, b64_d6])
        case last9 =>
          intro o ho
          have ho' := ho
          simp only [List.getElem?_toArray, List.getElem?_cons_zero, List.getElem?_cons_succ, Option.some.injEq] at ho'
          subst ho'
          refine ⟨(by intro c h; cases h), fun q => ⟨fun _ _ => trivial, .inl ⟨?_, rfl⟩⟩⟩
          simp [execOp, evP, valP, Act.eval, List.lookup_cons, go_sem, ce, hfz, hti]
          try rfl
        case end9 =>
          intro q
          simp [wrote, valP, Act.put, List.lookup_cons]
          have hnx := hsc.put (by omega) ((((u + v) + (((rl64 63 x) ^^^ (rl64 56 x)) ^^^ (x >>> 7))) + (((rl64 45 y) ^^^ (rl64 3 y)) ^^^ (y >>> 6))))
          have hval : sched64 bs (t + 1) = sched64 bs t ++ [(((u + v) + (((rl64 63 x) ^^^ (rl64 56 x)) ^^^ (x >>> 7))) + (((rl64 45 y) ^^^ (rl64 3 y)) ^^^ (y >>> 6)))] := by
            rw [sched64, if_neg ht16, next64, H15.out, H2.out, H16.out, H7.out, HX.out, HY.out, HU.out, HV.out]
          rw [← hval] at hnx
          have hrx := hr1.far (p := ⟨g3, t, none⟩) (by show g1 ≠ g3; omega) (W64 (((u + v) + (((rl64 63 x) ^^^ (rl64 56 x)) ^^^ (x >>> 7))) + (((rl64 45 y) ^^^ (rl64 3 y)) ^^^ (y >>> 6))))
          have hry := hr2.far (p := ⟨g3, t, none⟩) (by show g2 ≠ g3; omega) (W64 (((u + v) + (((rl64 63 x) ^^^ (rl64 56 x)) ^^^ (x >>> 7))) + (((rl64 45 y) ^^^ (rl64 3 y)) ^^^ (y >>> 6))))
          have HRY := Lib.hid hry
          have hBx := below_setV hBr (show g1 ≤ g3 by omega) t (W64 (((u + v) + (((rl64 63 x) ^^^ (rl64 56 x)) ^^^ (x >>> 7))) + (((rl64 45 y) ^^^ (rl64 3 y)) ^^^ (y >>> 6))))
          have HNX := Lib.hid hnx
          have HRX := Lib.hid hrx
          have HBX := Lib.hid hBx
          clear hnx hval hrx hry hBx
          go_wp2
          go_roundw
          case rel => exact ⟨t + 1, by omega, by go_num, ⟨HNX.out.row, HNX.out.len⟩, HRX.out, HRY.out, below_drewN (HBX.out) _⟩
          case measure => simp [intOf]; omega
end Go.Proofs.YtnpaidieijlkkaaDoor

/- hashes: mixSHA1. -/
set_option linter.unusedVariables false
set_option linter.unusedSimpArgs false
namespace Go.Proofs.YtnpaidieijlkkaaDoor
open Go.RowKit Go.Shelf

def next1 (ws : List (BitVec 32)) (t : Nat) : BitVec 32 :=
  rl32 1 (ws.getD (t - 3) 0 ^^^ ws.getD (t - 8) 0 ^^^ ws.getD (t - 14) 0 ^^^ ws.getD (t - 16) 0)
def sched1 (bs : List (BitVec 8)) : Nat → List (BitVec 32)
  | 0 => []
  | t + 1 => sched1 bs t ++ [if t < 16 then rd32 bs t else next1 (sched1 bs t) t]
structure H1 where
  a : BitVec 32
  b : BitVec 32
  c : BitVec 32
  d : BitVec 32
  e : BitVec 32
def round1 (t : Nat) (wt : BitVec 32) (s : H1) : H1 := ⟨rl32 5 s.a + bendV t s.b s.c s.d + s.e + wt, s.a, rl32 30 s.b, s.c, s.d⟩
def st1 (ws : List (BitVec 32)) (s0 : H1) : Nat → H1
  | 0 => s0
  | t + 1 => round1 t (ws.getD t 0) (st1 ws s0 t)
def H1.ofL (l : List (BitVec 32)) : H1 := ⟨l.getD 0 0, l.getD 1 0, l.getD 2 0, l.getD 3 0, l.getD 4 0⟩
def H1.toL (s : H1) : List (BitVec 32) := [s.a, s.b, s.c, s.d, s.e, 0, 0, 0]
/-- a block is taken into the words -/
def comp1 (xs : List (BitVec 64)) (bs : List (BitVec 8)) : List (BitVec 64) := addL (lowL xs) (st1 (sched1 bs 80) (H1.ofL (lowL xs)) 80).toL
theorem run_index8032 (w : World) (ws : List (BitVec 32)) (hl : ws.length = 80) (k : Nat) (hk : k < 80) : (Instr.index 164 (.agg (ws.map W32).toArray) (.int .i64 (k : Int))).run Tryd.prog w = .ok (W32 (ws.getD k 0)) w := by
  have h0 : (0 : Int) ≤ k := by omega
  have h2 : (ws.map W32)[k]? = some (W32 (ws.getD k 0)) := by rw [List.getElem?_map, List.getD_eq_getElem?_getD, List.getElem?_eq_getElem (by omega)]; rfl
  obtain ⟨vs, hvs⟩ : ∃ vs, ws.map W32 = vs := ⟨_, rfl⟩
  obtain ⟨v, hv⟩ : ∃ v, W32 (ws.getD k 0) = v := ⟨_, rfl⟩
  rw [hvs, hv] at h2
  rw [hvs, hv]
  simp only [Instr.index, asIntOf, Sem.run_bind, Sem.run_pure, Result.andThen_ok, run_underlying Tryd.underlying164]
  simp [h0, part, h2, go_sem]
  intro h
  exact absurd h (by omega)
theorem Tryd.arr8032 : (Tryd.prog.info? 164).map (·.size) = some 80 := by kernel_rfl

/-- the schedule's round from 16 on: facts of memory -/
structure Sch1 (w : World) (g t : Nat) (ws : List (BitVec 32)) : Prop where
  row : RowV 164 w g ((ws ++ List.replicate (80 - t) 0).map W32)
  len : ws.length = t
theorem Sch1.at_ {w : World} {g t : Nat} {ws : List (BitVec 32)} (h : Sch1 w g t ws) {i : Nat} (hi : i < t) : w.cell? ⟨g, i, none⟩ = some (W32 (ws.getD i 0)) :=
  h.row.at_ (by rw [List.getElem?_map, get_pre _ _ 0 _ (by rw [h.len]; exact hi)]; rfl)
theorem Sch1.end_ {w : World} {g t : Nat} {ws : List (BitVec 32)} (h : Sch1 w g t ws) (ht : t < 80) : w.cell? ⟨g, t, none⟩ = some (.int .u32 0) :=
  h.row.at_ (by rw [List.getElem?_map, show 80 - t = (79 - t) + 1 by omega, get_end _ _ _ _ h.len]; rfl)
theorem Sch1.put {w : World} {g t : Nat} {ws : List (BitVec 32)} (h : Sch1 w g t ws) (ht : t < 80) (y : BitVec 32) : Sch1 (w.setCell ⟨g, t, none⟩ (W32 y)) g (t + 1) (ws ++ [y]) :=
  ⟨by
    have h2 := h.row.set t (W32 y)
    rw [← List.map_set, show 80 - t = (80 - (t + 1)) + 1 by omega, set_end _ _ _ _ _ h.len] at h2
    exact h2, by simp [h.len]⟩

set_option maxRecDepth 100000 in
set_option maxHeartbeats 4000000 in
theorem mixSHA1_any (w : World) (xs : List (BitVec 64)) (hl : xs.length = 8) (B b off n c : Nat) (bs : List (BitVec 8)) (hs : SlV w B (some ⟨b, off, none⟩) n c (bs.map W8)) (hn : n = 64) (hB : B ≤ w.heap.size) :
    Calls Tryd.prog 131 #[.agg (xs.map W64).toArray, .slice (some ⟨b, off, none⟩) n c] w fun e w' => e = .returned (.agg ((comp1 xs bs).map W64).toArray) ∧ Below w.heap.size w w' := by
  subst hn
  have hlm : (xs.map W64).length = 8 := by simpa using hl
  obtain ⟨R, hR⟩ : ∃ R, comp1 xs bs = R := ⟨_, rfl⟩
  rw [hR]
  have HRES := Lib.hid hR
  clear hR
  obtain ⟨W1, e1, r1, b1, z1⟩ := newV w 122 (xs.map W64) _ rfl
  obtain ⟨W2, e2, r2, b2, z2⟩ := newV W1 122 ((List.replicate 8 (0 : BitVec 64)).map W64) #[.int .u64 0, .int .u64 0, .int .u64 0, .int .u64 0, .int .u64 0, .int .u64 0, .int .u64 0, .int .u64 0] rfl
  obtain ⟨W3, e3, r3, b3, z3⟩ := newV W2 164 ((List.replicate 80 (0 : BitVec 32)).map W32) Tryd.zeroCells164 (by first | rfl | kernel_rfl)
  obtain ⟨g1, hg1⟩ : ∃ g, w.heap.size = g := ⟨_, rfl⟩
  obtain ⟨g2, hg2⟩ : ∃ g, W1.heap.size = g := ⟨_, rfl⟩
  obtain ⟨g3, hg3⟩ : ∃ g, W2.heap.size = g := ⟨_, rfl⟩
  have r1 := (r1.later b2).later b3
  have r2 := r2.later b3
  have hbl : Below w.heap.size w W3 := b1.trans ((b2.trans (b3.mono b2.size)).mono b1.size)
  have hs3 := hs.below (hbl.mono hB)
  rw [hg3] at r3
  rw [hg2] at r2
  rw [hg1] at r1 hbl
  have h12 : g1 < g2 := by omega
  have h23 : g2 < g3 := by omega
  have HG := Lib.hid hg1
  have HBB := Lib.hid hB
  have hB1 : B ≤ g1 := by omega
  have hmx : Tryd.prog.follows .mixedOrders = true := by kernel_rfl
  have hrot := rot32_any
  have HROT := Lib.hid hrot
  clear b1 b2 b3 z1 z2 z3 hs3 hrot
  go_enter Tryd.func131, Tryd.ntmps131
  go_wp2
  clear e1 e2 e3 hg1 hg2 hg3
  go_loopw [16] (fun i wr => ∃ t : Nat, t ≤ 80 ∧ i = .int .i64 (t : Nat) ∧ Sch1 wr g3 t (sched1 bs t) ∧ RowV 122 wr g1 (xs.map W64) ∧ RowV 122 wr g2 ((List.replicate 8 (0 : BitVec 64)).map W64) ∧ Below g1 w wr) (fun i _ => 80 - (intOf i).toNat)
  case atStart => exact ⟨0, by decide, rfl, ⟨r3, rfl⟩, r1, r2, hbl⟩
  case round =>
    obtain ⟨t, ht, rfl, hsc, hr1, hr2, hBr⟩ := hrel
    have hsr := hs.below ((HG.out ▸ hBr : Below w.heap.size w wr).mono HBB.out)
    by_cases ht80 : t = 80
    · subst ht80
      obtain ⟨ws, hws⟩ : ∃ ws, sched1 bs 80 = ws := ⟨_, rfl⟩
      rw [hws] at hsc
      have hrow3 : RowV 164 wr g3 (ws.map W32) := by
        have h := hsc.row
        rw [Nat.sub_self] at h
        simpa using h
      have hwl : (ws.map W32).length = 80 := by simpa using hsc.len
      have hwl0 : ws.length = 80 := hsc.len
      have hlo := lower_any wr xs hl
      obtain ⟨ss, hss⟩ : ∃ ss, lowL xs = ss := ⟨_, rfl⟩
      have hsl : ss.length = 8 := by rw [← hss]; simp [lowL, hl]
      rw [hss] at hlo
      have HLO := Lib.hid hlo
      have HWS := Lib.hid hws
      have HSS := Lib.hid hss
      clear hsc hsr hws hss hlo
      go_wp2_with (refine wlv_load rfl 122 8 _ Tryd.underlying122 Tryd.arr64 _ rfl g1 rfl _ _ hr1 hlm ?_)
      refine HLO.out.mono ?_
      rintro e w2 ⟨rfl, hb2⟩
      have hrow3 := hrow3.later hb2
      have hr2 := hr2.later hb2
      have hBr := hBr.trans (hb2.mono (by have := hBr.size; have := HG.out; omega))
      obtain ⟨W4, e4, r4, b4, z4⟩ := newV w2 167 ((List.replicate 8 (0 : BitVec 32)).map W32) #[.int .u32 0, .int .u32 0, .int .u32 0, .int .u32 0, .int .u32 0, .int .u32 0, .int .u32 0, .int .u32 0] rfl
      obtain ⟨g4, hg4⟩ : ∃ g, w2.heap.size = g := ⟨_, rfl⟩
      have h3lt := Lib.hid hrow3.lt
      have hrow3 := hrow3.later b4
      have hr2 := hr2.later b4
      have hBr := hBr.trans (b4.mono (by have := hBr.size; have := HG.out; omega))
      rw [hg4] at r4
      have hlz : ((List.replicate 8 (0 : BitVec 32)).map W32).length = 8 := by simp
      have hlss : (ss.map W32).length = 8 := by simpa using hsl
      clear hb2 b4 z4
      go_wp2_with (refine wlv_store rfl 167 8 Tryd.arr32 _ _ rfl g4 (ss.map W32) rfl rfl _ _ r4 hlz hlss (ones32 _) ?_; intro w5 hr5 hb5 hz5)
      obtain ⟨s0, s1, s2, s3, s4, s5, s6, s7, hs8⟩ := list8 hsl
      have hb45 : Below g4 W4 w5 := hb5 _ _ (Below.refl _ _) (Nat.le_refl _)
      have h3l : g3 < g4 := by have := hrow3.lt; have := h3lt.out; omega
      have hrow3 := hrow3.below hb45 h3l
      have hr2 := hr2.below hb45 (by omega)
      have hBr : Below g1 w w5 := hBr.trans (hb45.mono (by omega))
      subst hs8
      have cl : ∀ (k : Nat) (x : BitVec 32), [s0, s1, s2, s3, s4, s5, s6, s7][k]? = some x → w5.cell? ⟨g4, k, none⟩ = some (W32 x) := fun k x hx => hr5.at_ (by rw [List.getElem?_map, hx]; rfl)
      have d0 := cl 0 s0 rfl
      have d1 := cl 1 s1 rfl
      have d2 := cl 2 s2 rfl
      have d3 := cl 3 s3 rfl
      have d4 := cl 4 s4 rfl
      have d5 := cl 5 s5 rfl
      have d6 := cl 6 s6 rfl
      have d7 := cl 7 s7 rfl
      clear cl e4 hb5 hb45
      refine (wpIn_wide (n := 9)).1 (wpIn_region_pure0 rfl hmx [(51, .pointer (some ⟨g4, 0, none⟩)), (52, W32 s0), (53, .pointer (some ⟨g4, 1, none⟩)), (54, W32 s1), (55, .pointer (some ⟨g4, 2, none⟩)), (56, W32 s2), (57, .pointer (some ⟨g4, 3, none⟩)), (58, W32 s3), (59, .pointer (some ⟨g4, 4, none⟩)), (60, W32 s4), (8, W32 s0), (9, W32 s1), (10, W32 s2), (11, W32 s3), (12, W32 s4)] (by kernel_rfl) (by kernel_rfl) (by kernel_rfl) (by kernel_rfl) (by first | rfl | simp) ?ops10 ?end10)
      case ops10 =>
        intro i o hi ho
        have hi3 : i < 15 := hi
        have hi2 : i = 0 ∨ i = 1 ∨ i = 2 ∨ i = 3 ∨ i = 4 ∨ i = 5 ∨ i = 6 ∨ i = 7 ∨ i = 8 ∨ i = 9 ∨ i = 10 ∨ i = 11 ∨ i = 12 ∨ i = 13 ∨ i = 14 := by omega
        rcases hi2 with rfl | rfl | rfl | rfl | rfl | rfl | rfl | rfl | rfl | rfl | rfl | rfl | rfl | rfl | rfl
        all_goals
          have ho' := ho
          simp only [List.getElem?_toArray, List.getElem?_cons_zero, List.getElem?_cons_succ, Option.some.injEq] at ho'
          subst ho'
          refine ⟨(by intro c h; cases h), fun q => ⟨fun _ _ => trivial, ?_⟩⟩
        · exact .inl (by simp [execOp, evP, valP, Act.eval, List.lookup_cons, go_sem, d0, d1, d2, d3, d4, d5, d6, d7])
        · exact .inl (by simp [execOp, evP, valP, Act.eval, List.lookup_cons, go_sem, d0, d1, d2, d3, d4, d5, d6, d7])
        · exact .inl (by simp [execOp, evP, valP, Act.eval, List.lookup_cons, go_sem, d0, d1, d2, d3, d4, d5, d6, d7])
        · exact .inl (by simp [execOp, evP, valP, Act.eval, List.lookup_cons, go_sem, d0, d1, d2, d3, d4, d5, d6, d7])
        · exact .inl (by simp [execOp, evP, valP, Act.eval, List.lookup_cons, go_sem, d0, d1, d2, d3, d4, d5, d6, d7])
        · exact .inl (by simp [execOp, evP, valP, Act.eval, List.lookup_cons, go_sem, d0, d1, d2, d3, d4, d5, d6, d7])
        · exact .inl (by simp [execOp, evP, valP, Act.eval, List.lookup_cons, go_sem, d0, d1, d2, d3, d4, d5, d6, d7])
        · exact .inl (by simp [execOp, evP, valP, Act.eval, List.lookup_cons, go_sem, d0, d1, d2, d3, d4, d5, d6, d7])
        · exact .inl (by simp [execOp, evP, valP, Act.eval, List.lookup_cons, go_sem, d0, d1, d2, d3, d4, d5, d6, d7])
        · exact .inl (by simp [execOp, evP, valP, Act.eval, List.lookup_cons, go_sem, d0, d1, d2, d3, d4, d5, d6, d7])
        · exact .inl (by simp [execOp, evP, valP, Act.eval, List.lookup_cons])
        · exact .inl (by simp [execOp, evP, valP, Act.eval, List.lookup_cons])
        · exact .inl (by simp [execOp, evP, valP, Act.eval, List.lookup_cons])
        · exact .inl (by simp [execOp, evP, valP, Act.eval, List.lookup_cons])
        · exact .inl (by simp [execOp, evP, valP, Act.eval, List.lookup_cons])
      case end10 =>
        intro q
        simp [wrote, valP, Act.put, List.lookup_cons]
        obtain ⟨w6, h6⟩ : ∃ w6, w5.drewN q = w6 := ⟨_, rfl⟩
        rw [h6]
        have hrow6 : RowV 164 w6 g3 (ws.map W32) := by rw [← h6]; exact hrow3
        have hr6 : RowV 122 w6 g2 ((List.replicate 8 (0 : BitVec 64)).map W64) := by rw [← h6]; exact hr2
        have hr46 : RowV 167 w6 g4 ([s0, s1, s2, s3, s4, s5, s6, s7].map W32) := by rw [← h6]; exact hr5
        have hB6 : Below g1 w w6 := by rw [← h6]; exact below_drewN hBr _
        obtain ⟨S, hS⟩ : ∃ S : Nat → H1, st1 ws ⟨s0, s1, s2, s3, s4⟩ = S := ⟨_, rfl⟩
        have hS0 : S 0 = ⟨s0, s1, s2, s3, s4⟩ := by rw [← hS]; rfl
        have hS1 : ∀ t, S (t + 1) = round1 t (ws.getD t 0) (S t) := fun t => by rw [← hS]; rfl
        have HS := Lib.hid hS
        have HS0 := Lib.hid hS0
        have HS1 := Lib.hid hS1
        clear hS hS0 hS1 h6 hrow3 hr2 hr5 hBr d0 d1 d2 d3 d4 d5 d6 d7 hr1
        go_wp2_with (refine wlv_load rfl 164 80 _ Tryd.underlying164 Tryd.arr8032 _ rfl g3 rfl _ _ hrow6 hwl ?_)
        go_loopw [8, 9, 10, 11, 12, 62] (fun xa xb xc xd xe i wr => ∃ t : Nat, t ≤ 80 ∧ i = .int .i64 (t : Nat) ∧ (xa = W32 (S t).a ∧ xb = W32 (S t).b ∧ xc = W32 (S t).c ∧ xd = W32 (S t).d ∧ xe = W32 (S t).e) ∧ Below w6.heap.size w6 wr) (fun _ _ _ _ _ i _ => 80 - (intOf i).toNat)
        case atStart => exact ⟨0, by decide, rfl, by rw [HS0.out]; exact ⟨rfl, rfl, rfl, rfl, rfl⟩, Below.refl _ _⟩
        case round =>
          obtain ⟨t, ht, rfl, ⟨rfl, rfl, rfl, rfl, rfl⟩, hBr⟩ := hrel
          by_cases ht80 : t = 80
          · subst ht80
            have hr6 := hr6.later hBr
            have hr46 := hr46.later hBr
            have hBw : Below g1 w wr := hB6.trans (hBr.mono (by have := hB6.size; have := HG.out; omega))
            have hR : addL [s0, s1, s2, s3, s4, s5, s6, s7] (S 80).toL = R := by
              rw [← HRES.out, comp1, HSS.out, HWS.out, ← HS.out]; rfl
            have HR := Lib.hid hR
            have h8 : ([s0, s1, s2, s3, s4, s5, s6, s7].map W32).length = 8 := rfl
            obtain ⟨V, hV⟩ : ∃ V, S 80 = V := ⟨_, rfl⟩
            rw [hV] at HR ⊢
            have hadd := add32_any wr [s0, s1, s2, s3, s4, s5, s6, s7] V.toL rfl rfl
            rw [HR.out] at hadd
            have hRl : (R.map W64).length = 8 := by rw [← HR.out]; simp [addL, H1.toL]
            have HADD := Lib.hid hadd
            have HRL := Lib.hid hRl
            clear hR hV hadd hRl hB6 hBr hrow6
            go_wp2_with (refine wlv_load rfl 167 8 _ Tryd.underlying167 Tryd.arr32 _ rfl g4 rfl _ _ hr46 h8 ?_)
            refine HADD.out.mono ?_
            rintro e w8 ⟨rfl, hb8⟩
            have hr6 := hr6.later hb8
            have hBw : Below g1 w w8 := hBw.trans (hb8.mono (by have := hBw.size; have := HG.out; omega))
            have hz8 : ((List.replicate 8 (0 : BitVec 64)).map W64).length = 8 := by simp
            have hRl := HRL.out
            clear hb8 hr46
            go_wp2_with (first | refine wlv_load rfl 122 8 _ Tryd.underlying122 Tryd.arr64 _ rfl g2 rfl _ _ hr6 hz8 ?_ | (refine wlv_store rfl 122 8 Tryd.arr64 _ _ rfl g2 (R.map W64) rfl rfl _ _ hr6 hz8 hRl (ones64 _) ?_; intro w9 hr9 hb9 hz9))
            refine ⟨rfl, _, results_rowV rfl _ g2 _ _ rfl hr9 Tryd.underlying122 Tryd.arr64 hRl, rfl, ?_⟩
            rw [HG.out]
            exact hb9 _ _ hBw (by omega)
          · have hti : (t : Int) < 80 := by omega
            have ht8 : t < 80 := by omega
            have hix := run_index8032 wr ws hwl0 t (by omega)
            obtain ⟨wt, hwt⟩ : ∃ x, ws.getD t 0 = x := ⟨_, rfl⟩
            obtain ⟨⟨va, vb, vc, vd, ve⟩, hst⟩ : ∃ x, S t = x := ⟨_, rfl⟩
            rw [hwt] at hix
            rw [hst]
            dsimp only
            have HWT := Lib.hid hwt
            have HST := Lib.hid hst
            clear hwt hst
            have a32 := b32_add'
            go_wp2_with fail
            refine (rot32_any _ va 5 5 (by decide) (by decide)).mono ?_
            rintro e w' ⟨rfl, rfl⟩
            go_wp2_with fail
            refine (bend_any _ t ht8 vb vc vd).mono ?_
            rintro e w' ⟨rfl, rfl⟩
            go_wp2_with fail
            refine (rot32_any _ vb 30 30 (by decide) (by decide)).mono ?_
            rintro e w' ⟨rfl, rfl⟩
            go_wp2
            refine ⟨⟨t + 1, by omega, by go_num, ?_, hBr⟩, by simp [intOf]; omega⟩
            rw [HS1.out t, HST.out, HWT.out]
            first | exact ⟨rfl, rfl, rfl, rfl, rfl⟩ | (rw [a32]; exact ⟨rfl, rfl, rfl, rfl, rfl⟩)
    · have hti : (t : Int) < 80 := by omega
      by_cases ht16 : t < 16
      · have hti2 : (t : Int) < 16 := by omega
        have hrd := read32_any wr B b off 64 c bs hsr t (by omega) (by omega)
        have HRD := Lib.hid hrd
        have ce := hsc.end_ (by omega)
        have hfz := hsc.row.frozen t
        obtain ⟨y, hy⟩ : ∃ y, rd32 bs t = y := ⟨_, rfl⟩
        have hnx := hsc.put (by omega) y
        have hval : sched1 bs (t + 1) = sched1 bs t ++ [y] := by rw [sched1, if_pos ht16, hy]
        rw [← hval] at hnx
        rw [hy] at HRD
        have hrx := hr1.far (p := ⟨g3, t, none⟩) (by show g1 ≠ g3; omega) (W32 y)
        have hry := hr2.far (p := ⟨g3, t, none⟩) (by show g2 ≠ g3; omega) (W32 y)
        have hBx := below_setV hBr (show g1 ≤ g3 by omega) t (W32 y)
        have HNX := Lib.hid hnx
        have HRX := Lib.hid hrx
        have HRY := Lib.hid hry
        have HBX := Lib.hid hBx
        clear hrd hnx hval hrx hry hBx hy
        go_wp2_with fail
        refine HRD.out.mono ?_
        rintro e w2 ⟨rfl, rfl⟩
        go_wp2
        go_roundw
        case rel => exact ⟨t + 1, by omega, by go_num, HNX.out, HRX.out, HRY.out, HBX.out⟩
        case measure => simp [intOf]; omega
      · have hti2 : ¬ (t : Int) < 16 := by omega
        obtain ⟨p3, h3⟩ : ∃ p, t - 3 = p := ⟨_, rfl⟩
        obtain ⟨p8, h8⟩ : ∃ p, t - 8 = p := ⟨_, rfl⟩
        obtain ⟨p14, h14⟩ : ∃ p, t - 14 = p := ⟨_, rfl⟩
        obtain ⟨p16, h16⟩ : ∃ p, t - 16 = p := ⟨_, rfl⟩
        have c3 := hsc.at_ (i := p3) (by omega)
        have c8 := hsc.at_ (i := p8) (by omega)
        have c14 := hsc.at_ (i := p14) (by omega)
        have c16 := hsc.at_ (i := p16) (by omega)
        have ce := hsc.end_ (by omega)
        have hfz := hsc.row.frozen t
        obtain ⟨x, hx⟩ : ∃ x, (sched1 bs t).getD p3 0 = x := ⟨_, rfl⟩
        rw [hx] at c3
        have i3 : (t : Int) - 3 = (p3 : Int) := by omega
        have l3 : (p3 : Int) < 80 := by omega
        have w3 : IntKind.i64.wrap (p3 : Int) = (p3 : Int) := by rw [IntKind.wrap_i64]; omega
        obtain ⟨y, hy⟩ : ∃ x, (sched1 bs t).getD p8 0 = x := ⟨_, rfl⟩
        rw [hy] at c8
        have i8 : (t : Int) - 8 = (p8 : Int) := by omega
        have l8 : (p8 : Int) < 80 := by omega
        have w8 : IntKind.i64.wrap (p8 : Int) = (p8 : Int) := by rw [IntKind.wrap_i64]; omega
        obtain ⟨u, hu⟩ : ∃ x, (sched1 bs t).getD p14 0 = x := ⟨_, rfl⟩
        rw [hu] at c14
        have i14 : (t : Int) - 14 = (p14 : Int) := by omega
        have l14 : (p14 : Int) < 80 := by omega
        have w14 : IntKind.i64.wrap (p14 : Int) = (p14 : Int) := by rw [IntKind.wrap_i64]; omega
        obtain ⟨v, hv⟩ : ∃ x, (sched1 bs t).getD p16 0 = x := ⟨_, rfl⟩
        rw [hv] at c16
        have i16 : (t : Int) - 16 = (p16 : Int) := by omega
        have l16 : (p16 : Int) < 80 := by omega
        have w16 : IntKind.i64.wrap (p16 : Int) = (p16 : Int) := by rw [IntKind.wrap_i64]; omega
        have H3 := Lib.hid h3
        have Hx := Lib.hid hx
        clear h3 hx
        have H8 := Lib.hid h8
        have Hy := Lib.hid hy
        clear h8 hy
        have H14 := Lib.hid h14
        have Hu := Lib.hid hu
        clear h14 hu
        have H16 := Lib.hid h16
        have Hv := Lib.hid hv
        clear h16 hv
        go_wp2
        refine (wpIn_wide (n := 9)).1 (wpIn_region_pure rfl hmx [(26, .int .i64 (t : Int)), (27, .int .i64 (t : Int)), (28, .int .i64 (p3 : Int)), (29, .pointer (some ⟨g3, p3, none⟩)), (30, W32 x), (31, .int .i64 (t : Int)), (32, .int .i64 (p8 : Int)), (33, .pointer (some ⟨g3, p8, none⟩)), (34, W32 y), (35, W32 (x ^^^ y)), (36, .int .i64 (t : Int)), (37, .int .i64 (p14 : Int)), (38, .pointer (some ⟨g3, p14, none⟩)), (39, W32 u), (40, W32 ((x ^^^ y) ^^^ u)), (41, .int .i64 (t : Int)), (42, .int .i64 (p16 : Int)), (43, .pointer (some ⟨g3, p16, none⟩)), (44, W32 v), (45, W32 (((x ^^^ y) ^^^ u) ^^^ v)), (46, W32 (rl32 1 ((((x ^^^ y) ^^^ u) ^^^ v)))), (47, .pointer (some ⟨g3, t, none⟩))] (by kernel_rfl) (by kernel_rfl) (by kernel_rfl) (by kernel_rfl) (by first | rfl | simp) 22 (wr.setCell ⟨g3, t, none⟩ (W32 (rl32 1 ((((x ^^^ y) ^^^ u) ^^^ v))))) rfl (by kernel_rfl) ?ops7 ?last7 ?end7)
        case ops7 =>
          intro i o hi ho
          have hi2 : i = 0 ∨ i = 1 ∨ i = 2 ∨ i = 3 ∨ i = 4 ∨ i = 5 ∨ i = 6 ∨ i = 7 ∨ i = 8 ∨ i = 9 ∨ i = 10 ∨ i = 11 ∨ i = 12 ∨ i = 13 ∨ i = 14 ∨ i = 15 ∨ i = 16 ∨ i = 17 ∨ i = 18 ∨ i = 19 ∨ i = 20 ∨ i = 21 := by omega
          rcases hi2 with rfl | rfl | rfl | rfl | rfl | rfl | rfl | rfl | rfl | rfl | rfl | rfl | rfl | rfl | rfl | rfl | rfl | rfl | rfl | rfl | rfl | rfl
          all_goals
            have ho' := ho
            simp only [List.getElem?_toArray, List.getElem?_cons_zero, List.getElem?_cons_succ, Option.some.injEq] at ho'
            subst ho'
            refine ⟨(by intro c h; cases h), fun q => ⟨fun _ _ => trivial, ?_⟩⟩
          · exact .inl (by simp [execOp, evP, valP, Act.eval, List.lookup_cons])
          · exact .inl (by simp [execOp, evP, valP, Act.eval, List.lookup_cons])
          · exact .inl (by simp [execOp, evP, valP, Act.eval, List.lookup_cons, go_sem, i3, l3, w3, c3, i8, l8, w8, c8, i14, l14, w14, c14, i16, l16, w16, c16, hti, b32_xor])
          · exact .inl (by simp [execOp, evP, valP, Act.eval, List.lookup_cons, go_sem, i3, l3, w3, c3, i8, l8, w8, c8, i14, l14, w14, c14, i16, l16, w16, c16, hti, b32_xor])
          · exact .inl (by simp [execOp, evP, valP, Act.eval, List.lookup_cons, go_sem, i3, l3, w3, c3, i8, l8, w8, c8, i14, l14, w14, c14, i16, l16, w16, c16, hti, b32_xor])
          · exact .inl (by simp [execOp, evP, valP, Act.eval, List.lookup_cons])
          · exact .inl (by simp [execOp, evP, valP, Act.eval, List.lookup_cons, go_sem, i3, l3, w3, c3, i8, l8, w8, c8, i14, l14, w14, c14, i16, l16, w16, c16, hti, b32_xor])
          · exact .inl (by simp [execOp, evP, valP, Act.eval, List.lookup_cons, go_sem, i3, l3, w3, c3, i8, l8, w8, c8, i14, l14, w14, c14, i16, l16, w16, c16, hti, b32_xor])
          · exact .inl (by simp [execOp, evP, valP, Act.eval, List.lookup_cons, go_sem, i3, l3, w3, c3, i8, l8, w8, c8, i14, l14, w14, c14, i16, l16, w16, c16, hti, b32_xor])
          · exact .inl (by simp [execOp, evP, valP, Act.eval, List.lookup_cons, go_sem, i3, l3, w3, c3, i8, l8, w8, c8, i14, l14, w14, c14, i16, l16, w16, c16, hti, b32_xor])
          · exact .inl (by simp [execOp, evP, valP, Act.eval, List.lookup_cons])
          · exact .inl (by simp [execOp, evP, valP, Act.eval, List.lookup_cons, go_sem, i3, l3, w3, c3, i8, l8, w8, c8, i14, l14, w14, c14, i16, l16, w16, c16, hti, b32_xor])
          · exact .inl (by simp [execOp, evP, valP, Act.eval, List.lookup_cons, go_sem, i3, l3, w3, c3, i8, l8, w8, c8, i14, l14, w14, c14, i16, l16, w16, c16, hti, b32_xor])
          · exact .inl (by simp [execOp, evP, valP, Act.eval, List.lookup_cons, go_sem, i3, l3, w3, c3, i8, l8, w8, c8, i14, l14, w14, c14, i16, l16, w16, c16, hti, b32_xor])
          · exact .inl (by simp [execOp, evP, valP, Act.eval, List.lookup_cons, go_sem, i3, l3, w3, c3, i8, l8, w8, c8, i14, l14, w14, c14, i16, l16, w16, c16, hti, b32_xor])
          · exact .inl (by simp [execOp, evP, valP, Act.eval, List.lookup_cons])
          · exact .inl (by simp [execOp, evP, valP, Act.eval, List.lookup_cons, go_sem, i3, l3, w3, c3, i8, l8, w8, c8, i14, l14, w14, c14, i16, l16, w16, c16, hti, b32_xor])
          · exact .inl (by simp [execOp, evP, valP, Act.eval, List.lookup_cons, go_sem, i3, l3, w3, c3, i8, l8, w8, c8, i14, l14, w14, c14, i16, l16, w16, c16, hti, b32_xor])
          · exact .inl (by simp [execOp, evP, valP, Act.eval, List.lookup_cons, go_sem, i3, l3, w3, c3, i8, l8, w8, c8, i14, l14, w14, c14, i16, l16, w16, c16, hti, b32_xor])
          · exact .inl (by simp [execOp, evP, valP, Act.eval, List.lookup_cons, go_sem, i3, l3, w3, c3, i8, l8, w8, c8, i14, l14, w14, c14, i16, l16, w16, c16, hti, b32_xor])
          · refine .inr ⟨145, #[W32 (((x ^^^ y) ^^^ u) ^^^ v), .int .i64 1], ?_, (callsIn_wide.2 (rot32_any _ ((((x ^^^ y) ^^^ u) ^^^ v)) 1 1 (by decide) (by decide))).mono ?_⟩
            · simp [execOp, evP, valP, Act.eval, List.lookup_cons, go_sem]
            · rintro e w' ⟨rfl, rfl⟩
              exact ⟨rfl, 0, rfl⟩
          · exact .inl (by simp [execOp, evP, valP, Act.eval, List.lookup_cons, go_sem, i3, l3, w3, c3, i8, l8, w8, c8, i14, l14, w14, c14, i16, l16, w16, c16, hti, b32_xor])
        case last7 =>
          intro o ho
          have ho' := ho
          simp only [List.getElem?_toArray, List.getElem?_cons_zero, List.getElem?_cons_succ, Option.some.injEq] at ho'
          subst ho'
          refine ⟨(by intro c h; cases h), fun q => ⟨fun _ _ => trivial, .inl ⟨?_, rfl⟩⟩⟩
          simp [execOp, evP, valP, Act.eval, List.lookup_cons, go_sem, ce, hfz, hti]
          try rfl
        case end7 =>
          intro q
          simp [wrote, valP, Act.put, List.lookup_cons]
          have hnx := hsc.put (by omega) ((rl32 1 ((((x ^^^ y) ^^^ u) ^^^ v))))
          have hval : sched1 bs (t + 1) = sched1 bs t ++ [(rl32 1 ((((x ^^^ y) ^^^ u) ^^^ v)))] := by
            rw [sched1, if_neg ht16, next1, H3.out, H8.out, H14.out, H16.out, Hx.out, Hy.out, Hu.out, Hv.out]
          rw [← hval] at hnx
          have hrx := hr1.far (p := ⟨g3, t, none⟩) (by show g1 ≠ g3; omega) (W32 (rl32 1 ((((x ^^^ y) ^^^ u) ^^^ v))))
          have hry := hr2.far (p := ⟨g3, t, none⟩) (by show g2 ≠ g3; omega) (W32 (rl32 1 ((((x ^^^ y) ^^^ u) ^^^ v))))
          have HRY := Lib.hid hry
          have hBx := below_setV hBr (show g1 ≤ g3 by omega) t (W32 (rl32 1 ((((x ^^^ y) ^^^ u) ^^^ v))))
          have HNX := Lib.hid hnx
          have HRX := Lib.hid hrx
          have HBX := Lib.hid hBx
          clear hnx hval hrx hry hBx
          go_wp2
          go_roundw
          case rel => exact ⟨t + 1, by omega, by go_num, ⟨HNX.out.row, HNX.out.len⟩, HRX.out, HRY.out, below_drewN (HBX.out) _⟩
          case measure => simp [intOf]; omega
end Go.Proofs.YtnpaidieijlkkaaDoor
