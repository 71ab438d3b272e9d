/- Parts of one proof, joined: Sa, Hv, Hw, Hx, Hz, Sb, Chn, Sc, Sd. -/
import Derived.Test.YtnpaidieijlkkaaDoorPileJ1
import Derived.Test.YtnpaidieijlkkaaDoorPileJ4
import Derived.Test.YtnpaidieijlkkaaDoorPileJ3
import Derived.Test.YtnpaidieijlkkaaDoorPileJ2

/- baileyref3: rotations, word. -/
set_option linter.unusedVariables false
set_option linter.unusedSimpArgs false
namespace Go.Proofs.YtnpaidieijlkkaaDoor
open Go.RowKit

theorem right_any (w : World) (x : BitVec 32) (n : Nat) (h1 : 0 < n) (h2 : n < 32) : Calls Tryd.prog 114 #[W32 x, .int .u64 (n : Int)] w fun e w' => e = .returned (W32 (rl32 (32 - n) x)) ∧ w = w' := by
  have k1 : (0 : Int) < n := by omega
  have k2 : (n : Int) < 32 := by omega
  have k2' : (n : Int) ≤ 31 := by omega
  have hb := i32_lt x
  go_enter Tryd.func114, Tryd.ntmps114
  go_wp2
  go_ret
  rw [b32_shr, b32_shl', b32_or, BitVec.or_comm, rl32, show 32 - (32 - n) = n by omega]
  exact ⟨rfl, rfl⟩
theorem left_any (w : World) (x : BitVec 32) (n : Nat) (h1 : 0 < n) (h2 : n < 32) : Calls Tryd.prog 111 #[W32 x, .int .u64 (n : Int)] w fun e w' => e = .returned (W32 (rl32 n x)) ∧ w = w' := by
  have k1 : (0 : Int) < n := by omega
  have k2 : (n : Int) < 32 := by omega
  have k2' : (n : Int) ≤ 31 := by omega
  have hb := i32_lt x
  go_enter Tryd.func111, Tryd.ntmps111
  go_wp2
  go_ret
  rw [b32_shr, b32_shl', b32_or, rl32]
  exact ⟨rfl, rfl⟩
theorem rightL_any (w : World) (x : BitVec 64) (n : Nat) (h1 : 0 < n) (h2 : n < 64) : Calls Tryd.prog 116 #[W64 x, .int .u64 (n : Int)] w fun e w' => e = .returned (W64 (rl64 (64 - n) x)) ∧ w = w' := by
  have k1 : (0 : Int) < n := by omega
  have k2 : (n : Int) < 64 := by omega
  have k2' : (n : Int) ≤ 63 := by omega
  have hb := i64_lt x
  have s64 : ∀ s : Nat, IntKind.u64.wrap (i64 x * 2 ^ s) = i64 (x <<< s) := b64_shl x
  go_enter Tryd.func116, Tryd.ntmps116
  go_wp2
  go_ret
  rw [b64_shr, b64_or, BitVec.or_comm, rl64, show 64 - (64 - n) = n by omega]
  exact ⟨rfl, rfl⟩
theorem i32_mod (x : BitVec 32) : i32 x % 4294967296 = i32 x := by have := i32_lt x; omega
theorem s32_24 (x : BitVec 32) : i32 x * (16777216 : Int) % (4294967296 : Int) = i32 (x <<< 24) := b32_shl' x 24
theorem s32_16 (x : BitVec 32) : i32 x * (65536 : Int) % (4294967296 : Int) = i32 (x <<< 16) := b32_shl' x 16
theorem s32_8 (x : BitVec 32) : i32 x * (256 : Int) % (4294967296 : Int) = i32 (x <<< 8) := b32_shl' x 8
def word4 (b0 b1 b2 b3 : BitVec 8) : BitVec 32 := b0.setWidth 32 <<< 24 ||| b1.setWidth 32 <<< 16 ||| b2.setWidth 32 <<< 8 ||| b3.setWidth 32
theorem word4_eq (b0 b1 b2 b3 : BitVec 8) : fold32 [b0, b1, b2, b3] = word4 b0 b1 b2 b3 := by
  simp only [fold32, List.foldl, word4, BitVec.shiftLeft_or_distrib, ← BitVec.shiftLeft_add, Nat.reduceAdd]
  simp
set_option maxRecDepth 100000 in
set_option maxHeartbeats 1000000 in
theorem word_any (w : World) (B b off n c : Nat) (bs : List (BitVec 8)) (hs : SlV w B (some ⟨b, off, none⟩) n c (bs.map W8)) (h4 : 4 ≤ n) :
    Calls Tryd.prog 110 #[.slice (some ⟨b, off, none⟩) n c] w fun e w' => e = .returned (W32 (fold32 (bs.take 4))) ∧ ∃ q, w' = w.drewN q := by
  have hl : n = bs.length := by simpa using hs.len
  obtain ⟨b0, b1, b2, b3, r, rfl⟩ : ∃ b0 b1 b2 b3 r, bs = b0 :: b1 :: b2 :: b3 :: r := by
    match bs, hl with
    | b0 :: b1 :: b2 :: b3 :: r, _ => exact ⟨_, _, _, _, _, rfl⟩
    | [], h => simp at h; omega
    | [_], h => simp at h; omega
    | [_, _], h => simp at h; omega
    | [_, _, _], h => simp at h; omega
  obtain ⟨b', off', e, _, hc⟩ := hs.2.2.2 (by simp)
  injection e with e
  injection e with e1 e2
  subst e1 e2
  have c0 := hc 0 _ rfl
  have c1 := hc 1 _ rfl
  have c2 := hc 2 _ rfl
  have c3 := hc 3 _ rfl
  rw [Nat.add_zero] at c0
  rw [show (b0 :: b1 :: b2 :: b3 :: r).take 4 = [b0, b1, b2, b3] from rfl, word4_eq]
  have n0 : (0 : Int) < n := by omega
  have n1 : (1 : Int) < n := by omega
  have n2 : (2 : Int) < n := by omega
  have n3 : (3 : Int) < n := by omega
  have o32 := b32_or
  have w8 := c8_32
  have w8' := c8_32''
  have im := i32_mod
  clear hc hs hl h4
  go_enter Tryd.func110, Tryd.ntmps110
  go_wp2_with fail
  go_quiet (fail)
  go_wp2
  go_ret
  refine ⟨congrArg Ending.returned (congrArg (Value.int .u32) ?_), _, rfl⟩
  show bits .or .u32 (bits .or .u32 (bits .or .u32 (i32 (b0.setWidth 32) * 16777216 % 4294967296) (i32 (b1.setWidth 32) * 65536 % 4294967296)) (i32 (b2.setWidth 32) * 256 % 4294967296)) (i32 (b3.setWidth 32)) = _
  rw [s32_24, s32_16, s32_8, b32_or, b32_or, b32_or]
  rfl
end Go.Proofs.YtnpaidieijlkkaaDoor

/- hashes: withKey. -/
set_option linter.unusedVariables false
set_option linter.unusedSimpArgs false
namespace Go.Proofs.YtnpaidieijlkkaaDoor
open Go.RowKit Go.Shelf

/-- the key, shortened if it is longer than a block -/
def key0 (k : Int) (key : List (BitVec 8)) : List (BitVec 8) := if blN k < key.length then sumL k key else key
theorem key0_le {k : Int} (h : KindOk k) (key : List (BitVec 8)) : (key0 k key).length ≤ blN k := by
  unfold key0
  split
  · rw [sumL_length]
    rcases h.cases with rfl | rfl | rfl | rfl | rfl <;> decide
  · omega
theorem maskL_length (bs : List (BitVec 8)) (x : BitVec 8) (n : Nat) (h : bs.length ≤ n) : (maskL bs x n).length = n := by rw [maskL, List.length_map, padK_length bs n h]
theorem HashIs.lt {w : World} {g : Nat} {k : Int} {msg : List (BitVec 8)} (h : HashIs w g k msg) : g < w.heap.size := by
  obtain ⟨_, h, _⟩ := h
  exact h.row.lt
theorem RowV.only {t : TypeId} {w w' : World} {g g' : Nat} {vs : List Value} (h : RowV t w g vs) (ho : OnlyV w w' g') (hn : g ≠ g') : RowV t w' g vs := (ho.block g h.lt (fun e => hn (by injection e))).trans h
theorem HashIs.only {w w' : World} {g g' : Nat} {k : Int} {msg : List (BitVec 8)} (h : HashIs w g k msg) (ho : OnlyV w w' g') (hn : g ≠ g') : HashIs w' g k msg := by
  obtain ⟨left, h1, h2⟩ := h
  exact ⟨left, ⟨h1.row.only ho hn, h1.hw, h1.hl⟩, h2⟩
/-- HMAC's two hashes, the key taken in -/
def KeyedV (w : World) (B : Nat) (v : Value) (k : Int) (key : List (BitVec 8)) : Prop :=
  ∃ gi go, v = .agg #[.pointer (some ⟨gi, 0, none⟩), .pointer (some ⟨go, 0, none⟩)] ∧ B ≤ gi ∧ gi < go ∧ HashIs w gi k (maskL (key0 k key) 0x36 (blN k)) ∧ HashIs w go k (maskL (key0 k key) 0x5c (blN k))
theorem Tryd.keyed2 : (Tryd.prog.info? 162).map (·.size) = some 2 := by kernel_rfl
theorem Below.of_drew {B : Nat} {w w' : World} (h : Below B w.drew w') : Below B w w' := ⟨h.os, h.tape, h.output, h.size, fun i hi => h.block i hi⟩
/-- the call of masked, then of Write -/
theorem keyed_calls (w : World) (g : Nat) (k : Int) (hk : KindOk k) (bl : Nat) (hbl : blN k = bl) (B : Nat) (A : Option Addr) (m c : Nat) (K : List (BitVec 8)) (hs : SlV w B A m c (K.map W8)) (hB : B ≤ g) (hm : m ≤ bl) (x : BitVec 8) (hh : HashIs w g k []) (hG : RootsG w) (hg1 : 4 < g) :
    (∀ w0, Below w.heap.size w w0 → Calls Tryd.prog 157 #[.slice A m c, W8 x, .int .i64 (bl : Int)] w0 fun e w' => e = .returned (.slice (some ⟨w0.heap.size, 0, none⟩) bl bl) ∧ RowV 5 w' w0.heap.size ((maskL K x bl).map W8) ∧ Below w.heap.size w w') ∧
    (∀ w0 p, Below w.heap.size w w0 → RowV 5 w0 p ((maskL K x bl).map W8) → Calls Tryd.prog 79 #[.pointer (some ⟨g, 0, none⟩), .slice (some ⟨p, 0, none⟩) bl bl] w0 fun e w' => e = .returned (.tuple #[]) ∧ HashIs w' g k (maskL K x bl) ∧ OnlyV w w' g) := by
  have hl : K.length = m := by simpa using hs.len.symm
  have hgl := hh.lt
  have hb2 := blN_two k
  rw [hbl] at hb2
  refine ⟨fun w0 hb => ?_, fun w0 p hb hr => ?_⟩
  · refine (masked_any w0 B A m c K (hs.below (hb.mono (by omega))) (by have := hb.size; omega) x bl hm (by omega)).mono ?_
    rintro e w' ⟨rfl, hr, hb'⟩
    exact ⟨rfl, hr, hb.trans (hb'.mono hb.size)⟩
  · have hml := maskL_length K x bl (by omega)
    have hsl := hr.sl (by rw [List.length_map, hml]; omega)
    rw [List.length_map, hml] at hsl
    refine (write_any w0 g k hk [] (maskL K x bl) (hh.later hb) w0.heap.size _ _ _ hsl (by intro h; cases h) (Nat.le_refl _) (hG.later hb) hg1 (by rw [hml]; simp; omega)).mono ?_
    rintro e w' ⟨rfl, h, ho⟩
    exact ⟨rfl, h, (OnlyV.of_below hb g).trans ho⟩
end Go.Proofs.YtnpaidieijlkkaaDoor

/- hashes: withKey. -/
set_option linter.unusedVariables false
set_option linter.unusedSimpArgs false
namespace Go.Proofs.YtnpaidieijlkkaaDoor
open Go.RowKit Go.Shelf

theorem onlyV_setRow (w : World) (g : Nat) (cs : Array Value) : OnlyV w (w.setRow g cs) g := ⟨rfl, rfl, rfl, by simp [World.setRow], fun k _ hn => setRow_other w g k cs (fun e => hn (by rw [e]))⟩
section
variable {P : Program} {w : World} {ops : Array Oper} {rest : List Oper} {o : Oper} {a : Act} {Q : Exit → Act → World → Prop}
/-- a whole block is written, and no other turns -/
theorem wlv_storeO (hgd : o.guard = none) (ty n : Nat) (hi : (P.info? ty).map (·.size) = some n) (x y : Operand) (ho : o.op = .store ty x y) (g : Nat) (vs' : List Value) (hx : a.eval x = .pointer (some ⟨g, 0, none⟩)) (hy : a.eval y = .agg vs'.toArray) (t : TypeId) (vs : List Value) (hr : RowV t w g vs) (hl : vs.length = n) (hl' : vs'.length = n) (h1 : Ones vs')
    (h : ∀ w', RowV t w' g vs' → OnlyV w w' g → wpList P ops Q rest (a.put o.dst undef) w') : wpList P ops Q (o :: rest) a w := by
  refine wpList_store_row hgd ty x y ho g vs'.toArray hx hy t vs.toArray hr (by rw [hi, ← hl']; simp) (by simp; omega) (by simp; exact fun v hv => h1 v hv) ?_
  exact h _ (setRow_heap w g _ vs'.toArray t _ hr) (onlyV_setRow w g _)
end
set_option maxRecDepth 100000 in
set_option maxHeartbeats 2000000 in
theorem withKey_short (w : World) (k : Int) (hk : KindOk k) (hGS : StartsG w) (hGR : RootsG w) (B : Nat) (A : Option Addr) (n c : Nat) (key : List (BitVec 8)) (hs : SlV w B A n c (key.map W8)) (hz : A = none → c = 0) (hB : B ≤ w.heap.size) (hn : n + 256 ≤ 17592186044416) (hc : key.length ≤ blN k) :
    Calls Tryd.prog 142 #[.int .i64 k, .slice A n c] w fun e w' => ∃ v, e = .returned v ∧ KeyedV w' w.heap.size v k key ∧ Below w.heap.size w w' := by
  have hl : n = key.length := by simpa using hs.len
  obtain ⟨W1, e1, r1, b1, z1⟩ := newV w 162 [.pointer none, .pointer none] #[.pointer none, .pointer none] rfl
  obtain ⟨b4, hb4⟩ : ∃ g, w.heap.size = g := ⟨_, rfl⟩
  rw [hb4] at r1 b1
  have hbk : ∀ w, Calls Tryd.prog 101 #[.int .i64 k] w fun e w' => e = .returned (.int .i64 (blN k : Int)) ∧ w = w' := fun w => by
    have h := block_any w k
    rw [blN_eq hk] at h
    exact h
  obtain ⟨bl, hbl⟩ : ∃ b, blN k = b := ⟨_, rfl⟩
  rw [hbl] at hbk
  have HBL := Lib.hid hbl
  have HBK := Lib.hid hbk
  have HB4 := Lib.hid hb4
  have HR1 := Lib.hid r1
  have HB1 := Lib.hid b1
  have HZ1 := Lib.hid z1
  obtain ⟨WA, hWA⟩ : ∃ W, W1 = W := ⟨_, rfl⟩
  rw [hWA] at e1
  have hBw := HB1.out
  rw [hb4] at hB
  obtain ⟨A1, hA1⟩ : ∃ x, A = x := ⟨_, rfl⟩
  obtain ⟨m1, hm1E⟩ : ∃ x, n = x := ⟨_, rfl⟩
  obtain ⟨c1, hc1⟩ : ∃ x, c = x := ⟨_, rfl⟩
  obtain ⟨K, hK⟩ : ∃ x, key = x := ⟨_, rfl⟩
  subst hA1 hm1E hc1 hK hWA
  have hWA : Below w.heap.size w W1 := by rw [hb4]; exact b1
  have hsA := hs.below (hWA.mono (by rw [hb4]; exact hB))
  have HSA := Lib.hid hsA
  have HGA := Lib.hid (⟨hGS.later hWA, hGR.later hWA⟩ : StartsG W1 ∧ RootsG W1)
  have HWA := Lib.hid hWA
  have HR4 := Lib.hid r1
  have hb4s := r1.lt
  have hBgi' : B ≤ W1.heap.size := by omega
  have hm1 : n ≤ bl := by omega
  have HKEY := Lib.hid (show key0 k key = key by rw [key0, if_neg (by omega)])
  have hcmp : (n : Int) ≤ (bl : Int) := by omega
  clear hs hsA hWA hBw r1 b1 z1 hbk hl hz hn hGS hGR
  go_enter Tryd.func142, Tryd.ntmps142
  go_wp2_with fail
  refine (HBK.out _).mono ?_
  rintro e w' ⟨rfl, rfl⟩

  -- two new hashes
  have hnw1 := new_is W1 k hk HGA.out.1
  obtain ⟨gi, hgi⟩ : ∃ g, W1.heap.size = g := ⟨_, rfl⟩
  rw [hgi] at hnw1
  have hBgi : B ≤ gi := by omega
  have hb4i : b4 < gi := by omega
  have hb4w : w.heap.size = b4 := HB4.out
  have HB4W := Lib.hid hb4w
  clear hb4w
  have HNW1 := Lib.hid hnw1
  have HGI := Lib.hid hgi
  clear hnw1
  go_wp2_with fail
  refine HNW1.out.mono ?_
  rintro e w2 ⟨rfl, hi2, hb2⟩
  have hb2' : Below W1.heap.size W1 w2 := by rw [HGI.out]; exact hb2
  have hG2 : StartsG w2 ∧ RootsG w2 := ⟨HGA.out.1.later hb2', HGA.out.2.later hb2'⟩
  have hnw2 := new_is w2 k hk hG2.1
  obtain ⟨go, hgo⟩ : ∃ g, w2.heap.size = g := ⟨_, rfl⟩
  have hio : gi < go := by have := hi2.lt; omega
  rw [hgo] at hnw2
  have HNW2 := Lib.hid hnw2
  have HGO := Lib.hid hgo
  have HI2 := Lib.hid hi2
  have HB2 := Lib.hid hb2
  have HG2 := Lib.hid hG2
  clear hnw2 hi2 hb2 hb2' hG2 hgi
  go_wp2_with fail
  refine HNW2.out.mono ?_
  rintro e w3 ⟨rfl, hi3, hb3⟩
  obtain ⟨b5, hb5⟩ : ∃ b, w3.heap.size = b := ⟨_, rfl⟩
  obtain ⟨W4, e4, r4, c4, z4⟩ := newV w3 162 [.pointer none, .pointer none] #[.pointer none, .pointer none] rfl
  rw [hb5] at r4 c4
  have h1o : Ones [Value.pointer (some ⟨gi, 0, none⟩), Value.pointer (some ⟨go, 0, none⟩)] := by
    intro v hv
    simp only [List.mem_cons, List.not_mem_nil, or_false] at hv
    rcases hv with rfl | rfl <;> rfl
  have hgo5 : go < b5 := by have := hi3.lt; omega
  have hb3' : Below w2.heap.size w2 w3 := by rw [HGO.out]; exact hb3
  have hb23 : Below gi w2 w3 := hb3.mono (by omega)
  have hbA3 : Below gi W1 w3 := HB2.out.trans hb23
  have hi3' : HashIs w3 gi k [] := HI2.out.later hb3'
  have hG3 : RootsG w3 := HG2.out.2.later hb3'
  have HI3 := Lib.hid hi3
  have HI3' := Lib.hid hi3'
  have HBA3 := Lib.hid hbA3
  have HG3 := Lib.hid hG3
  clear hi3 hb3 hb3' hb23 hbA3 hi3' hG3 hgo
  go_wp2_with (refine wlv_storeO rfl 162 2 Tryd.keyed2 _ _ rfl b5 [.pointer (some ⟨gi, 0, none⟩), .pointer (some ⟨go, 0, none⟩)] rfl rfl _ _ r4 rfl rfl h1o ?_; intro w5 r5 c5)
  have hc5 := c4.trans (c5.below (Nat.le_refl _) (by omega))
  have hc5' : Below w3.heap.size w3 w5 := by rw [hb5]; exact hc5
  have hA5 : Below gi W1 w5 := HBA3.out.trans (hc5.mono (by omega))
  have hi5 := HI3'.out.later hc5'
  have ho5 := HI3.out.later hc5'
  have hG5 := HG3.out.later hc5'
  have hs5 := HSA.out.below (hA5.mono hBgi)
  have hgi1 : 4 < gi := by have := HGA.out.2.1; have := HGI.out; omega
  obtain ⟨hm5, hw5⟩ := keyed_calls w5 gi k hk bl HBL.out _ A n c key hs5 hBgi hm1 0x36 hi5 hG5 hgi1
  have ci5 : w5.cell? ⟨b5, 0, none⟩ = some (.pointer (some ⟨gi, 0, none⟩)) := r5.at_ rfl
  have co5 : w5.cell? ⟨b5, 1, none⟩ = some (.pointer (some ⟨go, 0, none⟩)) := r5.at_ rfl
  have hl5 := r5.lt
  have HM5 := Lib.hid hm5
  have HW5 := Lib.hid hw5
  have HO5 := Lib.hid ho5
  have HG5 := Lib.hid hG5
  have HA5 := Lib.hid hA5
  have HR5 := Lib.hid r5
  have hs54 : (Value.int .u8 54) = W8 0x36 := rfl
  have HS54 := Lib.hid hs54
  clear hm5 hw5 ho5 hG5 hA5 hi5 hs5 hc5 hc5' r5 c5 r4 c4 e4 z4 hb5 h1o hs54
  go_region_held3 (fun w' => w'.cell? ⟨b5, 0, none⟩ = some (.pointer (some ⟨gi, 0, none⟩)) ∧ w'.cell? ⟨b5, 1, none⟩ = some (.pointer (some ⟨go, 0, none⟩))) (go_keep)
    (first | (go_at_call 101; refine (HBK.out _).mono ?_; rintro e w' ⟨rfl, rfl⟩) | (go_at_call 157; refine (HM5.out _ ((Below.refl _ w5).drew)).mono ?_; rintro e w6 ⟨rfl, hr6, hb6⟩; have ci6 := (hb6.cell (p := ⟨b5, 0, none⟩) hl5).trans ci5; have co6 := (hb6.cell (p := ⟨b5, 1, none⟩) hl5).trans co5; have hl6 : b5 < w6.heap.size := Nat.lt_of_lt_of_le hl5 hb6.size) | (go_at_call 79; refine (HW5.out _ _ hb6 hr6).mono ?_; rintro e w7 ⟨rfl, hi7, ho7⟩; have ci7 := (ho7.cell (p := ⟨b5, 0, none⟩) hl5 (by show b5 ≠ gi; omega)).trans ci5; have co7 := (ho7.cell (p := ⟨b5, 1, none⟩) hl5 (by show b5 ≠ gi; omega)).trans co5))
  have hG7 : RootsG w7 := HG5.out.only ho7 hgi1
  have ho7' := HO5.out.only ho7 (by omega)
  have hA7 : Below gi W1 w7 := HA5.out.trans (ho7.below (Nat.le_refl _) (by omega))
  have hs7 := HSA.out.below (hA7.mono hBgi)
  have hl7 : b5 < w7.heap.size := Nat.lt_of_lt_of_le hl5 ho7.size
  obtain ⟨hm7, hw7⟩ := keyed_calls w7 go k hk bl HBL.out _ A n c key hs7 (by omega) hm1 0x5c ho7' hG7 (by omega)
  have HM7 := Lib.hid hm7
  have HW7 := Lib.hid hw7
  have HI7 := Lib.hid hi7
  have HA7 := Lib.hid hA7
  have HR7 := Lib.hid (HR5.out.only ho7 (by omega))
  clear hm7 hw7 ho7' hG7 hA7 hs7 hi7 ho7 hb6 hr6 ci6 co6 hl6
  go_wp2_with fail
  go_region_held3 (fun w' => w'.cell? ⟨b5, 0, none⟩ = some (.pointer (some ⟨gi, 0, none⟩)) ∧ w'.cell? ⟨b5, 1, none⟩ = some (.pointer (some ⟨go, 0, none⟩))) (go_keep)
    (first | (go_at_call 101; refine (HBK.out _).mono ?_; rintro e w' ⟨rfl, rfl⟩) | (go_at_call 157; refine (HM7.out _ ((Below.refl _ w7).drew)).mono ?_; rintro e w8 ⟨rfl, hr8, hb8⟩; have ci8 := (hb8.cell (p := ⟨b5, 0, none⟩) hl7).trans ci7; have co8 := (hb8.cell (p := ⟨b5, 1, none⟩) hl7).trans co7) | (go_at_call 79; refine (HW7.out _ _ hb8 hr8).mono ?_; rintro e w9 ⟨rfl, ho9, hO9⟩; have ci9 := (hO9.cell (p := ⟨b5, 0, none⟩) hl7 (by show b5 ≠ go; omega)).trans ci7; have co9 := (hO9.cell (p := ⟨b5, 1, none⟩) hl7 (by show b5 ≠ go; omega)).trans co7))
  have hi9 := HI7.out.only hO9 (by omega)
  have hA9 : Below gi W1 w9 := HA7.out.trans (hO9.below (by omega) (by omega))
  have hr9 := HR7.out.only hO9 (by omega)
  have hR9 : RowV 162 w9 b4 [.pointer none, .pointer none] := HR4.out.below hA9 hb4i
  have h1o : Ones [Value.pointer (some ⟨gi, 0, none⟩), Value.pointer (some ⟨go, 0, none⟩)] := by
    intro v hv
    simp only [List.mem_cons, List.not_mem_nil, or_false] at hv
    rcases hv with rfl | rfl <;> rfl
  have HI9 := Lib.hid hi9
  have HO9 := Lib.hid ho9
  have HA9 := Lib.hid hA9
  clear hi9 ho9 hA9 hO9 hb8 hr8 ci8 co8 ci7 co7 ci9 co9
  go_wp2_with (first | refine wpList_load_row rfl 162 _ rfl b5 rfl 162 #[.pointer (some ⟨gi, 0, none⟩), .pointer (some ⟨go, 0, none⟩)] (0, 0) _ hr9 Tryd.underlying162 rfl Tryd.keyed2 ?_ | (refine wlv_storeO rfl 162 2 Tryd.keyed2 _ _ rfl b4 [.pointer (some ⟨gi, 0, none⟩), .pointer (some ⟨go, 0, none⟩)] rfl rfl _ _ hR9 rfl rfl h1o ?_; intro w10 r10 c10))
  refine ⟨rfl, _, results_cell_row rfl _ _ b4 162 #[.pointer (some ⟨gi, 0, none⟩), .pointer (some ⟨go, 0, none⟩)] (0, 0) _ rfl r10 Tryd.underlying162 rfl Tryd.keyed2, _, rfl, ?_, ?_⟩
  · refine ⟨gi, go, rfl, ?_, hio, ?_, ?_⟩
    · have := HB4W.out; omega
    · rw [HBL.out, HKEY.out]; exact HI9.out.only c10 (by omega)
    · rw [HBL.out, HKEY.out]; exact HO9.out.only c10 (by omega)
  · exact (HWA.out.trans (HA9.out.mono (by have := HB4W.out; omega))).trans (c10.below (by have := HB4W.out; omega) (by have := HA9.out.size; have := HWA.out.size; omega))
set_option maxRecDepth 100000 in
set_option maxHeartbeats 2000000 in
theorem withKey_long (w : World) (k : Int) (hk : KindOk k) (hGS : StartsG w) (hGR : RootsG w) (B : Nat) (A : Option Addr) (n c : Nat) (key : List (BitVec 8)) (hs : SlV w B A n c (key.map W8)) (hz : A = none → c = 0) (hB : B ≤ w.heap.size) (hn : n + 256 ≤ 17592186044416) (hc : blN k < key.length) :
    Calls Tryd.prog 142 #[.int .i64 k, .slice A n c] w fun e w' => ∃ v, e = .returned v ∧ KeyedV w' w.heap.size v k key ∧ Below w.heap.size w w' := by
  have hl : n = key.length := by simpa using hs.len
  obtain ⟨W1, e1, r1, b1, z1⟩ := newV w 162 [.pointer none, .pointer none] #[.pointer none, .pointer none] rfl
  obtain ⟨b4, hb4⟩ : ∃ g, w.heap.size = g := ⟨_, rfl⟩
  rw [hb4] at r1 b1
  have hbk : ∀ w, Calls Tryd.prog 101 #[.int .i64 k] w fun e w' => e = .returned (.int .i64 (blN k : Int)) ∧ w = w' := fun w => by
    have h := block_any w k
    rw [blN_eq hk] at h
    exact h
  obtain ⟨bl, hbl⟩ : ∃ b, blN k = b := ⟨_, rfl⟩
  rw [hbl] at hbk
  have HBL := Lib.hid hbl
  have HBK := Lib.hid hbk
  have HB4 := Lib.hid hb4
  have HR1 := Lib.hid r1
  have HB1 := Lib.hid b1
  have HZ1 := Lib.hid z1
  obtain ⟨W2, e2, r2, b2, z2⟩ := newV W1 22 [.slice A n c] #[.slice A n c] rfl
  obtain ⟨p2, hp2⟩ : ∃ p, W1.heap.size = p := ⟨_, rfl⟩
  rw [hp2] at r2 b2
  have h01 : Below w.heap.size w W1 := by rw [hb4]; exact b1
  have h02 : Below w.heap.size w W2 := h01.trans (b2.mono (by have := h01.size; omega))
  have hs2 := hs.below (h02.mono hB)
  have hpv : PartsV W2 W2.heap.size (some ⟨p2, 0, none⟩) 1 1 [key] := ⟨[.slice A n c], r2.sl (by simp), rfl, fun i v ps hv hp => by
    cases i with
    | zero => cases hv; cases hp; exact ⟨A, n, c, rfl, hs2.more (by have := h02.size; omega), hz⟩
    | succ i => simp at hv⟩
  have hof := hof_any W2 k hk (hGS.later h02) (hGR.later h02) W2.heap.size _ _ _ _ hpv (Nat.le_refl _) (by decide) (by simp; omega)
  rw [List.flatten_singleton] at hof
  have HOF := Lib.hid hof
  have H02 := Lib.hid h02
  have H12 := Lib.hid (show Below W1.heap.size W1 W2 by rw [hp2]; exact b2)
  have HR1' := Lib.hid r1
  have HGSR := Lib.hid (⟨hGS, hGR⟩ : StartsG w ∧ RootsG w)
  have HKEY := Lib.hid (show key0 k key = sumL k key by rw [key0, if_pos (by omega)])
  have hcmp : (bl : Int) < (n : Int) := by omega
  have hszb := key0_le hk key
  rw [HKEY.out, sumL_length, hbl] at hszb
  have hb4s := r1.lt
  clear hs hs2 hof h01 h02 r1 b1 z1 b2 r2 z2 hbk hl hz hn hGS hGR hpv hbl
  go_enter Tryd.func142, Tryd.ntmps142
  go_wp2_with fail
  refine (HBK.out _).mono ?_
  rintro e w' ⟨rfl, rfl⟩
  go_wp2_with fail
  refine HOF.out.mono ?_
  rintro e wA ⟨bA, rfl, hbA, hrA, hb2A⟩
  have hWA : Below w.heap.size w wA := H02.out.trans (hb2A.mono H02.out.size)
  have hsA := hrA.sl (by rw [List.length_map, sumL_length]; have := (szN_le hk).2.2; omega)
  rw [List.length_map, sumL_length] at hsA
  obtain ⟨sz, hszE⟩ : ∃ s, szN k = s := ⟨_, rfl⟩
  rw [hszE] at hsA hszb
  have HSZE := Lib.hid hszE
  have HSA := Lib.hid hsA
  have HGA := Lib.hid (⟨HGSR.out.1.later hWA, HGSR.out.2.later hWA⟩ : StartsG wA ∧ RootsG wA)
  have HWA := Lib.hid hWA
  have hW1A : Below W1.heap.size W1 wA := H12.out.trans (hb2A.mono H12.out.size)
  have HR4 := Lib.hid (HR1'.out.later hW1A)
  have hb4A : b4 < wA.heap.size := Nat.lt_of_lt_of_le hb4s hW1A.size
  have hBgi' : wA.heap.size ≤ wA.heap.size := Nat.le_refl _
  have hm1 : sz ≤ bl := hszb
  clear hsA hWA hW1A hrA hb2A hbA e2 hp2

  -- two new hashes
  have hnw1 := new_is wA k hk HGA.out.1
  obtain ⟨gi, hgi⟩ : ∃ g, wA.heap.size = g := ⟨_, rfl⟩
  rw [hgi] at hnw1
  have hBgi : wA.heap.size ≤ gi := by omega
  have hb4i : b4 < gi := by omega
  have hb4w : w.heap.size = b4 := HB4.out
  have HB4W := Lib.hid hb4w
  clear hb4w
  have HNW1 := Lib.hid hnw1
  have HGI := Lib.hid hgi
  clear hnw1
  go_wp2_with fail
  refine HNW1.out.mono ?_
  rintro e w2 ⟨rfl, hi2, hb2⟩
  have hb2' : Below wA.heap.size wA w2 := by rw [HGI.out]; exact hb2
  have hG2 : StartsG w2 ∧ RootsG w2 := ⟨HGA.out.1.later hb2', HGA.out.2.later hb2'⟩
  have hnw2 := new_is w2 k hk hG2.1
  obtain ⟨go, hgo⟩ : ∃ g, w2.heap.size = g := ⟨_, rfl⟩
  have hio : gi < go := by have := hi2.lt; omega
  rw [hgo] at hnw2
  have HNW2 := Lib.hid hnw2
  have HGO := Lib.hid hgo
  have HI2 := Lib.hid hi2
  have HB2 := Lib.hid hb2
  have HG2 := Lib.hid hG2
  clear hnw2 hi2 hb2 hb2' hG2 hgi
  go_wp2_with fail
  refine HNW2.out.mono ?_
  rintro e w3 ⟨rfl, hi3, hb3⟩
  obtain ⟨b5, hb5⟩ : ∃ b, w3.heap.size = b := ⟨_, rfl⟩
  obtain ⟨W4, e4, r4, c4, z4⟩ := newV w3 162 [.pointer none, .pointer none] #[.pointer none, .pointer none] rfl
  rw [hb5] at r4 c4
  have h1o : Ones [Value.pointer (some ⟨gi, 0, none⟩), Value.pointer (some ⟨go, 0, none⟩)] := by
    intro v hv
    simp only [List.mem_cons, List.not_mem_nil, or_false] at hv
    rcases hv with rfl | rfl <;> rfl
  have hgo5 : go < b5 := by have := hi3.lt; omega
  have hb3' : Below w2.heap.size w2 w3 := by rw [HGO.out]; exact hb3
  have hb23 : Below gi w2 w3 := hb3.mono (by omega)
  have hbA3 : Below gi wA w3 := HB2.out.trans hb23
  have hi3' : HashIs w3 gi k [] := HI2.out.later hb3'
  have hG3 : RootsG w3 := HG2.out.2.later hb3'
  have HI3 := Lib.hid hi3
  have HI3' := Lib.hid hi3'
  have HBA3 := Lib.hid hbA3
  have HG3 := Lib.hid hG3
  clear hi3 hb3 hb3' hb23 hbA3 hi3' hG3 hgo
  go_wp2_with (refine wlv_storeO rfl 162 2 Tryd.keyed2 _ _ rfl b5 [.pointer (some ⟨gi, 0, none⟩), .pointer (some ⟨go, 0, none⟩)] rfl rfl _ _ r4 rfl rfl h1o ?_; intro w5 r5 c5)
  have hc5 := c4.trans (c5.below (Nat.le_refl _) (by omega))
  have hc5' : Below w3.heap.size w3 w5 := by rw [hb5]; exact hc5
  have hA5 : Below gi wA w5 := HBA3.out.trans (hc5.mono (by omega))
  have hi5 := HI3'.out.later hc5'
  have ho5 := HI3.out.later hc5'
  have hG5 := HG3.out.later hc5'
  have hs5 := HSA.out.below (hA5.mono hBgi)
  have hgi1 : 4 < gi := by have := HGA.out.2.1; have := HGI.out; omega
  obtain ⟨hm5, hw5⟩ := keyed_calls w5 gi k hk bl HBL.out _ (some ⟨bA, 0, none⟩) sz sz (sumL k key) hs5 hBgi hm1 0x36 hi5 hG5 hgi1
  have ci5 : w5.cell? ⟨b5, 0, none⟩ = some (.pointer (some ⟨gi, 0, none⟩)) := r5.at_ rfl
  have co5 : w5.cell? ⟨b5, 1, none⟩ = some (.pointer (some ⟨go, 0, none⟩)) := r5.at_ rfl
  have hl5 := r5.lt
  have HM5 := Lib.hid hm5
  have HW5 := Lib.hid hw5
  have HO5 := Lib.hid ho5
  have HG5 := Lib.hid hG5
  have HA5 := Lib.hid hA5
  have HR5 := Lib.hid r5
  have hs54 : (Value.int .u8 54) = W8 0x36 := rfl
  have HS54 := Lib.hid hs54
  clear hm5 hw5 ho5 hG5 hA5 hi5 hs5 hc5 hc5' r5 c5 r4 c4 e4 z4 hb5 h1o hs54
  go_region_held3 (fun w' => w'.cell? ⟨b5, 0, none⟩ = some (.pointer (some ⟨gi, 0, none⟩)) ∧ w'.cell? ⟨b5, 1, none⟩ = some (.pointer (some ⟨go, 0, none⟩))) (go_keep)
    (first | (go_at_call 101; refine (HBK.out _).mono ?_; rintro e w' ⟨rfl, rfl⟩) | (go_at_call 157; refine (HM5.out _ ((Below.refl _ w5).drew)).mono ?_; rintro e w6 ⟨rfl, hr6, hb6⟩; have ci6 := (hb6.cell (p := ⟨b5, 0, none⟩) hl5).trans ci5; have co6 := (hb6.cell (p := ⟨b5, 1, none⟩) hl5).trans co5; have hl6 : b5 < w6.heap.size := Nat.lt_of_lt_of_le hl5 hb6.size) | (go_at_call 79; refine (HW5.out _ _ hb6 hr6).mono ?_; rintro e w7 ⟨rfl, hi7, ho7⟩; have ci7 := (ho7.cell (p := ⟨b5, 0, none⟩) hl5 (by show b5 ≠ gi; omega)).trans ci5; have co7 := (ho7.cell (p := ⟨b5, 1, none⟩) hl5 (by show b5 ≠ gi; omega)).trans co5))
  have hG7 : RootsG w7 := HG5.out.only ho7 hgi1
  have ho7' := HO5.out.only ho7 (by omega)
  have hA7 : Below gi wA w7 := HA5.out.trans (ho7.below (Nat.le_refl _) (by omega))
  have hs7 := HSA.out.below (hA7.mono hBgi)
  have hl7 : b5 < w7.heap.size := Nat.lt_of_lt_of_le hl5 ho7.size
  obtain ⟨hm7, hw7⟩ := keyed_calls w7 go k hk bl HBL.out _ (some ⟨bA, 0, none⟩) sz sz (sumL k key) hs7 (by omega) hm1 0x5c ho7' hG7 (by omega)
  have HM7 := Lib.hid hm7
  have HW7 := Lib.hid hw7
  have HI7 := Lib.hid hi7
  have HA7 := Lib.hid hA7
  have HR7 := Lib.hid (HR5.out.only ho7 (by omega))
  clear hm7 hw7 ho7' hG7 hA7 hs7 hi7 ho7 hb6 hr6 ci6 co6 hl6
  go_wp2_with fail
  go_region_held3 (fun w' => w'.cell? ⟨b5, 0, none⟩ = some (.pointer (some ⟨gi, 0, none⟩)) ∧ w'.cell? ⟨b5, 1, none⟩ = some (.pointer (some ⟨go, 0, none⟩))) (go_keep)
    (first | (go_at_call 101; refine (HBK.out _).mono ?_; rintro e w' ⟨rfl, rfl⟩) | (go_at_call 157; refine (HM7.out _ ((Below.refl _ w7).drew)).mono ?_; rintro e w8 ⟨rfl, hr8, hb8⟩; have ci8 := (hb8.cell (p := ⟨b5, 0, none⟩) hl7).trans ci7; have co8 := (hb8.cell (p := ⟨b5, 1, none⟩) hl7).trans co7) | (go_at_call 79; refine (HW7.out _ _ hb8 hr8).mono ?_; rintro e w9 ⟨rfl, ho9, hO9⟩; have ci9 := (hO9.cell (p := ⟨b5, 0, none⟩) hl7 (by show b5 ≠ go; omega)).trans ci7; have co9 := (hO9.cell (p := ⟨b5, 1, none⟩) hl7 (by show b5 ≠ go; omega)).trans co7))
  have hi9 := HI7.out.only hO9 (by omega)
  have hA9 : Below gi wA w9 := HA7.out.trans (hO9.below (by omega) (by omega))
  have hr9 := HR7.out.only hO9 (by omega)
  have hR9 : RowV 162 w9 b4 [.pointer none, .pointer none] := HR4.out.below hA9 hb4i
  have h1o : Ones [Value.pointer (some ⟨gi, 0, none⟩), Value.pointer (some ⟨go, 0, none⟩)] := by
    intro v hv
    simp only [List.mem_cons, List.not_mem_nil, or_false] at hv
    rcases hv with rfl | rfl <;> rfl
  have HI9 := Lib.hid hi9
  have HO9 := Lib.hid ho9
  have HA9 := Lib.hid hA9
  clear hi9 ho9 hA9 hO9 hb8 hr8 ci8 co8 ci7 co7 ci9 co9
  go_wp2_with (first | refine wpList_load_row rfl 162 _ rfl b5 rfl 162 #[.pointer (some ⟨gi, 0, none⟩), .pointer (some ⟨go, 0, none⟩)] (0, 0) _ hr9 Tryd.underlying162 rfl Tryd.keyed2 ?_ | (refine wlv_storeO rfl 162 2 Tryd.keyed2 _ _ rfl b4 [.pointer (some ⟨gi, 0, none⟩), .pointer (some ⟨go, 0, none⟩)] rfl rfl _ _ hR9 rfl rfl h1o ?_; intro w10 r10 c10))
  refine ⟨rfl, _, results_cell_row rfl _ _ b4 162 #[.pointer (some ⟨gi, 0, none⟩), .pointer (some ⟨go, 0, none⟩)] (0, 0) _ rfl r10 Tryd.underlying162 rfl Tryd.keyed2, _, rfl, ?_, ?_⟩
  · refine ⟨gi, go, rfl, ?_, hio, ?_, ?_⟩
    · have := HB4W.out; omega
    · rw [HBL.out, HKEY.out]; exact HI9.out.only c10 (by omega)
    · rw [HBL.out, HKEY.out]; exact HO9.out.only c10 (by omega)
  · exact (HWA.out.trans (HA9.out.mono (by have := HB4W.out; omega))).trans (c10.below (by have := HB4W.out; omega) (by have := HA9.out.size; have := HWA.out.size; omega))
theorem withKey_any (w : World) (k : Int) (hk : KindOk k) (hGS : StartsG w) (hGR : RootsG w) (B : Nat) (A : Option Addr) (n c : Nat) (key : List (BitVec 8)) (hs : SlV w B A n c (key.map W8)) (hz : A = none → c = 0) (hB : B ≤ w.heap.size) (hn : n + 256 ≤ 17592186044416) :
    Calls Tryd.prog 142 #[.int .i64 k, .slice A n c] w fun e w' => ∃ v, e = .returned v ∧ KeyedV w' w.heap.size v k key ∧ Below w.heap.size w w' := by
  by_cases h : blN k < key.length
  · exact withKey_long w k hk hGS hGR B A n c key hs hz hB hn h
  · exact withKey_short w k hk hGS hGR B A n c key hs hz hB hn (by omega)
end Go.Proofs.YtnpaidieijlkkaaDoor

/- hashes: the keyed of, HMAC. -/
set_option linter.unusedVariables false
set_option linter.unusedSimpArgs false
namespace Go.Proofs.YtnpaidieijlkkaaDoor
open Go.RowKit Go.Shelf

def innerL (k : Int) (key : List (BitVec 8)) : List (BitVec 8) := maskL (key0 k key) 0x36 (blN k)
def outerL (k : Int) (key : List (BitVec 8)) : List (BitVec 8) := maskL (key0 k key) 0x5c (blN k)
/-- the HMAC of a message, as the program reckons it -/
def hmacL (k : Int) (key msg : List (BitVec 8)) : List (BitVec 8) := sumL k (outerL k key ++ sumL k (innerL k key ++ msg))
theorem innerL_length {k : Int} (h : KindOk k) (key : List (BitVec 8)) : (innerL k key).length = blN k := maskL_length _ _ _ (key0_le h key)
theorem outerL_length {k : Int} (h : KindOk k) (key : List (BitVec 8)) : (outerL k key).length = blN k := maskL_length _ _ _ (key0_le h key)
theorem hmacL_length (k : Int) (key msg : List (BitVec 8)) : (hmacL k key msg).length = szN k := sumL_length _ _

set_option maxRecDepth 100000 in
set_option maxHeartbeats 2000000 in
theorem keyedOf_any (w : World) (k : Int) (hk : KindOk k) (hG : RootsG w) (B0 : Nat) (v : Value) (key : List (BitVec 8)) (hv : KeyedV w B0 v k key) (B : Nat) (A : Option Addr) (n c : Nat) (pss : List (List (BitVec 8))) (hs : PartsV w B A n c pss) (hB : B ≤ w.heap.size) (hn : n ≤ 17592186044416) (hlen : pss.flatten.length + 512 ≤ 17592186044416) :
    Calls Tryd.prog 143 #[v, .slice A n c] w fun e w' => ∃ b, e = .returned (.slice (some ⟨b, 0, none⟩) (szN k) (szN k)) ∧ w.heap.size ≤ b ∧ RowV 5 w' b ((hmacL k key pss.flatten).map W8) ∧ Below w.heap.size w w' := by
  obtain ⟨gi, go, rfl, hBi, hio, hI, hO⟩ := hv
  obtain ⟨W1, e1, r1, b1, z1⟩ := newV w 162 [.pointer (some ⟨gi, 0, none⟩), .pointer (some ⟨go, 0, none⟩)] #[.pointer (some ⟨gi, 0, none⟩), .pointer (some ⟨go, 0, none⟩)] rfl
  obtain ⟨p1, hp1⟩ : ∃ p, w.heap.size = p := ⟨_, rfl⟩
  rw [hp1] at r1 b1
  have h01 : Below w.heap.size w W1 := by rw [hp1]; exact b1
  have hI1 := hI.later h01
  have hO1 := hO.later h01
  have hgo := hO1.lt
  have ci1 : W1.cell? ⟨p1, 0, none⟩ = some (.pointer (some ⟨gi, 0, none⟩)) := r1.at_ rfl
  have co1 : W1.cell? ⟨p1, 1, none⟩ = some (.pointer (some ⟨go, 0, none⟩)) := r1.at_ rfl
  have hl1 := r1.lt
  have hcp1 : ∀ w0, Below W1.heap.size W1 w0 → Calls Tryd.prog 104 #[.pointer (some ⟨gi, 0, none⟩)] w0 fun e w' => e = .returned (.pointer (some ⟨w0.heap.size, 0, none⟩)) ∧ HashIs w' w0.heap.size k (innerL k key) ∧ Below w0.heap.size w0 w' := fun w0 hb => copy_is w0 gi k _ (hI1.later hb)
  have hcp2 : ∀ w0, Below W1.heap.size W1 w0 → Calls Tryd.prog 104 #[.pointer (some ⟨go, 0, none⟩)] w0 fun e w' => e = .returned (.pointer (some ⟨w0.heap.size, 0, none⟩)) ∧ HashIs w' w0.heap.size k (outerL k key) ∧ Below w0.heap.size w0 w' := fun w0 hb => copy_is w0 go k _ (hO1.later hb)
  have HC1 := Lib.hid hcp1
  have HC2 := Lib.hid hcp2
  have HS := Lib.hid hs
  have HG := Lib.hid hG
  have HLEN := Lib.hid hlen
  have HNL := Lib.hid hs.len
  have H01 := Lib.hid h01
  have HP1 := Lib.hid hp1
  have hnI : (n : Int) ≤ 17592186044416 := by omega
  have HIO := Lib.hid (⟨innerL_length hk key, outerL_length hk key, blN_two k, szN_le hk⟩ : (innerL k key).length = blN k ∧ (outerL k key).length = blN k ∧ (blN k = 64 ∨ blN k = 128) ∧ 20 ≤ szN k ∧ szN k ≤ blN k / 16 * 8 ∧ szN k ≤ 64)
  clear hcp1 hcp2 hs hG hlen hn hI hO hI1 hO1 h01 r1 b1 z1
  go_enter Tryd.func143, Tryd.ntmps143
  go_wp2_with fail
  go_region_held3 (fun w' => w'.cell? ⟨p1, 0, none⟩ = some (.pointer (some ⟨gi, 0, none⟩)) ∧ w'.cell? ⟨p1, 1, none⟩ = some (.pointer (some ⟨go, 0, none⟩))) (go_keep)
    (first | (go_at_call_of 104 (Value.pointer (some ⟨gi, 0, none⟩)); refine (HC1.out _ ((Below.refl _ W1).drew)).mono ?_; rintro e w2 ⟨rfl, hi2, hb2⟩; have hb2 : Below W1.heap.size W1 w2 := ⟨hb2.os, hb2.tape, hb2.output, hb2.size, fun i hi => hb2.block i hi⟩; have ci2 := (hb2.cell (p := ⟨p1, 0, none⟩) hl1).trans ci1; have co2 := (hb2.cell (p := ⟨p1, 1, none⟩) hl1).trans co1) | (go_at_call 104; refine (HC2.out _ hb2).mono ?_; rintro e w3 ⟨rfl, ho3, hb3⟩; have hl2 : p1 < w2.heap.size := Nat.lt_of_lt_of_le hl1 hb2.size; have ci3 := (hb3.cell (p := ⟨p1, 0, none⟩) hl2).trans ci2; have co3 := (hb3.cell (p := ⟨p1, 1, none⟩) hl2).trans co2))
  obtain ⟨a, ha⟩ : ∃ a, W1.heap.size = a := ⟨_, rfl⟩
  obtain ⟨z, hz⟩ : ∃ z, w2.heap.size = z := ⟨_, rfl⟩
  have hi2' : HashIs w2 a k (innerL k key) := by rw [← ha]; exact hi2
  rw [hz] at ho3 hb3
  have haz : a < z := by have := hi2'.lt; omega
  have h13 : Below a W1 w3 := by rw [← ha]; exact hb2.trans (by rw [ha]; exact hb3.mono (by omega))
  have h03 : Below w.heap.size w w3 := H01.out.trans (h13.mono (by have := H01.out.size; omega))
  have hi3 := hi2'.later (show Below w2.heap.size w2 w3 by rw [hz]; exact hb3)
  have ha1 : 4 < a := by have := HG.out.1; have := H01.out.size; omega
  have hwa : w.heap.size ≤ a := by have := H01.out.size; omega
  have HI3 := Lib.hid hi3
  have HO3 := Lib.hid ho3
  have H03 := Lib.hid h03
  have hz3 : z < w3.heap.size := ho3.lt
  clear hi2 hi2' hi3 ho3 h03 h13 hb2 hb3 ci3 co3 ci2 co2 ci1 co1 hl2
  rw [ha, hz]
  clear ha hz
  go_wp2
  go_loopw [17] (fun i wr => ∃ j : Nat, j ≤ n ∧ i = .int .i64 (j : Int) ∧ Hid (HashIs wr a k (innerL k key ++ (pss.take j).flatten)) ∧ Hid (OnlyV w3 wr a)) (fun i _ => n - (intOf i).toNat)
  case atStart => exact ⟨0, by omega, rfl, Lib.hid (by simpa using HI3.out), Lib.hid (OnlyV.refl _ _)⟩
  case round =>
    obtain ⟨j, hj, rfl, hh, ho⟩ := hrel
    have hbw : Below w.heap.size w wr := H03.out.trans (ho.out.below hwa H03.out.size)
    have HGR := Lib.hid (HG.out.later hbw)
    have HBW := Lib.hid hbw
    have hzr : z < wr.heap.size := Nat.lt_of_lt_of_le hz3 ho.out.size
    clear hbw
    by_cases hjn : j = n
    · subst hjn
      have hio := HIO.out
      have hll := HLEN.out
      have hsm := sum_any wr a k hk (innerL k key ++ pss.flatten) (by have := hh.out; rwa [List.take_of_length_le (Nat.le_of_eq HNL.out.symm)] at this) HGR.out (by rw [List.length_append]; omega)
      have HSM := Lib.hid hsm
      clear hsm hio hll
      go_wp2_with fail
      refine HSM.out.mono ?_
      rintro e w4 ⟨b, rfl, hbb, hrow, hb4⟩
      have hio := HIO.out
      have hsl := hrow.sl (by rw [List.length_map, sumL_length]; omega)
      rw [List.length_map, sumL_length] at hsl
      have hz4 := HO3.out.only ho.out (by omega)
      have hG4 := HGR.out.later hb4
      have hwr4 := write_any w4 z k hk (outerL k key) (sumL k (innerL k key ++ pss.flatten)) (hz4.later hb4) w4.heap.size _ _ _ hsl (by intro h; cases h) (Nat.le_refl _) hG4 (by omega) (by rw [sumL_length]; omega)
      have HW4 := Lib.hid hwr4
      have HB4 := Lib.hid hb4
      have HG4 := Lib.hid hG4
      clear hio hsl hz4 hG4 hwr4 hb4 hrow hbb
      go_wp2_with fail
      refine HW4.out.mono ?_
      rintro e w5 ⟨rfl, hh5, ho5⟩
      have hio := HIO.out
      have hG5 := HG4.out.only ho5 (by omega)
      have hsm5 := sum_any w5 z k hk _ hh5 hG5 (by rw [List.length_append, sumL_length]; omega)
      have HSM5 := Lib.hid hsm5
      have HB5 := Lib.hid (HBW.out.trans ((HB4.out.mono HBW.out.size).trans (ho5.below (by omega) (by have := HBW.out.size; have := HB4.out.size; omega))))
      clear hsm5 hG5 hh5 ho5 hio
      go_wp2_with fail
      refine HSM5.out.mono ?_
      rintro e w6 ⟨b', rfl, hbb', hrow', hb6⟩
      have HROW := Lib.hid hrow'
      have HB6 := Lib.hid hb6
      clear hrow' hb6
      go_wp2
      go_ret
      have hz5 := HB5.out.size
      exact ⟨b', rfl, by omega, HROW.out, HB5.out.trans (HB6.out.mono hz5)⟩
    · have hji : (j : Int) < n := by omega
      obtain ⟨b, off, ps, Ai, ni, ci, rfl, hbB, hps, hcl, hsi, hzi⟩ := ((HS.out.below (HBW.out.mono hB)).at_ (i := j) (by omega))
      have hfl : innerL k key ++ (pss.take (j + 1)).flatten = (innerL k key ++ (pss.take j).flatten) ++ ps := by rw [List.take_add_one, hps, List.flatten_append]; simp
      have hle : ((pss.take (j + 1)).flatten).length ≤ pss.flatten.length := by
        have h := congrArg (fun l => (List.flatten l).length) (List.take_append_drop (j + 1) pss)
        simp only [List.flatten_append, List.length_append] at h
        omega
      have hlf := congrArg List.length hfl
      rw [List.length_append, List.length_append (bs := ps)] at hlf
      have hwr := write_any wr a k hk _ ps hh.out B Ai ni ci hsi hzi (by have := HBW.out.size; omega) HGR.out ha1 (by have := HLEN.out; have := HIO.out; omega)
      rw [← hfl] at hwr
      have HWR := Lib.hid hwr
      clear hwr hsi hzi hps hfl hle hlf
      go_wp2_with fail
      refine HWR.out.mono ?_
      rintro e w4 ⟨rfl, hh4, ho4⟩
      have HH4 := Lib.hid hh4
      have HO4 := Lib.hid (ho.out.trans ho4)
      clear hh4 ho4
      go_wp2
      go_roundw
      case rel => exact ⟨j + 1, by omega, by go_num, HH4, HO4⟩
      case measure => simp [intOf]; omega
set_option maxRecDepth 100000 in
set_option maxHeartbeats 1000000 in
theorem hmac_any (w : World) (k : Int) (hk : KindOk k) (hGS : StartsG w) (hGR : RootsG w) (B : Nat) (A : Option Addr) (n c : Nat) (key : List (BitVec 8)) (hs : SlV w B A n c (key.map W8)) (hz : A = none → c = 0) (hB : B ≤ w.heap.size) (hn : n + 256 ≤ 17592186044416)
    (A2 : Option Addr) (n2 c2 : Nat) (pss : List (List (BitVec 8))) (hp : PartsV w B A2 n2 c2 pss) (hn2 : n2 ≤ 17592186044416) (hlen : pss.flatten.length + 512 ≤ 17592186044416) :
    Calls Tryd.prog 129 #[.int .i64 k, .slice A n c, .slice A2 n2 c2] w fun e w' => ∃ b, e = .returned (.slice (some ⟨b, 0, none⟩) (szN k) (szN k)) ∧ w.heap.size ≤ b ∧ RowV 5 w' b ((hmacL k key pss.flatten).map W8) ∧ Below w.heap.size w w' := by
  have hv := valid_yes w k hk
  have hw := withKey_any w k hk hGS hGR B A n c key hs hz hB hn
  have HV := Lib.hid hv
  have HW := Lib.hid hw
  have HP := Lib.hid hp
  have HG := Lib.hid hGR
  clear hv hw hs hp hGS hGR
  go_enter Tryd.func129, Tryd.ntmps129
  go_wp2_with fail
  refine HV.out.mono ?_
  rintro e w' ⟨rfl, rfl⟩
  go_wp2_with fail
  refine HW.out.mono ?_
  rintro e w1 ⟨v, rfl, hkv, hb1⟩
  have hof := keyedOf_any w1 k hk (HG.out.later hb1) _ v key hkv B A2 n2 c2 pss (HP.out.below (hb1.mono hB)) (Nat.le_trans hB hb1.size) hn2 hlen
  have HOF := Lib.hid hof
  have HB1 := Lib.hid hb1
  clear hof hb1 hkv
  go_wp2_with fail
  refine HOF.out.mono ?_
  rintro e w2 ⟨b, rfl, hbb, hrow, hb2⟩
  have HROW := Lib.hid hrow
  have HB2 := Lib.hid hb2
  clear hrow hb2
  go_wp2
  go_ret
  have hz1 := HB1.out.size
  exact ⟨b, rfl, by omega, HROW.out, HB1.out.trans (HB2.out.mono hz1)⟩
theorem hmac_no (w : World) (k : Int) (hk : ¬ KindOk k) (v1 v2 : Value) :
    Calls Tryd.prog 129 #[.int .i64 k, v1, v2] w fun e w' => e = .returned (.slice none 0 0) ∧ w = w' := by
  have hv := valid_no w k hk
  have HV := Lib.hid hv
  clear hv
  go_enter Tryd.func129, Tryd.ntmps129
  go_wp2_with fail
  refine HV.out.mono ?_
  rintro e w' ⟨rfl, rfl⟩
  go_wp2
  go_ret
  exact ⟨rfl, rfl⟩
end Go.Proofs.YtnpaidieijlkkaaDoor

/- hashes: MGF1. -/
set_option linter.unusedVariables false
set_option linter.unusedSimpArgs false
namespace Go.Proofs.YtnpaidieijlkkaaDoor
open Go.RowKit Go.Shelf

theorem counterL_length (i : Nat) : (counterL i).length = 4 := rfl
/-- two parts in a block -/
theorem PartsV.two {w : World} {g B : Nat} {A1 A2 : Option Addr} {n1 c1 n2 c2 : Nat} {p1 p2 : List (BitVec 8)} (h : RowV 22 w g [.slice A1 n1 c1, .slice A2 n2 c2]) (h1 : SlV w B A1 n1 c1 (p1.map W8)) (z1 : A1 = none → c1 = 0) (h2 : SlV w B A2 n2 c2 (p2.map W8)) (z2 : A2 = none → c2 = 0) (hg : g < B) :
    PartsV w B (some ⟨g, 0, none⟩) 2 2 [p1, p2] := by
  refine ⟨[.slice A1 n1 c1, .slice A2 n2 c2], ⟨rfl, by decide, by decide, fun _ => ⟨g, 0, rfl, hg, fun k v hv => by rw [Nat.zero_add]; exact h.at_ hv⟩⟩, rfl, fun i v ps hv hp => ?_⟩
  match i with
  | 0 => cases hv; cases hp; exact ⟨_, _, _, rfl, h1, z1⟩
  | 1 => cases hv; cases hp; exact ⟨_, _, _, rfl, h2, z2⟩
  | i + 2 => simp at hv
theorem hofTwo (w : World) (k : Int) (hk : KindOk k) (hGS : StartsG w) (hGR : RootsG w) {B : Nat} {A1 A2 : Option Addr} {n1 c1 n2 c2 : Nat} {p1 p2 : List (BitVec 8)} (hB : B ≤ w.heap.size) (h1 : SlV w B A1 n1 c1 (p1.map W8)) (z1 : A1 = none → c1 = 0) (h2 : SlV w w.heap.size A2 n2 c2 (p2.map W8)) (z2 : A2 = none → c2 = 0) (hn : n1 + n2 + 256 ≤ 17592186044416) :
    Calls Tryd.prog 54 #[.int .i64 k, .slice (some ⟨w.heap.size, 0, none⟩) 2 2] (w.alloc (.cells #[.slice A1 n1 c1, .slice A2 n2 c2] 22)) fun e w' => ∃ b, e = .returned (.slice (some ⟨b, 0, none⟩) (szN k) (szN k)) ∧ w.heap.size ≤ b ∧ RowV 5 w' b ((sumL k (p1 ++ p2)).map W8) ∧ Below w.heap.size w w' := by
  obtain ⟨W2, e2, r2, b2, z⟩ := newV w 22 [.slice A1 n1 c1, .slice A2 n2 c2] #[.slice A1 n1 c1, .slice A2 n2 c2] rfl
  rw [e2]
  have hl1 := h1.len
  have hl2 := h2.len
  rw [List.length_map] at hl1 hl2
  have hpv : PartsV W2 W2.heap.size (some ⟨w.heap.size, 0, none⟩) 2 2 [p1, p2] := PartsV.two r2 ((h1.below (b2.mono hB)).more (by omega)) z1 ((h2.below b2).more (by omega)) z2 (by omega)
  refine (hof_any W2 k hk (hGS.later b2) (hGR.later b2) W2.heap.size _ _ _ _ hpv (Nat.le_refl _) (by decide) (by simp; omega)).mono ?_
  rintro e w3 ⟨b, rfl, hbb, hrow, hb3⟩
  refine ⟨b, rfl, by omega, by simpa using hrow, b2.trans (hb3.mono b2.size)⟩
set_option maxRecDepth 100000 in
set_option maxHeartbeats 1000000 in
theorem mgfPart_any (w : World) (k : Int) (hk : KindOk k) (hGS : StartsG w) (hGR : RootsG w) (x1 x2 : Nat) (B : Nat) (A : Option Addr) (n c : Nat) (seed : List (BitVec 8)) (hs : SlV w B A n c (seed.map W8)) (hz : A = none → c = 0) (hB : B ≤ w.heap.size) (hn : n + 512 ≤ 17592186044416)
    (h1 : BxE x1 (.int .i64 k) w) (h2 : BxE x2 (.slice A n c) w) (i : Nat) (hi : i < 9223372036854775808) :
    Calls Tryd.prog 107 #[.int .i64 (i : Int), .pointer (some ⟨x1, 0, none⟩), .pointer (some ⟨x2, 0, none⟩)] w fun e w' => ∃ b, e = .returned (.slice (some ⟨b, 0, none⟩) (szN k) (szN k)) ∧ w.heap.size ≤ b ∧ RowV 5 w' b ((sumL k (seed ++ counterL i)).map W8) ∧ Below w.heap.size w w' := by
  have hct := counter_any w.drew i hi
  have c1 := h1.1
  have c2 := h2.1
  obtain ⟨b0, hb0⟩ : ∃ b, w.heap.size = b := ⟨_, rfl⟩
  have hb0' : w.drew.heap.size = b0 := hb0
  rw [hb0'] at hct
  have HCT := Lib.hid hct
  have HB0 := Lib.hid hb0
  have HS := Lib.hid hs
  have H1 := Lib.hid h1
  have H2 := Lib.hid h2
  have HG := Lib.hid (⟨hGS, hGR⟩ : StartsG w ∧ RootsG w)
  have HZ := Lib.hid hz
  clear hct hb0 hb0' hs h1 h2 hGS hGR hz
  go_enter Tryd.func107, Tryd.ntmps107
  go_wp2_with fail
  go_region_held3 (fun w' => w'.cell? ⟨x1, 0, none⟩ = some (.int .i64 k) ∧ w'.cell? ⟨x2, 0, none⟩ = some (.slice A n c)) (go_keep)
    (first | (go_at_call 108; refine HCT.out.mono ?_; rintro e w1 ⟨rfl, hr1, hb1⟩; have hb01 : Below w.heap.size w w1 := (Below.refl _ w).drew.trans (by rw [HB0.out]; exact hb1); have k1 := (H1.out.later hb01).1; have k2 := (H2.out.later hb01).1) | (go_at_call 54; refine (hofTwo w1 k hk (HG.out.1.later hb01) (HG.out.2.later hb01) (Nat.le_trans hB hb01.size) (HS.out.below (hb01.mono hB)) HZ.out (hr1.sl (by simp [counterL_length])) (by intro h; cases h) (by simp [counterL_length]; omega)).mono ?_; rintro e w2 ⟨b2, rfl, hbb2, hr2, hb2⟩; have hb02 : Below w.heap.size w w2 := hb01.trans (hb2.mono hb01.size); have k1' := (H1.out.later hb02).1; have k2' := (H2.out.later hb02).1))
  have HB := Lib.hid hb02
  have HR := Lib.hid hr2
  have hb01' := Lib.hid hb01
  clear hb02 hr2 hb01
  go_wp2
  go_ret
  exact ⟨b2, rfl, Nat.le_trans hb01'.out.size hbb2, HR.out, HB.out⟩

/-- the parts f 0, f 1, .. one after the other -/
def seqL (f : Nat → List (BitVec 8)) : Nat → List (BitVec 8)
  | 0 => []
  | j + 1 => seqL f j ++ f j
theorem seqL_length (f : Nat → List (BitVec 8)) (s : Nat) (h : ∀ j, (f j).length = s) : ∀ j, (seqL f j).length = s * j
  | 0 => rfl
  | j + 1 => by rw [seqL, List.length_append, seqL_length f s h j, h, Nat.mul_succ]
theorem seqL_take (f : Nat → List (BitVec 8)) (s : Nat) (h : ∀ j, (f j).length = s) (N : Nat) : ∀ i j, N ≤ s * j → (seqL f (j + i)).take N = (seqL f j).take N
  | 0, _, _ => rfl
  | i + 1, j, hj => by
    show ((seqL f (j + i)) ++ _).take N = _
    rw [List.take_append_of_le_length (by rw [seqL_length f s h]; exact Nat.le_trans hj (Nat.mul_le_mul_left s (Nat.le_add_right _ _)))]
    exact seqL_take f s h N i j hj
/-- the first N of them -/
def fillL (f : Nat → List (BitVec 8)) (N : Nat) : List (BitVec 8) := (seqL f N).take N
theorem fillL_eq (f : Nat → List (BitVec 8)) (s : Nat) (h : ∀ j, (f j).length = s) (hs : 1 ≤ s) (N j : Nat) (hj : N ≤ s * j) : (seqL f j).take N = fillL f N := by
  have h1 : N ≤ s * N := Nat.le_mul_of_pos_left N hs
  rcases Nat.le_total N j with h2 | h2
  · obtain ⟨i, rfl⟩ := Nat.exists_eq_add_of_le h2
    exact seqL_take f s h N i N h1
  · obtain ⟨i, rfl⟩ := Nat.exists_eq_add_of_le h2
    exact (seqL_take f s h _ i j hj).symm
theorem fillL_length (f : Nat → List (BitVec 8)) (s : Nat) (h : ∀ j, (f j).length = s) (hs : 1 ≤ s) (N : Nat) : (fillL f N).length = N := by
  rw [fillL, List.length_take, seqL_length f s h]
  exact Nat.min_eq_left (Nat.le_mul_of_pos_left N hs)

set_option maxRecDepth 100000 in
set_option maxHeartbeats 1000000 in
theorem fill_any (w : World) (gf : Nat) (lb : Array Value) (eg : ∀ args w, (callFunc gf args).run Tryd.prog w = .ok (.enter gf args) w) (f : Nat → List (BitVec 8)) (s : Nat) (hf : ∀ j, (f j).length = s) (hs1 : 1 ≤ s) (hs2 : s ≤ 64) (N : Nat) (hN1 : 1 ≤ N) (hN2 : N ≤ 65536)
    (hp : ∀ (j : Nat), j < 65536 → ∀ W, Below w.heap.size w W → Calls Tryd.prog gf (#[.int .i64 (j : Int)] ++ lb) W fun e w' => ∃ b, e = .returned (.slice (some ⟨b, 0, none⟩) s s) ∧ W.heap.size ≤ b ∧ RowV 5 w' b ((f j).map W8) ∧ Below W.heap.size W w') :
    Calls Tryd.prog 106 #[.int .i64 (N : Int), .func (.func gf) #[] lb] w fun e w' => ∃ v, e = .returned v ∧ w'.ownsRow w.heap.size 5 1 v N ((fillL f N).map W8) ∧ Below w.heap.size w w' := by
  have HP := Lib.hid hp
  have HF := Lib.hid hf
  have kN1 : (1 : Int) ≤ N := by omega
  have kN2 : (N : Int) ≤ 65536 := by omega
  clear hp hf
  go_enter Tryd.func106, Tryd.ntmps106
  go_wp2
  go_loopw [5, 6] (fun o i wr => ∃ (j l c : Nat) (A : Option Addr), i = .int .i64 (j : Int) ∧ o = .slice A l c ∧ l ≤ N + 64 ∧ j ≤ l ∧ Hid (l = s * j ∧ wr.ownsRow w.heap.size 5 1 (.slice A l c) l ((seqL f j).map W8)) ∧ Hid (Below w.heap.size w wr)) (fun o _ _ => match o with | .slice _ r _ => N + 64 - r | _ => 0)
  case atStart => exact ⟨0, 0, 0, none, rfl, rfl, by omega, by omega, Lib.hid ⟨rfl, rfl, .inl ⟨rfl, rfl⟩⟩, Lib.hid (Below.refl _ _)⟩
  case round =>
    obtain ⟨j, l, c, A, rfl, rfl, hl1, hjl, HO, HB⟩ := hrel
    have kl : (l : Int) ≤ 65600 := by omega
    have kj : (j : Int) ≤ 65600 := by omega
    by_cases hlt : l < N
    · have kI : (l : Int) < N := by omega
      have hpj := HP.out j (by omega) wr HB.out
      have HPJ := Lib.hid hpj
      clear hpj
      go_wp2_with fail
      refine HPJ.out.mono ?_
      rintro e w1 ⟨b, rfl, hb, hr, hb1⟩
      have hsl := hr.sl (by rw [List.length_map, HF.out]; omega)
      rw [List.length_map, HF.out] at hsl
      have hown := HO.out.2
      have hzw := HB.out.size
      have hown1 := own_keep hown (fun q hq => hb1.block q (hown.lt q hq).2)
      have HR := Lib.hid hsl
      have HO1 := Lib.hid hown1
      have HB1 := Lib.hid hb1
      have hz1 := hb1.size
      clear hsl hown hown1 hb1 hr
      go_wp2_with (at_builtin; refine wlv_append Tryd.elem8 rfl _ _ rfl w.heap.size _ l _ rfl HO1.out (some ⟨b, 0, none⟩) s s _ rfl (by intro h; cases h) _ HR.out (ones8 _) (by omega) (by omega) ?_; intro v' w2 hown2 hgr)
      obtain ⟨A2, c2, hv2, _, _, _⟩ := SlV.of_own hown2
      subst hv2
      have HO2 := Lib.hid hown2
      have hB2 : Below w.heap.size w w2 := (HB.out.trans (HB1.out.mono hzw)).grown hgr (by omega) (fun q hq => (HO1.out.lt q hq).1)
      have HB2 := Lib.hid hB2
      clear hown2 hgr hB2
      go_wp2
      go_roundw
      case rel =>
        refine ⟨j + 1, l + s, c2, A2, by go_num, rfl, by omega, by omega, Lib.hid ⟨by rw [HO.out.1, Nat.mul_succ], ?_⟩, HB2⟩
        have h := HO2.out
        rw [← List.map_append] at h
        exact h
      case measure => show N + 64 - (l + s) < N + 64 - l; omega
    · have kI : ¬ (l : Int) < N := by omega
      obtain ⟨A', c', hv, hsl, hlow, hz⟩ := SlV.of_own HO.out.2
      injection hv with e1 e2 e3
      subst e1 e3
      have hcap := hsl.cap
      have hmax := hsl.max
      have kc : (N : Int) ≤ c := by omega
      obtain ⟨b, off, _, rfl, hb, _, _⟩ := hsl.at_ (k := 0) (by omega)
      have hst := hsl.take (k := N) (by omega)
      rw [← List.map_take, fillL_eq f s HF.out hs1 N j (by rw [← HO.out.1]; omega)] at hst
      have hcl := clone_any wr wr.heap.size _ N c _ hst (Nat.le_refl _) (by omega)
      have HCL := Lib.hid hcl
      clear hcl hst hsl hlow hz hb
      go_wp2_with fail
      refine HCL.out.mono ?_
      rintro e w1 ⟨v, rfl, hown, hb1⟩
      have hzw := HB.out.size
      have HO1 := Lib.hid hown
      have HB1 := Lib.hid hb1
      clear hown hb1
      go_wp2
      go_ret
      refine ⟨v, rfl, ?_, HB.out.trans (HB1.out.mono hzw)⟩
      obtain ⟨h1, h2⟩ := HO1.out
      exact ⟨h1, h2.imp id (fun ⟨g, cap, cur, e, hb, r⟩ => ⟨g, cap, cur, e, by omega, r⟩)⟩
end Go.Proofs.YtnpaidieijlkkaaDoor

/- baileyref3: pad. -/
set_option linter.unusedVariables false
set_option linter.unusedSimpArgs false
namespace Go.Proofs.YtnpaidieijlkkaaDoor
open Go.RowKit Go.Shelf

/-- how many noughts -/
def padZ (len bl : Nat) : Nat := bl - 1 - (len + bl / 8) % bl
/-- the last bytes of a number, the first the greatest -/
def beL (n x : Nat) : List (BitVec 8) := (List.range n).map fun i => byteAt x (n - 1 - i)
theorem padL_eq (len bl : Nat) (hb : bl = 64 ∨ bl = 128) (hlen : 8 * len < 18446744073709551616) : padL len bl = 128 :: (List.replicate (padZ len bl) 0 ++ beL (bl / 8) (8 * len)) := by
  apply List.ext_getElem?
  intro i
  have hN : padN len bl = 1 + padZ len bl + bl / 8 := by unfold padN padZ; rcases hb with rfl | rfl <;> omega
  have hbv : ∀ j, 8 ≤ j → byteAt (8 * len) j = 0 := fun j hj => by
    unfold byteAt
    have : 8 * len / 256 ^ j = 0 := Nat.div_eq_of_lt (Nat.lt_of_lt_of_le hlen (Nat.le_trans (show 18446744073709551616 ≤ 256 ^ 8 by decide) (Nat.pow_le_pow_right (n := 256) (by decide) hj)))
    rw [this]
    rfl
  unfold padL padStep
  rw [List.getElem?_map]
  cases i with
  | zero =>
    rw [List.getElem?_range (by omega)]
    rfl
  | succ i =>
    rw [List.getElem?_cons_succ]
    by_cases h1 : i < padZ len bl
    · rw [List.getElem?_range (by omega), List.getElem?_append_left (by simpa using h1), List.getElem?_replicate, if_pos h1]
      simp only [Option.map_some]
      rw [if_neg (by omega), if_neg]
      rcases hb with rfl | rfl <;> omega
    · rw [List.getElem?_append_right (by simpa using h1), List.length_replicate]
      by_cases h2 : i - padZ len bl < bl / 8
      · rw [List.getElem?_range (by omega), beL, List.getElem?_map, List.getElem?_range h2]
        simp only [Option.map_some]
        rw [if_neg (by omega), show bl / 8 - 1 - (i - padZ len bl) = padN len bl - 1 - (i + 1) by omega]
        split
        · rfl
        · rw [hbv _ (by omega)]
      · rw [List.getElem?_eq_none (by simp; omega), List.getElem?_eq_none (by simp [beL]; omega)]
        rfl
set_option maxRecDepth 100000 in
set_option maxHeartbeats 2000000 in
theorem rpad_any (w : World) (B : Nat) (A : Option Addr) (n c : Nat) (bs : List (BitVec 8)) (hs : SlV w B A n c (bs.map W8)) (hz : A = none → c = 0) (hB : B ≤ w.heap.size) (hn : n ≤ 1000000000) (bl : Nat) (hbl : bl = 64 ∨ bl = 128) :
    Calls Tryd.prog 109 #[.slice A n c, .int .i64 (bl : Int), .int .i64 ((bl / 8 : Nat) : Int)] w fun e w' => ∃ v, e = .returned v ∧ w'.ownsRow w.heap.size 5 1 v (n + padN n bl) ((bs ++ padL n bl).map W8) ∧ Below w.heap.size w w' := by
  have hl : n = bs.length := by simpa using hs.len
  obtain ⟨by_, hby⟩ : ∃ b, bl / 8 = b := ⟨_, rfl⟩
  rw [hby]
  have own0 : w.ownsRow w.heap.size 5 1 (.slice none 0 0) 0 [] := ⟨rfl, .inl ⟨rfl, rfl⟩⟩
  have HS := Lib.hid hs
  have HL := Lib.hid hl
  have HBY := Lib.hid hby
  clear hl hby
  go_enter Tryd.func109, Tryd.ntmps109
  go_wp2_with (first | (at_builtin; refine wlv_append Tryd.elem8 rfl _ _ rfl w.heap.size _ 0 [] rfl own0 A n c (bs.map W8) rfl hz B HS.out (ones8 bs) (by omega) (Nat.le_refl _) ?_; intro v1 w1 hown1 hgr1; rw [Nat.zero_add, List.nil_append] at hown1; obtain ⟨A1, c1, rfl, _, _, _⟩ := SlV.of_own hown1; obtain ⟨W2, e2, r2, b2, s2⟩ := newV w1 5 [W8 128] #[.int .u8 128] rfl; have hown2 := own_keep hown1 (fun q hq => b2.block q (hown1.lt q hq).2); have hb1 := (Below.refl w.heap.size w).grown hgr1 (Nat.le_refl _) (fun q hq => by cases hq); have hsz1 := hb1.size; have hb2 := hb1.trans (b2.mono hsz1); have hsl2 := r2.sl (by decide); have HOW2 := Lib.hid hown2; have HSL2 := Lib.hid hsl2; have HB2 := Lib.hid hb2; clear hown1 hgr1 r2 b2 hown2 hb1 hb2 hsl2 own0) | (at_builtin; refine wlv_append Tryd.elem8 rfl _ _ rfl w.heap.size _ n (bs.map W8) rfl HOW2.out (some ⟨w1.heap.size, 0, none⟩) 1 1 [W8 128] rfl (by intro h; cases h) _ HSL2.out (ones8 [128]) (by omega) (by have := HB2.out.size; omega) ?_; intro v3 w3 hown3 hgr3; obtain ⟨A3, c3, rfl, _, _, _⟩ := SlV.of_own hown3; have HOW3 := Lib.hid hown3; have HB3 := Lib.hid (HB2.out.grown hgr3 (by have := HB2.out.size; omega) (fun q hq => (HOW2.out.lt q hq).1)); clear hown3 hgr3 e2))
  obtain ⟨Z, hZ⟩ : ∃ Z, padZ n bl = Z := ⟨_, rfl⟩
  obtain ⟨d, hd⟩ : ∃ d, bl - by_ = d := ⟨_, rfl⟩
  have hdI : (bl : Int) - (by_ : Int) = (d : Int) := by have := HBY.out; omega
  have hZd : ∀ j, j ≤ Z → ((n + 1 + j) % bl = d ↔ j = Z) := fun j hj => by
    have h1 := HBY.out
    unfold padZ at hZ
    rcases hbl with rfl | rfl <;> omega
  have hZl : Z ≤ 128 := by
    unfold padZ at hZ
    rcases hbl with rfl | rfl <;> omega
  have kbl : (64 : Int) ≤ bl ∧ (bl : Int) ≤ 128 := by rcases hbl with rfl | rfl <;> omega
  obtain ⟨kbl1, kbl2⟩ := kbl
  have kn : (n : Int) ≤ 1000000000 := by omega
  have kby : (by_ : Int) ≤ 16 ∧ (8 : Int) ≤ by_ := by have := HBY.out; rcases hbl with rfl | rfl <;> omega
  obtain ⟨kby1, kby2⟩ := kby
  have HZ := Lib.hid hZ
  have HD := Lib.hid hd
  have HZD := Lib.hid hZd
  have hbl0 : ¬ (bl : Int) = 0 := by omega
  have hbl0' : ¬ bl = 0 := by omega
  clear hZ hd hZd s2
  go_loopw [7] (fun m wr => ∃ (j l c' : Nat) (A' : Option Addr), j ≤ Z ∧ m = .slice A' l c' ∧ l ≤ 1000000200 ∧ Hid (l = n + 1 + j ∧ wr.ownsRow w.heap.size 5 1 (.slice A' l c') l ((bs ++ (128 :: List.replicate j 0)).map W8)) ∧ Hid (Below w.heap.size w wr)) (fun m _ => match m with | .slice _ r _ => 1000000200 - r | _ => 0)
  case atStart => exact ⟨0, n + 1, c3, A3, Nat.zero_le _, rfl, by omega, Lib.hid ⟨rfl, by simpa using HOW3.out⟩, HB3⟩
  case round =>
    obtain ⟨j, l, c', A', hj, rfl, hl2, HO, HB⟩ := hrel
    have kl : (l : Int) ≤ 1000000200 := by omega
    have kl0 : (0 : Int) ≤ l := by omega
    obtain ⟨r, hr⟩ : ∃ r, l % bl = r := ⟨_, rfl⟩
    have hrI : (l : Int) % (bl : Int) = (r : Int) := by rw [← hr]; simp
    have hrT : (l : Int).tmod (bl : Int) = (r : Int) := by rw [Int.tmod_eq_emod_of_nonneg (by omega)]; exact hrI
    have hrd : r = d ↔ j = Z := by rw [← hr, HO.out.1]; exact HZD.out j hj
    have HRD := Lib.hid hrd
    clear hr hrd
    by_cases hjZ : j = Z
    · obtain rfl := HRD.out.2 hjZ
      obtain ⟨wo, rfl⟩ : ∃ V, V = wr := ⟨_, rfl⟩
      have hwz := HB.out.size
      go_wp2_with (refine wlv_make Tryd.elem8 rfl _ rfl _ by_ rfl rfl (by omega) ?_; intro w6 r6 b6 z6)
      obtain ⟨g, hg⟩ : ∃ g, wo.heap.size = g := ⟨_, rfl⟩
      rw [hg] at r6 ⊢
      obtain ⟨x, hx⟩ : ∃ x, 8 * n = x := ⟨_, rfl⟩
      have hxI : (n : Int) * 8 = (x : Int) := by omega
      have hown6 := own_keep HO.out.2 (fun q hq => b6.block q (HO.out.2.lt q hq).2)
      have hb06 := HB.out.trans (b6.mono hwz)
      have HO6 := Lib.hid hown6
      have HB6 := Lib.hid hb06
      have HR6 := Lib.hid r6
      have HX := Lib.hid hx
      have HGZ := Lib.hid (⟨hg, z6⟩ : wo.heap.size = g ∧ w6.heap.size = wo.heap.size + 1)
      clear hown6 hb06 b6 r6 z6 hx hg
      go_loopw [8, 10] (fun nv i wr => ∃ k : Nat, k ≤ by_ ∧ i = .int .i64 ((by_ : Int) - 1 - (k : Int)) ∧ nv = .int .u64 ((x / 256 ^ k : Nat) : Int) ∧ Hid (RowV 5 wr g ((List.replicate (by_ - k) 0 ++ beL k x).map W8)) ∧ Hid (Below g w6 wr)) (fun _ i _ => (intOf i + 1).toNat)
      case atStart => exact ⟨0, Nat.zero_le _, by simp, by simp [hxI], Lib.hid (by have h := HR6.out; rw [show (Value.int .u8 0) = W8 0 from rfl, ← List.map_replicate] at h; simpa only [beL, Nat.sub_zero, List.range_zero, List.map_nil, List.append_nil] using h), Lib.hid (Below.refl _ _)⟩
      case round =>
        obtain ⟨k, hk, rfl, rfl, HR, HB2⟩ := hrel
        by_cases hkb : k = by_
        · have hi1 : (by_ : Int) - 1 - (k : Int) = -1 := by omega
          rw [hi1]
          have hownW := own_keep HO6.out (fun q hq => HB2.out.block q (by rw [← HGZ.out.1]; exact (HO.out.2.lt q hq).2))
          have hrl : ((List.replicate (by_ - k) (0 : BitVec 8) ++ beL k x).map W8).length = by_ := by simp [beL]; omega
          have hslR := HR.out.sl (by rw [hrl]; omega)
          rw [hrl] at hslR
          have HOW := Lib.hid hownW
          have HSR := Lib.hid hslR
          have hlt2 := HR.out.lt
          have hbase : w.heap.size ≤ wo.heap.size := HB.out.size
          have hb6s := HB6.out.size
          have hb2s := HB2.out.size
          have HKB := Lib.hid hkb
          clear hownW hslR hrl hkb hi1 hk
          go_wp2_with (at_builtin; refine wlv_append Tryd.elem8 rfl _ _ rfl w.heap.size _ l _ rfl HOW.out (some ⟨g, 0, none⟩) by_ by_ _ rfl (by intro h; cases h) _ HSR.out (ones8 _) (by omega) (by have := HGZ.out; omega) ?_; intro v7 w7 hown7 hgr7; obtain ⟨A7, c7, rfl, _, _, _⟩ := SlV.of_own hown7; have HO7 := Lib.hid hown7; have HB7 := Lib.hid ((HB6.out.trans (HB2.out.mono (by have := HGZ.out; omega))).grown hgr7 (by omega) (fun q hq => (HOW.out.lt q hq).1)); clear hown7 hgr7)
          go_ret
          have hZp := HZ.out
          have hByp := HBY.out
          have hlp : l + by_ = n + padN n bl := by
            have := HO.out.1
            unfold padZ at hZp
            unfold padN
            rcases hbl with rfl | rfl <;> omega
          refine ⟨.slice A7 (l + by_) c7, rfl, ?_, HB7.out⟩
          rw [← hlp, padL_eq n bl hbl (by omega), HZ.out, HBY.out, HX.out]
          have h := HO7.out
          have e : (bs ++ (128 :: List.replicate j 0)).map W8 ++ ((List.replicate (by_ - k) (0 : BitVec 8) ++ beL k x).map W8) = (bs ++ 128 :: (List.replicate Z 0 ++ beL by_ x)).map W8 := by
            rw [HKB.out, Nat.sub_self, hjZ]
            simp
          exact e ▸ h
        · have hi1 : (0 : Int) ≤ (by_ : Int) - 1 - (k : Int) := by omega
          obtain ⟨i, hi⟩ : ∃ i, by_ - 1 - k = i := ⟨_, rfl⟩
          have hiI : (by_ : Int) - 1 - (k : Int) = (i : Int) := by omega
          rw [hiI]
          have hiI2 : (i : Int) < by_ := by omega
          have hi0 : (0 : Int) ≤ i := by omega
          have hrc : wr.cell? ⟨g, i, none⟩ = some (.int .u8 0) := HR.out.at_ (by
            rw [List.getElem?_map, List.getElem?_append_left (by simp; omega), List.getElem?_replicate, if_pos (by omega)]; rfl)
          have hrf := HR.out.frozen i
          have hst := HR.out.set i (W8 (byteAt x k))
          have hset : ((List.replicate (by_ - k) (0 : BitVec 8) ++ beL k x).map W8).set i (W8 (byteAt x k)) = (List.replicate (by_ - (k + 1)) (0 : BitVec 8) ++ beL (k + 1) x).map W8 := by
            rw [← List.map_set, show by_ - k = i + 1 by omega, show by_ - (k + 1) = i by omega]
            congr 1
            rw [List.replicate_succ', List.append_assoc, List.set_append_right _ _ (by simp), List.length_replicate, Nat.sub_self]
            congr 1
            rw [beL, beL, List.range_succ_eq_map, List.map_cons, List.map_map]
            simp only [List.cons_append, List.nil_append, List.set_cons_zero, Nat.add_sub_cancel, Nat.sub_zero]
            congr 1
            apply List.map_congr_left
            intro a ha
            simp only [Function.comp_apply]
            congr 1
            omega
          rw [hset] at hst
          obtain ⟨y, hy⟩ : ∃ y, x / 256 ^ k = y := ⟨_, rfl⟩
          have hb8 := i8_byteAt x k
          rw [hy] at hb8
          rw [hy]
          have hy1 : x / 256 ^ (k + 1) = y / 256 := by rw [← hy, Nat.pow_succ, Nat.div_div_eq_div_mul]
          have hyI : (y : Int) / 256 = ((y / 256 : Nat) : Int) := by omega
          have hyb : (y : Int) ≤ 18446744073709551615 := by
            have : y ≤ x := by rw [← hy]; exact Nat.div_le_self _ _
            have := HX.out
            omega
          obtain ⟨y2, hy2⟩ : ∃ y2, y / 256 = y2 := ⟨_, rfl⟩
          rw [hy2] at hyI hy1
          have HST := Lib.hid hst
          have HY1 := Lib.hid hy1
          have HSETB := Lib.hid (HB2.out.setCell (p := ⟨g, i, none⟩) (Nat.le_refl _) (W8 (byteAt x k)))
          have HII := Lib.hid hi
          clear hst hset hy hy1 hy2 hi hiI
          go_wp2
          go_roundw
          case rel =>
            refine ⟨k + 1, by omega, by have := HII.out; go_num, by rw [HY1.out], HST, HSETB⟩
          case measure => simp [intOf]
    · have hne : ((r : Int) != (d : Int)) = true := by
        have := mt HRD.out.1 hjZ
        simp; omega
      have hne2 : ¬ (r : Int) = (d : Int) := by
        have := mt HRD.out.1 hjZ
        omega
      obtain ⟨W4, e4, r4, b4, s4⟩ := newV wr 5 [W8 0] #[.int .u8 0] rfl
      have hown4 := own_keep HO.out.2 (fun q hq => b4.block q (HO.out.2.lt q hq).2)
      have hsl4 := r4.sl (by decide)
      have hzw := HB.out.size
      have HO4 := Lib.hid hown4
      have HS4 := Lib.hid hsl4
      have HB4 := Lib.hid (HB.out.trans (b4.mono hzw))
      clear r4 b4 hown4 hsl4
      go_wp2_with (at_builtin; refine wlv_append Tryd.elem8 rfl _ _ rfl w.heap.size _ l _ rfl HO4.out (some ⟨wr.heap.size, 0, none⟩) 1 1 [W8 0] rfl (by intro h; cases h) _ HS4.out (ones8 [0]) (by omega) (by omega) ?_; intro v5 w5 hown5 hgr5; obtain ⟨A5, c5, rfl, _, _, _⟩ := SlV.of_own hown5; have HO5 := Lib.hid hown5; have HB5 := Lib.hid (HB4.out.grown hgr5 (by omega) (fun q hq => (HO4.out.lt q hq).1)); clear hown5 hgr5 e4)
      go_roundw
      case rel =>
        refine ⟨j + 1, l + 1, c5, A5, by omega, rfl, by have := HO.out.1; omega, Lib.hid ⟨by have := HO.out.1; omega, ?_⟩, HB5⟩
        have h := HO5.out
        have e : (bs ++ (128 :: List.replicate j 0)).map W8 ++ [W8 0] = (bs ++ (128 :: List.replicate (j + 1) 0)).map W8 := by simp [List.replicate_succ']
        exact e ▸ h
      case measure => show 1000000200 - (l + 1) < 1000000200 - l; have := HO.out.1; omega
end Go.Proofs.YtnpaidieijlkkaaDoor

/- A region that draws its order and whose last operations, one behind the other, make or turn memory. -/
set_option linter.unusedVariables false
set_option linter.unusedSimpArgs false
namespace Go.Proofs.YtnpaidieijlkkaaDoor
open Go.RowKit Go.Shelf

theorem wrote_congrH (ops : Array Oper) (v1 v2 : Nat → Value) (L : Array Bool) (t0 : Array Value) (h : ∀ j, L.getD j false = true → v1 j = v2 j) : ∀ k, wrote ops v1 L t0 k = wrote ops v2 L t0 k := by
  intro k
  induction k with
  | zero => rfl
  | succ k ih =>
    simp only [wrote]
    split
    · next hk => rw [ih, h k hk]
    · exact ih

theorem wrote_oldL (ops : Array Oper) (vals : Nat → Value) (L : Array Bool) (t0 : Array Value) (t : Tmp) (h : ∀ (i : Nat) (oi : Oper), ops[i]? = some oi → L.getD i false = true → oi.dst ≠ some t) : ∀ k, (wrote ops vals L t0 k).getD t undef = t0.getD t undef
  | 0 => rfl
  | k + 1 => by
    simp only [wrote]
    split
    · next hk =>
      rw [put_getD_ne, wrote_oldL ops vals L t0 t h k]
      intro e
      obtain ⟨o, ho, e'⟩ := Option.bind_eq_some_iff.1 e
      exact h k o ho hk e'
    · exact wrote_oldL ops vals L t0 t h k
/-- THE REGION: each operation, when its turn comes, yields a value; values and world meet a relation to what has been listed. -/
theorem wpIn_region_relH {β : Type} {F : Fence} {n : Nat} {P : Program} {id : Nat} {ops : Array Oper} {Q : Exit → Act → World → Prop} {a : Act} {w : World} (hm : P.follows .mixedOrders = true) (hd : Distinct ops)
    (vals : β → Nat → Value) (Wo : β → Array Bool → World → Prop) (b0 : β) (hw0 : Wo b0 (Array.replicate ops.size false) w.drew)
    (hstep : ∀ (b : β) (L : Array Bool) (a' : Act) (w' : World), Wo b L w' → L.size = ops.size → a'.defers = a.defers → (∀ (j : Nat) (oj : Oper), ops[j]? = some oj → L.getD j false = true → ∀ e ∈ oj.after, Region.binds .any e = true → L.getD e.on false = true) →
      (∀ t, (∀ (i : Nat) (oi : Oper), ops[i]? = some oi → L.getD i false = true → oi.dst ≠ some t) → a'.tmps.getD t undef = a.tmps.getD t undef) →
      (∀ (j : Nat) (oj : Oper) t, ops[j]? = some oj → oj.dst = some t → L.getD j false = true → t < a.tmps.size → a'.tmps.getD t undef = vals b j) →
      ∀ i ∈ Region.ready .any ops L, ∀ oi, ops[i]? = some oi → ∀ (K : Act → World → Prop), (∀ b' w'', (∀ j, L.getD j false = true → vals b' j = vals b j) → Wo b' (L.setIfInBounds i true) w'' → K (a'.put oi.dst (vals b' i)) w'') → wpOpIn F n P ops Q i K a' w')
    (hend : ∀ (b : β) (L : Array Bool) (w' : World), Wo b L w' → (∀ i, i < ops.size → L.getD i false = true) → Q .normal { tmps := wrote ops (vals b) (Array.replicate ops.size true) a.tmps ops.size, defers := a.defers } w')
    (hacyc : ∀ L : Array Bool, L.size = ops.size → Region.ready .any ops L = [] → ∀ i, i < ops.size → L.getD i false = true) : (Code.region id ops true).wpIn F n P Q a w := by
  refine wpIn_region_any hm ?_
  refine wpAnyIn_inv (fun L a' w' => (L.size = ops.size ∧ ∀ (j : Nat) (oj : Oper), ops[j]? = some oj → L.getD j false = true → ∀ e ∈ oj.after, Region.binds .any e = true → L.getD e.on false = true) ∧ ∃ b, a' = { tmps := wrote ops (vals b) L a.tmps ops.size, defers := a.defers } ∧ Wo b L w') ?_ ?_ (fun L a w h => h.1.1) _ _ _ _ ⟨⟨by simp, ?_⟩, b0, ?_, hw0⟩ ?_
  · rintro L a' w' ⟨⟨hs, hcl⟩, b, rfl, hW⟩ i hi
    obtain ⟨h1, o, ho, hdep⟩ := mem_ready.1 hi
    have hi' : i < L.size := by rw [hs]; exact (Array.getElem?_eq_some_iff.1 ho).1
    have hf : L.getD i false = false := by
      rw [Array.getD_eq_getD_getElem?, Array.getElem?_eq_getElem hi'] at h1 ⊢
      simpa using h1
    refine hstep b L { tmps := wrote ops (vals b) L a.tmps ops.size, defers := a.defers } _ hW hs rfl hcl (fun t ht => wrote_oldL ops (vals b) L a.tmps t ht _) (fun j oj t hj hjt hL ht => wrote_new ops (vals b) L a.tmps hd hj hjt hL ht _ (Array.getElem?_eq_some_iff.1 hj).1) i hi o ho _ fun b' w'' hv hw'' => ⟨⟨by simp [hs], ?_⟩, b', ?_, hw''⟩
    · have hmono : ∀ t, L.getD t false = true → (L.setIfInBounds i true).getD t false = true := by
        intro t ht
        by_cases e : t = i
        · subst e; simp [Array.getD_eq_getD_getElem?, hi']
        · simp only [Array.getD_eq_getD_getElem?] at ht ⊢
          rw [Array.getElem?_setIfInBounds_ne (fun h => e h.symm)]; exact ht
      intro j oj hj hLj e he hb
      by_cases hji : j = i
      · subst hji
        obtain rfl : o = oj := Option.some.inj (ho.symm.trans hj)
        exact hmono _ (hdep e he hb)
      · refine hmono _ (hcl j oj hj ?_ e he hb)
        simp only [Array.getD_eq_getD_getElem?] at hLj ⊢
        rw [Array.getElem?_setIfInBounds_ne (fun h => hji h.symm)] at hLj
        exact hLj
    rw [wrote_set ops (vals b') L a.tmps hd ho hi' hf, if_pos (by rw [← hs]; exact hi'), wrote_congrH ops (vals b') (vals b) L a.tmps hv]
    unfold Act.put
    cases o.dst <;> rfl
  · rintro L a' w' ⟨⟨hs, _⟩, b, rfl, hW⟩ hr
    have hall := hacyc L hs hr
    have e : L = Array.replicate ops.size true := by
      apply Array.ext
      · simp [hs]
      · intro i h1 h2
        have := hall i (by omega)
        rw [Array.getD_eq_getD_getElem?, Array.getElem?_eq_getElem h1] at this
        simpa using this
    have h := hend b L w' hW hall
    rw [e]
    exact h
  · intro j oj _ hLj
    exfalso
    rw [Array.getD_eq_getD_getElem?, Array.getElem?_replicate] at hLj
    split at hLj <;> simp at hLj
  · have : ∀ k, wrote ops (vals b0) (Array.replicate ops.size false) a.tmps k = a.tmps := by
      intro k
      induction k with
      | zero => rfl
      | succ k ih =>
        simp only [wrote]
        rw [if_neg (by rw [Array.getD_eq_getD_getElem?, Array.getElem?_replicate]; split <;> simp)]
        exact ih
    rw [this]
  · simp
/-- the operands that an operation reads: made slices too -/
def usesW : Op → Option (List Operand)
  | .buildSlice _ _ parts => some (parts.toList.map (·.2))
  | .makeSlice _ x y => some [x, y]
  | x => usesOp x
theorem exec_congrW {ρ ρ' : Operand → Value} {o : Oper} {l : List Operand} (h : usesW o.op = some l) (ha : ∀ x ∈ l, ρ x = ρ' x) : execOp ρ o = execOp ρ' o := by
  cases ho : o.op
  case buildSlice t n parts =>
    rw [ho] at h
    simp only [usesW] at h
    cases h
    unfold execOp
    have e : (parts.map fun (i, x) => (i, ρ x)) = (parts.map fun (i, x) => (i, ρ' x)) := map_array_congr parts (fun p hp => by
      have := ha p.2 (List.mem_map.2 ⟨p, hp, rfl⟩)
      simp [this])
    simp only [ho, e]
  case makeSlice t x y =>
    rw [ho] at h
    simp only [usesW] at h
    cases h
    unfold execOp
    simp [ho, ha x (by simp), ha y (by simp)]
  all_goals exact exec_congr (by rw [ho] at h; rw [ho]; simpa only [usesW] using h) ha
theorem about_congrW {P : Program} {w : World} {ρ ρ' : Operand → Value} {o : Oper} {l : List Operand} (h : usesW o.op = some l) (ha : ∀ x ∈ l, ρ x = ρ' x) : o.about P w ρ = o.about P w ρ' := by
  cases ho : o.op
  case buildSlice t n parts => unfold Oper.about; simp only [ho]
  case makeSlice t x y => unfold Oper.about; simp only [ho]
  all_goals exact about_congr (by rw [ho] at h; rw [ho]; simpa only [usesW] using h) ha
def depsW (ops : Array Oper) (asg wk : List Nat) : Bool := (List.range ops.size).all fun i => match ops[i]? with
  | none => true
  | some o => o.guard.isNone && (match o.dst with | some t => asg.contains t || wk.contains t | none => true) && match usesW o.op with
    | none => false
    | some l => l.all fun x => match x with
      | .tmp t => bif asg.contains t then (List.range ops.size).all fun j => match (ops[j]?).bind (·.dst) with
        | some t' => t' != t || o.after.any fun e => e.on == j && Region.binds .any e
        | none => true
        else (List.range ops.size).all fun j => match (ops[j]?).bind (·.dst) with
        | some t' => t' != t || decide (j + 1 = ops.size)
        | none => true
      | _ => true
/-- the operands of one whose turn it is hold what they will hold -/
theorem ops_hold {ops : Array Oper} {asg wrt : List (Nat × Value)} {a a' : Act} {L : Array Bool} (hdep : depsW ops (asg.map (·.1)) (wrt.map (·.1)) = true) (hon : onlyB ops (asg.map (·.1)) = true) (hsz : (asg.map (·.1)).all (fun t => decide (t < a.tmps.size)) = true)
    (hlast : ∀ j, j + 1 = ops.size → L.getD j false = false)
    (hold : ∀ t, (∀ (i : Nat) (oi : Oper), ops[i]? = some oi → L.getD i false = true → oi.dst ≠ some t) → a'.tmps.getD t undef = a.tmps.getD t undef)
    (hnew : ∀ (j : Nat) (oj : Oper) t, ops[j]? = some oj → oj.dst = some t → L.getD j false = true → t < a.tmps.size → a'.tmps.getD t undef = valP ops (asg ++ wrt) j)
    {i : Nat} {o : Oper} (ho : ops[i]? = some o) (hde : ∀ e ∈ o.after, Region.binds .any e = true → L.getD e.on false = true) : ∃ l, usesW o.op = some l ∧ o.guard = none ∧ ∀ x ∈ l, a'.eval x = evP asg a x := by
  have his : i < ops.size := (Array.getElem?_eq_some_iff.1 ho).1
  simp only [depsW, List.all_eq_true, List.mem_range] at hdep
  have h2 := hdep i his
  rw [ho] at h2
  simp only [Bool.and_eq_true] at h2
  cases hu : usesW o.op with
  | none => rw [hu] at h2; simp at h2
  | some l =>
    rw [hu] at h2
    refine ⟨l, rfl, by simpa using h2.1.1, fun x hx => ?_⟩
    have h3 := List.all_eq_true.1 h2.2 x hx
    cases x with
    | tmp t =>
      cases hl : (asg.map (·.1)).contains t with
      | false =>
        simp only [hl, cond_false] at h3
        have hno := lookup_none_of hl
        have e1 : evP asg a (.tmp t) = a.tmps.getD t undef := by simp [evP, hno, Act.eval]
        have e2 : a'.eval (.tmp t) = a'.tmps.getD t undef := by simp [Act.eval]
        rw [e1, e2]
        refine hold t fun j oj hj hLj e => ?_
        have h4 := List.all_eq_true.1 h3 j (List.mem_range.2 (Array.getElem?_eq_some_iff.1 hj).1)
        rw [hj] at h4
        simp only [Option.bind_some, e, bne_self_eq_false, Bool.false_or, decide_eq_true_eq] at h4
        rw [hlast j h4] at hLj
        cases hLj
      | true =>
        simp only [hl, cond_true] at h3
        obtain ⟨v, hv⟩ := lookup_some_of hl
        have e1 : evP asg a (.tmp t) = v := by simp [evP, hv]
        have e2 : a'.eval (.tmp t) = a'.tmps.getD t undef := by simp [Act.eval]
        rw [e1, e2]
        have h5 := List.all_eq_true.1 hon t (by simpa using hl)
        rw [List.any_eq_true] at h5
        obtain ⟨j, hj, h6⟩ := h5
        rw [List.mem_range] at hj
        have hoj : ops[j]? = some ops[j] := Array.getElem?_eq_getElem hj
        rw [hoj] at h6
        simp only [Option.bind_some] at h6
        cases hdj : ops[j].dst with
        | none => rw [hdj] at h6; cases h6
        | some t' =>
          rw [hdj] at h6
          obtain rfl : t' = t := by simpa using h6
          have h7 := List.all_eq_true.1 h3 j (List.mem_range.2 hj)
          rw [hoj] at h7
          simp only [Option.bind_some, hdj, bne_self_eq_false, Bool.false_or] at h7
          obtain ⟨e, he, he2⟩ := Array.any_eq_true'.1 h7
          rw [Bool.and_eq_true, beq_iff_eq] at he2
          have hLj := hde e he he2.2
          rw [he2.1] at hLj
          have htl : t' < a.tmps.size := by
            have := List.all_eq_true.1 hsz t' (by simpa using hl)
            simpa using this
          have h8 := hnew j _ t' hoj hdj hLj htl
          rw [h8]
          simp [valP, hoj, hdj, hv, List.lookup_append]
    | _ => rfl
/-- how many of the tail are done -/
def cntW (s : Nat) (L : Array Bool) : Nat → Nat
  | 0 => 0
  | t + 1 => if L.getD (s + t) false then t + 1 else cntW s L t
theorem cntW_le (s : Nat) (L : Array Bool) : ∀ t, cntW s L t ≤ t
  | 0 => Nat.le_refl _
  | t + 1 => by
    rw [cntW]
    split
    · exact Nat.le_refl _
    · exact Nat.le_trans (cntW_le s L t) (Nat.le_succ t)
theorem cntW_other (s : Nat) (L : Array Bool) {i : Nat} (h : i < s) : ∀ t, cntW s (L.setIfInBounds i true) t = cntW s L t
  | 0 => rfl
  | t + 1 => by rw [cntW, cntW, getD_set_other L (by omega), cntW_other s L h t]
theorem cntW_eq (s : Nat) (L : Array Bool) (k : Nat) (hk : k = 0 ∨ L.getD (s + (k - 1)) false = true) : ∀ t, k ≤ t → (∀ j, k ≤ j → j < t → L.getD (s + j) false = false) → cntW s L t = k
  | 0, h, _ => by rw [cntW]; omega
  | t + 1, h, hn => by
    rw [cntW]
    rcases Nat.lt_or_ge t k with h2 | h2
    · obtain rfl : k = t + 1 := by omega
      rcases hk with hk | hk
      · omega
      · rw [if_pos (by simpa using hk)]
    · rw [hn t h2 (by omega)]
      simp only [Bool.false_eq_true, if_false]
      exact cntW_eq s L k hk t h2 fun j h3 h4 => hn j h3 (by omega)
/-- each of the tail but the first waits for the one ahead -/
def chainW (ops : Array Oper) (s : Nat) : Bool := (List.range ops.size).all fun j => decide (j ≤ s) || match ops[j]? with
  | some o => o.after.any fun e => e.on == j - 1 && Region.binds .any e
  | none => true
/-- one of the region's pure operations, at one world -/
def PureAt (F : Fence) (n : Nat) (P : Program) (W : World) (ρ : Operand → Value) (o : Oper) (v : Value) : Prop :=
  (∀ c, o.op ≠ .defer c) ∧ (∀ f, o.about P W ρ = some f → F.fn f) ∧
    ((execOp ρ o).run P W = .ok (.value v) W ∨
      ∃ f args, (execOp ρ o).run P W = .ok (.enter f args) W ∧ CallsIn F (n - 1) P f args W fun e w' => e = .returned v ∧ ∃ q', w' = W.drewN q')
theorem wpIn_region_chain {β : Type} {F : Fence} {n : Nat} {P : Program} {id : Nat} {ops : Array Oper} {Q : Exit → Act → World → Prop} {a : Act} {w : World} (hF : F.depth = none) (hm : P.follows .mixedOrders = true)
    (asg wrt : β → List (Nat × Value)) (keys wk : List Nat) (hkeys : ∀ b, (asg b).map (·.1) = keys) (hwk : ∀ b, (wrt b).map (·.1) = wk) (hd : distinctB ops = true) (hdep : depsW ops keys wk = true) (hon : onlyB ops keys = true) (hord : orderedB ops = true) (hsz : keys.all (fun t => decide (t < a.tmps.size)) = true)
    (s t : Nat) (hst : s + t = ops.size) (hch : chainW ops s = true) (hroot : rootB ops (ops.size - 1) = true) (R : Nat → β → World → Prop) (hR : ∀ k b W q, R k b W → R k b (W.drewN q)) (b0 : β) (h0 : R 0 b0 w)
    (hops : ∀ i o k b W, i < s → k ≤ t → R k b W → ops[i]? = some o → PureAt F n P W (evP (asg b) a) o (valP ops (asg b ++ wrt b) i))
    (htail : ∀ k b W o, k < t → R k b W → ops[s + k]? = some o → (∀ c, o.op ≠ .defer c) ∧ (∀ f, o.about P W (evP (asg b) a) = some f → F.fn f) ∧ ∃ b' W', (∀ j, j < s + k → valP ops (asg b' ++ wrt b') j = valP ops (asg b ++ wrt b) j) ∧ R (k + 1) b' W' ∧
      ((execOp (evP (asg b) a) o).run P W = .ok .skip W' ∧ valP ops (asg b' ++ wrt b') (s + k) = undef ∨ (execOp (evP (asg b) a) o).run P W = .ok (.value (valP ops (asg b' ++ wrt b') (s + k))) W'))
    (hend : ∀ b W, R t b W → Q .normal { tmps := wrote ops (valP ops (asg b ++ wrt b)) (Array.replicate ops.size true) a.tmps ops.size, defers := a.defers } W) : (Code.region id ops true).wpIn F n P Q a w := by
  have hd' := distinct_of hd
  have hstepback : ∀ (L : Array Bool), (∀ (j : Nat) (oj : Oper), ops[j]? = some oj → L.getD j false = true → ∀ e ∈ oj.after, Region.binds .any e = true → L.getD e.on false = true) → ∀ j, s < j → j < ops.size → L.getD j false = true → L.getD (j - 1) false = true := by
    intro L hcl j h1 h2 hL
    have h3 := List.all_eq_true.1 hch j (List.mem_range.2 h2)
    have hoj : ops[j]? = some ops[j] := Array.getElem?_eq_getElem h2
    rw [hoj, Bool.or_eq_true, decide_eq_true_eq] at h3
    rcases h3 with h3 | h3
    · omega
    · obtain ⟨e, he, he2⟩ := Array.any_eq_true'.1 h3
      rw [Bool.and_eq_true, beq_iff_eq] at he2
      have := hcl j _ hoj hL e he he2.2
      rwa [he2.1] at this
  have hdown : ∀ (L : Array Bool), (∀ (j : Nat) (oj : Oper), ops[j]? = some oj → L.getD j false = true → ∀ e ∈ oj.after, Region.binds .any e = true → L.getD e.on false = true) → ∀ d i, s ≤ i → i + d < ops.size → L.getD (i + d) false = true → L.getD i false = true := by
    intro L hcl d
    induction d with
    | zero => intro i _ _ h; exact h
    | succ d ih =>
      intro i h1 h2 h
      refine ih i h1 (by omega) ?_
      have := hstepback L hcl (i + (d + 1)) (by omega) h2 h
      rwa [show i + (d + 1) - 1 = i + d by omega] at this
  have hclose : ∀ (L : Array Bool), (∀ (j : Nat) (oj : Oper), ops[j]? = some oj → L.getD j false = true → ∀ e ∈ oj.after, Region.binds .any e = true → L.getD e.on false = true) → ∀ s, s + 1 = ops.size → L.getD s false = true → ∀ k i, i + k = s → L.getD i false = true := by
    intro L hcl s hs hL k
    induction k using Nat.strongRecOn with
    | _ k ih =>
      intro i hik
      rcases Nat.eq_zero_or_pos k with h0 | h0
      · obtain rfl : i = s := by omega
        exact hL
      · simp only [rootB, List.all_eq_true, List.mem_range] at hroot
        have h1 := hroot i (by omega)
        rw [List.any_eq_true] at h1
        obtain ⟨j, hj, h2⟩ := h1
        rw [List.mem_range] at hj
        rw [Bool.and_eq_true, decide_eq_true_eq] at h2
        have hjl := ih (s - j) (by omega) j (by omega)
        cases ho : ops[j]? with
        | none => rw [ho] at h2; simp at h2
        | some o =>
          rw [ho] at h2
          obtain ⟨e, he, he2⟩ := Array.any_eq_true'.1 h2.2
          rw [Bool.and_eq_true, beq_iff_eq] at he2
          have := hcl j o ho hjl e he he2.2
          rwa [he2.1] at this
  have hnolast : ∀ (L : Array Bool), (∀ (j : Nat) (oj : Oper), ops[j]? = some oj → L.getD j false = true → ∀ e ∈ oj.after, Region.binds .any e = true → L.getD e.on false = true) → ∀ i, i < ops.size → L.getD i false = false → ∀ j, j + 1 = ops.size → L.getD j false = false := by
    intro L hcl i hi hf j hj
    apply Classical.byContradiction
    intro h
    have := hclose L hcl j hj (by simpa using h) (j - i) i (by omega)
    rw [hf] at this
    cases this
  refine wpIn_region_relH hm hd' (fun b => valP ops (asg b ++ wrt b)) (fun b L W => R (cntW s L t) b W) b0 ?_ ?_ ?_ (acyclic_of hord)
  · have : cntW s (Array.replicate ops.size false) t = 0 := cntW_eq s _ 0 (.inl rfl) t (Nat.zero_le _) fun j _ _ => by
      rw [Array.getD_eq_getD_getElem?, Array.getElem?_replicate]; split <;> rfl
    simp only [this]
    exact hR 0 b0 w 1 h0
  · intro b L a' W hW hLs hdf hcl hold hnew i hi o ho K hK
    obtain ⟨h1, o2, ho2, hde⟩ := mem_ready.1 hi
    obtain rfl : o = o2 := Option.some.inj (ho.symm.trans ho2)
    have hnl := unlisted h1
    have his : i < ops.size := (Array.getElem?_eq_some_iff.1 ho).1
    obtain ⟨l, hu, hg, hev⟩ := ops_hold (asg := asg b) (a := a) (a' := a') (L := L) (wrt := wrt b) (by rw [hkeys, hwk]; exact hdep) (by rw [hkeys]; exact hon) (by rw [hkeys]; exact hsz) (hnolast L hcl i his hnl) hold hnew ho hde
    have hex := exec_congrW hu hev
    have hab : ∀ V : World, o.about P V a'.eval = o.about P V (evP (asg b) a) := fun V => about_congrW hu hev
    rcases Nat.lt_or_ge i s with his' | his'
    · have hkt : cntW s L t ≤ t := cntW_le s L t
      obtain ⟨hdef, hf, hrun⟩ := hops i o _ b W his' hkt hW ho
      have hcw := cntW_other s L his' t
      rcases hrun with hrun | ⟨f, args, hrun, hcall⟩
      · refine in_value ho hg hdef (fun f hf' => hf f (by rw [← hab]; exact hf')) (by rw [hex]; exact hrun) ?_
        exact hK b W (fun _ _ => rfl) (by rw [hcw]; exact hW)
      · refine in_call_any ho hg hdef hF (fun f hf' => hf f (by rw [← hab]; exact hf')) (by rw [hex]; exact hrun) (hcall.mono ?_)
        rintro e w' ⟨rfl, q', rfl⟩
        exact ⟨_, rfl, hK b _ (fun _ _ => rfl) (by rw [hcw]; exact hR _ _ _ _ hW)⟩
    · obtain ⟨k, rfl⟩ : ∃ k, i = s + k := ⟨i - s, by omega⟩
      have hlater : ∀ j, k ≤ j → j < t → L.getD (s + j) false = false := by
        intro j h2 h3
        apply Classical.byContradiction
        intro h
        have := hdown L hcl (j - k) (s + k) (by omega) (by omega) (by rw [show s + k + (j - k) = s + j by omega]; simpa using h)
        rw [hnl] at this
        cases this
      have hprev : k = 0 ∨ L.getD (s + (k - 1)) false = true := by
        rcases Nat.eq_zero_or_pos k with h2 | h2
        · exact .inl h2
        · refine .inr ?_
          have h3 := List.all_eq_true.1 hch (s + k) (List.mem_range.2 his)
          rw [ho, Bool.or_eq_true, decide_eq_true_eq] at h3
          rcases h3 with h3 | h3
          · omega
          · obtain ⟨e, he, he2⟩ := Array.any_eq_true'.1 h3
            rw [Bool.and_eq_true, beq_iff_eq] at he2
            have := hde e he he2.2
            rw [he2.1] at this
            rwa [show s + k - 1 = s + (k - 1) by omega] at this
      have hc1 : cntW s L t = k := cntW_eq s L k hprev t (by omega) hlater
      have hc2 : cntW s (L.setIfInBounds (s + k) true) t = k + 1 := cntW_eq s _ (k + 1) (.inr (getD_set_self L (by omega))) t (by omega) fun j h2 h3 => by
        rw [getD_set_other L (by omega)]; exact hlater j (by omega) h3
      have hW2 : R k b W := by have := hW; simp only [hc1] at this; exact this
      obtain ⟨hdef, hf, b', W', hv, hR', hrun⟩ := htail k b W o (by omega) hW2 ho
      have hvv : ∀ j, L.getD j false = true → valP ops (asg b' ++ wrt b') j = valP ops (asg b ++ wrt b) j := by
        intro j hj
        rcases Nat.lt_or_ge j (s + k) with h2 | h2
        · exact hv j h2
        · exfalso
          have hjl : j < L.size := by
            apply Classical.byContradiction
            intro h
            rw [Array.getD_eq_getD_getElem?, Array.getElem?_eq_none (by omega)] at hj
            cases hj
          have := hlater (j - s) (by omega) (by omega)
          rw [show s + (j - s) = j by omega, hj] at this
          cases this
      have hk := hK b' W' hvv (by rw [hc2]; exact hR')
      rcases hrun with ⟨hrun, hvu⟩ | hrun
      · simp only [hvu] at hk
        exact in_skip ho hg hdef (fun f hf' => hf f (by rw [← hab]; exact hf')) (by rw [hex]; exact hrun) hk
      · exact in_value ho hg hdef (fun f hf' => hf f (by rw [← hab]; exact hf')) (by rw [hex]; exact hrun) hk
  · intro b L W hW hL
    have : cntW s L t = t := cntW_eq s L t (by rcases Nat.eq_zero_or_pos t with h | h; exact .inl h; exact .inr (hL _ (by omega))) t (Nat.le_refl _) fun j h1 h2 => absurd h2 (by omega)
    simp only [this] at hW
    exact hend b W hW
end Go.Proofs.YtnpaidieijlkkaaDoor

/- baileyref3: words. -/
set_option linter.unusedVariables false
set_option linter.unusedSimpArgs false
namespace Go.Proofs.YtnpaidieijlkkaaDoor
open Go.RowKit Go.Shelf

def byte4 (x : BitVec 32) : List (BitVec 8) := [(x >>> 24).setWidth 8, (x >>> 16).setWidth 8, (x >>> 8).setWidth 8, x.setWidth 8]
def wordsL : List (BitVec 32) → List (BitVec 8)
  | [] => []
  | x :: r => byte4 x ++ wordsL r
theorem wordsL_append : ∀ (a b : List (BitVec 32)), wordsL (a ++ b) = wordsL a ++ wordsL b
  | [], _ => rfl
  | x :: a, b => by rw [List.cons_append, wordsL, wordsL, wordsL_append a b, List.append_assoc]
theorem wordsL_length : ∀ a : List (BitVec 32), (wordsL a).length = 4 * a.length
  | [] => rfl
  | x :: a => by rw [wordsL, List.length_append, wordsL_length a, List.length_cons]; simp [byte4]; omega
theorem d32_24 (x : BitVec 32) : i32 x / (16777216 : Int) = i32 (x >>> 24) := b32_shr x 24
theorem d32_16 (x : BitVec 32) : i32 x / (65536 : Int) = i32 (x >>> 16) := b32_shr x 16
theorem d32_8 (x : BitVec 32) : i32 x / (256 : Int) = i32 (x >>> 8) := b32_shr x 8
theorem own_form {w : World} {base : Nat} {e : TypeId} {v : Value} {n : Nat} {xs : List Value} (h : w.ownsRow base e 1 v n xs) : ∃ A c, v = .slice A n c := by
  rcases h.2 with ⟨rfl, rfl⟩ | ⟨g, cap, cur, rfl, _⟩
  · exact ⟨none, 0, rfl⟩
  · exact ⟨_, _, rfl⟩
theorem w32_8 (x : BitVec 32) : IntKind.u8.wrap (i32 x) = i8 (x.setWidth 8) := by rw [IntKind.wrap_u8']; exact c32_8' x
section
variable {P : Program} {t e : TypeId} {z : Value} {sz : Nat} {w : World} {o : Oper}
/-- append onto an owned row, as one run -/
theorem run_wappend (E : Elem P t e z sz) {ρ : Operand → Value} (s x : Operand)
    (ho : o.op = .call { callee := .builtin .append, args := #[s, x], argTypes := #[t, t] })
    (base : Nat) (v : Value) (k : Nat) (ys : List Value) (hs : ρ s = v) (hown : w.ownsRow base e 1 v k ys) (ad : Addr) (m c : Nat) (xs : List Value) (hx : ρ x = .slice (some ad) m c) (hl : xs.length = m)
    (hnews : ∀ j u, xs[j]? = some u → w.cell? (ad.add j) = some u) (h1 : ∀ u ∈ xs, u.oneCell' = true) (hk : k + m ≤ 17592186044416) (hbase : base ≤ w.heap.size) :
    ∃ v' w', (execOp ρ o).run P w = .ok (.value v') w' ∧ w'.ownsRow base e 1 v' (k + m) (ys ++ xs) ∧ w.grownBy w' v.ownBlock := by
  obtain ⟨i0, hi, hz0, hz1, hz2⟩ := info_parts E.info
  have hb : (k + m) * sz ≤ 140737488355328 := Nat.le_trans (Nat.mul_le_mul hk E.b8) (by decide)
  obtain ⟨v', w', hr, h2, h3, h4⟩ := run_append_own (P := P) w base t o.type e i0 z 1 sz E.sl hi hz0 hz1 hz2 (by rw [E.one]; rfl) (by decide) v k ys hown ad m c xs (by omega) hnews h1 (by simp only [maxLen]; omega) hb hbase
  refine ⟨v', w', ?_, h2, h3⟩
  unfold execOp
  simp only [ho, resolve, invoke, builtin, Sem.run_bind, Sem.run_pure, Result.andThen_ok, List.map_toArray, List.map_cons, List.map_nil, hs, hx, hr]
end
/-- the four bytes' row -/
def row4 (x : BitVec 32) : Obj := .cells ((byte4 x).map W8).toArray 5 (0, 0)
def R72 (wr : World) (base m : Nat) (x : BitVec 32) (zs : List Value) : Nat → Value → World → Prop
  | 0, _, W => ∃ q, W = wr.drewN q
  | 1, _, W => ∃ q, W = (wr.alloc (row4 x)).drewN q
  | _ + 2, v, W => W.ownsRow base 5 1 v m zs ∧ Below base wr W
theorem R72.drew {wr : World} {base m : Nat} {x : BitVec 32} {zs : List Value} : ∀ (k : Nat) (v : Value) (W : World) (q : Nat), R72 wr base m x zs k v W → R72 wr base m x zs k v (W.drewN q)
  | 0, _, _, q, ⟨q0, h⟩ => ⟨q0 + q, by rw [h, drewN_add]⟩
  | 1, _, _, q, ⟨q0, h⟩ => ⟨q0 + q, by rw [h, drewN_add]⟩
  | _ + 2, _, _, q, h => ⟨h.1, below_drewN h.2 q⟩
theorem R72.below {wr : World} {base m : Nat} {x : BitVec 32} {zs : List Value} (hb : base ≤ wr.heap.size) : ∀ (k : Nat) (v : Value) (W : World), R72 wr base m x zs k v W → Below base wr W
  | 0, _, _, ⟨q0, h⟩ => by rw [h]; exact below_drewN (Below.refl _ _) _
  | 1, _, _, ⟨q0, h⟩ => by rw [h]; exact below_drewN ((Below.refl _ _).alloc hb _) _
  | _ + 2, _, _, h => h.2
set_option maxRecDepth 100000 in
set_option maxHeartbeats 2000000 in
theorem words_any (w : World) (B : Nat) (A : Option Addr) (n c : Nat) (ws : List (BitVec 32)) (hs : SlV w B A n c (ws.map W32)) (hB : B ≤ w.heap.size) (hn : n ≤ 1000) :
    Calls Tryd.prog 112 #[.slice A n c] w fun e w' => ∃ v, e = .returned v ∧ w'.ownsRow w.heap.size 5 1 v (4 * n) ((wordsL ws).map W8) ∧ Below w.heap.size w w' := by
  have hl : n = ws.length := by simpa using hs.len
  have kn : (n : Int) ≤ 1000 := by omega
  have HS := Lib.hid hs
  have HL := Lib.hid hl
  clear hs hl
  go_enter Tryd.func112, Tryd.ntmps112
  go_wp2
  go_loopw [3, 4] (fun o i wr => ∃ (j c' : Nat) (A' : Option Addr), j ≤ n ∧ i = .int .i64 (j : Int) ∧ o = .slice A' (4 * j) c' ∧ Hid (wr.ownsRow w.heap.size 5 1 (.slice A' (4 * j) c') (4 * j) ((wordsL (ws.take j)).map W8)) ∧ Hid (Below w.heap.size w wr)) (fun _ i _ => n - (intOf i).toNat)
  case atStart => exact ⟨0, 0, none, Nat.zero_le _, rfl, rfl, Lib.hid ⟨rfl, .inl ⟨rfl, rfl⟩⟩, Lib.hid (Below.refl _ _)⟩
  case round =>
    obtain ⟨j, c', A', hj, rfl, rfl, HO, HB⟩ := hrel
    by_cases hjn : j < n
    · have kj : (j : Int) < n := by omega
      have kj0 : (0 : Int) ≤ j := by omega
      obtain ⟨b, off, v0, rfl, hb, hv, hc⟩ := HS.out.at_ (k := j) hjn
      obtain ⟨x, hx, rfl⟩ : ∃ x, ws[j]? = some x ∧ v0 = W32 x := by
        rw [List.getElem?_map, Option.map_eq_some_iff] at hv
        obtain ⟨x, hx, rfl⟩ := hv
        exact ⟨x, hx, rfl⟩
      have hcw : wr.cell? ⟨b, off + j, none⟩ = some (W32 x) := (HB.out.cell (p := ⟨b, off + j, none⟩) (Nat.lt_of_lt_of_le hb hB)).trans hc
      have HXX := Lib.hid hx
      have hxb := i32_lt x
      have q24 := d32_24
      have q16 := d32_16
      have q8 := d32_8
      have p8 := c32_8'
      clear hc hv hx
      have hmx : Tryd.prog.follows .mixedOrders = true := by kernel_rfl
      obtain ⟨gw, hgw⟩ : ∃ g, g = wr.heap.size := ⟨_, rfl⟩
      have HGW := Lib.hid hgw
      clear hgw
      have hwsz : w.heap.size ≤ wr.heap.size := HB.out.size
      have HWS := Lib.hid hwsz
      clear hwsz
      go_wp2_with fail
      refine (wpIn_wide (n := 9)).1 (wpIn_region_chain (β := Value) rfl hmx (fun v => [(11, (.slice A' (4 * j) c' : Value)), (12, .slice (some ⟨b, off, none⟩) n c), (13, .int .i64 (j : Int)), (14, .pointer (some ⟨b, off + j, none⟩)), (15, W32 x), (16, W32 (x >>> 24)), (17, W8 ((x >>> 24).setWidth 8)), (18, .slice (some ⟨b, off, none⟩) n c), (19, .int .i64 (j : Int)), (20, .pointer (some ⟨b, off + j, none⟩)), (21, W32 x), (22, W32 (x >>> 16)), (23, W8 ((x >>> 16).setWidth 8)), (24, .slice (some ⟨b, off, none⟩) n c), (25, .int .i64 (j : Int)), (26, .pointer (some ⟨b, off + j, none⟩)), (27, W32 x), (28, W32 (x >>> 8)), (29, W8 ((x >>> 8).setWidth 8)), (30, .slice (some ⟨b, off, none⟩) n c), (31, .int .i64 (j : Int)), (32, .pointer (some ⟨b, off + j, none⟩)), (33, W32 x), (34, W8 (x.setWidth 8)), (35, .slice (some ⟨gw, 0, none⟩) 4 4), (36, v)]) (fun v => [(3, v)]) [11, 12, 13, 14, 15, 16, 17, 18, 19, 20, 21, 22, 23, 24, 25, 26, 27, 28, 29, 30, 31, 32, 33, 34, 35, 36] [3] (fun _ => rfl) (fun _ => rfl) (by kernel_rfl) (by kernel_rfl) (by kernel_rfl) (by kernel_rfl) (by first | rfl | simp) 24 3 rfl (by kernel_rfl) (by kernel_rfl)
        (R72 wr w.heap.size (4 * j + 4) x ((wordsL (ws.take j)).map W8 ++ (byte4 x).map W8)) R72.drew undef ⟨0, rfl⟩ ?ops5 ?tail5 ?end5)
      case ops5 =>
        intro i o k v W hi hk hR ho
        have hcW : W.cell? ⟨b, off + j, none⟩ = some (W32 x) := ((R72.below HWS.out k v W hR).cell (p := ⟨b, off + j, none⟩) (Nat.lt_of_lt_of_le hb hB)).trans hcw
        clear hR hk
        have hi2 : i = 0 ∨ i = 1 ∨ i = 2 ∨ i = 3 ∨ i = 4 ∨ i = 5 ∨ i = 6 ∨ i = 7 ∨ i = 8 ∨ i = 9 ∨ i = 10 ∨ i = 11 ∨ i = 12 ∨ i = 13 ∨ i = 14 ∨ i = 15 ∨ i = 16 ∨ i = 17 ∨ i = 18 ∨ i = 19 ∨ i = 20 ∨ i = 21 ∨ i = 22 ∨ i = 23 := by omega
        rcases hi2 with rfl | rfl | rfl | rfl | rfl | rfl | rfl | rfl | rfl | rfl | rfl | rfl | rfl | rfl | rfl | rfl | rfl | rfl | rfl | rfl | rfl | rfl | rfl | rfl
        all_goals
          have ho' := ho
          simp only [List.getElem?_toArray, List.getElem?_cons_zero, List.getElem?_cons_succ, Option.some.injEq] at ho'
          subst ho'
          refine ⟨(by intro c h; cases h), fun _ _ => trivial, .inl ?_⟩
        all_goals first | (simp [execOp, evP, valP, Act.eval, List.lookup_cons]; done) | (simp [execOp, evP, valP, Act.eval, List.lookup_cons, go_sem, hcW, kj0, kj, q24, q16, q8, w32_8]; done) | skip
      case tail5 =>
        intro k v W o hk hR ho
        have hk2 : k = 0 ∨ k = 1 ∨ k = 2 := by omega
        have ho' := ho
        rcases hk2 with rfl | rfl | rfl
        · simp only [Nat.add_zero, List.getElem?_toArray, List.getElem?_cons_zero, List.getElem?_cons_succ, Option.some.injEq] at ho'
          subst ho'
          obtain ⟨q, rfl⟩ := hR
          refine ⟨(by intro c h; cases h), fun _ _ => trivial, v, (wr.alloc (row4 x)).drewN q, fun _ _ => rfl, ⟨q, rfl⟩, .inr ?_⟩
          simp [execOp, evP, valP, Act.eval, List.lookup_cons, go_sem, byte4, row4]
          exact ⟨HGW.out.symm, rfl⟩
        · simp only [Nat.reduceAdd, List.getElem?_toArray, List.getElem?_cons_zero, List.getElem?_cons_succ, Option.some.injEq] at ho'
          obtain ⟨q, rfl⟩ := hR
          have hrow : RowV 5 ((wr.alloc (row4 x)).drewN q) wr.heap.size ((byte4 x).map W8) := RowV.new _ _ _
          have hown : ((wr.alloc (row4 x)).drewN q).ownsRow w.heap.size 5 1 (.slice A' (4 * j) c') (4 * j) ((wordsL (ws.take j)).map W8) := HO.out.alloc _
          have hgw := HGW.out
          refine ⟨(by intro c h; rw [← ho'] at h; cases h), fun _ _ => trivial, ?_⟩
          generalize hρ : evP _ _ = ρ
          have hs11 : ρ (.tmp 11) = .slice A' (4 * j) c' := by rw [← hρ]; rfl
          have hs35 : ρ (.tmp 35) = .slice (some ⟨gw, 0, none⟩) 4 4 := by rw [← hρ]; rfl
          have hn4 : ∀ (k : Nat) (u : Value), ((byte4 x).map W8)[k]? = some u → ((wr.alloc (row4 x)).drewN q).cell? ((⟨gw, 0, none⟩ : Addr).add k) = some u := by
            intro k u hu
            rw [Addr.add_lit, Nat.zero_add, hgw]
            exact hrow.at_ hu
          obtain ⟨v', W', hrun, hO', hG'⟩ := run_wappend Tryd.elem8 (.tmp 11) (.tmp 35) (o := o) (by rw [← ho']) w.heap.size _ (4 * j) _ hs11 hown ⟨gw, 0, none⟩ 4 4 ((byte4 x).map W8) hs35 rfl hn4 (by intro u hu; simp [byte4] at hu; rcases hu with rfl | rfl | rfl | rfl <;> rfl) (by omega) (by have := HWS.out; simp; omega)
          refine ⟨v', W', ?_, ⟨hO', ?_⟩, .inr hrun⟩
          · intro k hk
            have hk3 : k < 25 := hk
            have hk4 : k = 0 ∨ k = 1 ∨ k = 2 ∨ k = 3 ∨ k = 4 ∨ k = 5 ∨ k = 6 ∨ k = 7 ∨ k = 8 ∨ k = 9 ∨ k = 10 ∨ k = 11 ∨ k = 12 ∨ k = 13 ∨ k = 14 ∨ k = 15 ∨ k = 16 ∨ k = 17 ∨ k = 18 ∨ k = 19 ∨ k = 20 ∨ k = 21 ∨ k = 22 ∨ k = 23 ∨ k = 24 := by omega
            rcases hk4 with rfl | rfl | rfl | rfl | rfl | rfl | rfl | rfl | rfl | rfl | rfl | rfl | rfl | rfl | rfl | rfl | rfl | rfl | rfl | rfl | rfl | rfl | rfl | rfl | rfl <;> rfl
          · exact (below_drewN ((Below.refl _ _).alloc HWS.out _) q).grown hG' (by have := HWS.out; simp; omega) (fun k hk => (hown.lt k hk).1)
        · simp only [Nat.reduceAdd, List.getElem?_toArray, List.getElem?_cons_zero, List.getElem?_cons_succ, Option.some.injEq] at ho'
          subst ho'
          refine ⟨(by intro c h; cases h), fun _ _ => trivial, v, W, fun _ _ => rfl, hR, .inr ?_⟩
          simp [execOp, evP, valP, Act.eval, List.lookup_cons]
      case end5 =>
        intro v W hR
        simp [wrote, valP, Act.put, List.lookup_cons]
        obtain ⟨A2, c2, rfl⟩ := own_form hR.1
        obtain ⟨x', hx', hpre⟩ : ∃ x', x' = x ∧ ws.take (j + 1) = ws.take j ++ [x'] := ⟨x, rfl, by rw [List.take_add_one, HXX.out]; rfl⟩
        subst hx'
        have HR := Lib.hid hR
        clear hR
        go_wp2
        go_round
        case rel =>
          refine ⟨j + 1, c2, A2, hjn, by go_num, rfl, ?_, ?_⟩
          · rw [hpre, wordsL_append, List.map_append]
            have := HR.out.1
            rw [show wordsL [x'] = byte4 x' by simp [wordsL]]
            exact Lib.hid this
          · exact Lib.hid (HB.out.trans HR.out.2)
        case measure => simp [intOf]; omega
    · obtain rfl : j = n := by omega
      have e : ws.take j = ws := by rw [HL.out]; exact List.take_length
      rw [e] at HO
      go_wp2
      go_ret
      exact ⟨_, rfl, HO.out, HB.out⟩
end Go.Proofs.YtnpaidieijlkkaaDoor

/- baileyref3: the tables. -/
set_option linter.unusedVariables false
set_option linter.unusedSimpArgs false
namespace Go.Proofs.YtnpaidieijlkkaaDoor
open Go.RowKit Go.Shelf

def k32L : List (BitVec 32) := (List.range 64).map K32
set_option maxRecDepth 100000 in
set_option maxHeartbeats 2000000 in
theorem k256_any (w : World) : Calls Tryd.prog 113 #[] w fun e w' => e = .returned (.slice (some ⟨w.heap.size, 0, none⟩) 64 64) ∧ RowV 102 w' w.heap.size (k32L.map W32) ∧ Below w.heap.size w w' := by
  go_enter Tryd.func113, Tryd.ntmps113
  go_wp2
  go_ret
  refine ⟨rfl, ?_, (Below.refl _ _).alloc (Nat.le_refl _) _⟩
  unfold RowV
  rw [heap_alloc_new]
  kernel_rfl
set_option maxRecDepth 100000 in
set_option maxHeartbeats 2000000 in
theorem k512_any (w : World) : Calls Tryd.prog 115 #[] w fun e w' => e = .returned (.slice (some ⟨w.heap.size, 0, none⟩) 80 80) ∧ RowV 59 w' w.heap.size (rootsL.map W64) ∧ Below w.heap.size w w' := by
  go_enter Tryd.func115, Tryd.ntmps115
  go_wp2
  go_ret
  refine ⟨rfl, ?_, (Below.refl _ _).alloc (Nat.le_refl _) _⟩
  unfold RowV
  rw [heap_alloc_new]
  kernel_rfl
end Go.Proofs.YtnpaidieijlkkaaDoor
