/- Parts of one proof, joined: Hw, Hx, Str, Hy, Sh, Box, QuietR, WChunks, Hz, Hmgf, Hpn, WHBig. -/
import Derived.Test.YtejhfmjegmccjaaDoorPile4
import Derived.Test.YtejhfmjegmccjaaDoorPile3
import Derived.Laws.IdiomStrings
import Derived.Laws.BytesString
import Derived.Lib.SlBytesConst
import Derived.OpenShut
import Derived.Test.YtejhfmjegmccjaaDoorPile1
import Derived.RangeFuncBox
import Derived.Test.YtejhfmjegmccjaaDoorRows
import Derived.WalkKit
import Derived.Sort.QuietThIn
import Derived.Sort.QuietTacIn

/- hashes: withKey. -/
set_option linter.unusedVariables false
set_option linter.unusedSimpArgs false
namespace Go.Proofs.YtejhfmjegmccjaaDoor
open Go.RowKit Go.Shelf

theorem onlyV_setRow (w : World) (g : Nat) (cs : Array Value) : OnlyV w (w.setRow g cs) g := ⟨rfl, rfl, rfl, by simp [World.setRow], fun k _ hn => setRow_other w g k cs (fun e => hn (by rw [e]))⟩
section
variable {P : Program} {w : World} {ops : Array Oper} {rest : List Oper} {o : Oper} {a : Act} {Q : Exit → Act → World → Prop}
/-- a whole block is written, and no other turns -/
theorem wlv_storeO (hgd : o.guard = none) (ty n : Nat) (hi : (P.info? ty).map (·.size) = some n) (x y : Operand) (ho : o.op = .store ty x y) (g : Nat) (vs' : List Value) (hx : a.eval x = .pointer (some ⟨g, 0, none⟩)) (hy : a.eval y = .agg vs'.toArray) (t : TypeId) (vs : List Value) (hr : RowV t w g vs) (hl : vs.length = n) (hl' : vs'.length = n) (h1 : Ones vs')
    (h : ∀ w', RowV t w' g vs' → OnlyV w w' g → wpList P ops Q rest (a.put o.dst undef) w') : wpList P ops Q (o :: rest) a w := by
  refine wpList_store_row hgd ty x y ho g vs'.toArray hx hy t vs.toArray hr (by rw [hi, ← hl']; simp) (by simp; omega) (by simp; exact fun v hv => h1 v hv) ?_
  exact h _ (setRow_heap w g _ vs'.toArray t _ hr) (onlyV_setRow w g _)
end
set_option maxRecDepth 100000 in
set_option maxHeartbeats 2000000 in
theorem withKey_short (w : World) (k : Int) (hk : KindOk k) (hGS : StartsG w) (hGR : RootsG w) (B : Nat) (A : Option Addr) (n c : Nat) (key : List (BitVec 8)) (hs : SlV w B A n c (key.map W8)) (hz : A = none → c = 0) (hB : B ≤ w.heap.size) (hn : n + 256 ≤ 17592186044416) (hc : key.length ≤ blN k) :
    Calls Tryd.prog 50 #[.int .i64 k, .slice A n c] w fun e w' => ∃ v, e = .returned v ∧ KeyedV w' w.heap.size v k key ∧ Below w.heap.size w w' := by
  have hl : n = key.length := by simpa using hs.len
  obtain ⟨W1, e1, r1, b1, z1⟩ := newV w 76 [.pointer none, .pointer none] #[.pointer none, .pointer none] rfl
  obtain ⟨b4, hb4⟩ : ∃ g, w.heap.size = g := ⟨_, rfl⟩
  rw [hb4] at r1 b1
  have hbk : ∀ w, Calls Tryd.prog 20 #[.int .i64 k] w fun e w' => e = .returned (.int .i64 (blN k : Int)) ∧ w = w' := fun w => by
    have h := block_any w k
    rw [blN_eq hk] at h
    exact h
  obtain ⟨bl, hbl⟩ : ∃ b, blN k = b := ⟨_, rfl⟩
  rw [hbl] at hbk
  have HBL := Lib.hid hbl
  have HBK := Lib.hid hbk
  have HB4 := Lib.hid hb4
  have HR1 := Lib.hid r1
  have HB1 := Lib.hid b1
  have HZ1 := Lib.hid z1
  obtain ⟨WA, hWA⟩ : ∃ W, W1 = W := ⟨_, rfl⟩
  rw [hWA] at e1
  have hBw := HB1.out
  rw [hb4] at hB
  obtain ⟨A1, hA1⟩ : ∃ x, A = x := ⟨_, rfl⟩
  obtain ⟨m1, hm1E⟩ : ∃ x, n = x := ⟨_, rfl⟩
  obtain ⟨c1, hc1⟩ : ∃ x, c = x := ⟨_, rfl⟩
  obtain ⟨K, hK⟩ : ∃ x, key = x := ⟨_, rfl⟩
  subst hA1 hm1E hc1 hK hWA
  have hWA : Below w.heap.size w W1 := by rw [hb4]; exact b1
  have hsA := hs.below (hWA.mono (by rw [hb4]; exact hB))
  have HSA := Lib.hid hsA
  have HGA := Lib.hid (⟨hGS.later hWA, hGR.later hWA⟩ : StartsG W1 ∧ RootsG W1)
  have HWA := Lib.hid hWA
  have HR4 := Lib.hid r1
  have hb4s := r1.lt
  have hBgi' : B ≤ W1.heap.size := by omega
  have hm1 : n ≤ bl := by omega
  have HKEY := Lib.hid (show key0 k key = key by rw [key0, if_neg (by omega)])
  have hcmp : (n : Int) ≤ (bl : Int) := by omega
  clear hs hsA hWA hBw r1 b1 z1 hbk hl hz hn hGS hGR
  go_enter Tryd.func50, Tryd.ntmps50
  go_wp2_with fail
  refine (HBK.out _).mono ?_
  rintro e w' ⟨rfl, rfl⟩

  -- two new hashes
  have hnw1 := new_is W1 k hk HGA.out.1
  obtain ⟨gi, hgi⟩ : ∃ g, W1.heap.size = g := ⟨_, rfl⟩
  rw [hgi] at hnw1
  have hBgi : B ≤ gi := by omega
  have hb4i : b4 < gi := by omega
  have hb4w : w.heap.size = b4 := HB4.out
  have HB4W := Lib.hid hb4w
  clear hb4w
  have HNW1 := Lib.hid hnw1
  have HGI := Lib.hid hgi
  clear hnw1
  go_wp2_with fail
  refine HNW1.out.mono ?_
  rintro e w2 ⟨rfl, hi2, hb2⟩
  have hb2' : Below W1.heap.size W1 w2 := by rw [HGI.out]; exact hb2
  have hG2 : StartsG w2 ∧ RootsG w2 := ⟨HGA.out.1.later hb2', HGA.out.2.later hb2'⟩
  have hnw2 := new_is w2 k hk hG2.1
  obtain ⟨go, hgo⟩ : ∃ g, w2.heap.size = g := ⟨_, rfl⟩
  have hio : gi < go := by have := hi2.lt; omega
  rw [hgo] at hnw2
  have HNW2 := Lib.hid hnw2
  have HGO := Lib.hid hgo
  have HI2 := Lib.hid hi2
  have HB2 := Lib.hid hb2
  have HG2 := Lib.hid hG2
  clear hnw2 hi2 hb2 hb2' hG2 hgi
  go_wp2_with fail
  refine HNW2.out.mono ?_
  rintro e w3 ⟨rfl, hi3, hb3⟩
  obtain ⟨b5, hb5⟩ : ∃ b, w3.heap.size = b := ⟨_, rfl⟩
  obtain ⟨W4, e4, r4, c4, z4⟩ := newV w3 76 [.pointer none, .pointer none] #[.pointer none, .pointer none] rfl
  rw [hb5] at r4 c4
  have h1o : Ones [Value.pointer (some ⟨gi, 0, none⟩), Value.pointer (some ⟨go, 0, none⟩)] := by
    intro v hv
    simp only [List.mem_cons, List.not_mem_nil, or_false] at hv
    rcases hv with rfl | rfl <;> rfl
  have hgo5 : go < b5 := by have := hi3.lt; omega
  have hb3' : Below w2.heap.size w2 w3 := by rw [HGO.out]; exact hb3
  have hb23 : Below gi w2 w3 := hb3.mono (by omega)
  have hbA3 : Below gi W1 w3 := HB2.out.trans hb23
  have hi3' : HashIs w3 gi k [] := HI2.out.later hb3'
  have hG3 : RootsG w3 := HG2.out.2.later hb3'
  have HI3 := Lib.hid hi3
  have HI3' := Lib.hid hi3'
  have HBA3 := Lib.hid hbA3
  have HG3 := Lib.hid hG3
  clear hi3 hb3 hb3' hb23 hbA3 hi3' hG3 hgo
  go_wp2_with (refine wlv_storeO rfl 76 2 Tryd.keyed2 _ _ rfl b5 [.pointer (some ⟨gi, 0, none⟩), .pointer (some ⟨go, 0, none⟩)] rfl rfl _ _ r4 rfl rfl h1o ?_; intro w5 r5 c5)
  have hc5 := c4.trans (c5.below (Nat.le_refl _) (by omega))
  have hc5' : Below w3.heap.size w3 w5 := by rw [hb5]; exact hc5
  have hA5 : Below gi W1 w5 := HBA3.out.trans (hc5.mono (by omega))
  have hi5 := HI3'.out.later hc5'
  have ho5 := HI3.out.later hc5'
  have hG5 := HG3.out.later hc5'
  have hs5 := HSA.out.below (hA5.mono hBgi)
  have hgi1 : 1 < gi := by have := HGA.out.2.1; have := HGI.out; omega
  obtain ⟨hm5, hw5⟩ := keyed_calls w5 gi k hk bl HBL.out _ A n c key hs5 hBgi hm1 0x36 hi5 hG5 hgi1
  have ci5 : w5.cell? ⟨b5, 0, none⟩ = some (.pointer (some ⟨gi, 0, none⟩)) := r5.at_ rfl
  have co5 : w5.cell? ⟨b5, 1, none⟩ = some (.pointer (some ⟨go, 0, none⟩)) := r5.at_ rfl
  have hl5 := r5.lt
  have HM5 := Lib.hid hm5
  have HW5 := Lib.hid hw5
  have HO5 := Lib.hid ho5
  have HG5 := Lib.hid hG5
  have HA5 := Lib.hid hA5
  have HR5 := Lib.hid r5
  have hs54 : (Value.int .u8 54) = W8 0x36 := rfl
  have HS54 := Lib.hid hs54
  clear hm5 hw5 ho5 hG5 hA5 hi5 hs5 hc5 hc5' r5 c5 r4 c4 e4 z4 hb5 h1o hs54
  go_region_held3 (fun w' => w'.cell? ⟨b5, 0, none⟩ = some (.pointer (some ⟨gi, 0, none⟩)) ∧ w'.cell? ⟨b5, 1, none⟩ = some (.pointer (some ⟨go, 0, none⟩))) (go_keep)
    (first | (go_at_call 20; refine (HBK.out _).mono ?_; rintro e w' ⟨rfl, rfl⟩) | (go_at_call 81; refine (HM5.out _ ((Below.refl _ w5).drew)).mono ?_; rintro e w6 ⟨rfl, hr6, hb6⟩; have ci6 := (hb6.cell (p := ⟨b5, 0, none⟩) hl5).trans ci5; have co6 := (hb6.cell (p := ⟨b5, 1, none⟩) hl5).trans co5; have hl6 : b5 < w6.heap.size := Nat.lt_of_lt_of_le hl5 hb6.size) | (go_at_call 25; refine (HW5.out _ _ hb6 hr6).mono ?_; rintro e w7 ⟨rfl, hi7, ho7⟩; have ci7 := (ho7.cell (p := ⟨b5, 0, none⟩) hl5 (by show b5 ≠ gi; omega)).trans ci5; have co7 := (ho7.cell (p := ⟨b5, 1, none⟩) hl5 (by show b5 ≠ gi; omega)).trans co5))
  have hG7 : RootsG w7 := HG5.out.only ho7 hgi1
  have ho7' := HO5.out.only ho7 (by omega)
  have hA7 : Below gi W1 w7 := HA5.out.trans (ho7.below (Nat.le_refl _) (by omega))
  have hs7 := HSA.out.below (hA7.mono hBgi)
  have hl7 : b5 < w7.heap.size := Nat.lt_of_lt_of_le hl5 ho7.size
  obtain ⟨hm7, hw7⟩ := keyed_calls w7 go k hk bl HBL.out _ A n c key hs7 (by omega) hm1 0x5c ho7' hG7 (by omega)
  have HM7 := Lib.hid hm7
  have HW7 := Lib.hid hw7
  have HI7 := Lib.hid hi7
  have HA7 := Lib.hid hA7
  have HR7 := Lib.hid (HR5.out.only ho7 (by omega))
  clear hm7 hw7 ho7' hG7 hA7 hs7 hi7 ho7 hb6 hr6 ci6 co6 hl6
  go_wp2_with fail
  go_region_held3 (fun w' => w'.cell? ⟨b5, 0, none⟩ = some (.pointer (some ⟨gi, 0, none⟩)) ∧ w'.cell? ⟨b5, 1, none⟩ = some (.pointer (some ⟨go, 0, none⟩))) (go_keep)
    (first | (go_at_call 20; refine (HBK.out _).mono ?_; rintro e w' ⟨rfl, rfl⟩) | (go_at_call 81; refine (HM7.out _ ((Below.refl _ w7).drew)).mono ?_; rintro e w8 ⟨rfl, hr8, hb8⟩; have ci8 := (hb8.cell (p := ⟨b5, 0, none⟩) hl7).trans ci7; have co8 := (hb8.cell (p := ⟨b5, 1, none⟩) hl7).trans co7) | (go_at_call 25; refine (HW7.out _ _ hb8 hr8).mono ?_; rintro e w9 ⟨rfl, ho9, hO9⟩; have ci9 := (hO9.cell (p := ⟨b5, 0, none⟩) hl7 (by show b5 ≠ go; omega)).trans ci7; have co9 := (hO9.cell (p := ⟨b5, 1, none⟩) hl7 (by show b5 ≠ go; omega)).trans co7))
  have hi9 := HI7.out.only hO9 (by omega)
  have hA9 : Below gi W1 w9 := HA7.out.trans (hO9.below (by omega) (by omega))
  have hr9 := HR7.out.only hO9 (by omega)
  have hR9 : RowV 76 w9 b4 [.pointer none, .pointer none] := HR4.out.below hA9 hb4i
  have h1o : Ones [Value.pointer (some ⟨gi, 0, none⟩), Value.pointer (some ⟨go, 0, none⟩)] := by
    intro v hv
    simp only [List.mem_cons, List.not_mem_nil, or_false] at hv
    rcases hv with rfl | rfl <;> rfl
  have HI9 := Lib.hid hi9
  have HO9 := Lib.hid ho9
  have HA9 := Lib.hid hA9
  clear hi9 ho9 hA9 hO9 hb8 hr8 ci8 co8 ci7 co7 ci9 co9
  go_wp2_with (first | refine wpList_load_row rfl 76 _ rfl b5 rfl 76 #[.pointer (some ⟨gi, 0, none⟩), .pointer (some ⟨go, 0, none⟩)] (0, 0) _ hr9 Tryd.underlying76 rfl Tryd.keyed2 ?_ | (refine wlv_storeO rfl 76 2 Tryd.keyed2 _ _ rfl b4 [.pointer (some ⟨gi, 0, none⟩), .pointer (some ⟨go, 0, none⟩)] rfl rfl _ _ hR9 rfl rfl h1o ?_; intro w10 r10 c10))
  refine ⟨rfl, _, results_cell_row rfl _ _ b4 76 #[.pointer (some ⟨gi, 0, none⟩), .pointer (some ⟨go, 0, none⟩)] (0, 0) _ rfl r10 Tryd.underlying76 rfl Tryd.keyed2, _, rfl, ?_, ?_⟩
  · refine ⟨gi, go, rfl, ?_, hio, ?_, ?_⟩
    · have := HB4W.out; omega
    · rw [HBL.out, HKEY.out]; exact HI9.out.only c10 (by omega)
    · rw [HBL.out, HKEY.out]; exact HO9.out.only c10 (by omega)
  · exact (HWA.out.trans (HA9.out.mono (by have := HB4W.out; omega))).trans (c10.below (by have := HB4W.out; omega) (by have := HA9.out.size; have := HWA.out.size; omega))
set_option maxRecDepth 100000 in
set_option maxHeartbeats 2000000 in
theorem withKey_long (w : World) (k : Int) (hk : KindOk k) (hGS : StartsG w) (hGR : RootsG w) (B : Nat) (A : Option Addr) (n c : Nat) (key : List (BitVec 8)) (hs : SlV w B A n c (key.map W8)) (hz : A = none → c = 0) (hB : B ≤ w.heap.size) (hn : n + 256 ≤ 17592186044416) (hc : blN k < key.length) :
    Calls Tryd.prog 50 #[.int .i64 k, .slice A n c] w fun e w' => ∃ v, e = .returned v ∧ KeyedV w' w.heap.size v k key ∧ Below w.heap.size w w' := by
  have hl : n = key.length := by simpa using hs.len
  obtain ⟨W1, e1, r1, b1, z1⟩ := newV w 76 [.pointer none, .pointer none] #[.pointer none, .pointer none] rfl
  obtain ⟨b4, hb4⟩ : ∃ g, w.heap.size = g := ⟨_, rfl⟩
  rw [hb4] at r1 b1
  have hbk : ∀ w, Calls Tryd.prog 20 #[.int .i64 k] w fun e w' => e = .returned (.int .i64 (blN k : Int)) ∧ w = w' := fun w => by
    have h := block_any w k
    rw [blN_eq hk] at h
    exact h
  obtain ⟨bl, hbl⟩ : ∃ b, blN k = b := ⟨_, rfl⟩
  rw [hbl] at hbk
  have HBL := Lib.hid hbl
  have HBK := Lib.hid hbk
  have HB4 := Lib.hid hb4
  have HR1 := Lib.hid r1
  have HB1 := Lib.hid b1
  have HZ1 := Lib.hid z1
  obtain ⟨W2, e2, r2, b2, z2⟩ := newV W1 22 [.slice A n c] #[.slice A n c] rfl
  obtain ⟨p2, hp2⟩ : ∃ p, W1.heap.size = p := ⟨_, rfl⟩
  rw [hp2] at r2 b2
  have h01 : Below w.heap.size w W1 := by rw [hb4]; exact b1
  have h02 : Below w.heap.size w W2 := h01.trans (b2.mono (by have := h01.size; omega))
  have hs2 := hs.below (h02.mono hB)
  have hpv : PartsV W2 W2.heap.size (some ⟨p2, 0, none⟩) 1 1 [key] := ⟨[.slice A n c], r2.sl (by simp), rfl, fun i v ps hv hp => by
    cases i with
    | zero => cases hv; cases hp; exact ⟨A, n, c, rfl, hs2.more (by have := h02.size; omega), hz⟩
    | succ i => simp at hv⟩
  have hof := hof_any W2 k hk (hGS.later h02) (hGR.later h02) W2.heap.size _ _ _ _ hpv (Nat.le_refl _) (by decide) (by simp; omega)
  rw [List.flatten_singleton] at hof
  have HOF := Lib.hid hof
  have H02 := Lib.hid h02
  have H12 := Lib.hid (show Below W1.heap.size W1 W2 by rw [hp2]; exact b2)
  have HR1' := Lib.hid r1
  have HGSR := Lib.hid (⟨hGS, hGR⟩ : StartsG w ∧ RootsG w)
  have HKEY := Lib.hid (show key0 k key = sumL k key by rw [key0, if_pos (by omega)])
  have hcmp : (bl : Int) < (n : Int) := by omega
  have hszb := key0_le hk key
  rw [HKEY.out, sumL_length, hbl] at hszb
  have hb4s := r1.lt
  clear hs hs2 hof h01 h02 r1 b1 z1 b2 r2 z2 hbk hl hz hn hGS hGR hpv hbl
  go_enter Tryd.func50, Tryd.ntmps50
  go_wp2_with fail
  refine (HBK.out _).mono ?_
  rintro e w' ⟨rfl, rfl⟩
  go_wp2_with fail
  refine HOF.out.mono ?_
  rintro e wA ⟨bA, rfl, hbA, hrA, hb2A⟩
  have hWA : Below w.heap.size w wA := H02.out.trans (hb2A.mono H02.out.size)
  have hsA := hrA.sl (by rw [List.length_map, sumL_length]; have := (szN_le hk).2.2; omega)
  rw [List.length_map, sumL_length] at hsA
  obtain ⟨sz, hszE⟩ : ∃ s, szN k = s := ⟨_, rfl⟩
  rw [hszE] at hsA hszb
  have HSZE := Lib.hid hszE
  have HSA := Lib.hid hsA
  have HGA := Lib.hid (⟨HGSR.out.1.later hWA, HGSR.out.2.later hWA⟩ : StartsG wA ∧ RootsG wA)
  have HWA := Lib.hid hWA
  have hW1A : Below W1.heap.size W1 wA := H12.out.trans (hb2A.mono H12.out.size)
  have HR4 := Lib.hid (HR1'.out.later hW1A)
  have hb4A : b4 < wA.heap.size := Nat.lt_of_lt_of_le hb4s hW1A.size
  have hBgi' : wA.heap.size ≤ wA.heap.size := Nat.le_refl _
  have hm1 : sz ≤ bl := hszb
  clear hsA hWA hW1A hrA hb2A hbA e2 hp2

  -- two new hashes
  have hnw1 := new_is wA k hk HGA.out.1
  obtain ⟨gi, hgi⟩ : ∃ g, wA.heap.size = g := ⟨_, rfl⟩
  rw [hgi] at hnw1
  have hBgi : wA.heap.size ≤ gi := by omega
  have hb4i : b4 < gi := by omega
  have hb4w : w.heap.size = b4 := HB4.out
  have HB4W := Lib.hid hb4w
  clear hb4w
  have HNW1 := Lib.hid hnw1
  have HGI := Lib.hid hgi
  clear hnw1
  go_wp2_with fail
  refine HNW1.out.mono ?_
  rintro e w2 ⟨rfl, hi2, hb2⟩
  have hb2' : Below wA.heap.size wA w2 := by rw [HGI.out]; exact hb2
  have hG2 : StartsG w2 ∧ RootsG w2 := ⟨HGA.out.1.later hb2', HGA.out.2.later hb2'⟩
  have hnw2 := new_is w2 k hk hG2.1
  obtain ⟨go, hgo⟩ : ∃ g, w2.heap.size = g := ⟨_, rfl⟩
  have hio : gi < go := by have := hi2.lt; omega
  rw [hgo] at hnw2
  have HNW2 := Lib.hid hnw2
  have HGO := Lib.hid hgo
  have HI2 := Lib.hid hi2
  have HB2 := Lib.hid hb2
  have HG2 := Lib.hid hG2
  clear hnw2 hi2 hb2 hb2' hG2 hgi
  go_wp2_with fail
  refine HNW2.out.mono ?_
  rintro e w3 ⟨rfl, hi3, hb3⟩
  obtain ⟨b5, hb5⟩ : ∃ b, w3.heap.size = b := ⟨_, rfl⟩
  obtain ⟨W4, e4, r4, c4, z4⟩ := newV w3 76 [.pointer none, .pointer none] #[.pointer none, .pointer none] rfl
  rw [hb5] at r4 c4
  have h1o : Ones [Value.pointer (some ⟨gi, 0, none⟩), Value.pointer (some ⟨go, 0, none⟩)] := by
    intro v hv
    simp only [List.mem_cons, List.not_mem_nil, or_false] at hv
    rcases hv with rfl | rfl <;> rfl
  have hgo5 : go < b5 := by have := hi3.lt; omega
  have hb3' : Below w2.heap.size w2 w3 := by rw [HGO.out]; exact hb3
  have hb23 : Below gi w2 w3 := hb3.mono (by omega)
  have hbA3 : Below gi wA w3 := HB2.out.trans hb23
  have hi3' : HashIs w3 gi k [] := HI2.out.later hb3'
  have hG3 : RootsG w3 := HG2.out.2.later hb3'
  have HI3 := Lib.hid hi3
  have HI3' := Lib.hid hi3'
  have HBA3 := Lib.hid hbA3
  have HG3 := Lib.hid hG3
  clear hi3 hb3 hb3' hb23 hbA3 hi3' hG3 hgo
  go_wp2_with (refine wlv_storeO rfl 76 2 Tryd.keyed2 _ _ rfl b5 [.pointer (some ⟨gi, 0, none⟩), .pointer (some ⟨go, 0, none⟩)] rfl rfl _ _ r4 rfl rfl h1o ?_; intro w5 r5 c5)
  have hc5 := c4.trans (c5.below (Nat.le_refl _) (by omega))
  have hc5' : Below w3.heap.size w3 w5 := by rw [hb5]; exact hc5
  have hA5 : Below gi wA w5 := HBA3.out.trans (hc5.mono (by omega))
  have hi5 := HI3'.out.later hc5'
  have ho5 := HI3.out.later hc5'
  have hG5 := HG3.out.later hc5'
  have hs5 := HSA.out.below (hA5.mono hBgi)
  have hgi1 : 1 < gi := by have := HGA.out.2.1; have := HGI.out; omega
  obtain ⟨hm5, hw5⟩ := keyed_calls w5 gi k hk bl HBL.out _ (some ⟨bA, 0, none⟩) sz sz (sumL k key) hs5 hBgi hm1 0x36 hi5 hG5 hgi1
  have ci5 : w5.cell? ⟨b5, 0, none⟩ = some (.pointer (some ⟨gi, 0, none⟩)) := r5.at_ rfl
  have co5 : w5.cell? ⟨b5, 1, none⟩ = some (.pointer (some ⟨go, 0, none⟩)) := r5.at_ rfl
  have hl5 := r5.lt
  have HM5 := Lib.hid hm5
  have HW5 := Lib.hid hw5
  have HO5 := Lib.hid ho5
  have HG5 := Lib.hid hG5
  have HA5 := Lib.hid hA5
  have HR5 := Lib.hid r5
  have hs54 : (Value.int .u8 54) = W8 0x36 := rfl
  have HS54 := Lib.hid hs54
  clear hm5 hw5 ho5 hG5 hA5 hi5 hs5 hc5 hc5' r5 c5 r4 c4 e4 z4 hb5 h1o hs54
  go_region_held3 (fun w' => w'.cell? ⟨b5, 0, none⟩ = some (.pointer (some ⟨gi, 0, none⟩)) ∧ w'.cell? ⟨b5, 1, none⟩ = some (.pointer (some ⟨go, 0, none⟩))) (go_keep)
    (first | (go_at_call 20; refine (HBK.out _).mono ?_; rintro e w' ⟨rfl, rfl⟩) | (go_at_call 81; refine (HM5.out _ ((Below.refl _ w5).drew)).mono ?_; rintro e w6 ⟨rfl, hr6, hb6⟩; have ci6 := (hb6.cell (p := ⟨b5, 0, none⟩) hl5).trans ci5; have co6 := (hb6.cell (p := ⟨b5, 1, none⟩) hl5).trans co5; have hl6 : b5 < w6.heap.size := Nat.lt_of_lt_of_le hl5 hb6.size) | (go_at_call 25; refine (HW5.out _ _ hb6 hr6).mono ?_; rintro e w7 ⟨rfl, hi7, ho7⟩; have ci7 := (ho7.cell (p := ⟨b5, 0, none⟩) hl5 (by show b5 ≠ gi; omega)).trans ci5; have co7 := (ho7.cell (p := ⟨b5, 1, none⟩) hl5 (by show b5 ≠ gi; omega)).trans co5))
  have hG7 : RootsG w7 := HG5.out.only ho7 hgi1
  have ho7' := HO5.out.only ho7 (by omega)
  have hA7 : Below gi wA w7 := HA5.out.trans (ho7.below (Nat.le_refl _) (by omega))
  have hs7 := HSA.out.below (hA7.mono hBgi)
  have hl7 : b5 < w7.heap.size := Nat.lt_of_lt_of_le hl5 ho7.size
  obtain ⟨hm7, hw7⟩ := keyed_calls w7 go k hk bl HBL.out _ (some ⟨bA, 0, none⟩) sz sz (sumL k key) hs7 (by omega) hm1 0x5c ho7' hG7 (by omega)
  have HM7 := Lib.hid hm7
  have HW7 := Lib.hid hw7
  have HI7 := Lib.hid hi7
  have HA7 := Lib.hid hA7
  have HR7 := Lib.hid (HR5.out.only ho7 (by omega))
  clear hm7 hw7 ho7' hG7 hA7 hs7 hi7 ho7 hb6 hr6 ci6 co6 hl6
  go_wp2_with fail
  go_region_held3 (fun w' => w'.cell? ⟨b5, 0, none⟩ = some (.pointer (some ⟨gi, 0, none⟩)) ∧ w'.cell? ⟨b5, 1, none⟩ = some (.pointer (some ⟨go, 0, none⟩))) (go_keep)
    (first | (go_at_call 20; refine (HBK.out _).mono ?_; rintro e w' ⟨rfl, rfl⟩) | (go_at_call 81; refine (HM7.out _ ((Below.refl _ w7).drew)).mono ?_; rintro e w8 ⟨rfl, hr8, hb8⟩; have ci8 := (hb8.cell (p := ⟨b5, 0, none⟩) hl7).trans ci7; have co8 := (hb8.cell (p := ⟨b5, 1, none⟩) hl7).trans co7) | (go_at_call 25; refine (HW7.out _ _ hb8 hr8).mono ?_; rintro e w9 ⟨rfl, ho9, hO9⟩; have ci9 := (hO9.cell (p := ⟨b5, 0, none⟩) hl7 (by show b5 ≠ go; omega)).trans ci7; have co9 := (hO9.cell (p := ⟨b5, 1, none⟩) hl7 (by show b5 ≠ go; omega)).trans co7))
  have hi9 := HI7.out.only hO9 (by omega)
  have hA9 : Below gi wA w9 := HA7.out.trans (hO9.below (by omega) (by omega))
  have hr9 := HR7.out.only hO9 (by omega)
  have hR9 : RowV 76 w9 b4 [.pointer none, .pointer none] := HR4.out.below hA9 hb4i
  have h1o : Ones [Value.pointer (some ⟨gi, 0, none⟩), Value.pointer (some ⟨go, 0, none⟩)] := by
    intro v hv
    simp only [List.mem_cons, List.not_mem_nil, or_false] at hv
    rcases hv with rfl | rfl <;> rfl
  have HI9 := Lib.hid hi9
  have HO9 := Lib.hid ho9
  have HA9 := Lib.hid hA9
  clear hi9 ho9 hA9 hO9 hb8 hr8 ci8 co8 ci7 co7 ci9 co9
  go_wp2_with (first | refine wpList_load_row rfl 76 _ rfl b5 rfl 76 #[.pointer (some ⟨gi, 0, none⟩), .pointer (some ⟨go, 0, none⟩)] (0, 0) _ hr9 Tryd.underlying76 rfl Tryd.keyed2 ?_ | (refine wlv_storeO rfl 76 2 Tryd.keyed2 _ _ rfl b4 [.pointer (some ⟨gi, 0, none⟩), .pointer (some ⟨go, 0, none⟩)] rfl rfl _ _ hR9 rfl rfl h1o ?_; intro w10 r10 c10))
  refine ⟨rfl, _, results_cell_row rfl _ _ b4 76 #[.pointer (some ⟨gi, 0, none⟩), .pointer (some ⟨go, 0, none⟩)] (0, 0) _ rfl r10 Tryd.underlying76 rfl Tryd.keyed2, _, rfl, ?_, ?_⟩
  · refine ⟨gi, go, rfl, ?_, hio, ?_, ?_⟩
    · have := HB4W.out; omega
    · rw [HBL.out, HKEY.out]; exact HI9.out.only c10 (by omega)
    · rw [HBL.out, HKEY.out]; exact HO9.out.only c10 (by omega)
  · exact (HWA.out.trans (HA9.out.mono (by have := HB4W.out; omega))).trans (c10.below (by have := HB4W.out; omega) (by have := HA9.out.size; have := HWA.out.size; omega))
theorem withKey_any (w : World) (k : Int) (hk : KindOk k) (hGS : StartsG w) (hGR : RootsG w) (B : Nat) (A : Option Addr) (n c : Nat) (key : List (BitVec 8)) (hs : SlV w B A n c (key.map W8)) (hz : A = none → c = 0) (hB : B ≤ w.heap.size) (hn : n + 256 ≤ 17592186044416) :
    Calls Tryd.prog 50 #[.int .i64 k, .slice A n c] w fun e w' => ∃ v, e = .returned v ∧ KeyedV w' w.heap.size v k key ∧ Below w.heap.size w w' := by
  by_cases h : blN k < key.length
  · exact withKey_long w k hk hGS hGR B A n c key hs hz hB hn h
  · exact withKey_short w k hk hGS hGR B A n c key hs hz hB hn (by omega)
end Go.Proofs.YtejhfmjegmccjaaDoor

/- hashes: the keyed of, HMAC. -/
set_option linter.unusedVariables false
set_option linter.unusedSimpArgs false
namespace Go.Proofs.YtejhfmjegmccjaaDoor
open Go.RowKit Go.Shelf

def innerL (k : Int) (key : List (BitVec 8)) : List (BitVec 8) := maskL (key0 k key) 0x36 (blN k)
def outerL (k : Int) (key : List (BitVec 8)) : List (BitVec 8) := maskL (key0 k key) 0x5c (blN k)
/-- the HMAC of a message, as the program reckons it -/
def hmacL (k : Int) (key msg : List (BitVec 8)) : List (BitVec 8) := sumL k (outerL k key ++ sumL k (innerL k key ++ msg))
theorem innerL_length {k : Int} (h : KindOk k) (key : List (BitVec 8)) : (innerL k key).length = blN k := maskL_length _ _ _ (key0_le h key)
theorem outerL_length {k : Int} (h : KindOk k) (key : List (BitVec 8)) : (outerL k key).length = blN k := maskL_length _ _ _ (key0_le h key)
theorem hmacL_length (k : Int) (key msg : List (BitVec 8)) : (hmacL k key msg).length = szN k := sumL_length _ _

set_option maxRecDepth 100000 in
set_option maxHeartbeats 2000000 in
theorem keyedOf_any (w : World) (k : Int) (hk : KindOk k) (hG : RootsG w) (B0 : Nat) (v : Value) (key : List (BitVec 8)) (hv : KeyedV w B0 v k key) (B : Nat) (A : Option Addr) (n c : Nat) (pss : List (List (BitVec 8))) (hs : PartsV w B A n c pss) (hB : B ≤ w.heap.size) (hn : n ≤ 17592186044416) (hlen : pss.flatten.length + 512 ≤ 17592186044416) :
    Calls Tryd.prog 51 #[v, .slice A n c] w fun e w' => ∃ b, e = .returned (.slice (some ⟨b, 0, none⟩) (szN k) (szN k)) ∧ w.heap.size ≤ b ∧ RowV 5 w' b ((hmacL k key pss.flatten).map W8) ∧ Below w.heap.size w w' := by
  obtain ⟨gi, go, rfl, hBi, hio, hI, hO⟩ := hv
  obtain ⟨W1, e1, r1, b1, z1⟩ := newV w 76 [.pointer (some ⟨gi, 0, none⟩), .pointer (some ⟨go, 0, none⟩)] #[.pointer (some ⟨gi, 0, none⟩), .pointer (some ⟨go, 0, none⟩)] rfl
  obtain ⟨p1, hp1⟩ : ∃ p, w.heap.size = p := ⟨_, rfl⟩
  rw [hp1] at r1 b1
  have h01 : Below w.heap.size w W1 := by rw [hp1]; exact b1
  have hI1 := hI.later h01
  have hO1 := hO.later h01
  have hgo := hO1.lt
  have ci1 : W1.cell? ⟨p1, 0, none⟩ = some (.pointer (some ⟨gi, 0, none⟩)) := r1.at_ rfl
  have co1 : W1.cell? ⟨p1, 1, none⟩ = some (.pointer (some ⟨go, 0, none⟩)) := r1.at_ rfl
  have hl1 := r1.lt
  have hcp1 : ∀ w0, Below W1.heap.size W1 w0 → Calls Tryd.prog 24 #[.pointer (some ⟨gi, 0, none⟩)] w0 fun e w' => e = .returned (.pointer (some ⟨w0.heap.size, 0, none⟩)) ∧ HashIs w' w0.heap.size k (innerL k key) ∧ Below w0.heap.size w0 w' := fun w0 hb => copy_is w0 gi k _ (hI1.later hb)
  have hcp2 : ∀ w0, Below W1.heap.size W1 w0 → Calls Tryd.prog 24 #[.pointer (some ⟨go, 0, none⟩)] w0 fun e w' => e = .returned (.pointer (some ⟨w0.heap.size, 0, none⟩)) ∧ HashIs w' w0.heap.size k (outerL k key) ∧ Below w0.heap.size w0 w' := fun w0 hb => copy_is w0 go k _ (hO1.later hb)
  have HC1 := Lib.hid hcp1
  have HC2 := Lib.hid hcp2
  have HS := Lib.hid hs
  have HG := Lib.hid hG
  have HLEN := Lib.hid hlen
  have HNL := Lib.hid hs.len
  have H01 := Lib.hid h01
  have HP1 := Lib.hid hp1
  have hnI : (n : Int) ≤ 17592186044416 := by omega
  have HIO := Lib.hid (⟨innerL_length hk key, outerL_length hk key, blN_two k, szN_le hk⟩ : (innerL k key).length = blN k ∧ (outerL k key).length = blN k ∧ (blN k = 64 ∨ blN k = 128) ∧ 20 ≤ szN k ∧ szN k ≤ blN k / 16 * 8 ∧ szN k ≤ 64)
  clear hcp1 hcp2 hs hG hlen hn hI hO hI1 hO1 h01 r1 b1 z1
  go_enter Tryd.func51, Tryd.ntmps51
  go_wp2_with fail
  go_region_held3 (fun w' => w'.cell? ⟨p1, 0, none⟩ = some (.pointer (some ⟨gi, 0, none⟩)) ∧ w'.cell? ⟨p1, 1, none⟩ = some (.pointer (some ⟨go, 0, none⟩))) (go_keep)
    (first | (go_at_call_of 24 (Value.pointer (some ⟨gi, 0, none⟩)); refine (HC1.out _ ((Below.refl _ W1).drew)).mono ?_; rintro e w2 ⟨rfl, hi2, hb2⟩; have hb2 : Below W1.heap.size W1 w2 := ⟨hb2.os, hb2.tape, hb2.output, hb2.size, fun i hi => hb2.block i hi⟩; have ci2 := (hb2.cell (p := ⟨p1, 0, none⟩) hl1).trans ci1; have co2 := (hb2.cell (p := ⟨p1, 1, none⟩) hl1).trans co1) | (go_at_call 24; refine (HC2.out _ hb2).mono ?_; rintro e w3 ⟨rfl, ho3, hb3⟩; have hl2 : p1 < w2.heap.size := Nat.lt_of_lt_of_le hl1 hb2.size; have ci3 := (hb3.cell (p := ⟨p1, 0, none⟩) hl2).trans ci2; have co3 := (hb3.cell (p := ⟨p1, 1, none⟩) hl2).trans co2))
  obtain ⟨a, ha⟩ : ∃ a, W1.heap.size = a := ⟨_, rfl⟩
  obtain ⟨z, hz⟩ : ∃ z, w2.heap.size = z := ⟨_, rfl⟩
  have hi2' : HashIs w2 a k (innerL k key) := by rw [← ha]; exact hi2
  rw [hz] at ho3 hb3
  have haz : a < z := by have := hi2'.lt; omega
  have h13 : Below a W1 w3 := by rw [← ha]; exact hb2.trans (by rw [ha]; exact hb3.mono (by omega))
  have h03 : Below w.heap.size w w3 := H01.out.trans (h13.mono (by have := H01.out.size; omega))
  have hi3 := hi2'.later (show Below w2.heap.size w2 w3 by rw [hz]; exact hb3)
  have ha1 : 1 < a := by have := HG.out.1; have := H01.out.size; omega
  have hwa : w.heap.size ≤ a := by have := H01.out.size; omega
  have HI3 := Lib.hid hi3
  have HO3 := Lib.hid ho3
  have H03 := Lib.hid h03
  have hz3 : z < w3.heap.size := ho3.lt
  clear hi2 hi2' hi3 ho3 h03 h13 hb2 hb3 ci3 co3 ci2 co2 ci1 co1 hl2
  rw [ha, hz]
  clear ha hz
  go_wp2
  go_loopw [17] (fun i wr => ∃ j : Nat, j ≤ n ∧ i = .int .i64 (j : Int) ∧ Hid (HashIs wr a k (innerL k key ++ (pss.take j).flatten)) ∧ Hid (OnlyV w3 wr a)) (fun i _ => n - (intOf i).toNat)
  case atStart => exact ⟨0, by omega, rfl, Lib.hid (by simpa using HI3.out), Lib.hid (OnlyV.refl _ _)⟩
  case round =>
    obtain ⟨j, hj, rfl, hh, ho⟩ := hrel
    have hbw : Below w.heap.size w wr := H03.out.trans (ho.out.below hwa H03.out.size)
    have HGR := Lib.hid (HG.out.later hbw)
    have HBW := Lib.hid hbw
    have hzr : z < wr.heap.size := Nat.lt_of_lt_of_le hz3 ho.out.size
    clear hbw
    by_cases hjn : j = n
    · subst hjn
      have hio := HIO.out
      have hll := HLEN.out
      have hsm := sum_any wr a k hk (innerL k key ++ pss.flatten) (by have := hh.out; rwa [List.take_of_length_le (Nat.le_of_eq HNL.out.symm)] at this) HGR.out (by rw [List.length_append]; omega)
      have HSM := Lib.hid hsm
      clear hsm hio hll
      go_wp2_with fail
      refine HSM.out.mono ?_
      rintro e w4 ⟨b, rfl, hbb, hrow, hb4⟩
      have hio := HIO.out
      have hsl := hrow.sl (by rw [List.length_map, sumL_length]; omega)
      rw [List.length_map, sumL_length] at hsl
      have hz4 := HO3.out.only ho.out (by omega)
      have hG4 := HGR.out.later hb4
      have hwr4 := write_any w4 z k hk (outerL k key) (sumL k (innerL k key ++ pss.flatten)) (hz4.later hb4) w4.heap.size _ _ _ hsl (by intro h; cases h) (Nat.le_refl _) hG4 (by omega) (by rw [sumL_length]; omega)
      have HW4 := Lib.hid hwr4
      have HB4 := Lib.hid hb4
      have HG4 := Lib.hid hG4
      clear hio hsl hz4 hG4 hwr4 hb4 hrow hbb
      go_wp2_with fail
      refine HW4.out.mono ?_
      rintro e w5 ⟨rfl, hh5, ho5⟩
      have hio := HIO.out
      have hG5 := HG4.out.only ho5 (by omega)
      have hsm5 := sum_any w5 z k hk _ hh5 hG5 (by rw [List.length_append, sumL_length]; omega)
      have HSM5 := Lib.hid hsm5
      have HB5 := Lib.hid (HBW.out.trans ((HB4.out.mono HBW.out.size).trans (ho5.below (by omega) (by have := HBW.out.size; have := HB4.out.size; omega))))
      clear hsm5 hG5 hh5 ho5 hio
      go_wp2_with fail
      refine HSM5.out.mono ?_
      rintro e w6 ⟨b', rfl, hbb', hrow', hb6⟩
      have HROW := Lib.hid hrow'
      have HB6 := Lib.hid hb6
      clear hrow' hb6
      go_wp2
      go_ret
      have hz5 := HB5.out.size
      exact ⟨b', rfl, by omega, HROW.out, HB5.out.trans (HB6.out.mono hz5)⟩
    · have hji : (j : Int) < n := by omega
      obtain ⟨b, off, ps, Ai, ni, ci, rfl, hbB, hps, hcl, hsi, hzi⟩ := ((HS.out.below (HBW.out.mono hB)).at_ (i := j) (by omega))
      have hfl : innerL k key ++ (pss.take (j + 1)).flatten = (innerL k key ++ (pss.take j).flatten) ++ ps := by rw [List.take_add_one, hps, List.flatten_append]; simp
      have hle : ((pss.take (j + 1)).flatten).length ≤ pss.flatten.length := by
        have h := congrArg (fun l => (List.flatten l).length) (List.take_append_drop (j + 1) pss)
        simp only [List.flatten_append, List.length_append] at h
        omega
      have hlf := congrArg List.length hfl
      rw [List.length_append, List.length_append (bs := ps)] at hlf
      have hwr := write_any wr a k hk _ ps hh.out B Ai ni ci hsi hzi (by have := HBW.out.size; omega) HGR.out ha1 (by have := HLEN.out; have := HIO.out; omega)
      rw [← hfl] at hwr
      have HWR := Lib.hid hwr
      clear hwr hsi hzi hps hfl hle hlf
      go_wp2_with fail
      refine HWR.out.mono ?_
      rintro e w4 ⟨rfl, hh4, ho4⟩
      have HH4 := Lib.hid hh4
      have HO4 := Lib.hid (ho.out.trans ho4)
      clear hh4 ho4
      go_wp2
      go_roundw
      case rel => exact ⟨j + 1, by omega, by go_num, HH4, HO4⟩
      case measure => simp [intOf]; omega
set_option maxRecDepth 100000 in
set_option maxHeartbeats 1000000 in
theorem hmac_any (w : World) (k : Int) (hk : KindOk k) (hGS : StartsG w) (hGR : RootsG w) (B : Nat) (A : Option Addr) (n c : Nat) (key : List (BitVec 8)) (hs : SlV w B A n c (key.map W8)) (hz : A = none → c = 0) (hB : B ≤ w.heap.size) (hn : n + 256 ≤ 17592186044416)
    (A2 : Option Addr) (n2 c2 : Nat) (pss : List (List (BitVec 8))) (hp : PartsV w B A2 n2 c2 pss) (hn2 : n2 ≤ 17592186044416) (hlen : pss.flatten.length + 512 ≤ 17592186044416) :
    Calls Tryd.prog 26 #[.int .i64 k, .slice A n c, .slice A2 n2 c2] w fun e w' => ∃ b, e = .returned (.slice (some ⟨b, 0, none⟩) (szN k) (szN k)) ∧ w.heap.size ≤ b ∧ RowV 5 w' b ((hmacL k key pss.flatten).map W8) ∧ Below w.heap.size w w' := by
  have hv := valid_yes w k hk
  have hw := withKey_any w k hk hGS hGR B A n c key hs hz hB hn
  have HV := Lib.hid hv
  have HW := Lib.hid hw
  have HP := Lib.hid hp
  have HG := Lib.hid hGR
  clear hv hw hs hp hGS hGR
  go_enter Tryd.func26, Tryd.ntmps26
  go_wp2_with fail
  refine HV.out.mono ?_
  rintro e w' ⟨rfl, rfl⟩
  go_wp2_with fail
  refine HW.out.mono ?_
  rintro e w1 ⟨v, rfl, hkv, hb1⟩
  have hof := keyedOf_any w1 k hk (HG.out.later hb1) _ v key hkv B A2 n2 c2 pss (HP.out.below (hb1.mono hB)) (Nat.le_trans hB hb1.size) hn2 hlen
  have HOF := Lib.hid hof
  have HB1 := Lib.hid hb1
  clear hof hb1 hkv
  go_wp2_with fail
  refine HOF.out.mono ?_
  rintro e w2 ⟨b, rfl, hbb, hrow, hb2⟩
  have HROW := Lib.hid hrow
  have HB2 := Lib.hid hb2
  clear hrow hb2
  go_wp2
  go_ret
  have hz1 := HB1.out.size
  exact ⟨b, rfl, by omega, HROW.out, HB1.out.trans (HB2.out.mono hz1)⟩
theorem hmac_no (w : World) (k : Int) (hk : ¬ KindOk k) (v1 v2 : Value) :
    Calls Tryd.prog 26 #[.int .i64 k, v1, v2] w fun e w' => e = .returned (.slice none 0 0) ∧ w = w' := by
  have hv := valid_no w k hk
  have HV := Lib.hid hv
  clear hv
  go_enter Tryd.func26, Tryd.ntmps26
  go_wp2_with fail
  refine HV.out.mono ?_
  rintro e w' ⟨rfl, rfl⟩
  go_wp2
  go_ret
  exact ⟨rfl, rfl⟩
end Go.Proofs.YtejhfmjegmccjaaDoor

/- Strings of bytes: the conversion of a slice that reads known bytes, and the comparison of two. -/
set_option linter.unusedVariables false
set_option linter.unusedSimpArgs false
namespace Go.Proofs.YtejhfmjegmccjaaDoor
open Go.RowKit Go.Shelf

def b8u (x : BitVec 8) : UInt8 := UInt8.ofBitVec x
theorem b8u_inj {x y : BitVec 8} (h : b8u x = b8u y) : x = y := by
  have := congrArg UInt8.toBitVec h
  simpa [b8u] using this
/-- the string of these bytes -/
def strB (bs : List (BitVec 8)) : ByteArray := ⟨(bs.map b8u).toArray⟩
def strV (bs : List (BitVec 8)) : Value := .string (strB bs)
theorem strB_toList (bs : List (BitVec 8)) : (strB bs).toList = bs.map b8u := by rw [strB, ByteArray.toList_mk]
theorem map_b8u_inj : ∀ (a b : List (BitVec 8)), (a.map b8u == b.map b8u) = decide (a = b)
  | [], [] => rfl
  | [], _ :: _ => rfl
  | _ :: _, [] => rfl
  | x :: a, y :: b => by
    simp only [List.map_cons, List.cons_beq_cons, map_b8u_inj a b]
    by_cases h : x = y
    · subst h; simp
    · have : (b8u x == b8u y) = false := by
        rw [beq_eq_false_iff_ne]
        exact fun e => h (b8u_inj e)
      simp [this, h]
theorem eql_str {P : Program} (w : World) (t : TypeId) (a b : List (BitVec 8)) : (binOp .eql t (strV a) (strV b)).run P w = .ok (.bool (decide (a = b))) w := by
  unfold strV
  rw [binOp_string_eql, strB_toList, strB_toList, map_b8u_inj]
  simp [Sem.run_pure]
theorem neq_str {P : Program} (w : World) (t : TypeId) (a b : List (BitVec 8)) : (binOp .neq t (strV a) (strV b)).run P w = .ok (.bool (!decide (a = b))) w := by
  unfold strV
  rw [binOp_string_neq, strB_toList, strB_toList, map_b8u_inj]
  simp [Sem.run_pure]
theorem eqGuard_str {P : Program} (w : World) (op : BinOp) (t : TypeId) (x y : Operand) (a b : List (BitVec 8)) : (eqGuard op t x y (strV a) (strV b)).run P w = .ok () w := by
  unfold strV
  cases op <;> simp [eqGuard, go_sem]
theorem eqGuard_strc {P : Program} (w : World) (op : BinOp) (t : TypeId) (x y : Operand) (a : List (BitVec 8)) (s : ByteArray) : (eqGuard op t x y (strV a) (.string s)).run P w = .ok () w := by
  unfold strV
  cases op <;> simp [eqGuard, go_sem]
/-- 'string(s)' -/
theorem conv_str {w : World} {B n c : Nat} {A : Option Addr} {bs : List (BitVec 8)} (h : SlV w B A n c (bs.map W8)) : (convert 22 9 (.slice A n c)).run Tryd.prog w = .ok (strV bs) w := by
  have hl : n = bs.length := by simpa using h.len
  cases A with
  | none =>
    have : bs = [] := by
      apply Classical.byContradiction
      intro hn
      obtain ⟨b, off, e, _⟩ := h.2.2.2 (by simpa using hn)
      cases e
    subst this
    subst hl
    rw [run_convert_bytes_string w _ _ 5 none _ c Tryd.underlying22 Tryd.underlying5 Tryd.underlying9]
    rfl
  | some ad =>
    have hb := run_convert_bytes_back (P := Tryd.prog) w 22 9 5 ad c (bs.map b8u) Tryd.underlying22 Tryd.underlying5 Tryd.underlying9 (fun j hj => by
      rw [List.length_map] at hj
      obtain ⟨b, off, e, _, hc⟩ := h.2.2.2 (by intro e; rw [List.map_eq_nil_iff] at e; subst e; simp at hj)
      injection e with e
      subst e
      rw [Addr.add_lit, hc j (W8 bs[j]) (by rw [List.getElem?_map, List.getElem?_eq_getElem hj]; rfl)]
      simp [W8, i8, b8u])
    rw [List.length_map, ← hl] at hb
    exact hb
/-- an operation that the region's walk is not to try ahead of its turn -/
def shutOp (o : Oper) : Oper := o
theorem shut_conv (d : Option Tmp) (s t : TypeId) (x : Operand) (e : _) (f : _) (g : _) (h : _) : (⟨d, .convert s t x, e, f, g, h⟩ : Oper) = shutOp ⟨d, .convert s t x, e, f, g, h⟩ := rfl
end Go.Proofs.YtejhfmjegmccjaaDoor

/- baileylaw3: begun, its numbers. -/
set_option linter.unusedVariables false
set_option linter.unusedSimpArgs false
namespace Go.Proofs.YtejhfmjegmccjaaDoor
open Go.RowKit Go.Shelf
attribute [local go_sem] shutOp

def abcL : List (BitVec 8) := [0x61, 0x62, 0x63]
set_option maxRecDepth 100000 in
theorem sha_abc : (sumL 3 abcL).take 4 = [0xba, 0x78, 0x16, 0xbf] := by decide +kernel
/-- the bytes of a constant -/
theorem constSl (w : World) (l : List (BitVec 8)) (hl : l.length ≤ 9223372036854775807) (a b : Nat) : SlV (w.alloc (.cells (l.map W8).toArray 5 (a, b))) (w.heap.size + 1) (some ⟨w.heap.size, 0, none⟩) l.length l.length (l.map W8) :=
  ⟨by rw [List.length_map], Nat.le_refl _, hl, fun _ => ⟨w.heap.size, 0, rfl, by omega, fun k v hv => by
    rw [Nat.zero_add, World.cell?_alloc_mark]
    simpa using hv⟩⟩
theorem newFrozen (w : World) (C : Array Value) (a b : Nat) : ∃ W, w.alloc (.cells C 5 (a, b)) = W ∧ Below w.heap.size w W ∧ W.heap.size = w.heap.size + 1 := ⟨_, rfl, (Below.refl _ w).alloc (Nat.le_refl _) _, by simp⟩
theorem convConst (w : World) (C : Array Value) (n c : Nat) : (convert 22 22 (.slice (some ⟨w.heap.size, 0, none⟩) n c)).run Tryd.prog (w.alloc (.cells C 5)) = .ok (.slice (some ⟨w.heap.size, 0, none⟩) n c) (w.alloc (.cells C 5 (C.size, C.size + 1))) := Lib.run_convert_bytes_const w 22 5 C n c Tryd.underlying22 Tryd.underlying5
theorem ofConst (w : World) (hGS : StartsG w) (hGR : RootsG w) :
    Calls Tryd.prog 16 #[.int .i64 3, .slice (some ⟨w.heap.size + 1, 0, none⟩) 1 1] ((w.alloc (.cells #[.int .u8 97, .int .u8 98, .int .u8 99] 5 (3, 4))).alloc (.cells #[.slice (some ⟨w.heap.size, 0, none⟩) 3 3] 22)) fun e w' => ∃ b, e = .returned (.slice (some ⟨b, 0, none⟩) 32 32) ∧ (convert 22 9 (.slice (some ⟨b, 0, none⟩) 32 32)).run Tryd.prog w' = .ok (strV (sumL 3 abcL)) w' ∧ Below w.heap.size w w' := by
  have hk3 : KindOk 3 := by unfold KindOk; omega
  obtain ⟨W1, e1, b1, z1⟩ := newFrozen w #[.int .u8 97, .int .u8 98, .int .u8 99] 3 4
  have hs1 : SlV W1 (w.heap.size + 1) (some ⟨w.heap.size, 0, none⟩) 3 3 (abcL.map W8) := by rw [← e1]; exact constSl w abcL (by decide) 3 4
  obtain ⟨W2, e2, r2, b2, z2⟩ := newV W1 22 [.slice (some ⟨w.heap.size, 0, none⟩) 3 3] #[.slice (some ⟨w.heap.size, 0, none⟩) 3 3] rfl
  rw [e1, e2]
  have h12 : Below w.heap.size w W2 := b1.trans (b2.mono (by omega))
  have hpv : PartsV W2 W2.heap.size (some ⟨W1.heap.size, 0, none⟩) 1 1 [abcL] := ⟨[.slice (some ⟨w.heap.size, 0, none⟩) 3 3], r2.sl (by simp), rfl, fun i v ps hv hp => by
    cases i with
    | zero => cases hv; cases hp; exact ⟨_, 3, 3, rfl, (hs1.below (b2.mono (by omega))).more (by omega), by intro h; cases h⟩
    | succ i => simp at hv⟩
  have hof := hof_any W2 3 hk3 (hGS.later h12) (hGR.later h12) W2.heap.size _ _ _ _ hpv (Nat.le_refl _) (by decide) (by decide)
  rw [List.flatten_singleton, z1] at hof
  refine hof.mono ?_
  rintro e w3 ⟨b, rfl, hbb, hrow, hb3⟩
  have hDl : (sumL 3 abcL).length = 32 := by rw [sumL_length]; rfl
  have hsl := hrow.sl (by rw [List.length_map, hDl]; decide)
  rw [List.length_map, hDl] at hsl
  exact ⟨b, rfl, conv_str hsl, h12.trans (hb3.mono h12.size)⟩
theorem convConstD (w : World) (C : Array Value) (n c : Nat) : (convert 22 22 (.slice (some ⟨w.heap.size, 0, none⟩) n c)).run Tryd.prog (w.alloc (.cells C 5)).drew = .ok (.slice (some ⟨w.heap.size, 0, none⟩) n c) (w.alloc (.cells C 5 (C.size, C.size + 1))).drew := convConst w.drew C n c
theorem ofConstD (w : World) (hGS : StartsG w) (hGR : RootsG w) :
    Calls Tryd.prog 16 #[.int .i64 3, .slice (some ⟨w.heap.size + 1, 0, none⟩) 1 1] ((w.alloc (.cells #[.int .u8 97, .int .u8 98, .int .u8 99] 5 (3, 4))).alloc (.cells #[.slice (some ⟨w.heap.size, 0, none⟩) 3 3] 22)).drew fun e w' => ∃ b, e = .returned (.slice (some ⟨b, 0, none⟩) 32 32) ∧ (convert 22 9 (.slice (some ⟨b, 0, none⟩) 32 32)).run Tryd.prog w' = .ok (strV (sumL 3 abcL)) w' ∧ Below w.heap.size w w' := by
  refine (ofConst w.drew (hGS.later (Below.refl _ w).drew) (hGR.later (Below.refl _ w).drew)).mono ?_
  rintro e w' ⟨b, he, hc, hb⟩
  exact ⟨b, he, hc, ⟨hb.os, hb.tape, hb.output, hb.size, fun i hi => hb.block i hi⟩⟩
theorem hmacNil (w : World) (hGS : StartsG w) (hGR : RootsG w) :
    Calls Tryd.prog 26 #[.int .i64 3, .slice none 0 0, .slice none 0 0] w fun e w' => ∃ b, e = .returned (.slice (some ⟨b, 0, none⟩) 32 32) ∧ Below w.heap.size w w' := by
  have hk3 : KindOk 3 := by unfold KindOk; omega
  refine (hmac_any w 3 hk3 hGS hGR w.heap.size none 0 0 [] (SlV.nil _ _ _ (by decide)) (fun _ => rfl) (Nat.le_refl _) (by decide) none 0 0 [] (PartsV.nil _ _ _ (by decide)) (by decide) (by decide)).mono ?_
  rintro e w' ⟨b, rfl, _, _, hb⟩
  exact ⟨b, rfl, hb⟩
set_option maxRecDepth 100000 in
set_option maxHeartbeats 2000000 in
theorem begun3_any (w : World) (hGS : StartsG w) (hGR : RootsG w) :
    Calls Tryd.prog 14 #[] w fun e w' => e = .returned (.bool true) ∧ Below w.heap.size w w' := by
  have hk3 : KindOk 3 := by unfold KindOk; omega
  have hnw := new_is w 3 hk3 hGS
  obtain ⟨g, hg⟩ : ∃ g, w.heap.size = g := ⟨_, rfl⟩
  rw [hg] at hnw
  have hg1 : 1 < g := by have := hGR.1; omega
  have HNW := Lib.hid hnw
  have HGS := Lib.hid hGS
  have HGR := Lib.hid hGR
  have HG := Lib.hid hg
  have HK := Lib.hid hk3
  clear hnw hGS hGR hk3
  go_enter Tryd.func14, Tryd.ntmps14
  go_wp2_with fail
  refine HNW.out.mono ?_
  rintro e w1 ⟨rfl, hh1, hb1⟩
  have hgl := hh1.lt
  have h01 : Below w.heap.size w w1 := by rw [hg]; exact hb1
  have kc := fun (w : World) (C : Array Value) (n c : Nat) => convConst w C n c
  obtain ⟨W2, e2, b2, z2⟩ := newFrozen w1 #[.int .u8 97] 1 2
  have hs2 : SlV W2 (w1.heap.size + 1) (some ⟨w1.heap.size, 0, none⟩) 1 1 ([0x61].map W8) := by rw [← e2]; exact constSl w1 [0x61] (by decide) 1 2
  have h12 : Below g w1 W2 := b2.mono (by omega)
  have hw2 := write_any W2 g 3 HK.out [] [0x61] (hh1.later b2) _ _ _ _ hs2 (by intro h; cases h) (by omega) ((HGR.out.later h01).later b2) hg1 (by decide)
  have HW2 := Lib.hid hw2
  have H01 := Lib.hid h01
  have HB2 := Lib.hid b2
  clear hw2 h01 h12 b2 hs2 hb1 hh1 z2
  go_wp2_with fail
  refine HW2.out.mono ?_
  rintro e w3 ⟨rfl, hh3, ho3⟩
  have hl3 := hh3.lt
  have hG3 : RootsG w3 := ((HGR.out.later H01.out).later HB2.out).only ho3 hg1
  obtain ⟨W4, e4, b4, z4⟩ := newFrozen w3 #[.int .u8 98, .int .u8 99] 2 3
  have hs4 : SlV W4 (w3.heap.size + 1) (some ⟨w3.heap.size, 0, none⟩) 2 2 ([0x62, 0x63].map W8) := by rw [← e4]; exact constSl w3 [0x62, 0x63] (by decide) 2 3
  have hw4 := write_any W4 g 3 HK.out _ [0x62, 0x63] (hh3.later b4) _ _ _ _ hs4 (by intro h; cases h) (by omega) (hG3.later b4) hg1 (by decide)
  have HW4 := Lib.hid hw4
  have h03 : Below w.heap.size w w3 := H01.out.trans ((HB2.out.mono H01.out.size).trans (ho3.below (by have := HG.out; omega) (by have := H01.out.size; have := HB2.out.size; omega)))
  have H03 := Lib.hid h03
  have HG3 := Lib.hid hG3
  have HB4 := Lib.hid b4
  clear hw4 hG3 b4 hs4 hh3 ho3 h03 z4 hl3
  go_wp2_with fail
  refine HW4.out.mono ?_
  rintro e w5 ⟨rfl, hh5, ho5⟩
  have hG5 : RootsG w5 := (HG3.out.later HB4.out).only ho5 hg1
  have h05 : Below w.heap.size w w5 := H03.out.trans ((HB4.out.mono H03.out.size).trans (ho5.below (by have := HG.out; omega) (by have := H03.out.size; have := HB4.out.size; omega)))
  have hsm := sum_any w5 g 3 HK.out abcL hh5 hG5 (by decide)
  have HSM := Lib.hid hsm
  have H05 := Lib.hid h05
  have HG5 := Lib.hid hG5
  clear hsm h05 hG5 hh5 ho5
  go_wp2_with fail
  refine HSM.out.mono ?_
  rintro e w6 ⟨b, rfl, hbb, hrow, hb6⟩
  have hsz3 : szN 3 = 32 := rfl
  rw [hsz3]
  obtain ⟨D, hD⟩ : ∃ D, sumL 3 abcL = D := ⟨_, rfl⟩
  have hab := sha_abc
  rw [hD] at hrow hab
  have hDl : D.length = 32 := by rw [← hD, sumL_length]; rfl
  have hsl := hrow.sl (by rw [List.length_map, hDl]; decide)
  rw [List.length_map, hDl] at hsl
  have HG6 := Lib.hid (HG5.out.later hb6)
  have HS6 := Lib.hid (HGS.out.later (H05.out.trans (hb6.mono H05.out.size)))
  have H06 := Lib.hid (H05.out.trans (hb6.mono H05.out.size))
  have HSL := Lib.hid hsl
  have HAB := Lib.hid hab
  have HD := Lib.hid hD
  have h1 : ∀ w', Below w6.heap.size w6 w' → (convert 22 9 (.slice (some ⟨b, 0, none⟩) 32 32)).run Tryd.prog w' = .ok (strV D) w' := fun w' hb => conv_str (HSL.out.below hb)
  have h2 : ∀ w', Below w6.heap.size w6 w' → (convert 22 9 (.slice (some ⟨b, 0, none⟩) 4 32)).run Tryd.prog w' = .ok (strV (D.take 4)) w' := fun w' hb => conv_str (by have := (HSL.out.below hb).take (k := 4) (by decide); rwa [← List.map_take] at this)
  have h3 : ∀ w', (binOp .eql 9 (strV (D.take 4)) (.string { data := #[186, 120, 22, 191] })).run Tryd.prog w' = .ok (.bool true) w' := fun w' => by
    rw [HAB.out]
    exact eql_str w' _ [0xba, 0x78, 0x16, 0xbf] [0xba, 0x78, 0x16, 0xbf]
  have h4 : ∀ w', (binOp .eql 9 (strV D) (strV D)).run Tryd.prog w' = .ok (.bool true) w' := fun w' => by
    rw [eql_str w' _ D D, decide_eq_true rfl]
  have q1 := fun (w : World) (t : TypeId) (x y : Operand) (a b : List (BitVec 8)) => eqGuard_str (P := Tryd.prog) w .eql t x y a b
  have q2 := fun (w : World) (t : TypeId) (x y : Operand) (a : List (BitVec 8)) (s : ByteArray) => eqGuard_strc (P := Tryd.prog) w .eql t x y a s
  have H1 := Lib.hid h1
  have H2 := Lib.hid h2
  clear h1 h2 hab hD hDl hsl hb6 hrow
  go_wp2_with fail
  have c32 := H1.out _ (Below.refl _ w6).drew
  have c4 := H2.out _ (Below.refl _ w6).drew
  have hsd : StartsG w6.drew := HS6.out.later (Below.refl _ w6).drew
  have hrd : RootsG w6.drew := HG6.out.later (Below.refl _ w6).drew
  have HOF := Lib.hid (ofConstD w6 HS6.out HG6.out)
  have kd := fun (w : World) (C : Array Value) (n c : Nat) => convConstD w C n c
  have hba : ∀ (o : Obj), Below w6.heap.size w6 (w6.alloc o).drew := fun o => ((Below.refl _ w6).alloc (Nat.le_refl _) _).drew
  have hbb2 : ∀ (o o' : Obj), Below w6.heap.size w6 ((w6.alloc o).alloc o').drew := fun o o' => (((Below.refl _ w6).alloc (Nat.le_refl _) _).alloc (by simp) _).drew
  have HD' := Lib.hid HD.out
  clear hsd hrd
  rw [shut_conv (some 27), shut_conv (some 30)]
  go_region_held3 (fun w' => (convert 22 9 (.slice (some ⟨b, 0, none⟩) 32 32)).run Tryd.prog w' = .ok (strV D) w' ∧ (convert 22 9 (.slice (some ⟨b, 0, none⟩) 4 32)).run Tryd.prog w' = .ok (strV (D.take 4)) w') (first | exact ⟨c32, c4⟩ | exact ⟨H1.out _ (by first | assumption | exact hba _ | exact hbb2 _ _), H2.out _ (by first | assumption | exact hba _ | exact hbb2 _ _)⟩)
    (first | (go_at_call 16; refine HOF.out.mono ?_; rintro e w7 ⟨b7, rfl, hcv7, hb7⟩; have hb7 : Below w6.heap.size w6 w7 := ⟨hb7.os, hb7.tape, hb7.output, hb7.size, fun i hi => hb7.block i hi⟩; rw [HD.out] at hcv7) | (go_at_call 18; refine (size_any _ 1).mono ?_; rintro e w' ⟨rfl, rfl⟩) | (go_at_call 26; refine (hmacNil _ (HS6.out.later hb7) (HG6.out.later hb7)).mono ?_; rintro e w8 ⟨b8, rfl, hb8⟩; have hb68 : Below w6.heap.size w6 w8 := hb7.trans (hb8.mono hb7.size)))
  have HB68 := Lib.hid hb68
  clear hb68 hb7 hb8 hcv7 c32 c4
  go_wp2
  go_ret
  exact ⟨rfl, H06.out.trans (HB68.out.mono H06.out.size)⟩
end Go.Proofs.YtejhfmjegmccjaaDoor

/- baileylaw3: Short; and from a row of bytes that came in to a slice that reads bytes. -/
set_option linter.unusedVariables false
set_option linter.unusedSimpArgs false
namespace Go.Proofs.YtejhfmjegmccjaaDoor
open Go.RowKit Go.Shelf

theorem short_any (w : World) (B : Nat) (A : Option Addr) (n c : Nat) (bs : List (BitVec 8)) (hs : SlV w B A n c (bs.map W8)) (m : Nat) (hm : m ≤ 1000000) :
    Calls Tryd.prog 15 #[.slice A n c, .int .i64 (m : Int)] w fun e w' => e = .returned (.slice A (min n m) c) ∧ w = w' := by
  have h1 := hs.cap
  have h2 := hs.max
  have hmI : (m : Int) ≤ 1000000 := by omega
  have hm0 : (0 : Int) ≤ m := by omega
  have hnI : (n : Int) ≤ 9223372036854775807 := by omega
  by_cases h : m < n
  · obtain ⟨b, off, v, rfl, _, _, _⟩ := hs.at_ (k := 0) (by omega)
    have hI : (m : Int) < n := by omega
    have hmc : (m : Int) ≤ c := by omega
    have hmn : min n m = m := by omega
    have HMN := Lib.hid hmn
    clear hs h hmn
    go_enter Tryd.func15, Tryd.ntmps15
    go_wp2
    go_ret
    rw [HMN.out]
    exact ⟨rfl, rfl⟩
  · have hI : (n : Int) ≤ m := by omega
    have hmn : min n m = n := by omega
    have HMN := Lib.hid hmn
    clear hs h hmn
    go_enter Tryd.func15, Tryd.ntmps15
    go_wp2
    go_ret
    rw [HMN.out]
    exact ⟨rfl, rfl⟩

/-- a byte off a number -/
def toB (z : Int) : BitVec 8 := BitVec.ofInt 8 z
theorem W8_toB {z : Int} (h : (Lit.int .u8 z).wf = true) : W8 (toB z) = .int .u8 z := by
  have hb := bounds_u8 h
  have : ((BitVec.ofInt 8 z).toNat : Int) = z := by
    rw [BitVec.toNat_ofInt]
    omega
  show Value.int .u8 ((BitVec.ofInt 8 z).toNat : Int) = _
  rw [this]
theorem slV_of_row {w : World} {a : Option Addr} {len cap : Nat} {zs : List Int}
    (h : (a = none ∧ len = 0 ∧ cap = 0 ∧ zs = []) ∨ ∃ x, a = some x ∧ len ≤ cap ∧ cap ≤ maxLen ∧ zs.length = cap ∧ (∀ i, i < zs.length → w.cell? (x.add i) = some (.int .u8 (zs.getD i 0))) ∧ ∀ n ∈ zs, (Lit.int .u8 n).wf = true) :
    ∃ bs : List (BitVec 8), SlV w w.heap.size a len cap (bs.map W8) ∧ (a = none → cap = 0) := by
  rcases h with ⟨rfl, rfl, rfl, rfl⟩ | ⟨x, rfl, hl, hm, hz, hc, hwf⟩
  · exact ⟨[], SlV.nil _ _ _ (by decide), fun _ => rfl⟩
  · refine ⟨(zs.take len).map toB, ⟨by simp; omega, hl, by simpa [maxLen] using hm, fun hne => ?_⟩, fun h => by cases h⟩
    have hlen : 0 < len := by
      rcases Nat.eq_zero_or_pos len with h | h
      · subst h; simp at hne
      · exact h
    obtain ⟨b, off, spot⟩ := x
    have h0 := hc 0 (by omega)
    have hsp : spot = none := by simpa [Addr.add] using World.cell?_spot h0
    subst hsp
    refine ⟨b, off, rfl, World.block_lt_of_cell? w _ (by simpa [Addr.add] using h0), fun k v hv => ?_⟩
    rw [List.map_map, List.getElem?_map, Option.map_eq_some_iff] at hv
    obtain ⟨z, hzk, rfl⟩ := hv
    rw [List.getElem?_take] at hzk
    split at hzk
    · rename_i hkl
      have h1 := hc k (by omega)
      rw [Addr.add_lit] at h1
      rw [h1, List.getD_eq_getElem?_getD, hzk]
      show some (Value.int .u8 z) = some (W8 (toB z))
      rw [W8_toB (hwf z (List.mem_of_getElem? hzk))]
    · cases hzk
end Go.Proofs.YtejhfmjegmccjaaDoor

/- Boxes: variables that live in a block of their own. -/
set_option linter.unusedVariables false
set_option linter.unusedSimpArgs false
namespace Go.Proofs.YtejhfmjegmccjaaDoor
open Go.RowKit

theorem newboxE (w : World) (t : TypeId) (v : Value) : ∃ W, w.alloc (.cells #[v] t) = W ∧ Below w.heap.size w W ∧ W.cell? ⟨w.heap.size, 0, none⟩ = some v ∧ W.frozen? ⟨w.heap.size, 0, none⟩ = false ∧ W.heap.size = w.heap.size + 1 :=
  ⟨_, rfl, (Below.refl _ _).alloc (Nat.le_refl _) _, (Boxed.new w t v).cell, (Boxed.new w t v).frozen, by simp⟩
/-- a box below the heap's end holds v -/
def BxE (b : Nat) (v : Value) (W : World) : Prop := W.cell? ⟨b, 0, none⟩ = some v ∧ W.frozen? ⟨b, 0, none⟩ = false ∧ b < W.heap.size
theorem BxE.later {b : Nat} {v : Value} {W W' : World} (h : BxE b v W) (hb : Below W.heap.size W W') : BxE b v W' :=
  ⟨(hb.cell (p := ⟨b, 0, none⟩) h.2.2).trans h.1, (hb.frozen (p := ⟨b, 0, none⟩) h.2.2).trans h.2.1, Nat.lt_of_lt_of_le h.2.2 hb.size⟩

theorem newBox (w : World) (t : TypeId) (v : Value) : ∃ W, w.alloc (.cells #[v] t) = W ∧ Below w.heap.size w W ∧ BxE w.heap.size v W ∧ W.heap.size = w.heap.size + 1 := by
  obtain ⟨W, e, h, h1, h2, h3⟩ := newboxE w t v
  exact ⟨W, e, h, ⟨h1, h2, by omega⟩, h3⟩
theorem below_drewR (B : Nat) (w : World) (n : Nat) : Below B w (w.drewN n) := ⟨rfl, rfl, rfl, Nat.le_refl _, fun _ _ => rfl⟩
theorem below_box {B : Nat} {a w : World} (h : Below B a w) {b : Nat} (hb : B ≤ b) (u : Value) : Below B a (w.setCell ⟨b, 0, none⟩ u) := h.setCell (p := ⟨b, 0, none⟩) hb u
theorem BxE.set {b : Nat} {v : Value} {W : World} (h : BxE b v W) (u : Value) : BxE b u (W.setCell ⟨b, 0, none⟩ u) :=
  ⟨World.cell?_setCell_same' _ _ _ (by rw [h.1]; rfl), by rw [World.frozen?_setCell]; exact h.2.1, by have := h.2.2; simpa [World.setCell] using this⟩
theorem BxE.far {b b' : Nat} {v : Value} {W : World} (h : BxE b v W) (hn : b' ≠ b) (u : Value) : BxE b v (W.setCell ⟨b', 0, none⟩ u) :=
  ⟨by rw [World.cell?_setCell_other _ _ _ _ (fun e => hn (by injection e))]; exact h.1, by rw [World.frozen?_setCell]; exact h.2.1, by have := h.2.2; simpa [World.setCell] using this⟩
theorem BxE.kept {b : Nat} {v : Value} {A B' : World} (h : BxE b v A) {row : Option Nat} (hg : A.grownBy B' row) (hr : ∀ r, row = some r → ∃ o : Obj, A.heap[r]? = some o ∧ o.isCells = false) : BxE b v B' :=
  ⟨cell_kept h.1 hg hr, (frozen_kept h.1 hg hr).trans h.2.1, Nat.lt_of_lt_of_le h.2.2 hg.size⟩
theorem BxE.new (w : World) (t : TypeId) (v : Value) : BxE w.heap.size v (w.alloc (.cells #[v] t)) := by
  obtain ⟨W, rfl, _, h1, h2, h3⟩ := newboxE w t v
  exact ⟨h1, h2, by omega⟩
theorem BxE.drewN {b : Nat} {v : Value} {W : World} (h : BxE b v W) (n : Nat) : BxE b v (W.drewN n) := h
theorem SlV.setFar {w : World} {B n c : Nat} {A : Option Addr} {vs : List Value} (h : SlV w B A n c vs) {b : Nat} (hb : B ≤ b) (u : Value) : SlV (w.setCell ⟨b, 0, none⟩ u) B A n c vs :=
  h.below ((Below.refl B w).setCell (p := ⟨b, 0, none⟩) hb u)
end Go.Proofs.YtejhfmjegmccjaaDoor

/- A region that draws its order and only reads, in the body of a range over a function (where the fence knows its round). -/
set_option linter.unusedVariables false
set_option linter.unusedSimpArgs false
namespace Go.Proofs.YtejhfmjegmccjaaDoor
open Go.RowKit

/-- no operation defers -/
def noDeferB (l : List Oper) : Bool := l.all fun o => match o.op with | .defer _ => false | _ => true
theorem noDeferB_spec {l : List Oper} (h : noDeferB l = true) {i : Nat} {o : Oper} (ho : l[i]? = some o) (c : _) : o.op ≠ .defer c := fun hc => by
  have := List.all_eq_true.1 h o (List.mem_of_getElem? ho)
  rw [hc] at this
  cases this
variable {F : Fence} {n : Nat} {P : Program} {md : Region.Mode} {C : World → Prop}

theorem wpIn_of_quietR {o : Oper} {a : Act} {K : Act → Prop} {K' : Act → World → Prop} {Q' : Exit → Act → World → Prop} {w : World} (hnd : ∀ c, o.op ≠ .defer c) (hw : C w) (h : ∀ a w', C w' → K a → K' a w')
    (ha : o.askedIn F P a C) (hh : o.quietIn F n P a C K) : o.wpIn F n P a w K' Q' := by
  obtain ⟨v, hv, hK⟩ := hh
  refine ⟨ha w hw, ?_⟩
  have h3 : Oper.quietUponIn F n P C w v ((execOp a.eval o).run P w) := hv w hw
  rw [Oper.semAt_eq _ _ _ hnd]
  generalize (execOp a.eval o).run P w = r at h3
  cases r with
  | halt x w' => exact h3.elim
  | ok x w' =>
    cases x with
    | value u => obtain ⟨rfl, rfl⟩ := h3; exact h _ _ hw hK
    | skip => obtain ⟨rfl, rfl⟩ := h3; exact h _ _ hw hK
    | enter f args =>
      obtain ⟨rfl, hd, hc⟩ := h3
      refine ⟨hd, hc.mono ?_⟩
      rintro e w'' ⟨rfl, hw''⟩
      exact h _ _ hw'' hK
    | _ => exact h3.elim
theorem wpOpIn_of_quietR {l : List Oper} (hnd : noDeferB l = true) {i : Nat} {a : Act} {K : Act → Prop} {K' : Act → World → Prop} {Q' : Exit → Act → World → Prop} {w : World} (hC : C w) (h : ∀ a w', C w' → K a → K' a w')
    (hh : qOpIn F n P l.toArray C i K a) : wpOpIn F n P l.toArray Q' i K' a w := by
  unfold qOpIn at hh
  unfold wpOpIn
  cases ho : l.toArray[i]? with
  | none => rw [ho] at hh; exact h _ _ hC hh
  | some o =>
    rw [ho] at hh
    obtain ⟨ha, hh⟩ := hh
    have hn : ∀ c, o.op ≠ .defer c := noDeferB_spec hnd (by simpa using ho)
    by_cases hw : Region.wanted o (yielded l.toArray a.tmps) = true
    · simp only [hw, if_true] at hh ⊢
      exact wpIn_of_quietR hn hC h ha hh
    · simp only [hw] at hh ⊢
      exact ⟨ha w hC, h _ _ hC hh⟩
theorem wpAnyIn_of_quietR {l : List Oper} (hnd : noDeferB l = true) {Q : Act → Prop} {Q' : Exit → Act → World → Prop} (hQ : ∀ a w, C w → Q a → Q' .normal a w) : ∀ (fuel : Nat) (listed : Array Bool) (a : Act) (w : World), C w →
    wpAnyQIn F n P md l.toArray C Q fuel listed a → wpAnyIn F n P md l.toArray Q' fuel listed a w
  | 0, _, _, _, hw, h => ⟨h.1, hQ _ _ hw h.2⟩
  | fuel + 1, _, _, _, hw, h => ⟨fun h0 => hQ _ _ hw (h.1 h0), fun i hi => wpOpIn_of_quietR hnd hw (fun a' w' hw' => wpAnyIn_of_quietR hnd hQ fuel _ a' w' hw') (h.2 i hi)⟩
theorem wpIn_region_quietR {id : Nat} {Q : Exit → Act → World → Prop} {a : Act} {w : World} {l : List Oper} (hm : P.follows .mixedOrders = true) (hB : Region.lexB .any l.toArray = true) (hnd : noDeferB l = true)
    (h : wpQuietIn F n P l.toArray (fun w' => ∃ n, w' = w.drewN n) (fun a' => ∀ w', (∃ n, w' = w.drewN n) → Q .normal a' w') l a) : (Code.region id l.toArray true).wpIn F n P Q a w := by
  simp only [Region.lexB, Bool.and_eq_true] at hB
  refine wpIn_region_any hm (wpAnyIn_of_quietR hnd (C := fun w' => ∃ n, w' = w.drewN n) (Q := fun a' => ∀ w', (∃ n, w' = w.drewN n) → Q .normal a' w') (fun _ w' hw' h => h w' hw') _ _ _ _ ⟨1, rfl⟩ ?_)
  have := wpAnyQIn_lex (F := F) (n := n) (P := P) (C := fun w' => ∃ n, w' = w.drewN n) (md := .any) hB.1 l 0 (Array.replicate l.toArray.size false) a (by simp) (by simpa using hB.2) h
  simpa using this
end Go.Proofs.YtejhfmjegmccjaaDoor

/- HashChunks, walked. -/
set_option pp.deepTerms true
set_option linter.unusedVariables false
set_option linter.unusedSimpArgs false
namespace Go.Proofs.YtejhfmjegmccjaaDoor
open Go.RowKit Go.Shelf
attribute [local go_sem] Oper.semAt_some

theorem chunks_notNil (g1 g2 : Nat) (w : World) : (binOp .eql 43 (.func (.func 60) #[] #[.pointer (some ⟨g1, 0, none⟩), .pointer (some ⟨g2, 0, none⟩)]) .nilFunc).run Tryd.prog w = .ok (.bool false) w := by kernel_rfl
/-- ahead of a round -/
def CkI (w : World) (x0 x1 x2 x3 x7 x9 x10 : Nat) (A : Option Addr) (nn c : Nat) (k m : Int) (kn l : Nat) (pre : List ChX) (W : World) : Prop :=
  Below x0 w W ∧ BxE x0 (.slice A nn c) W ∧ BxE x1 (.int .i64 k) W ∧ BxE x2 (.int .i64 m) W ∧ BxE x3 (.bool false) W ∧ BxE x7 (.bool true) W ∧ BxE x9 (.int .i64 ((pre.length : Nat) : Int)) W ∧ BxE x10 (.int .i64 ((min (kn * pre.length) l : Nat) : Int)) W
theorem CkI.own {x0 : Nat} (B : Nat) (w : World) (hB : x0 ≤ B) (hw : x0 ≤ w.heap.size) {x1 x2 x3 x7 x9 x10 : Nat} {A : Option Addr} {nn c : Nat} {k m : Int} {kn l : Nat} : OwnFrom B (CkI w x0 x1 x2 x3 x7 x9 x10 A nn c k m kn l) := fun s W W' row hs hg hr => by
  obtain ⟨h, h0, h1, h2, h3, h7, h9, h10⟩ := hs
  have hr' := fun r e => (hr r e).2
  exact ⟨h.grown hg (Nat.le_trans hw h.size) (fun r e => Nat.le_trans hB (hr r e).1), h0.kept hg hr', h1.kept hg hr', h2.kept hg hr', h3.kept hg hr', h7.kept hg hr', h9.kept hg hr', h10.kept hg hr'⟩
/-- a number of Go's int -/
def I64b (k : Int) : Prop := -9223372036854775808 ≤ k ∧ k ≤ 9223372036854775807
set_option maxRecDepth 100000 in
set_option maxHeartbeats 4000000 in
theorem chunks_walk (w : World) (hGS : StartsG w) (hGR : RootsG w) (A : Option Addr) (n c : Nat) (bs : List (BitVec 8)) (hs : SlV w w.heap.size A n c (bs.map W8)) (hz : A = none → c = 0) (k m : Int) (hk : I64b k) (hm : I64b m) :
    Calls Tryd.prog 8 #[.slice A n c, .int .i64 k, .int .i64 m] w fun e w' => e = .returned (.bool true) ∧ Below w.heap.size w w' := by
  obtain ⟨W1, e1, hB1, b0, s1⟩ := newBox w 22 (.slice A n c)
  obtain ⟨W2, e2, hB2, b1, s2⟩ := newBox W1 3 (.int .i64 k)
  obtain ⟨W3, e3, hB3, b2, s3⟩ := newBox W2 3 (.int .i64 m)
  obtain ⟨W4, e4, hB4, b3, s4⟩ := newBox W3 4 (.bool false)
  obtain ⟨x0, hx0⟩ : ∃ b, w.heap.size = b := ⟨_, rfl⟩
  obtain ⟨x1, hx1⟩ : ∃ b, W1.heap.size = b := ⟨_, rfl⟩
  obtain ⟨x2, hx2⟩ : ∃ b, W2.heap.size = b := ⟨_, rfl⟩
  obtain ⟨x3, hx3⟩ : ∃ b, W3.heap.size = b := ⟨_, rfl⟩
  rw [hx0] at b0
  rw [hx1] at b1
  rw [hx2] at b2
  rw [hx3] at b3
  replace b0 := ((b0.later hB2).later hB3).later hB4
  replace b1 := (b1.later hB3).later hB4
  replace b2 := b2.later hB4
  have hB : Below x0 w W4 := by rw [← hx0]; exact hB1.trans ((hB2.mono hB1.size).trans ((hB3.mono (by omega)).trans (hB4.mono (by omega))))
  have hx01 : x1 = x0 + 1 := by omega
  have hx02 : x2 = x0 + 2 := by omega
  have hx03 : x3 = x0 + 3 := by omega
  have hx04 : W4.heap.size = x0 + 4 := by omega
  have hG4 : StartsG W4 ∧ RootsG W4 := ⟨(((hGS.later hB1).later hB2).later hB3).later hB4, (((hGR.later hB1).later hB2).later hB3).later hB4⟩
  have hsw0 : SlV w x0 A n c (bs.map W8) := by rw [hx0] at hs; exact hs
  have hs4 : SlV W4 x0 A n c (bs.map W8) := hsw0.below hB
  have HSW0 := Lib.hid hsw0
  have hbg := begun3_any W4 hG4.1 hG4.2
  have HBG := Lib.hid hbg
  have HX := Lib.hid (⟨hx01, hx02, hx03, hx04⟩ : x1 = x0 + 1 ∧ x2 = x0 + 2 ∧ x3 = x0 + 3 ∧ W4.heap.size = x0 + 4)
  have HX0 := Lib.hid hx0
  have HB := Lib.hid hB
  have HS4 := Lib.hid hs4
  have HZ := Lib.hid hz
  have B0 := Lib.hid b0
  have B1 := Lib.hid b1
  have B2 := Lib.hid b2
  have B3 := Lib.hid b3
  clear hbg hB1 hB2 hB3 hB4 s1 s2 s3 s4 hx01 hx02 hx03 hx04 hGS hGR hG4 hs hsw0 hs4 hB hz b0 b1 b2 b3
  refine (callsIn_wide (n := 9)).1 ?_
  refine callsIn_of_wp_marks Tryd.func8 rfl trivial ?_ rfl
  simp only [Tryd.ntmps8, List.size_toArray, List.length_cons, List.length_nil, Nat.reduceAdd, Nat.reduceSub, Array.replicate_succ, Array.replicate_zero, List.push_toArray, List.append_toArray, List.nil_append, List.cons_append]
  gi_wp2_with fail
  refine ⟨trivial, (callsIn_wide.2 HBG.out).mono ?_⟩
  rintro e w5 ⟨rfl, hb5⟩
  clear e1 e2 e3 e4 hx0 hx1 hx2 hx3
  -- the variable 'is'
  obtain ⟨W6, e6, hB6, b7, s6⟩ := newBox w5 4 (.bool false)
  obtain ⟨x7, hx7⟩ : ∃ b, w5.heap.size = b := ⟨_, rfl⟩
  rw [hx7] at b7
  obtain ⟨W7, e7⟩ : ∃ V, W6.setCell ⟨x7, 0, none⟩ (.bool true) = V := ⟨_, rfl⟩
  have hb47 : Below W4.heap.size W4 W7 := by
    rw [← e7]
    exact below_box (hb5.trans (hB6.mono hb5.size)) (by have := hb5.size; omega) _
  have HX47 := Lib.hid (show x0 + 4 ≤ x7 ∧ x7 < W7.heap.size by
    have h1 := HX.out.2.2.2
    have h2 := hb5.size
    have h3 := b7.2.2
    have h4 : W7.heap.size = W6.heap.size := by rw [← e7]; simp [World.setCell]
    omega)
  have h7 : BxE x7 (.bool true) W7 := by rw [← e7]; exact b7.set _
  have h0 := B0.out.later hb47
  have q0c := h0.1
  have hs7 := HS4.out.below (hb47.mono (by have := HX.out.2.2.2; omega))
  have hsh := short_any W7 _ _ _ _ _ hs7 300 (by decide)
  have HSH := Lib.hid hsh
  have HB47 := Lib.hid hb47
  have H7w := Lib.hid h7
  have HS7 := Lib.hid hs7
  have c6' := b7.1
  have f6' := b7.2.1
  clear hb5 hb47 hB6 s6 b7 h7 hs7 hsh h0
  gi_wp2_with fail
  refine ⟨trivial, (callsIn_wide.2 HSH.out).mono ?_⟩
  rintro e w8 ⟨rfl, rfl⟩
  clear HSH e6 e7 hx7
  obtain ⟨nn, hnn⟩ : ∃ x, min n 300 = x := ⟨_, rfl⟩
  rw [hnn]
  have hn3 : nn ≤ 300 := by omega
  obtain ⟨Y8, e8⟩ : ∃ V, W7.setCell ⟨x0, 0, none⟩ (.slice A nn c) = V := ⟨_, rfl⟩
  have h0 := B0.out.later HB47.out
  have q0f := h0.2.1
  have h1 := B1.out.later HB47.out
  have h2 := B2.out.later HB47.out
  have h3 := B3.out.later HB47.out
  have hx := HX.out
  have hx47 := HX47.out
  have hz7 := HB47.out.size
  obtain ⟨h0', h1', h2', h3', h7'⟩ : BxE x0 (.slice A nn c) Y8 ∧ BxE x1 (.int .i64 k) Y8 ∧ BxE x2 (.int .i64 m) Y8 ∧ BxE x3 (.bool false) Y8 ∧ BxE x7 (.bool true) Y8 := by
    rw [← e8]
    exact ⟨h0.set _, h1.far (by omega) _, h2.far (by omega) _, h3.far (by omega) _, H7w.out.far (by omega) _⟩
  have hB8 : Below x0 w Y8 := by rw [← e8]; exact below_box (HB.out.trans (HB47.out.mono (by omega))) (Nat.le_refl _) _
  have hx8 : Y8.heap.size = W7.heap.size := by rw [← e8]; simp [World.setCell]
  obtain ⟨q, hq⟩ : ∃ q, bs.take 300 = q := ⟨_, rfl⟩
  have hsw : SlV w x0 A nn c (q.map W8) := by
    have h := HSW0.out
    have hl := h.len
    rw [List.length_map] at hl
    have h' := h.take (k := nn) (by omega)
    rw [← List.map_take] at h'
    have : bs.take nn = q := by
      rw [← hq, ← hnn]
      by_cases h3 : n ≤ 300
      · rw [Nat.min_eq_left h3, List.take_of_length_le (by omega), List.take_of_length_le (by omega)]
      · rw [Nat.min_eq_right (by omega)]
    rw [this] at h'
    exact h'
  have hs8 : SlV Y8 x0 A nn c (q.map W8) := hsw.below hB8
  have hl8 : nn = q.length := by simpa using hs8.len
  have hG8 : RootsG Y8 ∨ True := .inr trivial
  have hch := chunks_any Y8 x0 A nn c q hs8 HZ.out (by omega) (by omega) k
  have q0 := h0'.1
  have q1 := h1'.1
  have HCH := Lib.hid hch
  have H0 := Lib.hid h0'
  have H1 := Lib.hid h1'
  have H2 := Lib.hid h2'
  have H3 := Lib.hid h3'
  have H7 := Lib.hid h7'
  have HB8 := Lib.hid hB8
  have HSW := Lib.hid hsw
  have HQ := Lib.hid hq
  have HL8 := Lib.hid hl8
  have HX8 := Lib.hid (show x0 + 4 ≤ x7 ∧ x7 < Y8.heap.size by omega)
  have HNN := Lib.hid hnn
  clear hch h0' h1' h2' h3' h7' hB8 hs8 hsw hq hl8 hx8 hnn hx hz7 h0 h1 h2 h3 hx47 hG8 HB47 H7w HS7 B0 B1 B2 B3 HS4 HB HBG
  gi_wp2_with fail
  refine ⟨trivial, (callsIn_wide.2 HCH.out).mono ?_⟩
  rintro e Y9 ⟨g1, g2, v9, rfl, hg1l, hg12, hrg1, hrg2, hown9, hne9, hb9⟩
  have hnf := chunks_notNil g1 g2
  obtain ⟨A9, c9, rfl, hsl9, hlow9, _⟩ := SlV.of_own hown9
  obtain ⟨Z0, f0, hC0, d9, t0⟩ := newBox Y9 3 (.int .i64 0)
  obtain ⟨x9, hx9⟩ : ∃ b, Y9.heap.size = b := ⟨_, rfl⟩
  rw [hx9] at d9
  obtain ⟨Z1, f1⟩ : ∃ V, Z0.setCell ⟨x9, 0, none⟩ (.int .i64 0) = V := ⟨_, rfl⟩
  obtain ⟨Z2, f2, hC2, d10, t2⟩ := newBox Z1 3 (.int .i64 0)
  obtain ⟨x10, hx10⟩ : ∃ b, Z1.heap.size = b := ⟨_, rfl⟩
  rw [hx10] at d10
  obtain ⟨Z3, f3⟩ : ∃ V, Z2.setCell ⟨x10, 0, none⟩ (.int .i64 0) = V := ⟨_, rfl⟩
  have u1 : Z1.heap.size = Z0.heap.size := by rw [← f1]; simp [World.setCell]
  have u3 : Z3.heap.size = Z2.heap.size := by rw [← f3]; simp [World.setCell]
  have hx910 : x10 = x9 + 1 := by omega
  have hD1 : Below x9 Y9 Z1 := by rw [← f1]; exact below_box (hx9 ▸ hC0) (Nat.le_refl _) _
  have hD3 : Below x9 Y9 Z3 := by rw [← f3]; exact below_box (hD1.trans (hC2.mono (by omega))) (by omega) _
  have d9' : BxE x9 (.int .i64 ((0 : Nat) : Int)) Z3 := by
    rw [← f3]
    refine BxE.far ?_ (by omega) _
    refine BxE.later ?_ hC2
    rw [← f1]
    exact d9.set _
  have d10' : BxE x10 (.int .i64 ((0 : Nat) : Int)) Z3 := by rw [← f3]; exact d10.set _
  have hYZ : Below Y8.heap.size Y8 Z3 := hb9.trans (hD3.mono (by have := hb9.size; omega))
  have d0 := H0.out.later hYZ
  have d1 := H1.out.later hYZ
  have d2 := H2.out.later hYZ
  have d3 := H3.out.later hYZ
  have d7 := H7.out.later hYZ
  have g0c := d9.1
  have g10c := d10.1
  have g0f := d9.2.1
  have g10f := d10.2.1
  have hDZ : Below Y9.heap.size Y9 Z3 := by rw [hx9]; exact hD3
  have hl1 := hrg1.lt
  have hl2 := hrg2.lt
  have hseq := chunks1_to 8 (by decide) Z3 Y8.heap.size Y9.heap.size g1 g2 A9 nn c9 q k (by omega) (by omega) (by omega) (by omega) (by omega) (hrg1.below hDZ (by omega)) (hrg2.below hDZ (by omega)) (hsl9.below hDZ) (fun b off s e => by have := hlow9 b off s e; omega) (by omega) hk.2
  rw [hx9] at hseq
  have HSEQ := Lib.hid hseq
  have D0 := Lib.hid d0
  have D1 := Lib.hid d1
  have D2 := Lib.hid d2
  have D3 := Lib.hid d3
  have D7 := Lib.hid d7
  have D9 := Lib.hid d9'
  have D10 := Lib.hid d10'
  have HBZ := Lib.hid (show Below x0 w Z3 from HB8.out.trans (hYZ.mono (by have := HX8.out; omega)))
  have HYZ := Lib.hid hYZ
  have HXX := Lib.hid (show x7 < Y8.heap.size ∧ Y8.heap.size ≤ x9 ∧ x10 = x9 + 1 ∧ Z3.heap.size = x9 + 2 by have := hb9.size; have := HX8.out; omega)
  clear hseq d0 d1 d2 d3 d7 d9' d10' hYZ hD1 hD3 hDZ hl1 hl2 hx910 u1 u3 t2 t0 d9 d10 hC0 hC2 hsl9 hlow9 hown9 hne9 hb9 hrg1 hrg2 H0 H1 H2 H3 H7 HB8 hg1l hg12 q0 q1 q0c q0f
  gi_wp2_with fail
  refine wpIn_rangeP rfl (by decide) (gf := 60) (lb := #[.pointer (some ⟨g1, 0, none⟩), .pointer (some ⟨g2, 0, none⟩)]) rfl trivial (enters_of Tryd.func60 (by kernel_rfl) rfl)
    HSEQ.out (fun a b => a.trans b) (fun W l o o' hl ho _ _ => KpC.put (by have := HXX.out; omega) ho) (fun _ => rfl)
    (CkI w x0 x1 x2 x3 x7 x9 x10 A nn c k m k.toNat q.length) (fun c _ W => c = .ret ∧ Below x0 w W ∧ BxE x3 (.bool true) W) (CkI.own _ _ (by have := HXX.out; have := HX8.out; omega) (by rw [HX0.out]; exact Nat.le_refl _)) ?hIx (fun pre => ChR.own _ _ _ _ pre) ⟨HBZ.out, D0.out, D1.out, D2.out, D3.out, D7.out, D9.out, by have := D10.out; simpa using this⟩ ?a1x ?assign ?body ?done ?stop
  case hIx =>
    rintro _ s W W' row ⟨rfl, h1, h2⟩ hg hr
    exact ⟨rfl, h1.grown hg (by have := h1.size; have := HX0.out; omega) (fun r e => by have := (hr r e).1; have := HXX.out; have := HX8.out; omega), h2.kept hg (fun r e => (hr r e).2)⟩
  case assign =>
    intro l x W K hK
    gi_wp2
    exact hK
  case body =>
    rintro l pre ⟨i, Ap, np, cp⟩ W ⟨hBW, h0, h1, h2, h3, h7, h9, h10⟩ ⟨hxi, hxl, hsx, hlow, hk1⟩ hpl
    dsimp only at hxi hsx hlow
    obtain ⟨kn, hkn⟩ : ∃ kn : Nat, k.toNat = kn := ⟨_, rfl⟩
    rw [hkn] at hxl hsx hk1 h10
    have hkk : k = (kn : Int) := by omega
    rw [← hxi] at hxl hsx h9 h10 hpl
    obtain ⟨p, hp⟩ : ∃ p, kn * i = p := ⟨_, rfl⟩
    rw [hp] at hxl h10
    rw [Nat.min_eq_left (Nat.le_of_lt hxl)] at h10
    have hnnl := HL8.out
    rw [hkk] at h1
    have q0 := h0.1
    have q1 := h1.1
    have q2 := h2.1
    have q3 := h3.1
    have q7 := h7.1
    have q9 := h9.1
    have q10 := h10.1
    have kp0 : (0 : Int) ≤ p := by omega
    have kp1 : (p : Int) < nn := by omega
    have kn1 : (1 : Int) ≤ kn := by omega
    have kn2 : (kn : Int) ≤ 9223372036854775807 := by have := hk.2; omega
    have knn : (nn : Int) ≤ 300 := by omega
    have kj : (i : Int) ≤ 300 := by omega
    have hsW : SlV W x0 A nn c (q.map W8) := HSW.out.below hBW
    obtain ⟨b, off, _, rfl, _, _, _⟩ := hsW.at_ (k := 0) (by omega)
    have hpc : (pieceL q kn i).length = min kn (nn - p) := by simp [pieceL, hp, hnnl]
    have hnp : np = min kn (nn - p) := by rw [← hpc]; simpa using hsx.len
    have hcap := hsW.cap
    have hmax := hsW.max
    obtain ⟨t, ht⟩ : ∃ t, p + np = t := ⟨_, rfl⟩
    have ht0 : (p : Int) < t := by omega
    have ht1 : (t : Int) ≤ nn := by omega
    have ht2 : (t : Int) ≤ c := by omega
    have hnp0 : (1 : Int) ≤ np := by omega
    obtain ⟨pc, hpcE⟩ : ∃ l, pieceL q kn i = l := ⟨_, rfl⟩
    rw [hpcE] at hsx
    have v1 : ∀ n, (convert 22 9 (.slice Ap np cp)).run Tryd.prog (W.drewN n) = .ok (strV pc) (W.drewN n) := fun n => conv_str (hsx.below (below_drewR _ W n))
    have hsd := (hsW.drop (k := p) (by omega)).take (k := t - p) (by omega)
    have hpt : ((q.map W8).drop p).take (t - p) = pc.map W8 := by
      rw [← List.map_drop, ← List.map_take, ← hpcE, pieceL, hp]
      congr 1
      by_cases h : kn ≤ nn - p
      · rw [show t - p = kn by omega]
      · rw [List.take_of_length_le (by rw [List.length_drop]; omega), List.take_of_length_le (by rw [List.length_drop]; omega)]
    rw [hpt] at hsd
    have v2 : ∀ n, (convert 22 9 (.slice (some ⟨b, off + p, none⟩) (t - p) (c - p))).run Tryd.prog (W.drewN n) = .ok (strV pc) (W.drewN n) := fun n => conv_str (hsd.below (below_drewR _ W n))
    have v3 : ∀ n, (binOp .neq 9 (strV pc) (strV pc)).run Tryd.prog (W.drewN n) = .ok (.bool false) (W.drewN n) := fun n => by rw [neq_str, decide_eq_true rfl]; rfl
    have hptN : p ≤ t := by omega
    have hcpN : ¬ c = p := by omega
    have hkd : decide ((kn : Int) < 1) = false := by simpa using kn1
    have HXI := Lib.hid hxi
    have HKK := Lib.hid hkk
    have HP := Lib.hid hp
    have HNP := Lib.hid hnp
    have HT := Lib.hid ht
    clear hxi hp hpc hnp ht hpcE hpt hsd hsW hsx hlow hnnl hkn hkk
    have v4 := fun (w : World) (t : TypeId) (x y : Operand) (a b : List (BitVec 8)) => eqGuard_str (P := Tryd.prog) w .neq t x y a b
    by_cases hfull : kn < nn - p
    · have hfI : (kn : Int) < (nn : Int) - p := by omega
      have htI : (p : Int) + (kn : Int) = (t : Int) := by have := HNP.out; have := HT.out; omega
      gi_wp2
      refine wpIn_region_quietR rfl (by kernel_rfl) (by rfl) ?_
      iterate 22 (quiet_step_in (fail))
      refine wpQuietIn_nil ?_
      intro _ hw'
      obtain ⟨nq, hw''⟩ := hw'
      subst hw''
      have HW := below_drewR W.heap.size W nq
      obtain ⟨V, eV⟩ : ∃ V, W.drewN nq = V := ⟨_, rfl⟩
      rw [eV] at HW ⊢
      obtain ⟨V1, e1⟩ : ∃ V', V.setCell ⟨x10, 0, none⟩ (.int .i64 (t : Int)) = V' := ⟨_, rfl⟩
      obtain ⟨u, hu⟩ : ∃ u : Int, (i : Int) + 1 = u := ⟨_, rfl⟩
      obtain ⟨V2, e2⟩ : ∃ V', V1.setCell ⟨x9, 0, none⟩ (.int .i64 u) = V' := ⟨_, rfl⟩
      have hxx := HXX.out
      have hx := HX.out
      have hx8 := HX8.out
      obtain ⟨hV0, hV1, hV2, hV3, hV7, hV9, hV10⟩ : BxE x0 (.slice (some ⟨b, off, none⟩) nn c) V2 ∧ BxE x1 (.int .i64 (kn : Int)) V2 ∧ BxE x2 (.int .i64 m) V2 ∧ BxE x3 (.bool false) V2 ∧ BxE x7 (.bool true) V2 ∧ BxE x9 (.int .i64 u) V2 ∧ BxE x10 (.int .i64 (t : Int)) V2 := by
        rw [← e2, ← e1]
        exact ⟨((h0.later HW).far (by omega) _).far (by omega) _, ((h1.later HW).far (by omega) _).far (by omega) _, ((h2.later HW).far (by omega) _).far (by omega) _, ((h3.later HW).far (by omega) _).far (by omega) _, ((h7.later HW).far (by omega) _).far (by omega) _, ((h9.later HW).far (by omega) _).set _, ((h10.later HW).set _).far (by omega) _⟩
      have kf : ∀ B, KeepsFrom B W V2 := fun B => by
        have k1 : KeepsFrom B W V := by rw [← eV]; exact ⟨Nat.le_refl _, fun _ _ _ h _ => h⟩
        rw [← e2, ← e1]
        exact k1.trans (((KeepsOthers.setCell _ _ _).from B).trans ((KeepsOthers.setCell _ _ _).from B))
      have HKF := Lib.hid kf
      have hBV : Below x0 w V2 := by
        rw [← e2, ← e1]
        exact below_box (below_box (hBW.trans (HW.mono (by have := h0.2.2; omega))) (by omega) _) (by omega) _
      have hKp : KpC Y8.heap.size x9 W V2 := by
        refine KpC.below (B := x9) ?_ (Nat.le_refl _)
        rw [← e2, ← e1]
        exact below_box (below_box (HW.mono (by have := h9.2.2; omega)) (by omega) _) (Nat.le_refl _) _
      have qV9 := (h9.later HW).1
      have qF9 := (h9.later HW).2.1
      have qV10 := (h10.later HW).1
      have qF10 := (h10.later HW).2.1
      have qW9 : V1.cell? ⟨x9, 0, none⟩ = some (.int .i64 (i : Int)) := by rw [← e1]; exact ((h9.later HW).far (by omega) _).1
      have qG9 : V1.frozen? ⟨x9, 0, none⟩ = false := by rw [← e1]; exact ((h9.later HW).far (by omega) _).2.1
      have qU9 := hV9.1
      have qU2 := hV2.1
      have qU7 := hV7.1
      have qU3 := hV3.1
      have qT3 := hV3.2.1
      have HKP := Lib.hid hKp
      have HBV := Lib.hid hBV
      have HVS := Lib.hid (⟨hV0, hV1, hV2, hV3, hV7, hV9, hV10⟩ : BxE x0 (.slice (some ⟨b, off, none⟩) nn c) V2 ∧ BxE x1 (.int .i64 (kn : Int)) V2 ∧ BxE x2 (.int .i64 m) V2 ∧ BxE x3 (.bool false) V2 ∧ BxE x7 (.bool true) V2 ∧ BxE x9 (.int .i64 u) V2 ∧ BxE x10 (.int .i64 (t : Int)) V2)
      clear kf hBV hKp hV0 hV1 hV2 hV3 hV7 hV9 hV10 hxx hx hx8 v1 v2 v3 HW h0 h1 h2 h3 h7 h9 h10 q0 q1 q2 q3 q7 q9 q10
      have HU := Lib.hid hu
      by_cases hmI : u = m
      · subst hmI
        gi_wp2
        exact ⟨(HKF.out _).trans ((KeepsOthers.setCell _ _ _).from _), rfl, below_box HBV.out (by have := HX.out; omega) _, HVS.out.2.2.2.1.set _⟩
      · gi_wp2
        refine ⟨HKF.out _, HKP.out, HBV.out, HVS.out.1, by rw [HKK.out]; exact HVS.out.2.1, HVS.out.2.2.1, HVS.out.2.2.2.1, HVS.out.2.2.2.2.1, ?_, ?_⟩
        · have h := HVS.out.2.2.2.2.2.1
          rw [← HU.out, HXI.out] at h
          rw [List.length_append, List.length_singleton]
          exact h
        · have h := HVS.out.2.2.2.2.2.2
          have h1 : min (k.toNat * (pre ++ [(⟨i, Ap, np, cp⟩ : ChX)]).length) q.length = t := by
            have h2 := HT.out
            have h3 := HNP.out
            have h4 := HP.out
            have h5 := HL8.out
            have h6 := HKK.out
            rw [List.length_append, List.length_singleton, ← HXI.out, show k.toNat = kn by omega, Nat.mul_succ, h4]
            omega
          rw [h1]
          exact h
    · have hfI : ¬ (kn : Int) < (nn : Int) - p := by omega
      have htn : t = nn := by have := HNP.out; have := HT.out; omega
      subst htn
      gi_wp2
      refine wpIn_region_quietR rfl (by kernel_rfl) (by rfl) ?_
      iterate 22 (quiet_step_in (fail))
      refine wpQuietIn_nil ?_
      intro _ hw'
      obtain ⟨nq, hw''⟩ := hw'
      subst hw''
      have HW := below_drewR W.heap.size W nq
      obtain ⟨V, eV⟩ : ∃ V, W.drewN nq = V := ⟨_, rfl⟩
      rw [eV] at HW ⊢
      obtain ⟨V1, e1⟩ : ∃ V', V.setCell ⟨x10, 0, none⟩ (.int .i64 (t : Int)) = V' := ⟨_, rfl⟩
      obtain ⟨u, hu⟩ : ∃ u : Int, (i : Int) + 1 = u := ⟨_, rfl⟩
      obtain ⟨V2, e2⟩ : ∃ V', V1.setCell ⟨x9, 0, none⟩ (.int .i64 u) = V' := ⟨_, rfl⟩
      have hxx := HXX.out
      have hx := HX.out
      have hx8 := HX8.out
      obtain ⟨hV0, hV1, hV2, hV3, hV7, hV9, hV10⟩ : BxE x0 (.slice (some ⟨b, off, none⟩) t c) V2 ∧ BxE x1 (.int .i64 (kn : Int)) V2 ∧ BxE x2 (.int .i64 m) V2 ∧ BxE x3 (.bool false) V2 ∧ BxE x7 (.bool true) V2 ∧ BxE x9 (.int .i64 u) V2 ∧ BxE x10 (.int .i64 (t : Int)) V2 := by
        rw [← e2, ← e1]
        exact ⟨((h0.later HW).far (by omega) _).far (by omega) _, ((h1.later HW).far (by omega) _).far (by omega) _, ((h2.later HW).far (by omega) _).far (by omega) _, ((h3.later HW).far (by omega) _).far (by omega) _, ((h7.later HW).far (by omega) _).far (by omega) _, ((h9.later HW).far (by omega) _).set _, ((h10.later HW).set _).far (by omega) _⟩
      have kf : ∀ B, KeepsFrom B W V2 := fun B => by
        have k1 : KeepsFrom B W V := by rw [← eV]; exact ⟨Nat.le_refl _, fun _ _ _ h _ => h⟩
        rw [← e2, ← e1]
        exact k1.trans (((KeepsOthers.setCell _ _ _).from B).trans ((KeepsOthers.setCell _ _ _).from B))
      have HKF := Lib.hid kf
      have hBV : Below x0 w V2 := by
        rw [← e2, ← e1]
        exact below_box (below_box (hBW.trans (HW.mono (by have := h0.2.2; omega))) (by omega) _) (by omega) _
      have hKp : KpC Y8.heap.size x9 W V2 := by
        refine KpC.below (B := x9) ?_ (Nat.le_refl _)
        rw [← e2, ← e1]
        exact below_box (below_box (HW.mono (by have := h9.2.2; omega)) (by omega) _) (Nat.le_refl _) _
      have qV9 := (h9.later HW).1
      have qF9 := (h9.later HW).2.1
      have qV10 := (h10.later HW).1
      have qF10 := (h10.later HW).2.1
      have qW9 : V1.cell? ⟨x9, 0, none⟩ = some (.int .i64 (i : Int)) := by rw [← e1]; exact ((h9.later HW).far (by omega) _).1
      have qG9 : V1.frozen? ⟨x9, 0, none⟩ = false := by rw [← e1]; exact ((h9.later HW).far (by omega) _).2.1
      have qU9 := hV9.1
      have qU2 := hV2.1
      have qU7 := hV7.1
      have qU3 := hV3.1
      have qT3 := hV3.2.1
      have HKP := Lib.hid hKp
      have HBV := Lib.hid hBV
      have HVS := Lib.hid (⟨hV0, hV1, hV2, hV3, hV7, hV9, hV10⟩ : BxE x0 (.slice (some ⟨b, off, none⟩) t c) V2 ∧ BxE x1 (.int .i64 (kn : Int)) V2 ∧ BxE x2 (.int .i64 m) V2 ∧ BxE x3 (.bool false) V2 ∧ BxE x7 (.bool true) V2 ∧ BxE x9 (.int .i64 u) V2 ∧ BxE x10 (.int .i64 (t : Int)) V2)
      clear kf hBV hKp hV0 hV1 hV2 hV3 hV7 hV9 hV10 hxx hx hx8 v1 v2 v3 HW h0 h1 h2 h3 h7 h9 h10 q0 q1 q2 q3 q7 q9 q10
      have HU := Lib.hid hu
      by_cases hmI : u = m
      · subst hmI
        gi_wp2
        exact ⟨(HKF.out _).trans ((KeepsOthers.setCell _ _ _).from _), rfl, below_box HBV.out (by have := HX.out; omega) _, HVS.out.2.2.2.1.set _⟩
      · gi_wp2
        refine ⟨HKF.out _, HKP.out, HBV.out, HVS.out.1, by rw [HKK.out]; exact HVS.out.2.1, HVS.out.2.2.1, HVS.out.2.2.2.1, HVS.out.2.2.2.2.1, ?_, ?_⟩
        · have h := HVS.out.2.2.2.2.2.1
          rw [← HU.out, HXI.out] at h
          rw [List.length_append, List.length_singleton]
          exact h
        · have h := HVS.out.2.2.2.2.2.2
          have h1 : min (k.toNat * (pre ++ [(⟨i, Ap, np, cp⟩ : ChX)]).length) q.length = t := by
            have h2 := HT.out
            have h3 := HNP.out
            have h4 := HP.out
            have h5 := HL8.out
            have h6 := HKK.out
            rw [List.length_append, List.length_singleton, ← HXI.out, show k.toNat = kn by omega, Nat.mul_succ, h4]
            omega
          rw [h1]
          exact h
  case done =>
    rintro D ys W hD hys ⟨hBW, h0, h1, h2, h3, h7, h9, h10⟩ hK
    have q0 := h0.1
    have q1 := h1.1
    have q3 := h3.1
    have qf3 := h3.2.1
    have q7 := h7.1
    have hnnl := HL8.out
    obtain ⟨W', eW⟩ : ∃ V, W.setCell ⟨x3, 0, none⟩ (.bool true) = V := ⟨_, rfl⟩
    have hK' : W'.heap[D]? = some (.deferred (some [])) := by rw [← eW]; exact (KeepsOthers.setCell _ _ _).same D _ hK rfl
    have c3 : W'.cell? ⟨x3, 0, none⟩ = some (.bool true) := by rw [← eW]; exact (h3.set _).1
    have c4 := cell_kept c3 (grownBy_putObj' W' D (.deferred none)) (fun r e => by cases e; exact ⟨_, hK', rfl⟩)
    have hBX : Below x0 w W' := by rw [← eW]; exact below_box hBW (by have := HX.out; omega) _
    have hD1 : x0 ≤ D := by have := HXX.out; have := HX8.out; omega
    have hfin := hBX.grown (grownBy_putObj' W' D (.deferred none)) (by have := HX0.out; have := hBX.size; omega) (fun k e => by cases e; exact hD1)
    have HFIN := Lib.hid hfin
    have knn : (nn : Int) ≤ 300 := by omega
    have knn0 : (0 : Int) ≤ nn := by omega
    by_cases hk1 : k < 1
    · have hy := hys.2 hk1
      subst hy
      have q9 : W.cell? ⟨x9, 0, none⟩ = some (.int .i64 0) := h9.1
      have hkd : decide (k < 1) = true := by simpa using hk1
      have hkg : decide (1 ≤ k) = false := by simp; omega
      have hz0 : ((0 : Nat) : Int) = 0 := rfl
      clear hfin hBX hys hnnl h0 h1 h2 h3 h7 h9 h10
      gi_wp2
      any_goals (exfalso; have h9 := ‹some undef = some (Value.bool _)›; injection h9 with h9; cases h9; done)
      refine ⟨by simp, .inl ⟨_, _, rfl, run_takeDeferred hK', ?_⟩⟩
      refine ⟨.bool true, ?_, rfl, ?_⟩
      · simp [results, Tryd.f8, c4, go_sem]
      · rw [HX0.out]
        exact HFIN.out
    · have q9 := h9.1
      have q10 := h10.1
      rw [Nat.min_eq_right (hys.1 (by omega)), ← hnnl] at q10
      have hkg : 1 ≤ k := by omega
      clear hfin hBX hys hnnl h0 h1 h2 h3 h7 h9 h10
      gi_wp2
      refine ⟨by simp, .inl ⟨_, _, rfl, run_takeDeferred hK', ?_⟩⟩
      refine ⟨.bool true, ?_, rfl, ?_⟩
      · simp [results, Tryd.f8, c4, go_sem]
      · rw [HX0.out]
        exact HFIN.out
  case stop =>
    rintro D k pre W hD hpre ⟨rfl, hBX, hX⟩ hK
    have HX3 := Lib.hid hX
    have c3 := hX.1
    have hD1 : x0 ≤ D := by have := HXX.out; have := HX8.out; omega
    clear hX
    gi_wp2
    refine ⟨by simp, .inl ⟨_, _, rfl, run_takeDeferred hK, ?_⟩⟩
    have c4 := cell_kept c3 (grownBy_putObj' W D (.deferred none)) (fun r e => by cases e; exact ⟨_, hK, rfl⟩)
    refine ⟨.bool true, ?_, rfl, ?_⟩
    · simp [results, Tryd.f8, c4, go_sem]
    · rw [HX0.out]
      exact hBX.grown (grownBy_putObj' W D (.deferred none)) (by have := HX0.out; have := hBX.size; omega) (fun k e => by cases e; exact hD1)
end Go.Proofs.YtejhfmjegmccjaaDoor

/- hashes: MGF1. -/
set_option linter.unusedVariables false
set_option linter.unusedSimpArgs false
namespace Go.Proofs.YtejhfmjegmccjaaDoor
open Go.RowKit Go.Shelf

theorem counterL_length (i : Nat) : (counterL i).length = 4 := rfl
/-- two parts in a block -/
theorem PartsV.two {w : World} {g B : Nat} {A1 A2 : Option Addr} {n1 c1 n2 c2 : Nat} {p1 p2 : List (BitVec 8)} (h : RowV 22 w g [.slice A1 n1 c1, .slice A2 n2 c2]) (h1 : SlV w B A1 n1 c1 (p1.map W8)) (z1 : A1 = none → c1 = 0) (h2 : SlV w B A2 n2 c2 (p2.map W8)) (z2 : A2 = none → c2 = 0) (hg : g < B) :
    PartsV w B (some ⟨g, 0, none⟩) 2 2 [p1, p2] := by
  refine ⟨[.slice A1 n1 c1, .slice A2 n2 c2], ⟨rfl, by decide, by decide, fun _ => ⟨g, 0, rfl, hg, fun k v hv => by rw [Nat.zero_add]; exact h.at_ hv⟩⟩, rfl, fun i v ps hv hp => ?_⟩
  match i with
  | 0 => cases hv; cases hp; exact ⟨_, _, _, rfl, h1, z1⟩
  | 1 => cases hv; cases hp; exact ⟨_, _, _, rfl, h2, z2⟩
  | i + 2 => simp at hv
theorem hofTwo (w : World) (k : Int) (hk : KindOk k) (hGS : StartsG w) (hGR : RootsG w) {B : Nat} {A1 A2 : Option Addr} {n1 c1 n2 c2 : Nat} {p1 p2 : List (BitVec 8)} (hB : B ≤ w.heap.size) (h1 : SlV w B A1 n1 c1 (p1.map W8)) (z1 : A1 = none → c1 = 0) (h2 : SlV w w.heap.size A2 n2 c2 (p2.map W8)) (z2 : A2 = none → c2 = 0) (hn : n1 + n2 + 256 ≤ 17592186044416) :
    Calls Tryd.prog 16 #[.int .i64 k, .slice (some ⟨w.heap.size, 0, none⟩) 2 2] (w.alloc (.cells #[.slice A1 n1 c1, .slice A2 n2 c2] 22)) fun e w' => ∃ b, e = .returned (.slice (some ⟨b, 0, none⟩) (szN k) (szN k)) ∧ w.heap.size ≤ b ∧ RowV 5 w' b ((sumL k (p1 ++ p2)).map W8) ∧ Below w.heap.size w w' := by
  obtain ⟨W2, e2, r2, b2, z⟩ := newV w 22 [.slice A1 n1 c1, .slice A2 n2 c2] #[.slice A1 n1 c1, .slice A2 n2 c2] rfl
  rw [e2]
  have hl1 := h1.len
  have hl2 := h2.len
  rw [List.length_map] at hl1 hl2
  have hpv : PartsV W2 W2.heap.size (some ⟨w.heap.size, 0, none⟩) 2 2 [p1, p2] := PartsV.two r2 ((h1.below (b2.mono hB)).more (by omega)) z1 ((h2.below b2).more (by omega)) z2 (by omega)
  refine (hof_any W2 k hk (hGS.later b2) (hGR.later b2) W2.heap.size _ _ _ _ hpv (Nat.le_refl _) (by decide) (by simp; omega)).mono ?_
  rintro e w3 ⟨b, rfl, hbb, hrow, hb3⟩
  refine ⟨b, rfl, by omega, by simpa using hrow, b2.trans (hb3.mono b2.size)⟩
set_option maxRecDepth 100000 in
set_option maxHeartbeats 1000000 in
theorem mgfPart_any (w : World) (k : Int) (hk : KindOk k) (hGS : StartsG w) (hGR : RootsG w) (x1 x2 : Nat) (B : Nat) (A : Option Addr) (n c : Nat) (seed : List (BitVec 8)) (hs : SlV w B A n c (seed.map W8)) (hz : A = none → c = 0) (hB : B ≤ w.heap.size) (hn : n + 512 ≤ 17592186044416)
    (h1 : BxE x1 (.int .i64 k) w) (h2 : BxE x2 (.slice A n c) w) (i : Nat) (hi : i < 9223372036854775808) :
    Calls Tryd.prog 53 #[.int .i64 (i : Int), .pointer (some ⟨x1, 0, none⟩), .pointer (some ⟨x2, 0, none⟩)] w fun e w' => ∃ b, e = .returned (.slice (some ⟨b, 0, none⟩) (szN k) (szN k)) ∧ w.heap.size ≤ b ∧ RowV 5 w' b ((sumL k (seed ++ counterL i)).map W8) ∧ Below w.heap.size w w' := by
  have hct := counter_any w.drew i hi
  have c1 := h1.1
  have c2 := h2.1
  obtain ⟨b0, hb0⟩ : ∃ b, w.heap.size = b := ⟨_, rfl⟩
  have hb0' : w.drew.heap.size = b0 := hb0
  rw [hb0'] at hct
  have HCT := Lib.hid hct
  have HB0 := Lib.hid hb0
  have HS := Lib.hid hs
  have H1 := Lib.hid h1
  have H2 := Lib.hid h2
  have HG := Lib.hid (⟨hGS, hGR⟩ : StartsG w ∧ RootsG w)
  have HZ := Lib.hid hz
  clear hct hb0 hb0' hs h1 h2 hGS hGR hz
  go_enter Tryd.func53, Tryd.ntmps53
  go_wp2_with fail
  go_region_held3 (fun w' => w'.cell? ⟨x1, 0, none⟩ = some (.int .i64 k) ∧ w'.cell? ⟨x2, 0, none⟩ = some (.slice A n c)) (go_keep)
    (first | (go_at_call 54; refine HCT.out.mono ?_; rintro e w1 ⟨rfl, hr1, hb1⟩; have hb01 : Below w.heap.size w w1 := (Below.refl _ w).drew.trans (by rw [HB0.out]; exact hb1); have k1 := (H1.out.later hb01).1; have k2 := (H2.out.later hb01).1) | (go_at_call 16; refine (hofTwo w1 k hk (HG.out.1.later hb01) (HG.out.2.later hb01) (Nat.le_trans hB hb01.size) (HS.out.below (hb01.mono hB)) HZ.out (hr1.sl (by simp [counterL_length])) (by intro h; cases h) (by simp [counterL_length]; omega)).mono ?_; rintro e w2 ⟨b2, rfl, hbb2, hr2, hb2⟩; have hb02 : Below w.heap.size w w2 := hb01.trans (hb2.mono hb01.size); have k1' := (H1.out.later hb02).1; have k2' := (H2.out.later hb02).1))
  have HB := Lib.hid hb02
  have HR := Lib.hid hr2
  have hb01' := Lib.hid hb01
  clear hb02 hr2 hb01
  go_wp2
  go_ret
  exact ⟨b2, rfl, Nat.le_trans hb01'.out.size hbb2, HR.out, HB.out⟩

/-- the parts f 0, f 1, .. one after the other -/
def seqL (f : Nat → List (BitVec 8)) : Nat → List (BitVec 8)
  | 0 => []
  | j + 1 => seqL f j ++ f j
theorem seqL_length (f : Nat → List (BitVec 8)) (s : Nat) (h : ∀ j, (f j).length = s) : ∀ j, (seqL f j).length = s * j
  | 0 => rfl
  | j + 1 => by rw [seqL, List.length_append, seqL_length f s h j, h, Nat.mul_succ]
theorem seqL_take (f : Nat → List (BitVec 8)) (s : Nat) (h : ∀ j, (f j).length = s) (N : Nat) : ∀ i j, N ≤ s * j → (seqL f (j + i)).take N = (seqL f j).take N
  | 0, _, _ => rfl
  | i + 1, j, hj => by
    show ((seqL f (j + i)) ++ _).take N = _
    rw [List.take_append_of_le_length (by rw [seqL_length f s h]; exact Nat.le_trans hj (Nat.mul_le_mul_left s (Nat.le_add_right _ _)))]
    exact seqL_take f s h N i j hj
/-- the first N of them -/
def fillL (f : Nat → List (BitVec 8)) (N : Nat) : List (BitVec 8) := (seqL f N).take N
theorem fillL_eq (f : Nat → List (BitVec 8)) (s : Nat) (h : ∀ j, (f j).length = s) (hs : 1 ≤ s) (N j : Nat) (hj : N ≤ s * j) : (seqL f j).take N = fillL f N := by
  have h1 : N ≤ s * N := Nat.le_mul_of_pos_left N hs
  rcases Nat.le_total N j with h2 | h2
  · obtain ⟨i, rfl⟩ := Nat.exists_eq_add_of_le h2
    exact seqL_take f s h N i N h1
  · obtain ⟨i, rfl⟩ := Nat.exists_eq_add_of_le h2
    exact (seqL_take f s h _ i j hj).symm
theorem fillL_length (f : Nat → List (BitVec 8)) (s : Nat) (h : ∀ j, (f j).length = s) (hs : 1 ≤ s) (N : Nat) : (fillL f N).length = N := by
  rw [fillL, List.length_take, seqL_length f s h]
  exact Nat.min_eq_left (Nat.le_mul_of_pos_left N hs)

set_option maxRecDepth 100000 in
set_option maxHeartbeats 1000000 in
theorem fill_any (w : World) (gf : Nat) (lb : Array Value) (eg : ∀ args w, (callFunc gf args).run Tryd.prog w = .ok (.enter gf args) w) (f : Nat → List (BitVec 8)) (s : Nat) (hf : ∀ j, (f j).length = s) (hs1 : 1 ≤ s) (hs2 : s ≤ 64) (N : Nat) (hN1 : 1 ≤ N) (hN2 : N ≤ 65536)
    (hp : ∀ (j : Nat), j < 65536 → ∀ W, Below w.heap.size w W → Calls Tryd.prog gf (#[.int .i64 (j : Int)] ++ lb) W fun e w' => ∃ b, e = .returned (.slice (some ⟨b, 0, none⟩) s s) ∧ W.heap.size ≤ b ∧ RowV 5 w' b ((f j).map W8) ∧ Below W.heap.size W w') :
    Calls Tryd.prog 52 #[.int .i64 (N : Int), .func (.func gf) #[] lb] w fun e w' => ∃ v, e = .returned v ∧ w'.ownsRow w.heap.size 5 1 v N ((fillL f N).map W8) ∧ Below w.heap.size w w' := by
  have HP := Lib.hid hp
  have HF := Lib.hid hf
  have kN1 : (1 : Int) ≤ N := by omega
  have kN2 : (N : Int) ≤ 65536 := by omega
  clear hp hf
  go_enter Tryd.func52, Tryd.ntmps52
  go_wp2
  go_loopw [5, 6] (fun o i wr => ∃ (j l c : Nat) (A : Option Addr), i = .int .i64 (j : Int) ∧ o = .slice A l c ∧ l ≤ N + 64 ∧ j ≤ l ∧ Hid (l = s * j ∧ wr.ownsRow w.heap.size 5 1 (.slice A l c) l ((seqL f j).map W8)) ∧ Hid (Below w.heap.size w wr)) (fun o _ _ => match o with | .slice _ r _ => N + 64 - r | _ => 0)
  case atStart => exact ⟨0, 0, 0, none, rfl, rfl, by omega, by omega, Lib.hid ⟨rfl, rfl, .inl ⟨rfl, rfl⟩⟩, Lib.hid (Below.refl _ _)⟩
  case round =>
    obtain ⟨j, l, c, A, rfl, rfl, hl1, hjl, HO, HB⟩ := hrel
    have kl : (l : Int) ≤ 65600 := by omega
    have kj : (j : Int) ≤ 65600 := by omega
    by_cases hlt : l < N
    · have kI : (l : Int) < N := by omega
      have hpj := HP.out j (by omega) wr HB.out
      have HPJ := Lib.hid hpj
      clear hpj
      go_wp2_with fail
      refine HPJ.out.mono ?_
      rintro e w1 ⟨b, rfl, hb, hr, hb1⟩
      have hsl := hr.sl (by rw [List.length_map, HF.out]; omega)
      rw [List.length_map, HF.out] at hsl
      have hown := HO.out.2
      have hzw := HB.out.size
      have hown1 := own_keep hown (fun q hq => hb1.block q (hown.lt q hq).2)
      have HR := Lib.hid hsl
      have HO1 := Lib.hid hown1
      have HB1 := Lib.hid hb1
      have hz1 := hb1.size
      clear hsl hown hown1 hb1 hr
      go_wp2_with (at_builtin; refine wlv_append Tryd.elem8 rfl _ _ rfl w.heap.size _ l _ rfl HO1.out (some ⟨b, 0, none⟩) s s _ rfl (by intro h; cases h) _ HR.out (ones8 _) (by omega) (by omega) ?_; intro v' w2 hown2 hgr)
      obtain ⟨A2, c2, hv2, _, _, _⟩ := SlV.of_own hown2
      subst hv2
      have HO2 := Lib.hid hown2
      have hB2 : Below w.heap.size w w2 := (HB.out.trans (HB1.out.mono hzw)).grown hgr (by omega) (fun q hq => (HO1.out.lt q hq).1)
      have HB2 := Lib.hid hB2
      clear hown2 hgr hB2
      go_wp2
      go_roundw
      case rel =>
        refine ⟨j + 1, l + s, c2, A2, by go_num, rfl, by omega, by omega, Lib.hid ⟨by rw [HO.out.1, Nat.mul_succ], ?_⟩, HB2⟩
        have h := HO2.out
        rw [← List.map_append] at h
        exact h
      case measure => show N + 64 - (l + s) < N + 64 - l; omega
    · have kI : ¬ (l : Int) < N := by omega
      obtain ⟨A', c', hv, hsl, hlow, hz⟩ := SlV.of_own HO.out.2
      injection hv with e1 e2 e3
      subst e1 e3
      have hcap := hsl.cap
      have hmax := hsl.max
      have kc : (N : Int) ≤ c := by omega
      obtain ⟨b, off, _, rfl, hb, _, _⟩ := hsl.at_ (k := 0) (by omega)
      have hst := hsl.take (k := N) (by omega)
      rw [← List.map_take, fillL_eq f s HF.out hs1 N j (by rw [← HO.out.1]; omega)] at hst
      have hcl := clone_any wr wr.heap.size _ N c _ hst (Nat.le_refl _) (by omega)
      have HCL := Lib.hid hcl
      clear hcl hst hsl hlow hz hb
      go_wp2_with fail
      refine HCL.out.mono ?_
      rintro e w1 ⟨v, rfl, hown, hb1⟩
      have hzw := HB.out.size
      have HO1 := Lib.hid hown
      have HB1 := Lib.hid hb1
      clear hown hb1
      go_wp2
      go_ret
      refine ⟨v, rfl, ?_, HB.out.trans (HB1.out.mono hzw)⟩
      obtain ⟨h1, h2⟩ := HO1.out
      exact ⟨h1, h2.imp id (fun ⟨g, cap, cur, e, hb, r⟩ => ⟨g, cap, cur, e, by omega, r⟩)⟩
end Go.Proofs.YtejhfmjegmccjaaDoor

/- hashes: MGF1, whole. -/
set_option linter.unusedVariables false
set_option linter.unusedSimpArgs false
namespace Go.Proofs.YtejhfmjegmccjaaDoor
open Go.RowKit Go.Shelf

def mgfL (k : Int) (seed : List (BitVec 8)) (N : Nat) : List (BitVec 8) := fillL (fun i => sumL k (seed ++ counterL i)) N
theorem szN_ok {k : Int} (h : KindOk k) : 1 ≤ szN k ∧ szN k ≤ 64 := by have := szN_le h; omega
theorem mgfL_length {k : Int} (h : KindOk k) (seed : List (BitVec 8)) (N : Nat) : (mgfL k seed N).length = N := fillL_length _ (szN k) (fun _ => sumL_length _ _) (szN_ok h).1 N
set_option maxRecDepth 100000 in
set_option maxHeartbeats 1000000 in
theorem mgf_any (w : World) (k : Int) (hk : KindOk k) (hGS : StartsG w) (hGR : RootsG w) (B : Nat) (A : Option Addr) (n c : Nat) (seed : List (BitVec 8)) (hs : SlV w B A n c (seed.map W8)) (hz : A = none → c = 0) (hB : B ≤ w.heap.size) (hn : n + 512 ≤ 17592186044416) (N : Nat) (hN1 : 1 ≤ N) (hN2 : N ≤ 65536) :
    Calls Tryd.prog 28 #[.int .i64 k, .slice A n c, .int .i64 (N : Int)] w fun e w' => ∃ v, e = .returned v ∧ w'.ownsRow w.heap.size 5 1 v N ((mgfL k seed N).map W8) ∧ Below w.heap.size w w' := by
  obtain ⟨W1, e1, hB1, b1, s1⟩ := newBox w 3 (.int .i64 k)
  obtain ⟨W2, e2, hB2, b2, s2⟩ := newBox W1 22 (.slice A n c)
  obtain ⟨x1, hx1⟩ : ∃ b, w.heap.size = b := ⟨_, rfl⟩
  obtain ⟨x2, hx2⟩ : ∃ b, W1.heap.size = b := ⟨_, rfl⟩
  rw [hx1] at b1
  rw [hx2] at b2
  replace b1 := b1.later hB2
  have hB12 : Below w.heap.size w W2 := hB1.trans (hB2.mono hB1.size)
  have kN1 : (1 : Int) ≤ N := by omega
  have kN2 : (N : Int) ≤ 65536 := by omega
  have hv := valid_yes W2 k hk
  have hf := fill_any W2 53 #[.pointer (some ⟨x1, 0, none⟩), .pointer (some ⟨x2, 0, none⟩)] (enters_of Tryd.func53 (by kernel_rfl) rfl) (fun i => sumL k (seed ++ counterL i)) (szN k) (fun _ => sumL_length _ _) (szN_ok hk).1 (szN_ok hk).2 N hN1 hN2
    (fun j hj W hW => mgfPart_any W k hk ((hGS.later hB12).later hW) ((hGR.later hB12).later hW) x1 x2 B A n c seed (hs.below ((hB12.trans (hW.mono hB12.size)).mono hB)) hz (Nat.le_trans hB (Nat.le_trans hB12.size hW.size)) hn (b1.later hW) (b2.later hW) j (by omega))
  have q1 := b1.1
  have HF := Lib.hid hf
  have HV := Lib.hid hv
  have HB12 := Lib.hid hB12
  clear hf hv hB12 hB1 hB2 b1 b2 s1 s2 hGS hGR hs hz
  go_enter Tryd.func28, Tryd.ntmps28
  go_wp2_with fail
  refine HV.out.mono ?_
  rintro e w' ⟨rfl, rfl⟩
  go_wp2_with fail
  refine HF.out.mono ?_
  rintro e w3 ⟨v, rfl, hown, hb3⟩
  have hz2 := HB12.out.size
  have HO := Lib.hid hown
  have HB3 := Lib.hid hb3
  clear hown hb3
  go_wp2
  go_ret
  refine ⟨v, rfl, ?_, HB12.out.trans (HB3.out.mono hz2)⟩
  obtain ⟨h1, h2⟩ := HO.out
  exact ⟨h1, h2.imp id (fun ⟨g, cap, cur, e, hb, r⟩ => ⟨g, cap, cur, e, by omega, r⟩)⟩
set_option maxRecDepth 100000 in
set_option maxHeartbeats 1000000 in
theorem mgf_no (w : World) (k : Int) (A : Option Addr) (n c : Nat) (N : Int) (h : KindOk k → N < 1 ∨ 65536 < N) :
    Calls Tryd.prog 28 #[.int .i64 k, .slice A n c, .int .i64 N] w fun e w' => e = .returned (.slice none 0 0) ∧ Below w.heap.size w w' := by
  obtain ⟨W1, e1, hB1, b1, s1⟩ := newBox w 3 (.int .i64 k)
  obtain ⟨W2, e2, hB2, b2, s2⟩ := newBox W1 22 (.slice A n c)
  obtain ⟨x1, hx1⟩ : ∃ b, w.heap.size = b := ⟨_, rfl⟩
  obtain ⟨x2, hx2⟩ : ∃ b, W1.heap.size = b := ⟨_, rfl⟩
  rw [hx1] at b1
  replace b1 := b1.later hB2
  have hB12 : Below w.heap.size w W2 := hB1.trans (hB2.mono hB1.size)
  have q1 := b1.1
  have HB12 := Lib.hid hB12
  clear hB12 hB1 hB2 b1 b2 s1 s2
  by_cases hk : KindOk k
  · have hv := valid_yes W2 k hk
    have HV := Lib.hid hv
    clear hv
    have hN := h hk
    clear h
    by_cases h1 : N < 1
    · go_enter Tryd.func28, Tryd.ntmps28
      go_wp2_with fail
      refine HV.out.mono ?_
      rintro e w' ⟨rfl, rfl⟩
      go_wp2
      go_ret
      exact ⟨rfl, HB12.out⟩
    · have h2 : 65536 < N := by omega
      clear hN
      go_enter Tryd.func28, Tryd.ntmps28
      go_wp2_with fail
      refine HV.out.mono ?_
      rintro e w' ⟨rfl, rfl⟩
      go_wp2
      go_ret
      exact ⟨rfl, HB12.out⟩
  · have hv := valid_no W2 k hk
    have HV := Lib.hid hv
    clear hv h
    go_enter Tryd.func28, Tryd.ntmps28
    go_wp2_with fail
    refine HV.out.mono ?_
    rintro e w' ⟨rfl, rfl⟩
    go_wp2
    go_ret
    exact ⟨rfl, HB12.out⟩
end Go.Proofs.YtejhfmjegmccjaaDoor

/- hashes: PBKDF2, what is refused. -/
set_option linter.unusedVariables false
set_option linter.unusedSimpArgs false
namespace Go.Proofs.YtejhfmjegmccjaaDoor
open Go.RowKit Go.Shelf

set_option maxRecDepth 100000 in
set_option maxHeartbeats 1000000 in
theorem pbk_no (w : World) (k : Int) (v1 : Value) (A : Option Addr) (n c : Nat) (R N : Int) (h : KindOk k → R < 1 ∨ 65536 < R ∨ N < 1 ∨ 65536 < N) :
    Calls Tryd.prog 30 #[.int .i64 k, v1, .slice A n c, .int .i64 R, .int .i64 N] w fun e w' => e = .returned (.slice none 0 0) ∧ Below w.heap.size w w' := by
  obtain ⟨W1, e1, hB1, b1, s1⟩ := newBox w 22 (.slice A n c)
  obtain ⟨W2, e2, hB2, b2, s2⟩ := newBox W1 3 (.int .i64 R)
  obtain ⟨x2, hx2⟩ : ∃ b, W1.heap.size = b := ⟨_, rfl⟩
  rw [hx2] at b2
  have hB12 : Below w.heap.size w W2 := hB1.trans (hB2.mono hB1.size)
  have q2 := b2.1
  have HB12 := Lib.hid hB12
  clear hB12 hB1 hB2 b1 b2 s1 s2
  by_cases hk : KindOk k
  · have hv := valid_yes W2 k hk
    have HV := Lib.hid hv
    clear hv
    have hN := h hk
    clear h
    by_cases h1 : R < 1
    · clear hN
      go_enter Tryd.func30, Tryd.ntmps30
      go_wp2_with fail
      refine HV.out.mono ?_
      rintro e w' ⟨rfl, rfl⟩
      go_wp2
      go_ret
      exact ⟨rfl, HB12.out⟩
    · by_cases h2 : 65536 < R
      · clear hN
        go_enter Tryd.func30, Tryd.ntmps30
        go_wp2_with fail
        refine HV.out.mono ?_
        rintro e w' ⟨rfl, rfl⟩
        go_wp2
        go_ret
        exact ⟨rfl, HB12.out⟩
      · by_cases h3 : N < 1
        · clear hN
          go_enter Tryd.func30, Tryd.ntmps30
          go_wp2_with fail
          refine HV.out.mono ?_
          rintro e w' ⟨rfl, rfl⟩
          go_wp2
          go_ret
          exact ⟨rfl, HB12.out⟩
        · have h4 : 65536 < N := by omega
          clear hN
          go_enter Tryd.func30, Tryd.ntmps30
          go_wp2_with fail
          refine HV.out.mono ?_
          rintro e w' ⟨rfl, rfl⟩
          go_wp2
          go_ret
          exact ⟨rfl, HB12.out⟩
  · have hv := valid_no W2 k hk
    have HV := Lib.hid hv
    clear hv h
    go_enter Tryd.func30, Tryd.ntmps30
    go_wp2_with fail
    refine HV.out.mono ?_
    rintro e w' ⟨rfl, rfl⟩
    go_wp2
    go_ret
    exact ⟨rfl, HB12.out⟩
set_option maxRecDepth 100000 in
set_option maxHeartbeats 1000000 in
theorem pbk_much (w : World) (k : Int) (hk : KindOk k) (v1 : Value) (A : Option Addr) (n c : Nat) (R N : Nat) (hR1 : 1 ≤ R) (hR2 : R ≤ 65536) (hN1 : 1 ≤ N) (hN2 : N ≤ 65536) (h : 65536 < R * ((N + szN k - 1) / szN k)) :
    Calls Tryd.prog 30 #[.int .i64 k, v1, .slice A n c, .int .i64 (R : Int), .int .i64 (N : Int)] w fun e w' => e = .returned (.slice none 0 0) ∧ Below w.heap.size w w' := by
  obtain ⟨W1, e1, hB1, b1, s1⟩ := newBox w 22 (.slice A n c)
  obtain ⟨W2, e2, hB2, b2, s2⟩ := newBox W1 3 (.int .i64 (R : Int))
  obtain ⟨x2, hx2⟩ : ∃ b, W1.heap.size = b := ⟨_, rfl⟩
  rw [hx2] at b2
  have hB12 : Below w.heap.size w W2 := hB1.trans (hB2.mono hB1.size)
  have q2 := b2.1
  have HB12 := Lib.hid hB12
  have hv := valid_yes W2 k hk
  have hsz := size_any W2 k
  rw [szN_eq hk] at hsz
  obtain ⟨hs1, hs2⟩ := szN_ok hk
  obtain ⟨s, hs⟩ : ∃ s, szN k = s := ⟨_, rfl⟩
  rw [hs] at hsz h hs1 hs2
  obtain ⟨q, hq⟩ : ∃ q, (N + s - 1) / s = q := ⟨_, rfl⟩
  rw [hq] at h
  have hqI : ((N : Int) + (s : Int) - 1) / (s : Int) = (q : Int) := by rw [← hq, Int.natCast_ediv]; congr 1; omega
  have hqb : q ≤ 65600 := by rw [← hq]; exact Nat.le_trans (Nat.div_le_self _ _) (by omega)
  obtain ⟨p, hp⟩ : ∃ p, R * q = p := ⟨_, rfl⟩
  have hpI : (R : Int) * (q : Int) = (p : Int) := by rw [← hp]; simp
  rw [hp] at h
  have hpb : p ≤ 65536 * 65600 := by rw [← hp]; exact Nat.mul_le_mul hR2 hqb
  have kR1 : (1 : Int) ≤ R := by omega
  have kR2 : (R : Int) ≤ 65536 := by omega
  have kN1 : (1 : Int) ≤ N := by omega
  have kN2 : (N : Int) ≤ 65536 := by omega
  have ks1 : (1 : Int) ≤ s := by omega
  have ks2 : (s : Int) ≤ 64 := by omega
  have kq2 : (q : Int) ≤ 65600 := by omega
  have kp : (65536 : Int) < p := by omega
  have kpb : (p : Int) ≤ 4299161600 := by omega
  have HV := Lib.hid hv
  have HSZ := Lib.hid hsz
  clear hB12 hB1 hB2 b1 b2 s1 s2 hv hsz hq hp hs h hpb hqb
  go_enter Tryd.func30, Tryd.ntmps30
  go_wp2_with fail
  refine HV.out.mono ?_
  rintro e w' ⟨rfl, rfl⟩
  go_wp2_with fail
  refine HSZ.out.mono ?_
  rintro e w' ⟨rfl, rfl⟩
  go_wp2
  go_quiet (fail)
  go_wp2
  go_ret
  exact ⟨rfl, below_drewN HB12.out _⟩
end Go.Proofs.YtejhfmjegmccjaaDoor

/- HashBig, walked. -/
set_option linter.unusedVariables false
set_option linter.unusedSimpArgs false
namespace Go.Proofs.YtejhfmjegmccjaaDoor
open Go.RowKit Go.Shelf

set_option maxRecDepth 100000 in
set_option maxHeartbeats 2000000 in
theorem hbig_walk (w : World) (hGS : StartsG w) (hGR : RootsG w) :
    Calls Tryd.prog 9 #[] w fun e w' => e = .returned (.bool true) ∧ Below w.heap.size w w' := by
  have hk3 : KindOk 3 := by unfold KindOk; omega
  have hk1 : KindOk 1 := by unfold KindOk; omega
  have m1 := mgf_no w 3 none 0 0 65537 (fun _ => by omega)
  have M1 := Lib.hid m1
  have HG := Lib.hid (⟨hGS, hGR⟩ : StartsG w ∧ RootsG w)
  have HK := Lib.hid (⟨hk3, hk1⟩ : KindOk 3 ∧ KindOk 1)
  clear m1 hGS hGR hk3 hk1
  go_enter Tryd.func9, Tryd.ntmps9
  go_wp2_with fail
  refine M1.out.mono ?_
  rintro e w1 ⟨rfl, hb1⟩
  have m2 := pbk_no w1 3 (.slice none 0 0) none 0 0 65537 1 (fun _ => by omega)
  have M2 := Lib.hid m2
  have HB1 := Lib.hid hb1
  clear m2 hb1 M1
  go_wp2_with fail
  refine M2.out.mono ?_
  rintro e w2 ⟨rfl, hb2⟩
  have m3 := pbk_much w2 3 HK.out.1 (.slice none 0 0) none 0 0 2000 1056 (by decide) (by decide) (by decide) (by decide) (by decide)
  have M3 := Lib.hid m3
  have HB2 := Lib.hid (HB1.out.trans (hb2.mono HB1.out.size))
  clear m3 hb2 M2 HB1
  go_wp2_with fail
  refine M3.out.mono ?_
  rintro e w3 ⟨rfl, hb3⟩
  have HB3 := Lib.hid (HB2.out.trans (hb3.mono HB2.out.size))
  have kc := fun (w : World) (C : Array Value) (n c : Nat) => convConst w C n c
  obtain ⟨W4, e4, b4, z4⟩ := newFrozen w3 #[.int .u8 97] 1 2
  have hs4 : SlV W4 (w3.heap.size + 1) (some ⟨w3.heap.size, 0, none⟩) 1 1 ([0x61].map W8) := by rw [← e4]; exact constSl w3 [0x61] (by decide) 1 2
  have hB4 : Below w.heap.size w W4 := HB3.out.trans (b4.mono HB3.out.size)
  have m4 := mgf_any W4 1 HK.out.2 (HG.out.1.later hB4) (HG.out.2.later hB4) _ _ _ _ _ hs4 (by intro h; cases h) (by omega) (by decide) 65536 (by decide) (by decide)
  have M4 := Lib.hid m4
  have HB4 := Lib.hid hB4
  clear m4 hb3 M3 HB2 b4 hs4 hB4 z4 HB3
  go_wp2_with fail
  refine M4.out.mono ?_
  rintro e w5 ⟨v, rfl, hown, hb5⟩
  obtain ⟨A5, c5, rfl, _, _, _⟩ := SlV.of_own hown
  have hB5 := HB4.out.trans (hb5.mono HB4.out.size)
  have m5 := begun3_any w5 (HG.out.1.later hB5) (HG.out.2.later hB5)
  have M5 := Lib.hid m5
  have HB5 := Lib.hid hB5
  clear m5 hown hb5 hB5 M4 HB4 e4 kc
  go_wp2_with fail
  refine M5.out.mono ?_
  rintro e w6 ⟨rfl, hb6⟩
  have HB6 := Lib.hid (HB5.out.trans (hb6.mono HB5.out.size))
  clear hb6
  go_wp2
  go_ret
  exact ⟨rfl, HB6.out⟩
end Go.Proofs.YtejhfmjegmccjaaDoor
