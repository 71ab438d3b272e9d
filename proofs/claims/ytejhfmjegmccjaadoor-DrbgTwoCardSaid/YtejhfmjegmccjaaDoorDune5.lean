/- Parts of one proof, joined: Hw, Hx, Str, Hy, Sh, Box, Da, Db, RangeM, Hz, MidIn, Dc. -/
import Derived.Test.YtejhfmjegmccjaaDoorDune4
import Derived.Test.YtejhfmjegmccjaaDoorDune3
import Derived.Laws.IdiomStrings
import Derived.Laws.BytesString
import Derived.Lib.SlBytesConst
import Derived.OpenShut
import Derived.Test.YtejhfmjegmccjaaDoorDune1
import Derived.RangeFuncBox
import Derived.Test.YtejhfmjegmccjaaDoorRows
import Derived.OwnWalkIn
import Derived.Deep.MidRow
import Derived.Deep.LoopGhost

/- hashes: withKey. -/
set_option linter.unusedVariables false
set_option linter.unusedSimpArgs false
namespace Go.Proofs.YtejhfmjegmccjaaDoor
open Go.RowKit Go.Shelf

theorem onlyV_setRow (w : World) (g : Nat) (cs : Array Value) : OnlyV w (w.setRow g cs) g := ⟨rfl, rfl, rfl, by simp [World.setRow], fun k _ hn => setRow_other w g k cs (fun e => hn (by rw [e]))⟩
section
variable {P : Program} {w : World} {ops : Array Oper} {rest : List Oper} {o : Oper} {a : Act} {Q : Exit → Act → World → Prop}
/-- a whole block is written, and no other turns -/
theorem wlv_storeO (hgd : o.guard = none) (ty n : Nat) (hi : (P.info? ty).map (·.size) = some n) (x y : Operand) (ho : o.op = .store ty x y) (g : Nat) (vs' : List Value) (hx : a.eval x = .pointer (some ⟨g, 0, none⟩)) (hy : a.eval y = .agg vs'.toArray) (t : TypeId) (vs : List Value) (hr : RowV t w g vs) (hl : vs.length = n) (hl' : vs'.length = n) (h1 : Ones vs')
    (h : ∀ w', RowV t w' g vs' → OnlyV w w' g → wpList P ops Q rest (a.put o.dst undef) w') : wpList P ops Q (o :: rest) a w := by
  refine wpList_store_row hgd ty x y ho g vs'.toArray hx hy t vs.toArray hr (by rw [hi, ← hl']; simp) (by simp; omega) (by simp; exact fun v hv => h1 v hv) ?_
  exact h _ (setRow_heap w g _ vs'.toArray t _ hr) (onlyV_setRow w g _)
end
set_option maxRecDepth 100000 in
set_option maxHeartbeats 2000000 in
theorem withKey_short (w : World) (k : Int) (hk : KindOk k) (hGS : StartsG w) (hGR : RootsG w) (B : Nat) (A : Option Addr) (n c : Nat) (key : List (BitVec 8)) (hs : SlV w B A n c (key.map W8)) (hz : A = none → c = 0) (hB : B ≤ w.heap.size) (hn : n + 256 ≤ 17592186044416) (hc : key.length ≤ blN k) :
    Calls Tryd.prog 50 #[.int .i64 k, .slice A n c] w fun e w' => ∃ v, e = .returned v ∧ KeyedV w' w.heap.size v k key ∧ Below w.heap.size w w' := by
  have hl : n = key.length := by simpa using hs.len
  obtain ⟨W1, e1, r1, b1, z1⟩ := newV w 76 [.pointer none, .pointer none] #[.pointer none, .pointer none] rfl
  obtain ⟨b4, hb4⟩ : ∃ g, w.heap.size = g := ⟨_, rfl⟩
  rw [hb4] at r1 b1
  have hbk : ∀ w, Calls Tryd.prog 20 #[.int .i64 k] w fun e w' => e = .returned (.int .i64 (blN k : Int)) ∧ w = w' := fun w => by
    have h := block_any w k
    rw [blN_eq hk] at h
    exact h
  obtain ⟨bl, hbl⟩ : ∃ b, blN k = b := ⟨_, rfl⟩
  rw [hbl] at hbk
  have HBL := Lib.hid hbl
  have HBK := Lib.hid hbk
  have HB4 := Lib.hid hb4
  have HR1 := Lib.hid r1
  have HB1 := Lib.hid b1
  have HZ1 := Lib.hid z1
  obtain ⟨WA, hWA⟩ : ∃ W, W1 = W := ⟨_, rfl⟩
  rw [hWA] at e1
  have hBw := HB1.out
  rw [hb4] at hB
  obtain ⟨A1, hA1⟩ : ∃ x, A = x := ⟨_, rfl⟩
  obtain ⟨m1, hm1E⟩ : ∃ x, n = x := ⟨_, rfl⟩
  obtain ⟨c1, hc1⟩ : ∃ x, c = x := ⟨_, rfl⟩
  obtain ⟨K, hK⟩ : ∃ x, key = x := ⟨_, rfl⟩
  subst hA1 hm1E hc1 hK hWA
  have hWA : Below w.heap.size w W1 := by rw [hb4]; exact b1
  have hsA := hs.below (hWA.mono (by rw [hb4]; exact hB))
  have HSA := Lib.hid hsA
  have HGA := Lib.hid (⟨hGS.later hWA, hGR.later hWA⟩ : StartsG W1 ∧ RootsG W1)
  have HWA := Lib.hid hWA
  have HR4 := Lib.hid r1
  have hb4s := r1.lt
  have hBgi' : B ≤ W1.heap.size := by omega
  have hm1 : n ≤ bl := by omega
  have HKEY := Lib.hid (show key0 k key = key by rw [key0, if_neg (by omega)])
  have hcmp : (n : Int) ≤ (bl : Int) := by omega
  clear hs hsA hWA hBw r1 b1 z1 hbk hl hz hn hGS hGR
  go_enter Tryd.func50, Tryd.ntmps50
  go_wp2_with fail
  refine (HBK.out _).mono ?_
  rintro e w' ⟨rfl, rfl⟩

  -- two new hashes
  have hnw1 := new_is W1 k hk HGA.out.1
  obtain ⟨gi, hgi⟩ : ∃ g, W1.heap.size = g := ⟨_, rfl⟩
  rw [hgi] at hnw1
  have hBgi : B ≤ gi := by omega
  have hb4i : b4 < gi := by omega
  have hb4w : w.heap.size = b4 := HB4.out
  have HB4W := Lib.hid hb4w
  clear hb4w
  have HNW1 := Lib.hid hnw1
  have HGI := Lib.hid hgi
  clear hnw1
  go_wp2_with fail
  refine HNW1.out.mono ?_
  rintro e w2 ⟨rfl, hi2, hb2⟩
  have hb2' : Below W1.heap.size W1 w2 := by rw [HGI.out]; exact hb2
  have hG2 : StartsG w2 ∧ RootsG w2 := ⟨HGA.out.1.later hb2', HGA.out.2.later hb2'⟩
  have hnw2 := new_is w2 k hk hG2.1
  obtain ⟨go, hgo⟩ : ∃ g, w2.heap.size = g := ⟨_, rfl⟩
  have hio : gi < go := by have := hi2.lt; omega
  rw [hgo] at hnw2
  have HNW2 := Lib.hid hnw2
  have HGO := Lib.hid hgo
  have HI2 := Lib.hid hi2
  have HB2 := Lib.hid hb2
  have HG2 := Lib.hid hG2
  clear hnw2 hi2 hb2 hb2' hG2 hgi
  go_wp2_with fail
  refine HNW2.out.mono ?_
  rintro e w3 ⟨rfl, hi3, hb3⟩
  obtain ⟨b5, hb5⟩ : ∃ b, w3.heap.size = b := ⟨_, rfl⟩
  obtain ⟨W4, e4, r4, c4, z4⟩ := newV w3 76 [.pointer none, .pointer none] #[.pointer none, .pointer none] rfl
  rw [hb5] at r4 c4
  have h1o : Ones [Value.pointer (some ⟨gi, 0, none⟩), Value.pointer (some ⟨go, 0, none⟩)] := by
    intro v hv
    simp only [List.mem_cons, List.not_mem_nil, or_false] at hv
    rcases hv with rfl | rfl <;> rfl
  have hgo5 : go < b5 := by have := hi3.lt; omega
  have hb3' : Below w2.heap.size w2 w3 := by rw [HGO.out]; exact hb3
  have hb23 : Below gi w2 w3 := hb3.mono (by omega)
  have hbA3 : Below gi W1 w3 := HB2.out.trans hb23
  have hi3' : HashIs w3 gi k [] := HI2.out.later hb3'
  have hG3 : RootsG w3 := HG2.out.2.later hb3'
  have HI3 := Lib.hid hi3
  have HI3' := Lib.hid hi3'
  have HBA3 := Lib.hid hbA3
  have HG3 := Lib.hid hG3
  clear hi3 hb3 hb3' hb23 hbA3 hi3' hG3 hgo
  go_wp2_with (refine wlv_storeO rfl 76 2 Tryd.keyed2 _ _ rfl b5 [.pointer (some ⟨gi, 0, none⟩), .pointer (some ⟨go, 0, none⟩)] rfl rfl _ _ r4 rfl rfl h1o ?_; intro w5 r5 c5)
  have hc5 := c4.trans (c5.below (Nat.le_refl _) (by omega))
  have hc5' : Below w3.heap.size w3 w5 := by rw [hb5]; exact hc5
  have hA5 : Below gi W1 w5 := HBA3.out.trans (hc5.mono (by omega))
  have hi5 := HI3'.out.later hc5'
  have ho5 := HI3.out.later hc5'
  have hG5 := HG3.out.later hc5'
  have hs5 := HSA.out.below (hA5.mono hBgi)
  have hgi1 : 1 < gi := by have := HGA.out.2.1; have := HGI.out; omega
  obtain ⟨hm5, hw5⟩ := keyed_calls w5 gi k hk bl HBL.out _ A n c key hs5 hBgi hm1 0x36 hi5 hG5 hgi1
  have ci5 : w5.cell? ⟨b5, 0, none⟩ = some (.pointer (some ⟨gi, 0, none⟩)) := r5.at_ rfl
  have co5 : w5.cell? ⟨b5, 1, none⟩ = some (.pointer (some ⟨go, 0, none⟩)) := r5.at_ rfl
  have hl5 := r5.lt
  have HM5 := Lib.hid hm5
  have HW5 := Lib.hid hw5
  have HO5 := Lib.hid ho5
  have HG5 := Lib.hid hG5
  have HA5 := Lib.hid hA5
  have HR5 := Lib.hid r5
  have hs54 : (Value.int .u8 54) = W8 0x36 := rfl
  have HS54 := Lib.hid hs54
  clear hm5 hw5 ho5 hG5 hA5 hi5 hs5 hc5 hc5' r5 c5 r4 c4 e4 z4 hb5 h1o hs54
  go_region_held3 (fun w' => w'.cell? ⟨b5, 0, none⟩ = some (.pointer (some ⟨gi, 0, none⟩)) ∧ w'.cell? ⟨b5, 1, none⟩ = some (.pointer (some ⟨go, 0, none⟩))) (go_keep)
    (first | (go_at_call 20; refine (HBK.out _).mono ?_; rintro e w' ⟨rfl, rfl⟩) | (go_at_call 81; refine (HM5.out _ ((Below.refl _ w5).drew)).mono ?_; rintro e w6 ⟨rfl, hr6, hb6⟩; have ci6 := (hb6.cell (p := ⟨b5, 0, none⟩) hl5).trans ci5; have co6 := (hb6.cell (p := ⟨b5, 1, none⟩) hl5).trans co5; have hl6 : b5 < w6.heap.size := Nat.lt_of_lt_of_le hl5 hb6.size) | (go_at_call 25; refine (HW5.out _ _ hb6 hr6).mono ?_; rintro e w7 ⟨rfl, hi7, ho7⟩; have ci7 := (ho7.cell (p := ⟨b5, 0, none⟩) hl5 (by show b5 ≠ gi; omega)).trans ci5; have co7 := (ho7.cell (p := ⟨b5, 1, none⟩) hl5 (by show b5 ≠ gi; omega)).trans co5))
  have hG7 : RootsG w7 := HG5.out.only ho7 hgi1
  have ho7' := HO5.out.only ho7 (by omega)
  have hA7 : Below gi W1 w7 := HA5.out.trans (ho7.below (Nat.le_refl _) (by omega))
  have hs7 := HSA.out.below (hA7.mono hBgi)
  have hl7 : b5 < w7.heap.size := Nat.lt_of_lt_of_le hl5 ho7.size
  obtain ⟨hm7, hw7⟩ := keyed_calls w7 go k hk bl HBL.out _ A n c key hs7 (by omega) hm1 0x5c ho7' hG7 (by omega)
  have HM7 := Lib.hid hm7
  have HW7 := Lib.hid hw7
  have HI7 := Lib.hid hi7
  have HA7 := Lib.hid hA7
  have HR7 := Lib.hid (HR5.out.only ho7 (by omega))
  clear hm7 hw7 ho7' hG7 hA7 hs7 hi7 ho7 hb6 hr6 ci6 co6 hl6
  go_wp2_with fail
  go_region_held3 (fun w' => w'.cell? ⟨b5, 0, none⟩ = some (.pointer (some ⟨gi, 0, none⟩)) ∧ w'.cell? ⟨b5, 1, none⟩ = some (.pointer (some ⟨go, 0, none⟩))) (go_keep)
    (first | (go_at_call 20; refine (HBK.out _).mono ?_; rintro e w' ⟨rfl, rfl⟩) | (go_at_call 81; refine (HM7.out _ ((Below.refl _ w7).drew)).mono ?_; rintro e w8 ⟨rfl, hr8, hb8⟩; have ci8 := (hb8.cell (p := ⟨b5, 0, none⟩) hl7).trans ci7; have co8 := (hb8.cell (p := ⟨b5, 1, none⟩) hl7).trans co7) | (go_at_call 25; refine (HW7.out _ _ hb8 hr8).mono ?_; rintro e w9 ⟨rfl, ho9, hO9⟩; have ci9 := (hO9.cell (p := ⟨b5, 0, none⟩) hl7 (by show b5 ≠ go; omega)).trans ci7; have co9 := (hO9.cell (p := ⟨b5, 1, none⟩) hl7 (by show b5 ≠ go; omega)).trans co7))
  have hi9 := HI7.out.only hO9 (by omega)
  have hA9 : Below gi W1 w9 := HA7.out.trans (hO9.below (by omega) (by omega))
  have hr9 := HR7.out.only hO9 (by omega)
  have hR9 : RowV 76 w9 b4 [.pointer none, .pointer none] := HR4.out.below hA9 hb4i
  have h1o : Ones [Value.pointer (some ⟨gi, 0, none⟩), Value.pointer (some ⟨go, 0, none⟩)] := by
    intro v hv
    simp only [List.mem_cons, List.not_mem_nil, or_false] at hv
    rcases hv with rfl | rfl <;> rfl
  have HI9 := Lib.hid hi9
  have HO9 := Lib.hid ho9
  have HA9 := Lib.hid hA9
  clear hi9 ho9 hA9 hO9 hb8 hr8 ci8 co8 ci7 co7 ci9 co9
  go_wp2_with (first | refine wpList_load_row rfl 76 _ rfl b5 rfl 76 #[.pointer (some ⟨gi, 0, none⟩), .pointer (some ⟨go, 0, none⟩)] (0, 0) _ hr9 Tryd.underlying76 rfl Tryd.keyed2 ?_ | (refine wlv_storeO rfl 76 2 Tryd.keyed2 _ _ rfl b4 [.pointer (some ⟨gi, 0, none⟩), .pointer (some ⟨go, 0, none⟩)] rfl rfl _ _ hR9 rfl rfl h1o ?_; intro w10 r10 c10))
  refine ⟨rfl, _, results_cell_row rfl _ _ b4 76 #[.pointer (some ⟨gi, 0, none⟩), .pointer (some ⟨go, 0, none⟩)] (0, 0) _ rfl r10 Tryd.underlying76 rfl Tryd.keyed2, _, rfl, ?_, ?_⟩
  · refine ⟨gi, go, rfl, ?_, hio, ?_, ?_⟩
    · have := HB4W.out; omega
    · rw [HBL.out, HKEY.out]; exact HI9.out.only c10 (by omega)
    · rw [HBL.out, HKEY.out]; exact HO9.out.only c10 (by omega)
  · exact (HWA.out.trans (HA9.out.mono (by have := HB4W.out; omega))).trans (c10.below (by have := HB4W.out; omega) (by have := HA9.out.size; have := HWA.out.size; omega))
set_option maxRecDepth 100000 in
set_option maxHeartbeats 2000000 in
theorem withKey_long (w : World) (k : Int) (hk : KindOk k) (hGS : StartsG w) (hGR : RootsG w) (B : Nat) (A : Option Addr) (n c : Nat) (key : List (BitVec 8)) (hs : SlV w B A n c (key.map W8)) (hz : A = none → c = 0) (hB : B ≤ w.heap.size) (hn : n + 256 ≤ 17592186044416) (hc : blN k < key.length) :
    Calls Tryd.prog 50 #[.int .i64 k, .slice A n c] w fun e w' => ∃ v, e = .returned v ∧ KeyedV w' w.heap.size v k key ∧ Below w.heap.size w w' := by
  have hl : n = key.length := by simpa using hs.len
  obtain ⟨W1, e1, r1, b1, z1⟩ := newV w 76 [.pointer none, .pointer none] #[.pointer none, .pointer none] rfl
  obtain ⟨b4, hb4⟩ : ∃ g, w.heap.size = g := ⟨_, rfl⟩
  rw [hb4] at r1 b1
  have hbk : ∀ w, Calls Tryd.prog 20 #[.int .i64 k] w fun e w' => e = .returned (.int .i64 (blN k : Int)) ∧ w = w' := fun w => by
    have h := block_any w k
    rw [blN_eq hk] at h
    exact h
  obtain ⟨bl, hbl⟩ : ∃ b, blN k = b := ⟨_, rfl⟩
  rw [hbl] at hbk
  have HBL := Lib.hid hbl
  have HBK := Lib.hid hbk
  have HB4 := Lib.hid hb4
  have HR1 := Lib.hid r1
  have HB1 := Lib.hid b1
  have HZ1 := Lib.hid z1
  obtain ⟨W2, e2, r2, b2, z2⟩ := newV W1 22 [.slice A n c] #[.slice A n c] rfl
  obtain ⟨p2, hp2⟩ : ∃ p, W1.heap.size = p := ⟨_, rfl⟩
  rw [hp2] at r2 b2
  have h01 : Below w.heap.size w W1 := by rw [hb4]; exact b1
  have h02 : Below w.heap.size w W2 := h01.trans (b2.mono (by have := h01.size; omega))
  have hs2 := hs.below (h02.mono hB)
  have hpv : PartsV W2 W2.heap.size (some ⟨p2, 0, none⟩) 1 1 [key] := ⟨[.slice A n c], r2.sl (by simp), rfl, fun i v ps hv hp => by
    cases i with
    | zero => cases hv; cases hp; exact ⟨A, n, c, rfl, hs2.more (by have := h02.size; omega), hz⟩
    | succ i => simp at hv⟩
  have hof := hof_any W2 k hk (hGS.later h02) (hGR.later h02) W2.heap.size _ _ _ _ hpv (Nat.le_refl _) (by decide) (by simp; omega)
  rw [List.flatten_singleton] at hof
  have HOF := Lib.hid hof
  have H02 := Lib.hid h02
  have H12 := Lib.hid (show Below W1.heap.size W1 W2 by rw [hp2]; exact b2)
  have HR1' := Lib.hid r1
  have HGSR := Lib.hid (⟨hGS, hGR⟩ : StartsG w ∧ RootsG w)
  have HKEY := Lib.hid (show key0 k key = sumL k key by rw [key0, if_pos (by omega)])
  have hcmp : (bl : Int) < (n : Int) := by omega
  have hszb := key0_le hk key
  rw [HKEY.out, sumL_length, hbl] at hszb
  have hb4s := r1.lt
  clear hs hs2 hof h01 h02 r1 b1 z1 b2 r2 z2 hbk hl hz hn hGS hGR hpv hbl
  go_enter Tryd.func50, Tryd.ntmps50
  go_wp2_with fail
  refine (HBK.out _).mono ?_
  rintro e w' ⟨rfl, rfl⟩
  go_wp2_with fail
  refine HOF.out.mono ?_
  rintro e wA ⟨bA, rfl, hbA, hrA, hb2A⟩
  have hWA : Below w.heap.size w wA := H02.out.trans (hb2A.mono H02.out.size)
  have hsA := hrA.sl (by rw [List.length_map, sumL_length]; have := (szN_le hk).2.2; omega)
  rw [List.length_map, sumL_length] at hsA
  obtain ⟨sz, hszE⟩ : ∃ s, szN k = s := ⟨_, rfl⟩
  rw [hszE] at hsA hszb
  have HSZE := Lib.hid hszE
  have HSA := Lib.hid hsA
  have HGA := Lib.hid (⟨HGSR.out.1.later hWA, HGSR.out.2.later hWA⟩ : StartsG wA ∧ RootsG wA)
  have HWA := Lib.hid hWA
  have hW1A : Below W1.heap.size W1 wA := H12.out.trans (hb2A.mono H12.out.size)
  have HR4 := Lib.hid (HR1'.out.later hW1A)
  have hb4A : b4 < wA.heap.size := Nat.lt_of_lt_of_le hb4s hW1A.size
  have hBgi' : wA.heap.size ≤ wA.heap.size := Nat.le_refl _
  have hm1 : sz ≤ bl := hszb
  clear hsA hWA hW1A hrA hb2A hbA e2 hp2

  -- two new hashes
  have hnw1 := new_is wA k hk HGA.out.1
  obtain ⟨gi, hgi⟩ : ∃ g, wA.heap.size = g := ⟨_, rfl⟩
  rw [hgi] at hnw1
  have hBgi : wA.heap.size ≤ gi := by omega
  have hb4i : b4 < gi := by omega
  have hb4w : w.heap.size = b4 := HB4.out
  have HB4W := Lib.hid hb4w
  clear hb4w
  have HNW1 := Lib.hid hnw1
  have HGI := Lib.hid hgi
  clear hnw1
  go_wp2_with fail
  refine HNW1.out.mono ?_
  rintro e w2 ⟨rfl, hi2, hb2⟩
  have hb2' : Below wA.heap.size wA w2 := by rw [HGI.out]; exact hb2
  have hG2 : StartsG w2 ∧ RootsG w2 := ⟨HGA.out.1.later hb2', HGA.out.2.later hb2'⟩
  have hnw2 := new_is w2 k hk hG2.1
  obtain ⟨go, hgo⟩ : ∃ g, w2.heap.size = g := ⟨_, rfl⟩
  have hio : gi < go := by have := hi2.lt; omega
  rw [hgo] at hnw2
  have HNW2 := Lib.hid hnw2
  have HGO := Lib.hid hgo
  have HI2 := Lib.hid hi2
  have HB2 := Lib.hid hb2
  have HG2 := Lib.hid hG2
  clear hnw2 hi2 hb2 hb2' hG2 hgi
  go_wp2_with fail
  refine HNW2.out.mono ?_
  rintro e w3 ⟨rfl, hi3, hb3⟩
  obtain ⟨b5, hb5⟩ : ∃ b, w3.heap.size = b := ⟨_, rfl⟩
  obtain ⟨W4, e4, r4, c4, z4⟩ := newV w3 76 [.pointer none, .pointer none] #[.pointer none, .pointer none] rfl
  rw [hb5] at r4 c4
  have h1o : Ones [Value.pointer (some ⟨gi, 0, none⟩), Value.pointer (some ⟨go, 0, none⟩)] := by
    intro v hv
    simp only [List.mem_cons, List.not_mem_nil, or_false] at hv
    rcases hv with rfl | rfl <;> rfl
  have hgo5 : go < b5 := by have := hi3.lt; omega
  have hb3' : Below w2.heap.size w2 w3 := by rw [HGO.out]; exact hb3
  have hb23 : Below gi w2 w3 := hb3.mono (by omega)
  have hbA3 : Below gi wA w3 := HB2.out.trans hb23
  have hi3' : HashIs w3 gi k [] := HI2.out.later hb3'
  have hG3 : RootsG w3 := HG2.out.2.later hb3'
  have HI3 := Lib.hid hi3
  have HI3' := Lib.hid hi3'
  have HBA3 := Lib.hid hbA3
  have HG3 := Lib.hid hG3
  clear hi3 hb3 hb3' hb23 hbA3 hi3' hG3 hgo
  go_wp2_with (refine wlv_storeO rfl 76 2 Tryd.keyed2 _ _ rfl b5 [.pointer (some ⟨gi, 0, none⟩), .pointer (some ⟨go, 0, none⟩)] rfl rfl _ _ r4 rfl rfl h1o ?_; intro w5 r5 c5)
  have hc5 := c4.trans (c5.below (Nat.le_refl _) (by omega))
  have hc5' : Below w3.heap.size w3 w5 := by rw [hb5]; exact hc5
  have hA5 : Below gi wA w5 := HBA3.out.trans (hc5.mono (by omega))
  have hi5 := HI3'.out.later hc5'
  have ho5 := HI3.out.later hc5'
  have hG5 := HG3.out.later hc5'
  have hs5 := HSA.out.below (hA5.mono hBgi)
  have hgi1 : 1 < gi := by have := HGA.out.2.1; have := HGI.out; omega
  obtain ⟨hm5, hw5⟩ := keyed_calls w5 gi k hk bl HBL.out _ (some ⟨bA, 0, none⟩) sz sz (sumL k key) hs5 hBgi hm1 0x36 hi5 hG5 hgi1
  have ci5 : w5.cell? ⟨b5, 0, none⟩ = some (.pointer (some ⟨gi, 0, none⟩)) := r5.at_ rfl
  have co5 : w5.cell? ⟨b5, 1, none⟩ = some (.pointer (some ⟨go, 0, none⟩)) := r5.at_ rfl
  have hl5 := r5.lt
  have HM5 := Lib.hid hm5
  have HW5 := Lib.hid hw5
  have HO5 := Lib.hid ho5
  have HG5 := Lib.hid hG5
  have HA5 := Lib.hid hA5
  have HR5 := Lib.hid r5
  have hs54 : (Value.int .u8 54) = W8 0x36 := rfl
  have HS54 := Lib.hid hs54
  clear hm5 hw5 ho5 hG5 hA5 hi5 hs5 hc5 hc5' r5 c5 r4 c4 e4 z4 hb5 h1o hs54
  go_region_held3 (fun w' => w'.cell? ⟨b5, 0, none⟩ = some (.pointer (some ⟨gi, 0, none⟩)) ∧ w'.cell? ⟨b5, 1, none⟩ = some (.pointer (some ⟨go, 0, none⟩))) (go_keep)
    (first | (go_at_call 20; refine (HBK.out _).mono ?_; rintro e w' ⟨rfl, rfl⟩) | (go_at_call 81; refine (HM5.out _ ((Below.refl _ w5).drew)).mono ?_; rintro e w6 ⟨rfl, hr6, hb6⟩; have ci6 := (hb6.cell (p := ⟨b5, 0, none⟩) hl5).trans ci5; have co6 := (hb6.cell (p := ⟨b5, 1, none⟩) hl5).trans co5; have hl6 : b5 < w6.heap.size := Nat.lt_of_lt_of_le hl5 hb6.size) | (go_at_call 25; refine (HW5.out _ _ hb6 hr6).mono ?_; rintro e w7 ⟨rfl, hi7, ho7⟩; have ci7 := (ho7.cell (p := ⟨b5, 0, none⟩) hl5 (by show b5 ≠ gi; omega)).trans ci5; have co7 := (ho7.cell (p := ⟨b5, 1, none⟩) hl5 (by show b5 ≠ gi; omega)).trans co5))
  have hG7 : RootsG w7 := HG5.out.only ho7 hgi1
  have ho7' := HO5.out.only ho7 (by omega)
  have hA7 : Below gi wA w7 := HA5.out.trans (ho7.below (Nat.le_refl _) (by omega))
  have hs7 := HSA.out.below (hA7.mono hBgi)
  have hl7 : b5 < w7.heap.size := Nat.lt_of_lt_of_le hl5 ho7.size
  obtain ⟨hm7, hw7⟩ := keyed_calls w7 go k hk bl HBL.out _ (some ⟨bA, 0, none⟩) sz sz (sumL k key) hs7 (by omega) hm1 0x5c ho7' hG7 (by omega)
  have HM7 := Lib.hid hm7
  have HW7 := Lib.hid hw7
  have HI7 := Lib.hid hi7
  have HA7 := Lib.hid hA7
  have HR7 := Lib.hid (HR5.out.only ho7 (by omega))
  clear hm7 hw7 ho7' hG7 hA7 hs7 hi7 ho7 hb6 hr6 ci6 co6 hl6
  go_wp2_with fail
  go_region_held3 (fun w' => w'.cell? ⟨b5, 0, none⟩ = some (.pointer (some ⟨gi, 0, none⟩)) ∧ w'.cell? ⟨b5, 1, none⟩ = some (.pointer (some ⟨go, 0, none⟩))) (go_keep)
    (first | (go_at_call 20; refine (HBK.out _).mono ?_; rintro e w' ⟨rfl, rfl⟩) | (go_at_call 81; refine (HM7.out _ ((Below.refl _ w7).drew)).mono ?_; rintro e w8 ⟨rfl, hr8, hb8⟩; have ci8 := (hb8.cell (p := ⟨b5, 0, none⟩) hl7).trans ci7; have co8 := (hb8.cell (p := ⟨b5, 1, none⟩) hl7).trans co7) | (go_at_call 25; refine (HW7.out _ _ hb8 hr8).mono ?_; rintro e w9 ⟨rfl, ho9, hO9⟩; have ci9 := (hO9.cell (p := ⟨b5, 0, none⟩) hl7 (by show b5 ≠ go; omega)).trans ci7; have co9 := (hO9.cell (p := ⟨b5, 1, none⟩) hl7 (by show b5 ≠ go; omega)).trans co7))
  have hi9 := HI7.out.only hO9 (by omega)
  have hA9 : Below gi wA w9 := HA7.out.trans (hO9.below (by omega) (by omega))
  have hr9 := HR7.out.only hO9 (by omega)
  have hR9 : RowV 76 w9 b4 [.pointer none, .pointer none] := HR4.out.below hA9 hb4i
  have h1o : Ones [Value.pointer (some ⟨gi, 0, none⟩), Value.pointer (some ⟨go, 0, none⟩)] := by
    intro v hv
    simp only [List.mem_cons, List.not_mem_nil, or_false] at hv
    rcases hv with rfl | rfl <;> rfl
  have HI9 := Lib.hid hi9
  have HO9 := Lib.hid ho9
  have HA9 := Lib.hid hA9
  clear hi9 ho9 hA9 hO9 hb8 hr8 ci8 co8 ci7 co7 ci9 co9
  go_wp2_with (first | refine wpList_load_row rfl 76 _ rfl b5 rfl 76 #[.pointer (some ⟨gi, 0, none⟩), .pointer (some ⟨go, 0, none⟩)] (0, 0) _ hr9 Tryd.underlying76 rfl Tryd.keyed2 ?_ | (refine wlv_storeO rfl 76 2 Tryd.keyed2 _ _ rfl b4 [.pointer (some ⟨gi, 0, none⟩), .pointer (some ⟨go, 0, none⟩)] rfl rfl _ _ hR9 rfl rfl h1o ?_; intro w10 r10 c10))
  refine ⟨rfl, _, results_cell_row rfl _ _ b4 76 #[.pointer (some ⟨gi, 0, none⟩), .pointer (some ⟨go, 0, none⟩)] (0, 0) _ rfl r10 Tryd.underlying76 rfl Tryd.keyed2, _, rfl, ?_, ?_⟩
  · refine ⟨gi, go, rfl, ?_, hio, ?_, ?_⟩
    · have := HB4W.out; omega
    · rw [HBL.out, HKEY.out]; exact HI9.out.only c10 (by omega)
    · rw [HBL.out, HKEY.out]; exact HO9.out.only c10 (by omega)
  · exact (HWA.out.trans (HA9.out.mono (by have := HB4W.out; omega))).trans (c10.below (by have := HB4W.out; omega) (by have := HA9.out.size; have := HWA.out.size; omega))
theorem withKey_any (w : World) (k : Int) (hk : KindOk k) (hGS : StartsG w) (hGR : RootsG w) (B : Nat) (A : Option Addr) (n c : Nat) (key : List (BitVec 8)) (hs : SlV w B A n c (key.map W8)) (hz : A = none → c = 0) (hB : B ≤ w.heap.size) (hn : n + 256 ≤ 17592186044416) :
    Calls Tryd.prog 50 #[.int .i64 k, .slice A n c] w fun e w' => ∃ v, e = .returned v ∧ KeyedV w' w.heap.size v k key ∧ Below w.heap.size w w' := by
  by_cases h : blN k < key.length
  · exact withKey_long w k hk hGS hGR B A n c key hs hz hB hn h
  · exact withKey_short w k hk hGS hGR B A n c key hs hz hB hn (by omega)
end Go.Proofs.YtejhfmjegmccjaaDoor

/- hashes: the keyed of, HMAC. -/
set_option linter.unusedVariables false
set_option linter.unusedSimpArgs false
namespace Go.Proofs.YtejhfmjegmccjaaDoor
open Go.RowKit Go.Shelf

def innerL (k : Int) (key : List (BitVec 8)) : List (BitVec 8) := maskL (key0 k key) 0x36 (blN k)
def outerL (k : Int) (key : List (BitVec 8)) : List (BitVec 8) := maskL (key0 k key) 0x5c (blN k)
/-- the HMAC of a message, as the program reckons it -/
def hmacL (k : Int) (key msg : List (BitVec 8)) : List (BitVec 8) := sumL k (outerL k key ++ sumL k (innerL k key ++ msg))
theorem innerL_length {k : Int} (h : KindOk k) (key : List (BitVec 8)) : (innerL k key).length = blN k := maskL_length _ _ _ (key0_le h key)
theorem outerL_length {k : Int} (h : KindOk k) (key : List (BitVec 8)) : (outerL k key).length = blN k := maskL_length _ _ _ (key0_le h key)
theorem hmacL_length (k : Int) (key msg : List (BitVec 8)) : (hmacL k key msg).length = szN k := sumL_length _ _

set_option maxRecDepth 100000 in
set_option maxHeartbeats 2000000 in
theorem keyedOf_any (w : World) (k : Int) (hk : KindOk k) (hG : RootsG w) (B0 : Nat) (v : Value) (key : List (BitVec 8)) (hv : KeyedV w B0 v k key) (B : Nat) (A : Option Addr) (n c : Nat) (pss : List (List (BitVec 8))) (hs : PartsV w B A n c pss) (hB : B ≤ w.heap.size) (hn : n ≤ 17592186044416) (hlen : pss.flatten.length + 512 ≤ 17592186044416) :
    Calls Tryd.prog 51 #[v, .slice A n c] w fun e w' => ∃ b, e = .returned (.slice (some ⟨b, 0, none⟩) (szN k) (szN k)) ∧ w.heap.size ≤ b ∧ RowV 5 w' b ((hmacL k key pss.flatten).map W8) ∧ Below w.heap.size w w' := by
  obtain ⟨gi, go, rfl, hBi, hio, hI, hO⟩ := hv
  obtain ⟨W1, e1, r1, b1, z1⟩ := newV w 76 [.pointer (some ⟨gi, 0, none⟩), .pointer (some ⟨go, 0, none⟩)] #[.pointer (some ⟨gi, 0, none⟩), .pointer (some ⟨go, 0, none⟩)] rfl
  obtain ⟨p1, hp1⟩ : ∃ p, w.heap.size = p := ⟨_, rfl⟩
  rw [hp1] at r1 b1
  have h01 : Below w.heap.size w W1 := by rw [hp1]; exact b1
  have hI1 := hI.later h01
  have hO1 := hO.later h01
  have hgo := hO1.lt
  have ci1 : W1.cell? ⟨p1, 0, none⟩ = some (.pointer (some ⟨gi, 0, none⟩)) := r1.at_ rfl
  have co1 : W1.cell? ⟨p1, 1, none⟩ = some (.pointer (some ⟨go, 0, none⟩)) := r1.at_ rfl
  have hl1 := r1.lt
  have hcp1 : ∀ w0, Below W1.heap.size W1 w0 → Calls Tryd.prog 24 #[.pointer (some ⟨gi, 0, none⟩)] w0 fun e w' => e = .returned (.pointer (some ⟨w0.heap.size, 0, none⟩)) ∧ HashIs w' w0.heap.size k (innerL k key) ∧ Below w0.heap.size w0 w' := fun w0 hb => copy_is w0 gi k _ (hI1.later hb)
  have hcp2 : ∀ w0, Below W1.heap.size W1 w0 → Calls Tryd.prog 24 #[.pointer (some ⟨go, 0, none⟩)] w0 fun e w' => e = .returned (.pointer (some ⟨w0.heap.size, 0, none⟩)) ∧ HashIs w' w0.heap.size k (outerL k key) ∧ Below w0.heap.size w0 w' := fun w0 hb => copy_is w0 go k _ (hO1.later hb)
  have HC1 := Lib.hid hcp1
  have HC2 := Lib.hid hcp2
  have HS := Lib.hid hs
  have HG := Lib.hid hG
  have HLEN := Lib.hid hlen
  have HNL := Lib.hid hs.len
  have H01 := Lib.hid h01
  have HP1 := Lib.hid hp1
  have hnI : (n : Int) ≤ 17592186044416 := by omega
  have HIO := Lib.hid (⟨innerL_length hk key, outerL_length hk key, blN_two k, szN_le hk⟩ : (innerL k key).length = blN k ∧ (outerL k key).length = blN k ∧ (blN k = 64 ∨ blN k = 128) ∧ 20 ≤ szN k ∧ szN k ≤ blN k / 16 * 8 ∧ szN k ≤ 64)
  clear hcp1 hcp2 hs hG hlen hn hI hO hI1 hO1 h01 r1 b1 z1
  go_enter Tryd.func51, Tryd.ntmps51
  go_wp2_with fail
  go_region_held3 (fun w' => w'.cell? ⟨p1, 0, none⟩ = some (.pointer (some ⟨gi, 0, none⟩)) ∧ w'.cell? ⟨p1, 1, none⟩ = some (.pointer (some ⟨go, 0, none⟩))) (go_keep)
    (first | (go_at_call_of 24 (Value.pointer (some ⟨gi, 0, none⟩)); refine (HC1.out _ ((Below.refl _ W1).drew)).mono ?_; rintro e w2 ⟨rfl, hi2, hb2⟩; have hb2 : Below W1.heap.size W1 w2 := ⟨hb2.os, hb2.tape, hb2.output, hb2.size, fun i hi => hb2.block i hi⟩; have ci2 := (hb2.cell (p := ⟨p1, 0, none⟩) hl1).trans ci1; have co2 := (hb2.cell (p := ⟨p1, 1, none⟩) hl1).trans co1) | (go_at_call 24; refine (HC2.out _ hb2).mono ?_; rintro e w3 ⟨rfl, ho3, hb3⟩; have hl2 : p1 < w2.heap.size := Nat.lt_of_lt_of_le hl1 hb2.size; have ci3 := (hb3.cell (p := ⟨p1, 0, none⟩) hl2).trans ci2; have co3 := (hb3.cell (p := ⟨p1, 1, none⟩) hl2).trans co2))
  obtain ⟨a, ha⟩ : ∃ a, W1.heap.size = a := ⟨_, rfl⟩
  obtain ⟨z, hz⟩ : ∃ z, w2.heap.size = z := ⟨_, rfl⟩
  have hi2' : HashIs w2 a k (innerL k key) := by rw [← ha]; exact hi2
  rw [hz] at ho3 hb3
  have haz : a < z := by have := hi2'.lt; omega
  have h13 : Below a W1 w3 := by rw [← ha]; exact hb2.trans (by rw [ha]; exact hb3.mono (by omega))
  have h03 : Below w.heap.size w w3 := H01.out.trans (h13.mono (by have := H01.out.size; omega))
  have hi3 := hi2'.later (show Below w2.heap.size w2 w3 by rw [hz]; exact hb3)
  have ha1 : 1 < a := by have := HG.out.1; have := H01.out.size; omega
  have hwa : w.heap.size ≤ a := by have := H01.out.size; omega
  have HI3 := Lib.hid hi3
  have HO3 := Lib.hid ho3
  have H03 := Lib.hid h03
  have hz3 : z < w3.heap.size := ho3.lt
  clear hi2 hi2' hi3 ho3 h03 h13 hb2 hb3 ci3 co3 ci2 co2 ci1 co1 hl2
  rw [ha, hz]
  clear ha hz
  go_wp2
  go_loopw [17] (fun i wr => ∃ j : Nat, j ≤ n ∧ i = .int .i64 (j : Int) ∧ Hid (HashIs wr a k (innerL k key ++ (pss.take j).flatten)) ∧ Hid (OnlyV w3 wr a)) (fun i _ => n - (intOf i).toNat)
  case atStart => exact ⟨0, by omega, rfl, Lib.hid (by simpa using HI3.out), Lib.hid (OnlyV.refl _ _)⟩
  case round =>
    obtain ⟨j, hj, rfl, hh, ho⟩ := hrel
    have hbw : Below w.heap.size w wr := H03.out.trans (ho.out.below hwa H03.out.size)
    have HGR := Lib.hid (HG.out.later hbw)
    have HBW := Lib.hid hbw
    have hzr : z < wr.heap.size := Nat.lt_of_lt_of_le hz3 ho.out.size
    clear hbw
    by_cases hjn : j = n
    · subst hjn
      have hio := HIO.out
      have hll := HLEN.out
      have hsm := sum_any wr a k hk (innerL k key ++ pss.flatten) (by have := hh.out; rwa [List.take_of_length_le (Nat.le_of_eq HNL.out.symm)] at this) HGR.out (by rw [List.length_append]; omega)
      have HSM := Lib.hid hsm
      clear hsm hio hll
      go_wp2_with fail
      refine HSM.out.mono ?_
      rintro e w4 ⟨b, rfl, hbb, hrow, hb4⟩
      have hio := HIO.out
      have hsl := hrow.sl (by rw [List.length_map, sumL_length]; omega)
      rw [List.length_map, sumL_length] at hsl
      have hz4 := HO3.out.only ho.out (by omega)
      have hG4 := HGR.out.later hb4
      have hwr4 := write_any w4 z k hk (outerL k key) (sumL k (innerL k key ++ pss.flatten)) (hz4.later hb4) w4.heap.size _ _ _ hsl (by intro h; cases h) (Nat.le_refl _) hG4 (by omega) (by rw [sumL_length]; omega)
      have HW4 := Lib.hid hwr4
      have HB4 := Lib.hid hb4
      have HG4 := Lib.hid hG4
      clear hio hsl hz4 hG4 hwr4 hb4 hrow hbb
      go_wp2_with fail
      refine HW4.out.mono ?_
      rintro e w5 ⟨rfl, hh5, ho5⟩
      have hio := HIO.out
      have hG5 := HG4.out.only ho5 (by omega)
      have hsm5 := sum_any w5 z k hk _ hh5 hG5 (by rw [List.length_append, sumL_length]; omega)
      have HSM5 := Lib.hid hsm5
      have HB5 := Lib.hid (HBW.out.trans ((HB4.out.mono HBW.out.size).trans (ho5.below (by omega) (by have := HBW.out.size; have := HB4.out.size; omega))))
      clear hsm5 hG5 hh5 ho5 hio
      go_wp2_with fail
      refine HSM5.out.mono ?_
      rintro e w6 ⟨b', rfl, hbb', hrow', hb6⟩
      have HROW := Lib.hid hrow'
      have HB6 := Lib.hid hb6
      clear hrow' hb6
      go_wp2
      go_ret
      have hz5 := HB5.out.size
      exact ⟨b', rfl, by omega, HROW.out, HB5.out.trans (HB6.out.mono hz5)⟩
    · have hji : (j : Int) < n := by omega
      obtain ⟨b, off, ps, Ai, ni, ci, rfl, hbB, hps, hcl, hsi, hzi⟩ := ((HS.out.below (HBW.out.mono hB)).at_ (i := j) (by omega))
      have hfl : innerL k key ++ (pss.take (j + 1)).flatten = (innerL k key ++ (pss.take j).flatten) ++ ps := by rw [List.take_add_one, hps, List.flatten_append]; simp
      have hle : ((pss.take (j + 1)).flatten).length ≤ pss.flatten.length := by
        have h := congrArg (fun l => (List.flatten l).length) (List.take_append_drop (j + 1) pss)
        simp only [List.flatten_append, List.length_append] at h
        omega
      have hlf := congrArg List.length hfl
      rw [List.length_append, List.length_append (bs := ps)] at hlf
      have hwr := write_any wr a k hk _ ps hh.out B Ai ni ci hsi hzi (by have := HBW.out.size; omega) HGR.out ha1 (by have := HLEN.out; have := HIO.out; omega)
      rw [← hfl] at hwr
      have HWR := Lib.hid hwr
      clear hwr hsi hzi hps hfl hle hlf
      go_wp2_with fail
      refine HWR.out.mono ?_
      rintro e w4 ⟨rfl, hh4, ho4⟩
      have HH4 := Lib.hid hh4
      have HO4 := Lib.hid (ho.out.trans ho4)
      clear hh4 ho4
      go_wp2
      go_roundw
      case rel => exact ⟨j + 1, by omega, by go_num, HH4, HO4⟩
      case measure => simp [intOf]; omega
set_option maxRecDepth 100000 in
set_option maxHeartbeats 1000000 in
theorem hmac_any (w : World) (k : Int) (hk : KindOk k) (hGS : StartsG w) (hGR : RootsG w) (B : Nat) (A : Option Addr) (n c : Nat) (key : List (BitVec 8)) (hs : SlV w B A n c (key.map W8)) (hz : A = none → c = 0) (hB : B ≤ w.heap.size) (hn : n + 256 ≤ 17592186044416)
    (A2 : Option Addr) (n2 c2 : Nat) (pss : List (List (BitVec 8))) (hp : PartsV w B A2 n2 c2 pss) (hn2 : n2 ≤ 17592186044416) (hlen : pss.flatten.length + 512 ≤ 17592186044416) :
    Calls Tryd.prog 26 #[.int .i64 k, .slice A n c, .slice A2 n2 c2] w fun e w' => ∃ b, e = .returned (.slice (some ⟨b, 0, none⟩) (szN k) (szN k)) ∧ w.heap.size ≤ b ∧ RowV 5 w' b ((hmacL k key pss.flatten).map W8) ∧ Below w.heap.size w w' := by
  have hv := valid_yes w k hk
  have hw := withKey_any w k hk hGS hGR B A n c key hs hz hB hn
  have HV := Lib.hid hv
  have HW := Lib.hid hw
  have HP := Lib.hid hp
  have HG := Lib.hid hGR
  clear hv hw hs hp hGS hGR
  go_enter Tryd.func26, Tryd.ntmps26
  go_wp2_with fail
  refine HV.out.mono ?_
  rintro e w' ⟨rfl, rfl⟩
  go_wp2_with fail
  refine HW.out.mono ?_
  rintro e w1 ⟨v, rfl, hkv, hb1⟩
  have hof := keyedOf_any w1 k hk (HG.out.later hb1) _ v key hkv B A2 n2 c2 pss (HP.out.below (hb1.mono hB)) (Nat.le_trans hB hb1.size) hn2 hlen
  have HOF := Lib.hid hof
  have HB1 := Lib.hid hb1
  clear hof hb1 hkv
  go_wp2_with fail
  refine HOF.out.mono ?_
  rintro e w2 ⟨b, rfl, hbb, hrow, hb2⟩
  have HROW := Lib.hid hrow
  have HB2 := Lib.hid hb2
  clear hrow hb2
  go_wp2
  go_ret
  have hz1 := HB1.out.size
  exact ⟨b, rfl, by omega, HROW.out, HB1.out.trans (HB2.out.mono hz1)⟩
theorem hmac_no (w : World) (k : Int) (hk : ¬ KindOk k) (v1 v2 : Value) :
    Calls Tryd.prog 26 #[.int .i64 k, v1, v2] w fun e w' => e = .returned (.slice none 0 0) ∧ w = w' := by
  have hv := valid_no w k hk
  have HV := Lib.hid hv
  clear hv
  go_enter Tryd.func26, Tryd.ntmps26
  go_wp2_with fail
  refine HV.out.mono ?_
  rintro e w' ⟨rfl, rfl⟩
  go_wp2
  go_ret
  exact ⟨rfl, rfl⟩
end Go.Proofs.YtejhfmjegmccjaaDoor

/- Strings of bytes: the conversion of a slice that reads known bytes, and the comparison of two. -/
set_option linter.unusedVariables false
set_option linter.unusedSimpArgs false
namespace Go.Proofs.YtejhfmjegmccjaaDoor
open Go.RowKit Go.Shelf

def b8u (x : BitVec 8) : UInt8 := UInt8.ofBitVec x
theorem b8u_inj {x y : BitVec 8} (h : b8u x = b8u y) : x = y := by
  have := congrArg UInt8.toBitVec h
  simpa [b8u] using this
/-- the string of these bytes -/
def strB (bs : List (BitVec 8)) : ByteArray := ⟨(bs.map b8u).toArray⟩
def strV (bs : List (BitVec 8)) : Value := .string (strB bs)
theorem strB_toList (bs : List (BitVec 8)) : (strB bs).toList = bs.map b8u := by rw [strB, ByteArray.toList_mk]
theorem map_b8u_inj : ∀ (a b : List (BitVec 8)), (a.map b8u == b.map b8u) = decide (a = b)
  | [], [] => rfl
  | [], _ :: _ => rfl
  | _ :: _, [] => rfl
  | x :: a, y :: b => by
    simp only [List.map_cons, List.cons_beq_cons, map_b8u_inj a b]
    by_cases h : x = y
    · subst h; simp
    · have : (b8u x == b8u y) = false := by
        rw [beq_eq_false_iff_ne]
        exact fun e => h (b8u_inj e)
      simp [this, h]
theorem eql_str {P : Program} (w : World) (t : TypeId) (a b : List (BitVec 8)) : (binOp .eql t (strV a) (strV b)).run P w = .ok (.bool (decide (a = b))) w := by
  unfold strV
  rw [binOp_string_eql, strB_toList, strB_toList, map_b8u_inj]
  simp [Sem.run_pure]
theorem neq_str {P : Program} (w : World) (t : TypeId) (a b : List (BitVec 8)) : (binOp .neq t (strV a) (strV b)).run P w = .ok (.bool (!decide (a = b))) w := by
  unfold strV
  rw [binOp_string_neq, strB_toList, strB_toList, map_b8u_inj]
  simp [Sem.run_pure]
theorem eqGuard_str {P : Program} (w : World) (op : BinOp) (t : TypeId) (x y : Operand) (a b : List (BitVec 8)) : (eqGuard op t x y (strV a) (strV b)).run P w = .ok () w := by
  unfold strV
  cases op <;> simp [eqGuard, go_sem]
theorem eqGuard_strc {P : Program} (w : World) (op : BinOp) (t : TypeId) (x y : Operand) (a : List (BitVec 8)) (s : ByteArray) : (eqGuard op t x y (strV a) (.string s)).run P w = .ok () w := by
  unfold strV
  cases op <;> simp [eqGuard, go_sem]
/-- 'string(s)' -/
theorem conv_str {w : World} {B n c : Nat} {A : Option Addr} {bs : List (BitVec 8)} (h : SlV w B A n c (bs.map W8)) : (convert 22 9 (.slice A n c)).run Tryd.prog w = .ok (strV bs) w := by
  have hl : n = bs.length := by simpa using h.len
  cases A with
  | none =>
    have : bs = [] := by
      apply Classical.byContradiction
      intro hn
      obtain ⟨b, off, e, _⟩ := h.2.2.2 (by simpa using hn)
      cases e
    subst this
    subst hl
    rw [run_convert_bytes_string w _ _ 5 none _ c Tryd.underlying22 Tryd.underlying5 Tryd.underlying9]
    rfl
  | some ad =>
    have hb := run_convert_bytes_back (P := Tryd.prog) w 22 9 5 ad c (bs.map b8u) Tryd.underlying22 Tryd.underlying5 Tryd.underlying9 (fun j hj => by
      rw [List.length_map] at hj
      obtain ⟨b, off, e, _, hc⟩ := h.2.2.2 (by intro e; rw [List.map_eq_nil_iff] at e; subst e; simp at hj)
      injection e with e
      subst e
      rw [Addr.add_lit, hc j (W8 bs[j]) (by rw [List.getElem?_map, List.getElem?_eq_getElem hj]; rfl)]
      simp [W8, i8, b8u])
    rw [List.length_map, ← hl] at hb
    exact hb
/-- an operation that the region's walk is not to try ahead of its turn -/
def shutOp (o : Oper) : Oper := o
theorem shut_conv (d : Option Tmp) (s t : TypeId) (x : Operand) (e : _) (f : _) (g : _) (h : _) : (⟨d, .convert s t x, e, f, g, h⟩ : Oper) = shutOp ⟨d, .convert s t x, e, f, g, h⟩ := rfl
end Go.Proofs.YtejhfmjegmccjaaDoor

/- baileylaw3: begun, its numbers. -/
set_option linter.unusedVariables false
set_option linter.unusedSimpArgs false
namespace Go.Proofs.YtejhfmjegmccjaaDoor
open Go.RowKit Go.Shelf
attribute [local go_sem] shutOp

def abcL : List (BitVec 8) := [0x61, 0x62, 0x63]
set_option maxRecDepth 100000 in
theorem sha_abc : (sumL 3 abcL).take 4 = [0xba, 0x78, 0x16, 0xbf] := by decide +kernel
/-- the bytes of a constant -/
theorem constSl (w : World) (l : List (BitVec 8)) (hl : l.length ≤ 9223372036854775807) (a b : Nat) : SlV (w.alloc (.cells (l.map W8).toArray 5 (a, b))) (w.heap.size + 1) (some ⟨w.heap.size, 0, none⟩) l.length l.length (l.map W8) :=
  ⟨by rw [List.length_map], Nat.le_refl _, hl, fun _ => ⟨w.heap.size, 0, rfl, by omega, fun k v hv => by
    rw [Nat.zero_add, World.cell?_alloc_mark]
    simpa using hv⟩⟩
theorem newFrozen (w : World) (C : Array Value) (a b : Nat) : ∃ W, w.alloc (.cells C 5 (a, b)) = W ∧ Below w.heap.size w W ∧ W.heap.size = w.heap.size + 1 := ⟨_, rfl, (Below.refl _ w).alloc (Nat.le_refl _) _, by simp⟩
theorem convConst (w : World) (C : Array Value) (n c : Nat) : (convert 22 22 (.slice (some ⟨w.heap.size, 0, none⟩) n c)).run Tryd.prog (w.alloc (.cells C 5)) = .ok (.slice (some ⟨w.heap.size, 0, none⟩) n c) (w.alloc (.cells C 5 (C.size, C.size + 1))) := Lib.run_convert_bytes_const w 22 5 C n c Tryd.underlying22 Tryd.underlying5
theorem ofConst (w : World) (hGS : StartsG w) (hGR : RootsG w) :
    Calls Tryd.prog 16 #[.int .i64 3, .slice (some ⟨w.heap.size + 1, 0, none⟩) 1 1] ((w.alloc (.cells #[.int .u8 97, .int .u8 98, .int .u8 99] 5 (3, 4))).alloc (.cells #[.slice (some ⟨w.heap.size, 0, none⟩) 3 3] 22)) fun e w' => ∃ b, e = .returned (.slice (some ⟨b, 0, none⟩) 32 32) ∧ (convert 22 9 (.slice (some ⟨b, 0, none⟩) 32 32)).run Tryd.prog w' = .ok (strV (sumL 3 abcL)) w' ∧ Below w.heap.size w w' := by
  have hk3 : KindOk 3 := by unfold KindOk; omega
  obtain ⟨W1, e1, b1, z1⟩ := newFrozen w #[.int .u8 97, .int .u8 98, .int .u8 99] 3 4
  have hs1 : SlV W1 (w.heap.size + 1) (some ⟨w.heap.size, 0, none⟩) 3 3 (abcL.map W8) := by rw [← e1]; exact constSl w abcL (by decide) 3 4
  obtain ⟨W2, e2, r2, b2, z2⟩ := newV W1 22 [.slice (some ⟨w.heap.size, 0, none⟩) 3 3] #[.slice (some ⟨w.heap.size, 0, none⟩) 3 3] rfl
  rw [e1, e2]
  have h12 : Below w.heap.size w W2 := b1.trans (b2.mono (by omega))
  have hpv : PartsV W2 W2.heap.size (some ⟨W1.heap.size, 0, none⟩) 1 1 [abcL] := ⟨[.slice (some ⟨w.heap.size, 0, none⟩) 3 3], r2.sl (by simp), rfl, fun i v ps hv hp => by
    cases i with
    | zero => cases hv; cases hp; exact ⟨_, 3, 3, rfl, (hs1.below (b2.mono (by omega))).more (by omega), by intro h; cases h⟩
    | succ i => simp at hv⟩
  have hof := hof_any W2 3 hk3 (hGS.later h12) (hGR.later h12) W2.heap.size _ _ _ _ hpv (Nat.le_refl _) (by decide) (by decide)
  rw [List.flatten_singleton, z1] at hof
  refine hof.mono ?_
  rintro e w3 ⟨b, rfl, hbb, hrow, hb3⟩
  have hDl : (sumL 3 abcL).length = 32 := by rw [sumL_length]; rfl
  have hsl := hrow.sl (by rw [List.length_map, hDl]; decide)
  rw [List.length_map, hDl] at hsl
  exact ⟨b, rfl, conv_str hsl, h12.trans (hb3.mono h12.size)⟩
theorem convConstD (w : World) (C : Array Value) (n c : Nat) : (convert 22 22 (.slice (some ⟨w.heap.size, 0, none⟩) n c)).run Tryd.prog (w.alloc (.cells C 5)).drew = .ok (.slice (some ⟨w.heap.size, 0, none⟩) n c) (w.alloc (.cells C 5 (C.size, C.size + 1))).drew := convConst w.drew C n c
theorem ofConstD (w : World) (hGS : StartsG w) (hGR : RootsG w) :
    Calls Tryd.prog 16 #[.int .i64 3, .slice (some ⟨w.heap.size + 1, 0, none⟩) 1 1] ((w.alloc (.cells #[.int .u8 97, .int .u8 98, .int .u8 99] 5 (3, 4))).alloc (.cells #[.slice (some ⟨w.heap.size, 0, none⟩) 3 3] 22)).drew fun e w' => ∃ b, e = .returned (.slice (some ⟨b, 0, none⟩) 32 32) ∧ (convert 22 9 (.slice (some ⟨b, 0, none⟩) 32 32)).run Tryd.prog w' = .ok (strV (sumL 3 abcL)) w' ∧ Below w.heap.size w w' := by
  refine (ofConst w.drew (hGS.later (Below.refl _ w).drew) (hGR.later (Below.refl _ w).drew)).mono ?_
  rintro e w' ⟨b, he, hc, hb⟩
  exact ⟨b, he, hc, ⟨hb.os, hb.tape, hb.output, hb.size, fun i hi => hb.block i hi⟩⟩
theorem hmacNil (w : World) (hGS : StartsG w) (hGR : RootsG w) :
    Calls Tryd.prog 26 #[.int .i64 3, .slice none 0 0, .slice none 0 0] w fun e w' => ∃ b, e = .returned (.slice (some ⟨b, 0, none⟩) 32 32) ∧ Below w.heap.size w w' := by
  have hk3 : KindOk 3 := by unfold KindOk; omega
  refine (hmac_any w 3 hk3 hGS hGR w.heap.size none 0 0 [] (SlV.nil _ _ _ (by decide)) (fun _ => rfl) (Nat.le_refl _) (by decide) none 0 0 [] (PartsV.nil _ _ _ (by decide)) (by decide) (by decide)).mono ?_
  rintro e w' ⟨b, rfl, _, _, hb⟩
  exact ⟨b, rfl, hb⟩
set_option maxRecDepth 100000 in
set_option maxHeartbeats 2000000 in
theorem begun3_any (w : World) (hGS : StartsG w) (hGR : RootsG w) :
    Calls Tryd.prog 14 #[] w fun e w' => e = .returned (.bool true) ∧ Below w.heap.size w w' := by
  have hk3 : KindOk 3 := by unfold KindOk; omega
  have hnw := new_is w 3 hk3 hGS
  obtain ⟨g, hg⟩ : ∃ g, w.heap.size = g := ⟨_, rfl⟩
  rw [hg] at hnw
  have hg1 : 1 < g := by have := hGR.1; omega
  have HNW := Lib.hid hnw
  have HGS := Lib.hid hGS
  have HGR := Lib.hid hGR
  have HG := Lib.hid hg
  have HK := Lib.hid hk3
  clear hnw hGS hGR hk3
  go_enter Tryd.func14, Tryd.ntmps14
  go_wp2_with fail
  refine HNW.out.mono ?_
  rintro e w1 ⟨rfl, hh1, hb1⟩
  have hgl := hh1.lt
  have h01 : Below w.heap.size w w1 := by rw [hg]; exact hb1
  have kc := fun (w : World) (C : Array Value) (n c : Nat) => convConst w C n c
  obtain ⟨W2, e2, b2, z2⟩ := newFrozen w1 #[.int .u8 97] 1 2
  have hs2 : SlV W2 (w1.heap.size + 1) (some ⟨w1.heap.size, 0, none⟩) 1 1 ([0x61].map W8) := by rw [← e2]; exact constSl w1 [0x61] (by decide) 1 2
  have h12 : Below g w1 W2 := b2.mono (by omega)
  have hw2 := write_any W2 g 3 HK.out [] [0x61] (hh1.later b2) _ _ _ _ hs2 (by intro h; cases h) (by omega) ((HGR.out.later h01).later b2) hg1 (by decide)
  have HW2 := Lib.hid hw2
  have H01 := Lib.hid h01
  have HB2 := Lib.hid b2
  clear hw2 h01 h12 b2 hs2 hb1 hh1 z2
  go_wp2_with fail
  refine HW2.out.mono ?_
  rintro e w3 ⟨rfl, hh3, ho3⟩
  have hl3 := hh3.lt
  have hG3 : RootsG w3 := ((HGR.out.later H01.out).later HB2.out).only ho3 hg1
  obtain ⟨W4, e4, b4, z4⟩ := newFrozen w3 #[.int .u8 98, .int .u8 99] 2 3
  have hs4 : SlV W4 (w3.heap.size + 1) (some ⟨w3.heap.size, 0, none⟩) 2 2 ([0x62, 0x63].map W8) := by rw [← e4]; exact constSl w3 [0x62, 0x63] (by decide) 2 3
  have hw4 := write_any W4 g 3 HK.out _ [0x62, 0x63] (hh3.later b4) _ _ _ _ hs4 (by intro h; cases h) (by omega) (hG3.later b4) hg1 (by decide)
  have HW4 := Lib.hid hw4
  have h03 : Below w.heap.size w w3 := H01.out.trans ((HB2.out.mono H01.out.size).trans (ho3.below (by have := HG.out; omega) (by have := H01.out.size; have := HB2.out.size; omega)))
  have H03 := Lib.hid h03
  have HG3 := Lib.hid hG3
  have HB4 := Lib.hid b4
  clear hw4 hG3 b4 hs4 hh3 ho3 h03 z4 hl3
  go_wp2_with fail
  refine HW4.out.mono ?_
  rintro e w5 ⟨rfl, hh5, ho5⟩
  have hG5 : RootsG w5 := (HG3.out.later HB4.out).only ho5 hg1
  have h05 : Below w.heap.size w w5 := H03.out.trans ((HB4.out.mono H03.out.size).trans (ho5.below (by have := HG.out; omega) (by have := H03.out.size; have := HB4.out.size; omega)))
  have hsm := sum_any w5 g 3 HK.out abcL hh5 hG5 (by decide)
  have HSM := Lib.hid hsm
  have H05 := Lib.hid h05
  have HG5 := Lib.hid hG5
  clear hsm h05 hG5 hh5 ho5
  go_wp2_with fail
  refine HSM.out.mono ?_
  rintro e w6 ⟨b, rfl, hbb, hrow, hb6⟩
  have hsz3 : szN 3 = 32 := rfl
  rw [hsz3]
  obtain ⟨D, hD⟩ : ∃ D, sumL 3 abcL = D := ⟨_, rfl⟩
  have hab := sha_abc
  rw [hD] at hrow hab
  have hDl : D.length = 32 := by rw [← hD, sumL_length]; rfl
  have hsl := hrow.sl (by rw [List.length_map, hDl]; decide)
  rw [List.length_map, hDl] at hsl
  have HG6 := Lib.hid (HG5.out.later hb6)
  have HS6 := Lib.hid (HGS.out.later (H05.out.trans (hb6.mono H05.out.size)))
  have H06 := Lib.hid (H05.out.trans (hb6.mono H05.out.size))
  have HSL := Lib.hid hsl
  have HAB := Lib.hid hab
  have HD := Lib.hid hD
  have h1 : ∀ w', Below w6.heap.size w6 w' → (convert 22 9 (.slice (some ⟨b, 0, none⟩) 32 32)).run Tryd.prog w' = .ok (strV D) w' := fun w' hb => conv_str (HSL.out.below hb)
  have h2 : ∀ w', Below w6.heap.size w6 w' → (convert 22 9 (.slice (some ⟨b, 0, none⟩) 4 32)).run Tryd.prog w' = .ok (strV (D.take 4)) w' := fun w' hb => conv_str (by have := (HSL.out.below hb).take (k := 4) (by decide); rwa [← List.map_take] at this)
  have h3 : ∀ w', (binOp .eql 9 (strV (D.take 4)) (.string { data := #[186, 120, 22, 191] })).run Tryd.prog w' = .ok (.bool true) w' := fun w' => by
    rw [HAB.out]
    exact eql_str w' _ [0xba, 0x78, 0x16, 0xbf] [0xba, 0x78, 0x16, 0xbf]
  have h4 : ∀ w', (binOp .eql 9 (strV D) (strV D)).run Tryd.prog w' = .ok (.bool true) w' := fun w' => by
    rw [eql_str w' _ D D, decide_eq_true rfl]
  have q1 := fun (w : World) (t : TypeId) (x y : Operand) (a b : List (BitVec 8)) => eqGuard_str (P := Tryd.prog) w .eql t x y a b
  have q2 := fun (w : World) (t : TypeId) (x y : Operand) (a : List (BitVec 8)) (s : ByteArray) => eqGuard_strc (P := Tryd.prog) w .eql t x y a s
  have H1 := Lib.hid h1
  have H2 := Lib.hid h2
  clear h1 h2 hab hD hDl hsl hb6 hrow
  go_wp2_with fail
  have c32 := H1.out _ (Below.refl _ w6).drew
  have c4 := H2.out _ (Below.refl _ w6).drew
  have hsd : StartsG w6.drew := HS6.out.later (Below.refl _ w6).drew
  have hrd : RootsG w6.drew := HG6.out.later (Below.refl _ w6).drew
  have HOF := Lib.hid (ofConstD w6 HS6.out HG6.out)
  have kd := fun (w : World) (C : Array Value) (n c : Nat) => convConstD w C n c
  have hba : ∀ (o : Obj), Below w6.heap.size w6 (w6.alloc o).drew := fun o => ((Below.refl _ w6).alloc (Nat.le_refl _) _).drew
  have hbb2 : ∀ (o o' : Obj), Below w6.heap.size w6 ((w6.alloc o).alloc o').drew := fun o o' => (((Below.refl _ w6).alloc (Nat.le_refl _) _).alloc (by simp) _).drew
  have HD' := Lib.hid HD.out
  clear hsd hrd
  rw [shut_conv (some 27), shut_conv (some 30)]
  go_region_held3 (fun w' => (convert 22 9 (.slice (some ⟨b, 0, none⟩) 32 32)).run Tryd.prog w' = .ok (strV D) w' ∧ (convert 22 9 (.slice (some ⟨b, 0, none⟩) 4 32)).run Tryd.prog w' = .ok (strV (D.take 4)) w') (first | exact ⟨c32, c4⟩ | exact ⟨H1.out _ (by first | assumption | exact hba _ | exact hbb2 _ _), H2.out _ (by first | assumption | exact hba _ | exact hbb2 _ _)⟩)
    (first | (go_at_call 16; refine HOF.out.mono ?_; rintro e w7 ⟨b7, rfl, hcv7, hb7⟩; have hb7 : Below w6.heap.size w6 w7 := ⟨hb7.os, hb7.tape, hb7.output, hb7.size, fun i hi => hb7.block i hi⟩; rw [HD.out] at hcv7) | (go_at_call 18; refine (size_any _ 1).mono ?_; rintro e w' ⟨rfl, rfl⟩) | (go_at_call 26; refine (hmacNil _ (HS6.out.later hb7) (HG6.out.later hb7)).mono ?_; rintro e w8 ⟨b8, rfl, hb8⟩; have hb68 : Below w6.heap.size w6 w8 := hb7.trans (hb8.mono hb7.size)))
  have HB68 := Lib.hid hb68
  clear hb68 hb7 hb8 hcv7 c32 c4
  go_wp2
  go_ret
  exact ⟨rfl, H06.out.trans (HB68.out.mono H06.out.size)⟩
end Go.Proofs.YtejhfmjegmccjaaDoor

/- baileylaw3: Short; and from a row of bytes that came in to a slice that reads bytes. -/
set_option linter.unusedVariables false
set_option linter.unusedSimpArgs false
namespace Go.Proofs.YtejhfmjegmccjaaDoor
open Go.RowKit Go.Shelf

theorem short_any (w : World) (B : Nat) (A : Option Addr) (n c : Nat) (bs : List (BitVec 8)) (hs : SlV w B A n c (bs.map W8)) (m : Nat) (hm : m ≤ 1000000) :
    Calls Tryd.prog 15 #[.slice A n c, .int .i64 (m : Int)] w fun e w' => e = .returned (.slice A (min n m) c) ∧ w = w' := by
  have h1 := hs.cap
  have h2 := hs.max
  have hmI : (m : Int) ≤ 1000000 := by omega
  have hm0 : (0 : Int) ≤ m := by omega
  have hnI : (n : Int) ≤ 9223372036854775807 := by omega
  by_cases h : m < n
  · obtain ⟨b, off, v, rfl, _, _, _⟩ := hs.at_ (k := 0) (by omega)
    have hI : (m : Int) < n := by omega
    have hmc : (m : Int) ≤ c := by omega
    have hmn : min n m = m := by omega
    have HMN := Lib.hid hmn
    clear hs h hmn
    go_enter Tryd.func15, Tryd.ntmps15
    go_wp2
    go_ret
    rw [HMN.out]
    exact ⟨rfl, rfl⟩
  · have hI : (n : Int) ≤ m := by omega
    have hmn : min n m = n := by omega
    have HMN := Lib.hid hmn
    clear hs h hmn
    go_enter Tryd.func15, Tryd.ntmps15
    go_wp2
    go_ret
    rw [HMN.out]
    exact ⟨rfl, rfl⟩

/-- a byte off a number -/
def toB (z : Int) : BitVec 8 := BitVec.ofInt 8 z
theorem W8_toB {z : Int} (h : (Lit.int .u8 z).wf = true) : W8 (toB z) = .int .u8 z := by
  have hb := bounds_u8 h
  have : ((BitVec.ofInt 8 z).toNat : Int) = z := by
    rw [BitVec.toNat_ofInt]
    omega
  show Value.int .u8 ((BitVec.ofInt 8 z).toNat : Int) = _
  rw [this]
theorem slV_of_row {w : World} {a : Option Addr} {len cap : Nat} {zs : List Int}
    (h : (a = none ∧ len = 0 ∧ cap = 0 ∧ zs = []) ∨ ∃ x, a = some x ∧ len ≤ cap ∧ cap ≤ maxLen ∧ zs.length = cap ∧ (∀ i, i < zs.length → w.cell? (x.add i) = some (.int .u8 (zs.getD i 0))) ∧ ∀ n ∈ zs, (Lit.int .u8 n).wf = true) :
    ∃ bs : List (BitVec 8), SlV w w.heap.size a len cap (bs.map W8) ∧ (a = none → cap = 0) := by
  rcases h with ⟨rfl, rfl, rfl, rfl⟩ | ⟨x, rfl, hl, hm, hz, hc, hwf⟩
  · exact ⟨[], SlV.nil _ _ _ (by decide), fun _ => rfl⟩
  · refine ⟨(zs.take len).map toB, ⟨by simp; omega, hl, by simpa [maxLen] using hm, fun hne => ?_⟩, fun h => by cases h⟩
    have hlen : 0 < len := by
      rcases Nat.eq_zero_or_pos len with h | h
      · subst h; simp at hne
      · exact h
    obtain ⟨b, off, spot⟩ := x
    have h0 := hc 0 (by omega)
    have hsp : spot = none := by simpa [Addr.add] using World.cell?_spot h0
    subst hsp
    refine ⟨b, off, rfl, World.block_lt_of_cell? w _ (by simpa [Addr.add] using h0), fun k v hv => ?_⟩
    rw [List.map_map, List.getElem?_map, Option.map_eq_some_iff] at hv
    obtain ⟨z, hzk, rfl⟩ := hv
    rw [List.getElem?_take] at hzk
    split at hzk
    · rename_i hkl
      have h1 := hc k (by omega)
      rw [Addr.add_lit] at h1
      rw [h1, List.getD_eq_getElem?_getD, hzk]
      show some (Value.int .u8 z) = some (W8 (toB z))
      rw [W8_toB (hwf z (List.mem_of_getElem? hzk))]
    · cases hzk
end Go.Proofs.YtejhfmjegmccjaaDoor

/- Boxes: variables that live in a block of their own. -/
set_option linter.unusedVariables false
set_option linter.unusedSimpArgs false
namespace Go.Proofs.YtejhfmjegmccjaaDoor
open Go.RowKit

theorem newboxE (w : World) (t : TypeId) (v : Value) : ∃ W, w.alloc (.cells #[v] t) = W ∧ Below w.heap.size w W ∧ W.cell? ⟨w.heap.size, 0, none⟩ = some v ∧ W.frozen? ⟨w.heap.size, 0, none⟩ = false ∧ W.heap.size = w.heap.size + 1 :=
  ⟨_, rfl, (Below.refl _ _).alloc (Nat.le_refl _) _, (Boxed.new w t v).cell, (Boxed.new w t v).frozen, by simp⟩
/-- a box below the heap's end holds v -/
def BxE (b : Nat) (v : Value) (W : World) : Prop := W.cell? ⟨b, 0, none⟩ = some v ∧ W.frozen? ⟨b, 0, none⟩ = false ∧ b < W.heap.size
theorem BxE.later {b : Nat} {v : Value} {W W' : World} (h : BxE b v W) (hb : Below W.heap.size W W') : BxE b v W' :=
  ⟨(hb.cell (p := ⟨b, 0, none⟩) h.2.2).trans h.1, (hb.frozen (p := ⟨b, 0, none⟩) h.2.2).trans h.2.1, Nat.lt_of_lt_of_le h.2.2 hb.size⟩

theorem newBox (w : World) (t : TypeId) (v : Value) : ∃ W, w.alloc (.cells #[v] t) = W ∧ Below w.heap.size w W ∧ BxE w.heap.size v W ∧ W.heap.size = w.heap.size + 1 := by
  obtain ⟨W, e, h, h1, h2, h3⟩ := newboxE w t v
  exact ⟨W, e, h, ⟨h1, h2, by omega⟩, h3⟩
theorem below_drewR (B : Nat) (w : World) (n : Nat) : Below B w (w.drewN n) := ⟨rfl, rfl, rfl, Nat.le_refl _, fun _ _ => rfl⟩
theorem below_box {B : Nat} {a w : World} (h : Below B a w) {b : Nat} (hb : B ≤ b) (u : Value) : Below B a (w.setCell ⟨b, 0, none⟩ u) := h.setCell (p := ⟨b, 0, none⟩) hb u
theorem BxE.set {b : Nat} {v : Value} {W : World} (h : BxE b v W) (u : Value) : BxE b u (W.setCell ⟨b, 0, none⟩ u) :=
  ⟨World.cell?_setCell_same' _ _ _ (by rw [h.1]; rfl), by rw [World.frozen?_setCell]; exact h.2.1, by have := h.2.2; simpa [World.setCell] using this⟩
theorem BxE.far {b b' : Nat} {v : Value} {W : World} (h : BxE b v W) (hn : b' ≠ b) (u : Value) : BxE b v (W.setCell ⟨b', 0, none⟩ u) :=
  ⟨by rw [World.cell?_setCell_other _ _ _ _ (fun e => hn (by injection e))]; exact h.1, by rw [World.frozen?_setCell]; exact h.2.1, by have := h.2.2; simpa [World.setCell] using this⟩
theorem BxE.kept {b : Nat} {v : Value} {A B' : World} (h : BxE b v A) {row : Option Nat} (hg : A.grownBy B' row) (hr : ∀ r, row = some r → ∃ o : Obj, A.heap[r]? = some o ∧ o.isCells = false) : BxE b v B' :=
  ⟨cell_kept h.1 hg hr, (frozen_kept h.1 hg hr).trans h.2.1, Nat.lt_of_lt_of_le h.2.2 hg.size⟩
theorem BxE.new (w : World) (t : TypeId) (v : Value) : BxE w.heap.size v (w.alloc (.cells #[v] t)) := by
  obtain ⟨W, rfl, _, h1, h2, h3⟩ := newboxE w t v
  exact ⟨h1, h2, by omega⟩
theorem BxE.drewN {b : Nat} {v : Value} {W : World} (h : BxE b v W) (n : Nat) : BxE b v (W.drewN n) := h
theorem SlV.setFar {w : World} {B n c : Nat} {A : Option Addr} {vs : List Value} (h : SlV w B A n c vs) {b : Nat} (hb : B ≤ b) (u : Value) : SlV (w.setCell ⟨b, 0, none⟩ u) B A n c vs :=
  h.below ((Below.refl B w).setCell (p := ⟨b, 0, none⟩) hb u)
end Go.Proofs.YtejhfmjegmccjaaDoor

/- drbg: hmac, step, mix, update. -/
set_option linter.unusedVariables false
set_option linter.unusedSimpArgs false
namespace Go.Proofs.YtejhfmjegmccjaaDoor
open Go.RowKit Go.Shelf

/-- the cells of a generator -/
def dL (key val : List (BitVec 8)) (calls : Int) : List Value := key.map W8 ++ (val.map W8 ++ [.int .i64 calls])
structure DrbgR (w : World) (g : Nat) (key val : List (BitVec 8)) (calls : Int) : Prop where
  hk : key.length = 32
  hv : val.length = 32
  row : RowV 83 w g (dL key val calls)
theorem DrbgR.later {w w' : World} {g : Nat} {key val : List (BitVec 8)} {calls : Int} (h : DrbgR w g key val calls) (hb : Below w.heap.size w w') : DrbgR w' g key val calls := ⟨h.hk, h.hv, h.row.later hb⟩
theorem dL_length {key val : List (BitVec 8)} (calls : Int) (hk : key.length = 32) (hv : val.length = 32) : (dL key val calls).length = 65 := by simp [dL, hk, hv]
theorem DrbgR.key_ {w : World} {g : Nat} {key val : List (BitVec 8)} {calls : Int} (h : DrbgR w g key val calls) : SlV w w.heap.size (some ⟨g, 0, none⟩) 32 32 (key.map W8) := by
  have hs := h.row.slOff 0 32 (by rw [dL_length _ h.hk h.hv]; decide) (by rw [dL_length _ h.hk h.hv]; decide)
  have : ((dL key val calls).drop 0).take 32 = key.map W8 := by
    rw [List.drop_zero, dL, List.take_left' (by simp [h.hk])]
  rw [this] at hs
  exact ⟨hs.1, Nat.le_refl _, by decide, hs.2.2.2⟩
theorem DrbgR.val_ {w : World} {g : Nat} {key val : List (BitVec 8)} {calls : Int} (h : DrbgR w g key val calls) : SlV w w.heap.size (some ⟨g, 32, none⟩) 32 32 (val.map W8) := by
  have hs := h.row.slOff 32 32 (by rw [dL_length _ h.hk h.hv]; decide) (by rw [dL_length _ h.hk h.hv]; decide)
  have : ((dL key val calls).drop 32).take 32 = val.map W8 := by
    rw [dL, List.drop_left' (by simp [h.hk]), List.take_left' (by simp [h.hv])]
  rw [this] at hs
  exact ⟨hs.1, Nat.le_refl _, by decide, hs.2.2.2⟩
theorem Tryd.arr328 : (Tryd.prog.info? 81).map (·.size) = some 32 := by kernel_rfl
theorem run_arrayAt (w : World) (b n c : Nat) (hn : 32 ≤ n) : (Instr.arrayAt 81 (.slice (some ⟨b, 0, none⟩) n c)).run Tryd.prog w = .ok (.pointer (some ⟨b, 0, none⟩)) w := by
  have h : ¬ n < 32 := by omega
  simp [Instr.arrayAt, run_underlying Tryd.underlying81, h, go_sem]
theorem StartsG.only {w w' : World} {g : Nat} (h : StartsG w) (ho : OnlyV w w' g) (hg : 1 < g) : StartsG w' := ⟨Nat.lt_of_lt_of_le h.1 ho.size, fun k h1 h5 j v hv => (ho.cell (p := ⟨0, k * 8 + j, none⟩) h.1 (by show 0 ≠ g; omega)).trans (h.2 k h1 h5 j v hv)⟩
theorem szN3 : szN 3 = 32 := rfl
theorem kind3 : KindOk 3 := by unfold KindOk; omega

set_option maxRecDepth 100000 in
set_option maxHeartbeats 2000000 in
theorem dhmac_any (w : World) (g : Nat) (key val : List (BitVec 8)) (calls : Int) (h : DrbgR w g key val calls) (hGS : StartsG w) (hGR : RootsG w) (B : Nat) (A : Option Addr) (n c : Nat) (pss : List (List (BitVec 8))) (hp : PartsV w B A n c pss) (hB : B ≤ w.heap.size) (hn : n ≤ 17592186044416) (hlen : pss.flatten.length + 512 ≤ 17592186044416) :
    Calls Tryd.prog 103 #[.pointer (some ⟨g, 0, none⟩), .slice A n c] w fun e w' => e = .returned (.agg ((hmacL 3 key pss.flatten).map W8).toArray) ∧ Below w.heap.size w w' := by
  obtain ⟨W1, e1, r1, b1, z1⟩ := newV w 81 (List.replicate 32 (.int .u8 0)) #[.int .u8 0, .int .u8 0, .int .u8 0, .int .u8 0, .int .u8 0, .int .u8 0, .int .u8 0, .int .u8 0, .int .u8 0, .int .u8 0, .int .u8 0, .int .u8 0, .int .u8 0, .int .u8 0, .int .u8 0, .int .u8 0, .int .u8 0, .int .u8 0, .int .u8 0, .int .u8 0, .int .u8 0, .int .u8 0, .int .u8 0, .int .u8 0, .int .u8 0, .int .u8 0, .int .u8 0, .int .u8 0, .int .u8 0, .int .u8 0, .int .u8 0, .int .u8 0] rfl
  obtain ⟨b0, hb0⟩ : ∃ b, w.heap.size = b := ⟨_, rfl⟩
  rw [hb0] at r1
  have hh := h.later b1
  have hm := hmac_any W1 3 kind3 (hGS.later b1) (hGR.later b1) W1.heap.size _ 32 32 key hh.key_ (by intro h; cases h) (Nat.le_refl _) (by decide) A n c pss ⟨hp.choose, (hp.choose_spec.1.below (b1.mono hB)).more (by omega), hp.choose_spec.2.1, fun i v ps a b => by
    obtain ⟨Ai, ni, ci, e, hs, hz⟩ := hp.choose_spec.2.2 i v ps a b
    exact ⟨Ai, ni, ci, e, (hs.below (b1.mono hB)).more (by omega), hz⟩⟩ hn hlen
  obtain ⟨D, hD⟩ : ∃ D, hmacL 3 key pss.flatten = D := ⟨_, rfl⟩
  have hl2 : (D.map W8).length = 32 := by rw [← hD, List.length_map, hmacL_length, szN3]
  rw [hD] at hm ⊢
  have har := fun (w : World) (b : Nat) => run_arrayAt w b 32 32 (Nat.le_refl _)
  have HM := Lib.hid hm
  have HB1 := Lib.hid b1
  have HR1 := Lib.hid r1
  have HB0 := Lib.hid hb0
  have hlt := r1.lt
  clear hm b1 r1 hh h hp hGS hGR hlen z1 hD
  go_enter Tryd.func103, Tryd.ntmps103
  go_wp2_with fail
  refine HM.out.mono ?_
  rintro e w2 ⟨b, rfl, hbb, hrow, hb2⟩
  rw [szN3]
  have hr2 := HR1.out.later hb2
  have HB2 := Lib.hid hb2
  clear hb2
  go_wp2_with (first | refine wlv_load rfl 81 32 _ Tryd.underlying81 Tryd.arr328 _ rfl b rfl _ _ hrow hl2 ?_ | (refine wlv_storeO rfl 81 32 Tryd.arr328 _ _ rfl b0 (D.map W8) rfl rfl _ _ hr2 rfl hl2 (ones8 D) ?_; intro w3 hr3 ho3))
  refine ⟨rfl, _, results_rowV rfl _ b0 _ _ rfl hr3 Tryd.underlying81 Tryd.arr328 hl2, rfl, ?_⟩
  rw [HB0.out]
  exact (HB1.out.mono (by omega)).trans ((HB2.out.mono (by omega)).trans (ho3.below (Nat.le_refl _) (by have := HB2.out.size; omega)))
theorem DrbgR.cells_ {w : World} {g : Nat} {key val : List (BitVec 8)} {calls : Int} (h : DrbgR w g key val calls) (off : Nat) (ho : off + 32 ≤ 65) : w.there g off 32 := fun j hj => ⟨by
    have := h.row.cell (off + j)
    rw [this, List.getElem?_eq_getElem (by rw [dL_length _ h.hk h.hv]; omega)]
    rfl, h.row.frozen _⟩
theorem DrbgR.putVal {w : World} {g : Nat} {key val : List (BitVec 8)} {calls : Int} (h : DrbgR w g key val calls) (D : List (BitVec 8)) (hl : D.length = 32) : DrbgR (w.setCells g 32 (D.map W8)) g key D calls :=
  ⟨h.hk, hl, by
    have h2 := RowV.setCells (D.map W8) 32 _ _ h.row
    have h3 := setL_mid (D.map W8) (key.map W8) (val.map W8) [.int .i64 calls] (by simp [h.hv, hl])
    rw [show (key.map W8).length = 32 by simp [h.hk]] at h3
    rw [dL, h3] at h2
    exact h2⟩
theorem DrbgR.putKey {w : World} {g : Nat} {key val : List (BitVec 8)} {calls : Int} (h : DrbgR w g key val calls) (D : List (BitVec 8)) (hl : D.length = 32) : DrbgR (w.setCells g 0 (D.map W8)) g D val calls :=
  ⟨hl, h.hv, by
    have h2 := RowV.setCells (D.map W8) 0 _ _ h.row
    have h3 := setL_mid (D.map W8) [] (key.map W8) (val.map W8 ++ [.int .i64 calls]) (by simp [h.hk, hl])
    rw [List.length_nil, List.nil_append, List.nil_append] at h3
    rw [dL, h3] at h2
    exact h2⟩
theorem PartsV.one {w : World} {g B : Nat} {A1 : Option Addr} {n1 c1 : Nat} {p1 : List (BitVec 8)} (h : RowV 22 w g [.slice A1 n1 c1]) (h1 : SlV w B A1 n1 c1 (p1.map W8)) (z1 : A1 = none → c1 = 0) (hg : g < B) :
    PartsV w B (some ⟨g, 0, none⟩) 1 1 [p1] := by
  refine ⟨[.slice A1 n1 c1], ⟨rfl, by decide, by decide, fun _ => ⟨g, 0, rfl, hg, fun k v hv => by rw [Nat.zero_add]; exact h.at_ hv⟩⟩, rfl, fun i v ps hv hp => ?_⟩
  match i with
  | 0 => cases hv; cases hp; exact ⟨_, _, _, rfl, h1, z1⟩
  | i + 1 => simp at hv
theorem PartsV.three {w : World} {g B : Nat} {A1 A2 A3 : Option Addr} {n1 c1 n2 c2 n3 c3 : Nat} {p1 p2 p3 : List (BitVec 8)} (h : RowV 22 w g [.slice A1 n1 c1, .slice A2 n2 c2, .slice A3 n3 c3]) (h1 : SlV w B A1 n1 c1 (p1.map W8)) (z1 : A1 = none → c1 = 0) (h2 : SlV w B A2 n2 c2 (p2.map W8)) (z2 : A2 = none → c2 = 0) (h3 : SlV w B A3 n3 c3 (p3.map W8)) (z3 : A3 = none → c3 = 0) (hg : g < B) :
    PartsV w B (some ⟨g, 0, none⟩) 3 3 [p1, p2, p3] := by
  refine ⟨[.slice A1 n1 c1, .slice A2 n2 c2, .slice A3 n3 c3], ⟨rfl, by decide, by decide, fun _ => ⟨g, 0, rfl, hg, fun k v hv => by rw [Nat.zero_add]; exact h.at_ hv⟩⟩, rfl, fun i v ps hv hp => ?_⟩
  match i with
  | 0 => cases hv; cases hp; exact ⟨_, _, _, rfl, h1, z1⟩
  | 1 => cases hv; cases hp; exact ⟨_, _, _, rfl, h2, z2⟩
  | 2 => cases hv; cases hp; exact ⟨_, _, _, rfl, h3, z3⟩
  | i + 3 => simp at hv
/-- V anew -/
def stepL (key val : List (BitVec 8)) : List (BitVec 8) := hmacL 3 key val
theorem stepL_length (key val : List (BitVec 8)) : (stepL key val).length = 32 := by rw [stepL, hmacL_length]; rfl
set_option maxRecDepth 100000 in
set_option maxHeartbeats 2000000 in
theorem dstep_any (w : World) (g : Nat) (key val : List (BitVec 8)) (calls : Int) (h : DrbgR w g key val calls) (hGS : StartsG w) (hGR : RootsG w) :
    Calls Tryd.prog 84 #[.pointer (some ⟨g, 0, none⟩)] w fun e w' => e = .returned (.tuple #[]) ∧ DrbgR w' g key (stepL key val) calls ∧ OnlyV w w' g := by
  obtain ⟨W1, e1, r1, b1, z1⟩ := newV w 22 [.slice (some ⟨g, 32, none⟩) 32 32] #[.slice (some ⟨g, 32, none⟩) 32 32] rfl
  obtain ⟨b0, hb0⟩ : ∃ b, w.heap.size = b := ⟨_, rfl⟩
  rw [hb0] at r1
  have hh := h.later b1
  have hm := dhmac_any W1 g key val calls hh (hGS.later b1) (hGR.later b1) W1.heap.size _ 1 1 [val] (PartsV.one r1 hh.val_ (by intro h; cases h) (by omega)) (Nat.le_refl _) (by decide) (by simp [h.hv])
  rw [List.flatten_singleton] at hm
  have hDl := stepL_length key val
  obtain ⟨D, hD⟩ : ∃ D, stepL key val = D := ⟨_, rfl⟩
  rw [show hmacL 3 key val = D from hD] at hm
  rw [hD] at hDl ⊢
  have HM := Lib.hid hm
  have HH := Lib.hid hh
  have HB1 := Lib.hid b1
  have HDL := Lib.hid hDl
  clear hm b1 r1 hh h hGS hGR z1 hD hDl
  go_enter Tryd.func84, Tryd.ntmps84
  go_wp2_with fail
  refine HM.out.mono ?_
  rintro e w2 ⟨rfl, hb2⟩
  have hh2 := HH.out.later hb2
  have hth := hh2.cells_ 32 (by decide)
  have hDm : (D.map W8).toArray.size = 32 := by simpa using HDL.out
  have HB2 := Lib.hid hb2
  have HH2 := Lib.hid hh2
  clear hb2 hh2
  go_wp2_with (refine wpList_store_mid rfl 81 _ _ rfl g 32 (D.map W8).toArray rfl rfl (by rw [hDm]; exact hth) (by rw [hDm]; exact Tryd.arr328) (all_oneCell_toArray (ones8 D)) ?_)
  refine bodyPost_end (results_none rfl _ _ _) rfl ?_
  exact ⟨rfl, HH2.out.putVal D HDL.out, OnlyV.sets _ _ _ ((OnlyV.of_below HB1.out g).trans (OnlyV.of_below HB2.out g))⟩
/-- K anew -/
def mixK (key val : List (BitVec 8)) (mark : BitVec 8) (data : List (BitVec 8)) : List (BitVec 8) := hmacL 3 key (val ++ ([mark] ++ data))
theorem mixK_length (key val : List (BitVec 8)) (mark : BitVec 8) (data : List (BitVec 8)) : (mixK key val mark data).length = 32 := by rw [mixK, hmacL_length]; rfl
set_option maxRecDepth 100000 in
set_option maxHeartbeats 2000000 in
theorem dmix_any (w : World) (g : Nat) (hg1 : 1 < g) (key val : List (BitVec 8)) (calls : Int) (h : DrbgR w g key val calls) (hGS : StartsG w) (hGR : RootsG w) (mark : BitVec 8) (mz : Int) (hmz : i8 mark = mz) (B : Nat) (A : Option Addr) (n c : Nat) (data : List (BitVec 8)) (hs : SlV w B A n c (data.map W8)) (hz : A = none → c = 0) (hB : B ≤ w.heap.size) (hn : n + 1024 ≤ 17592186044416) :
    Calls Tryd.prog 82 #[.pointer (some ⟨g, 0, none⟩), .int .u8 mz, .slice A n c] w fun e w' => e = .returned (.tuple #[]) ∧ DrbgR w' g (mixK key val mark data) (stepL (mixK key val mark data) val) calls ∧ OnlyV w w' g := by
  subst hmz
  obtain ⟨W1, e1, r1, b1, z1⟩ := newV w 5 [.int .u8 (i8 mark)] #[.int .u8 (i8 mark)] rfl
  obtain ⟨b0, hb0⟩ : ∃ b, w.heap.size = b := ⟨_, rfl⟩
  rw [hb0] at r1
  obtain ⟨W2, e2, r2, b2, z2⟩ := newV W1 22 [.slice (some ⟨g, 32, none⟩) 32 32, .slice (some ⟨b0, 0, none⟩) 1 1, .slice A n c] #[.slice (some ⟨g, 32, none⟩) 32 32, .slice (some ⟨b0, 0, none⟩) 1 1, .slice A n c] rfl
  obtain ⟨b3, hb3⟩ : ∃ b, W1.heap.size = b := ⟨_, rfl⟩
  rw [hb3] at r2
  have h12 : Below w.heap.size w W2 := b1.trans (b2.mono b1.size)
  have hh := h.later h12
  have hl0 := hs.len
  rw [List.length_map] at hl0
  have hs1 : SlV W1 W1.heap.size (some ⟨b0, 0, none⟩) 1 1 ([mark].map W8) := r1.sl (by simp)
  have hm := dhmac_any W2 g key val calls hh (hGS.later h12) (hGR.later h12) W2.heap.size _ 3 3 [val, [mark], data] (PartsV.three r2 hh.val_ (by intro h; cases h) ((hs1.below b2).more b2.size) (by intro h; cases h) ((hs.below (h12.mono hB)).more (Nat.le_trans hB h12.size)) hz (by omega)) (Nat.le_refl _) (by decide) (by simp [h.hv]; omega)
  rw [show [val, [mark], data].flatten = val ++ ([mark] ++ data) by simp] at hm
  have hKl := mixK_length key val mark data
  obtain ⟨K, hK⟩ : ∃ K, mixK key val mark data = K := ⟨_, rfl⟩
  rw [show hmacL 3 key (val ++ ([mark] ++ data)) = K from hK] at hm
  rw [hK] at hKl ⊢
  have HM := Lib.hid hm
  have HH := Lib.hid hh
  have HB1 := Lib.hid h12
  have HKL := Lib.hid hKl
  have HG := Lib.hid (⟨hGS.later h12, hGR.later h12⟩ : StartsG W2 ∧ RootsG W2)
  clear hm b1 r1 hh h hGS hGR z1 hK hKl h12 b2 r2 hs1 hs z2 hl0
  go_enter Tryd.func82, Tryd.ntmps82
  go_wp2_with fail
  refine HM.out.mono ?_
  rintro e w2 ⟨rfl, hb2⟩
  have hh2 := HH.out.later hb2
  have hth := hh2.cells_ 0 (by decide)
  have hDm : (K.map W8).toArray.size = 32 := by simpa using HKL.out
  obtain ⟨W3, e3⟩ : ∃ W, w2.setCells g 0 (K.map W8).toArray.toList = W := ⟨_, rfl⟩
  have hh3 : DrbgR W3 g K val calls := by rw [← e3]; exact hh2.putKey K HKL.out
  have ho3 : OnlyV W2 W3 g := by rw [← e3]; exact OnlyV.sets _ _ _ (OnlyV.of_below hb2 g)
  have hst := dstep_any W3 g K val calls hh3 (HG.out.1.only ho3 hg1) (HG.out.2.only ho3 hg1)
  have HST := Lib.hid hst
  have HO3 := Lib.hid ho3
  clear hb2 hh2 hh3 ho3 hst
  go_wp2_with (refine wpList_store_mid rfl 81 _ _ rfl g 0 (K.map W8).toArray rfl rfl (by rw [hDm]; exact hth) (by rw [hDm]; exact Tryd.arr328) (all_oneCell_toArray (ones8 K)) ?_)
  refine HST.out.mono ?_
  rintro e w4 ⟨rfl, hh4, ho4⟩
  have HH4 := Lib.hid hh4
  have HO4 := Lib.hid ho4
  clear hh4 ho4 hth
  go_wp2
  refine bodyPost_end (results_none rfl _ _ _) rfl ?_
  exact ⟨rfl, HH4.out, ((OnlyV.of_below HB1.out g).trans HO3.out).trans HO4.out⟩
end Go.Proofs.YtejhfmjegmccjaaDoor

/- drbg: update, New, Reseed, Left. -/
set_option linter.unusedVariables false
set_option linter.unusedSimpArgs false
namespace Go.Proofs.YtejhfmjegmccjaaDoor
open Go.RowKit Go.Shelf

def updL (kv : List (BitVec 8) × List (BitVec 8)) (data : List (BitVec 8)) : List (BitVec 8) × List (BitVec 8) :=
  let k1 := mixK kv.1 kv.2 0 data
  let v1 := stepL k1 kv.2
  if data = [] then (k1, v1) else (mixK k1 v1 1 data, stepL (mixK k1 v1 1 data) v1)
set_option maxRecDepth 100000 in
set_option maxHeartbeats 2000000 in
theorem dupdate_any (w : World) (g : Nat) (hg1 : 1 < g) (kv : List (BitVec 8) × List (BitVec 8)) (calls : Int) (h : DrbgR w g kv.1 kv.2 calls) (hGS : StartsG w) (hGR : RootsG w) (B : Nat) (A : Option Addr) (n c : Nat) (data : List (BitVec 8)) (hs : SlV w B A n c (data.map W8)) (hz : A = none → c = 0) (hB : B ≤ g) (hn : n + 1024 ≤ 17592186044416) :
    Calls Tryd.prog 61 #[.pointer (some ⟨g, 0, none⟩), .slice A n c] w fun e w' => e = .returned (.tuple #[]) ∧ DrbgR w' g (updL kv data).1 (updL kv data).2 calls ∧ OnlyV w w' g := by
  have hgw := h.row.lt
  have hm := dmix_any w g hg1 kv.1 kv.2 calls h hGS hGR 0 0 rfl B A n c data hs hz (by omega) hn
  obtain ⟨k1, hk1⟩ : ∃ k, mixK kv.1 kv.2 0 data = k := ⟨_, rfl⟩
  obtain ⟨v1, hv1⟩ : ∃ v, stepL k1 kv.2 = v := ⟨_, rfl⟩
  have hl0 := hs.len
  rw [List.length_map] at hl0
  rw [hk1, hv1] at hm
  have hcap := hs.cap
  have hmax := hs.max
  have HM := Lib.hid hm
  have HS := Lib.hid hs
  have HG := Lib.hid (⟨hGS, hGR⟩ : StartsG w ∧ RootsG w)
  by_cases hd : data = []
  · have hu : updL kv data = (k1, v1) := by simp only [updL, hk1, hv1, if_pos hd]
    rw [hu]
    have hn0 : n = 0 := by rw [hl0, hd]; rfl
    subst hn0
    clear hm hs hGS hGR h hk1 hv1 hl0 hd hu
    go_enter Tryd.func61, Tryd.ntmps61
    go_wp2_with fail
    refine HM.out.mono ?_
    rintro e w1 ⟨rfl, hh1, ho1⟩
    have H1 := Lib.hid hh1
    have O1 := Lib.hid ho1
    clear hh1 ho1
    go_wp2
    refine bodyPost_end (results_none rfl _ _ _) rfl ?_
    exact ⟨rfl, H1.out, O1.out⟩
  · have hu : updL kv data = (mixK k1 v1 1 data, stepL (mixK k1 v1 1 data) v1) := by simp only [updL, hk1, hv1, if_neg hd]
    rw [hu]
    have hnI : (0 : Int) < n := by
      have : data.length ≠ 0 := fun h => hd (List.eq_nil_of_length_eq_zero h)
      omega
    clear hm hs hGS hGR h hk1 hv1 hl0 hd hu
    go_enter Tryd.func61, Tryd.ntmps61
    go_wp2_with fail
    refine HM.out.mono ?_
    rintro e w1 ⟨rfl, hh1, ho1⟩
    have hm2 := dmix_any w1 g hg1 k1 v1 calls hh1 (HG.out.1.only ho1 hg1) (HG.out.2.only ho1 hg1) 1 1 rfl B A n c data (HS.out.below (ho1.below hB (by omega))) hz (by have := ho1.size; omega) hn
    have M2 := Lib.hid hm2
    have O1 := Lib.hid ho1
    clear hh1 ho1 hm2
    go_wp2_with fail
    refine M2.out.mono ?_
    rintro e w2 ⟨rfl, hh2, ho2⟩
    have H2 := Lib.hid hh2
    have O2 := Lib.hid ho2
    clear hh2 ho2
    go_wp2
    refine bodyPost_end (results_none rfl _ _ _) rfl ?_
    exact ⟨rfl, H2.out, O1.out.trans O2.out⟩
set_option maxRecDepth 100000 in
set_option maxHeartbeats 2000000 in
theorem dnew_any (w : World) (hGS : StartsG w) (hGR : RootsG w) (B : Nat) (A : Option Addr) (n c : Nat) (data : List (BitVec 8)) (hs : SlV w B A n c (data.map W8)) (hz : A = none → c = 0) (hB : B ≤ w.heap.size) (hn : n + 1024 ≤ 17592186044416) :
    Calls Tryd.prog 34 #[.slice A n c] w fun e w' => e = .returned (.pointer (some ⟨w.heap.size, 0, none⟩)) ∧ DrbgR w' w.heap.size (updL (List.replicate 32 0, List.replicate 32 1) data).1 (updL (List.replicate 32 0, List.replicate 32 1) data).2 0 ∧ Below w.heap.size w w' := by
  obtain ⟨W1, e1, r1, b1, z1⟩ := newV w 83 (dL (List.replicate 32 0) (List.replicate 32 0) 0) Tryd.zeroCells83 (by first | rfl | kernel_rfl)
  obtain ⟨g, hg⟩ : ∃ b, w.heap.size = b := ⟨_, rfl⟩
  rw [hg] at r1 ⊢
  have hg1 : 1 < g := by have := hGR.1; omega
  have HB1 := Lib.hid b1
  have HR1 := Lib.hid r1
  have HG := Lib.hid (⟨hGS, hGR⟩ : StartsG w ∧ RootsG w)
  have HS := Lib.hid hs
  have HGG := Lib.hid hg
  have h32 : (List.replicate 32 (0 : BitVec 8)).length = 32 := by simp
  have hgl := r1.lt
  clear b1 r1 hGS hGR hs z1
  go_enter Tryd.func34, Tryd.ntmps34
  go_wp2
  go_loopw [7] (fun i wr => ∃ (j : Nat), j ≤ 32 ∧ i = .int .i64 (j : Int) ∧ Hid (DrbgR wr g (List.replicate 32 0) ((List.replicate 32 1).take j ++ List.replicate (32 - j) 0) 0) ∧ Hid (Below g w wr)) (fun i _ => 32 - (intOf i).toNat)
  case atStart => exact ⟨0, by decide, rfl, Lib.hid ⟨by simp, by simp, HR1.out⟩, Lib.hid (by rw [← HGG.out]; exact HB1.out)⟩
  case round =>
    obtain ⟨j, hj, rfl, HD, HB⟩ := hrel
    by_cases hj32 : j = 32
    · subst hj32
      have hd := HD.out
      rw [show (List.replicate 32 (1 : BitVec 8)).take 32 ++ List.replicate (32 - 32) 0 = List.replicate 32 1 from rfl] at hd
      have hbw := HB.out
      rw [← HGG.out] at hbw
      have hu := dupdate_any wr g hg1 (List.replicate 32 0, List.replicate 32 1) 0 hd (HG.out.1.later hbw) (HG.out.2.later hbw) B A n c data (HS.out.below (hbw.mono hB)) hz (by rw [← HGG.out]; exact hB) hn
      have HU := Lib.hid hu
      clear hu hd hbw
      go_wp2_with fail
      refine HU.out.mono ?_
      rintro e w1 ⟨rfl, hd1, ho1⟩
      have H1 := Lib.hid hd1
      have O1 := Lib.hid ho1
      clear hd1 ho1
      go_wp2
      go_ret
      exact ⟨rfl, H1.out, HB.out.trans (O1.out.below (Nat.le_refl _) (by have := HD.out.row.lt; omega))⟩
    · have hjI : (j : Int) < 32 := by omega
      have hj0 : (0 : Int) ≤ j := by omega
      have hc : wr.cell? ⟨g, 32 + j, none⟩ = some (.int .u8 0) := HD.out.row.at_ (by
        rw [dL, List.getElem?_append_right (by simp), List.length_map, List.length_replicate, Nat.add_sub_cancel_left, List.getElem?_append_left (by simp; omega), List.getElem?_map]
        have := fill_get (List.replicate 32 (1 : BitVec 8)) 0 j (by simp; omega)
        rw [List.length_replicate] at this
        rw [this]
        rfl)
      have hf := HD.out.row.frozen (32 + j)
      have hst := HD.out.row.set (32 + j) (.int .u8 1)
      have hset : (dL (List.replicate 32 0) ((List.replicate 32 (1 : BitVec 8)).take j ++ List.replicate (32 - j) 0) 0).set (32 + j) (.int .u8 1) = dL (List.replicate 32 0) ((List.replicate 32 1).take (j + 1) ++ List.replicate (32 - (j + 1)) 0) 0 := by
        have h1 := fill_set (List.replicate 32 (1 : BitVec 8)) 0 j 1 (by rw [List.getElem?_replicate, if_pos (by omega)])
        rw [List.length_replicate] at h1
        rw [dL, dL, List.set_append_right _ _ (by simp), List.length_map, List.length_replicate, Nat.add_sub_cancel_left, List.set_append_left _ _ (by simp; omega), ← h1, List.map_set]
        rfl
      rw [hset] at hst
      have HST := Lib.hid hst
      clear hst hset
      go_wp2
      go_roundw
      case rel => exact ⟨j + 1, by omega, by go_num, Lib.hid ⟨by simp, by simp; omega, HST.out⟩, Lib.hid (HB.out.setCell (p := ⟨g, 32 + j, none⟩) (Nat.le_refl _) _)⟩
      case measure => simp [intOf]; omega
end Go.Proofs.YtejhfmjegmccjaaDoor

/- The range law for an endless iterator that turns a block gb of its own between the rounds: the body's relation must not speak of it; of each value that comes a fact R is told, which may. -/
set_option linter.unusedVariables false
set_option linter.unusedSimpArgs false
namespace Go.Proofs.YtejhfmjegmccjaaDoor
open Go.RowKit Go.Shelf

/-- the iterator's word: ahead of a round R holds of what is handed out; the rounds end, since J bounds them -/
def SeqM {α : Type} (F : Fence) (n : Nat) (P : Program) (g : Nat) (lb : Array Value) (enc : α → Array Value) (R : List α → α → World → Prop) (Kp : World → World → Prop) (S Sp : List α → Prop) (N : Nat) (gb : Nat) (w : World) : Prop :=
  ∀ (l : Nat) (J Jx : List α → World → Prop) (W : World), Below w.heap.size w W → AbidesFrom W.heap.size J → AbidesFrom W.heap.size Jx → (∀ s A B, J s A → A.grownBy B (some gb) → J s B) → (∀ s A, J s A → s.length < N) →
    (∀ pre x V, J pre V → R pre x V → YieldAt F (n - 1) P l (enc x) V fun e V' => (e = .returned (.bool true) ∧ J (pre ++ [x]) V' ∧ Kp V V') ∨ (e = .returned (.bool false) ∧ Jx (pre ++ [x]) V')) →
    J [] W → CallsIn F n P g (#[.func (.yield l) #[] #[]] ++ lb) W fun e W' => (∃ v, e = .returned v) ∧ ((∃ xs, S xs ∧ J xs W') ∨ (∃ pre, Sp pre ∧ Jx pre W'))

variable {F : Fence} {n : Nat} {P : Program}

theorem wpIn_rangeM {α : Type} {g : Operand} {ps : Array Tmp} {assign body : Code} {Q : Exit → Act → World → Prop} {a : Act} {w : World}
    (hro : F.round = none) (h1 : 1 ≤ n) {gf : Nat} {lb : Array Value} (hg : a.eval g = .func (.func gf) #[] lb) (hFg : F.fn gf) (eg : ∀ args w, (callFunc gf args).run P w = .ok (.enter gf args) w)
    {enc : α → Array Value} {R : List α → α → World → Prop} {Kp : World → World → Prop} {S Sp : List α → Prop} {N gb : Nat} (hgb : gb < w.heap.size) (hseq : SeqM F (n - 1) P gf lb enc R Kp S Sp N gb w)
    (hKt : ∀ {A B C : World}, Kp A B → Kp B C → Kp A C) (hKb : ∀ (W : World) (l : Nat) (o o' : Obj), w.heap.size ≤ l → W.heap[l]? = some o → o.isCells = false → o.isWalk = false → Kp W (W.putObj l o')) (hps : ∀ x, (enc x).size = ps.size)
    (I : List α → World → Prop) (Ix : Code → List α → World → Prop) (hI : OwnFrom w.heap.size I) (hIg : ∀ s A B, I s A → A.grownBy B (some gb) → I s B) (hIN : ∀ s A, I s A → s.length < N) (hIx : ∀ c, OwnFrom w.heap.size (Ix c)) (hR : ∀ pre, OwnFrom w.heap.size (R pre)) (h0 : I [] w) (hKB : ∀ A B, w.heap.size ≤ A.heap.size → Below A.heap.size A B → Kp A B) (Ax : α → World → Act → World → Prop)
    (hassign : ∀ (l : Nat) (pre : List α) (x : α) (W : World) (K : Act → World → Prop), w.heap.size ≤ W.heap.size → R pre x W → (∀ a' W', Below W.heap.size W W' → Ax x W a' W' → K a' W') →
      assign.wpIn (F.inRound l) (n - 1 - 1) P (Exit.then K (fun _ _ _ => False)) { tmps := (ps.zip (enc x)).foldl (fun t (p, v) => t.setIfInBounds p v) a.tmps, defers := [] } W)
    (hAx : ∀ x W a' W' o', Ax x W a' W' → ∀ l o, w.heap.size ≤ l → l < W.heap.size → W'.heap[l]? = some o → o.isCells = false → Ax x W a' (W'.putObj l o'))
    (hbody : ∀ (l : Nat) (pre : List α) (x : α) (W0 : World) (a' : Act) (W : World), w.heap.size ≤ W0.heap.size → Ax x W0 a' W → I pre W → R pre x W → body.wpIn (F.inRound l) (n - 1 - 1) P (ownPostG w.heap.size Kp I Ix (pre ++ [x]) W) a' W)
    (hdone : ∀ (D : Nat) (xs : List α) (W : World), w.heap.size ≤ D → S xs → I xs W → W.heap[D]? = some (.deferred (some [])) → Q .normal { a with defers := { target := .collected D, args := #[] } :: a.defers } W)
    (hstop : ∀ (D : Nat) (c : Code) (pre : List α) (W : World), w.heap.size ≤ D → Sp pre → Ix c pre W → W.heap[D]? = some (.deferred (some [])) → c.wpIn F n P Q { a with defers := { target := .collected D, args := #[] } :: a.defers } W) :
    (Code.rangeFunc g ps assign body).wpIn F n P Q a w := by
  refine wpIn_rangeFunc fun fn hfn => ?_
  rw [hro]
  obtain ⟨b, hb⟩ : ∃ b, w.heap.size = b := ⟨_, rfl⟩
  let lp : LoopState → Option Code → Loop := fun st pe => { state := st, pending := pe, fn, tmps := a.tmps, params := ps, assign, body, defers := b }
  let V := (w.alloc (.deferred (some []))).alloc (.loop (lp .ready none))
  have hV : TwoBl b (lp .ready none) V := by
    refine ⟨?_, ?_⟩
    · have h := World.alloc_heap_new (w.alloc (.deferred (some []))) (.loop (lp .ready none))
      rwa [World.size_alloc, hb] at h
    · rw [← hb]
      exact (Below.heap_alloc (w.alloc (.deferred (some []))) _ _ (by simp)).trans (World.alloc_heap_new w _)
  have hIV : I [] V := hI.alloc _ (hI.alloc _ h0)
  have hbel : Below w.heap.size w V := ((Below.refl _ w).alloc (Nat.le_refl _) _).alloc (by simp) _
  have hsz : w.heap.size ≤ V.heap.size := hbel.size
  have wide : ∀ {A : World} {row : Option Nat}, (∀ r, row = some r → V.heap.size ≤ r ∧ ∃ o : Obj, A.heap[r]? = some o ∧ o.isWalk = true) → ∀ r, row = some r → w.heap.size ≤ r ∧ ∃ o : Obj, A.heap[r]? = some o ∧ o.isCells = false := fun h r e => by
    obtain ⟨h1, o, ho, hw⟩ := h r e
    exact ⟨Nat.le_trans hsz h1, o, ho, Obj.not_cells_of_walk hw⟩
  have hent := run_enterLoop_outer (P := P) (w := w) fn a.tmps ps assign body
  rw [hb] at hent
  refine ⟨b + 1, [{ target := .collected b, args := #[] }], V, { target := .fn (.func gf) lb, args := #[.func (.yield (b + 1)) #[] #[]] }, V, gf, #[.func (.yield (b + 1)) #[] #[]] ++ lb, V, hent, ?_, ?_, ?_, fun _ => h1, ?_⟩
  · simp only [resolve, hg]
    simp [go_sem]
  · intro f' hf'
    simp [Target.leads] at hf'
    exact hf' ▸ hFg
  · simp [invoke, go_sem, eg]
  have hcall := hseq (b + 1) (fun pre W => I pre W ∧ TwoBl b (lp .ready none) W) (fun pre W => ∃ c, Ix c pre W ∧ TwoBl b (lp .done (some c)) W) V hbel
    (fun s A B row hs hg' hr => ⟨hI s A B row hs.1 hg' (wide hr), hs.2.grown hg' fun k e => (hr k e).2⟩)
    (fun s A B row hs hg' hr => by
      obtain ⟨c, h1, h2⟩ := hs
      exact ⟨c, hIx c s A B row h1 hg' (wide hr), h2.grown hg' fun k e => (hr k e).2⟩)
    (fun s A B hs hg' => ⟨hIg s A B hs.1 hg', ⟨(hg'.block _ (Array.getElem?_eq_some_iff.1 hs.2.lrec).1 (by intro e; injection e; omega)).trans hs.2.lrec, (hg'.block _ (Array.getElem?_eq_some_iff.1 hs.2.dfr).1 (by intro e; injection e; omega)).trans hs.2.dfr⟩⟩)
    (fun s A hs => hIN s A hs.1)
    (by
      rintro pre x W0 ⟨hi0, ht0⟩ hx0
      have hbW : b + 1 < W0.heap.size := (Array.getElem?_eq_some_iff.1 ht0.lrec).1
      refine ⟨fn, _, assign, body, run_yield (P := P) (args := enc x) ht0.lrec (hps x), roundIn_of_wpIn hfn (hassign _ pre x W0 _ (by omega) hx0 fun a' W hbl hax => ?_)⟩
      have hgN : W0.grownBy W none := ⟨hbl.os, hbl.tape, hbl.output, hbl.size, fun i hi _ => hbl.block i hi⟩
      have ht := ht0.grown hgN (fun k e => by cases e)
      have hi := hI pre W0 W none hi0 hgN (fun r e => by cases e)
      have hx := hR pre x W0 W none hx0 hgN (fun r e => by cases e)
      have hk0 : Kp W0 W := hKB _ _ (by omega) hbl
      refine ⟨_, run_beginRound ht.lrec rfl, ?_⟩
      have hle : w.heap.size ≤ b + 1 := by omega
      have hbusy := ht.put { lp .ready none with state := .busy }
      have hkb : Kp W (W.putObj (b + 1) (.loop { lp .ready none with state := .busy })) := hKb _ _ _ _ hle ht.lrec rfl rfl
      refine wpIn_mono (hbody (b + 1) pre x W0 a' _ (by omega) (hAx _ _ _ _ _ hax _ _ hle hbW ht.lrec rfl) (hI.putObj _ hi hle ht.lrec rfl) ((hR pre).putObj _ hx hle ht.lrec rfl)) ?_
      have leave : ∀ (c : Code) (X : World), KeepsFrom w.heap.size (W.putObj (b + 1) (.loop { lp .ready none with state := .busy })) X → Ix c (pre ++ [x]) X →
          (Instr.endRound (b + 1) (some c)).run P X = .ok (.bool false) (X.putObj (b + 1) (.loop (lp .done (some c)))) ∧ ∃ c', Ix c' (pre ++ [x]) (X.putObj (b + 1) (.loop (lp .done (some c)))) ∧ TwoBl b (lp .done (some c')) (X.putObj (b + 1) (.loop (lp .done (some c)))) := fun c X hk hi3 => by
        have ht3 := hbusy.kept (hb ▸ hk)
        exact ⟨run_endRound (P := P) (some c) ht3.lrec, c, (hIx c).putObj _ hi3 hle ht3.lrec rfl, ht3.put _⟩
      rintro e a3 X hp
      cases e with
      | normal =>
        obtain ⟨hk, hkp, hi3⟩ := hp
        have ht3 := hbusy.kept (hb ▸ hk)
        exact ⟨_, _, run_endRound (P := P) none ht3.lrec, .inl ⟨rfl, ⟨hI.putObj _ hi3 hle ht3.lrec rfl, ht3.put _⟩, hKt (hKt (hKt hk0 hkb) hkp) (hKb _ _ _ _ hle ht3.lrec rfl rfl)⟩⟩
      | ret => exact ⟨_, _, (leave _ X hp.1 hp.2).1, .inr ⟨rfl, (leave _ X hp.1 hp.2).2⟩⟩
      | exit id => exact ⟨_, _, (leave _ X hp.1 hp.2).1, .inr ⟨rfl, (leave _ X hp.1 hp.2).2⟩⟩
      | goto t => exact ⟨_, _, (leave _ X hp.1 hp.2).1, .inr ⟨rfl, (leave _ X hp.1 hp.2).2⟩⟩
      | panic ch => exact hp.elim
      | outgrown => exact hp.elim) ⟨hIV, hV⟩
  refine hcall.mono ?_
  have hle : w.heap.size ≤ b + 1 := by omega
  rintro e X ⟨⟨v, rfl⟩, (⟨xs, hS, hi, ht⟩ | ⟨pre, hSp, c, hi, ht⟩)⟩
  · exact ⟨none, _, run_endLoop (P := P) ht.lrec (by intro h; cases h), hdone b xs _ (by omega) hS (hI.putObj _ hi hle ht.lrec rfl) ((World.putObj_heap_other (by omega)).trans ht.dfr)⟩
  · exact ⟨some c, _, run_endLoop (P := P) ht.lrec (by intro h; cases h), hstop b c pre _ (by omega) hSp ((hIx c).putObj _ hi hle ht.lrec rfl) ((World.putObj_heap_other (by omega)).trans ht.dfr)⟩
end Go.Proofs.YtejhfmjegmccjaaDoor

/- hashes: MGF1. -/
set_option linter.unusedVariables false
set_option linter.unusedSimpArgs false
namespace Go.Proofs.YtejhfmjegmccjaaDoor
open Go.RowKit Go.Shelf

theorem counterL_length (i : Nat) : (counterL i).length = 4 := rfl
/-- two parts in a block -/
theorem PartsV.two {w : World} {g B : Nat} {A1 A2 : Option Addr} {n1 c1 n2 c2 : Nat} {p1 p2 : List (BitVec 8)} (h : RowV 22 w g [.slice A1 n1 c1, .slice A2 n2 c2]) (h1 : SlV w B A1 n1 c1 (p1.map W8)) (z1 : A1 = none → c1 = 0) (h2 : SlV w B A2 n2 c2 (p2.map W8)) (z2 : A2 = none → c2 = 0) (hg : g < B) :
    PartsV w B (some ⟨g, 0, none⟩) 2 2 [p1, p2] := by
  refine ⟨[.slice A1 n1 c1, .slice A2 n2 c2], ⟨rfl, by decide, by decide, fun _ => ⟨g, 0, rfl, hg, fun k v hv => by rw [Nat.zero_add]; exact h.at_ hv⟩⟩, rfl, fun i v ps hv hp => ?_⟩
  match i with
  | 0 => cases hv; cases hp; exact ⟨_, _, _, rfl, h1, z1⟩
  | 1 => cases hv; cases hp; exact ⟨_, _, _, rfl, h2, z2⟩
  | i + 2 => simp at hv
theorem hofTwo (w : World) (k : Int) (hk : KindOk k) (hGS : StartsG w) (hGR : RootsG w) {B : Nat} {A1 A2 : Option Addr} {n1 c1 n2 c2 : Nat} {p1 p2 : List (BitVec 8)} (hB : B ≤ w.heap.size) (h1 : SlV w B A1 n1 c1 (p1.map W8)) (z1 : A1 = none → c1 = 0) (h2 : SlV w w.heap.size A2 n2 c2 (p2.map W8)) (z2 : A2 = none → c2 = 0) (hn : n1 + n2 + 256 ≤ 17592186044416) :
    Calls Tryd.prog 16 #[.int .i64 k, .slice (some ⟨w.heap.size, 0, none⟩) 2 2] (w.alloc (.cells #[.slice A1 n1 c1, .slice A2 n2 c2] 22)) fun e w' => ∃ b, e = .returned (.slice (some ⟨b, 0, none⟩) (szN k) (szN k)) ∧ w.heap.size ≤ b ∧ RowV 5 w' b ((sumL k (p1 ++ p2)).map W8) ∧ Below w.heap.size w w' := by
  obtain ⟨W2, e2, r2, b2, z⟩ := newV w 22 [.slice A1 n1 c1, .slice A2 n2 c2] #[.slice A1 n1 c1, .slice A2 n2 c2] rfl
  rw [e2]
  have hl1 := h1.len
  have hl2 := h2.len
  rw [List.length_map] at hl1 hl2
  have hpv : PartsV W2 W2.heap.size (some ⟨w.heap.size, 0, none⟩) 2 2 [p1, p2] := PartsV.two r2 ((h1.below (b2.mono hB)).more (by omega)) z1 ((h2.below b2).more (by omega)) z2 (by omega)
  refine (hof_any W2 k hk (hGS.later b2) (hGR.later b2) W2.heap.size _ _ _ _ hpv (Nat.le_refl _) (by decide) (by simp; omega)).mono ?_
  rintro e w3 ⟨b, rfl, hbb, hrow, hb3⟩
  refine ⟨b, rfl, by omega, by simpa using hrow, b2.trans (hb3.mono b2.size)⟩
set_option maxRecDepth 100000 in
set_option maxHeartbeats 1000000 in
theorem mgfPart_any (w : World) (k : Int) (hk : KindOk k) (hGS : StartsG w) (hGR : RootsG w) (x1 x2 : Nat) (B : Nat) (A : Option Addr) (n c : Nat) (seed : List (BitVec 8)) (hs : SlV w B A n c (seed.map W8)) (hz : A = none → c = 0) (hB : B ≤ w.heap.size) (hn : n + 512 ≤ 17592186044416)
    (h1 : BxE x1 (.int .i64 k) w) (h2 : BxE x2 (.slice A n c) w) (i : Nat) (hi : i < 9223372036854775808) :
    Calls Tryd.prog 53 #[.int .i64 (i : Int), .pointer (some ⟨x1, 0, none⟩), .pointer (some ⟨x2, 0, none⟩)] w fun e w' => ∃ b, e = .returned (.slice (some ⟨b, 0, none⟩) (szN k) (szN k)) ∧ w.heap.size ≤ b ∧ RowV 5 w' b ((sumL k (seed ++ counterL i)).map W8) ∧ Below w.heap.size w w' := by
  have hct := counter_any w.drew i hi
  have c1 := h1.1
  have c2 := h2.1
  obtain ⟨b0, hb0⟩ : ∃ b, w.heap.size = b := ⟨_, rfl⟩
  have hb0' : w.drew.heap.size = b0 := hb0
  rw [hb0'] at hct
  have HCT := Lib.hid hct
  have HB0 := Lib.hid hb0
  have HS := Lib.hid hs
  have H1 := Lib.hid h1
  have H2 := Lib.hid h2
  have HG := Lib.hid (⟨hGS, hGR⟩ : StartsG w ∧ RootsG w)
  have HZ := Lib.hid hz
  clear hct hb0 hb0' hs h1 h2 hGS hGR hz
  go_enter Tryd.func53, Tryd.ntmps53
  go_wp2_with fail
  go_region_held3 (fun w' => w'.cell? ⟨x1, 0, none⟩ = some (.int .i64 k) ∧ w'.cell? ⟨x2, 0, none⟩ = some (.slice A n c)) (go_keep)
    (first | (go_at_call 54; refine HCT.out.mono ?_; rintro e w1 ⟨rfl, hr1, hb1⟩; have hb01 : Below w.heap.size w w1 := (Below.refl _ w).drew.trans (by rw [HB0.out]; exact hb1); have k1 := (H1.out.later hb01).1; have k2 := (H2.out.later hb01).1) | (go_at_call 16; refine (hofTwo w1 k hk (HG.out.1.later hb01) (HG.out.2.later hb01) (Nat.le_trans hB hb01.size) (HS.out.below (hb01.mono hB)) HZ.out (hr1.sl (by simp [counterL_length])) (by intro h; cases h) (by simp [counterL_length]; omega)).mono ?_; rintro e w2 ⟨b2, rfl, hbb2, hr2, hb2⟩; have hb02 : Below w.heap.size w w2 := hb01.trans (hb2.mono hb01.size); have k1' := (H1.out.later hb02).1; have k2' := (H2.out.later hb02).1))
  have HB := Lib.hid hb02
  have HR := Lib.hid hr2
  have hb01' := Lib.hid hb01
  clear hb02 hr2 hb01
  go_wp2
  go_ret
  exact ⟨b2, rfl, Nat.le_trans hb01'.out.size hbb2, HR.out, HB.out⟩

/-- the parts f 0, f 1, .. one after the other -/
def seqL (f : Nat → List (BitVec 8)) : Nat → List (BitVec 8)
  | 0 => []
  | j + 1 => seqL f j ++ f j
theorem seqL_length (f : Nat → List (BitVec 8)) (s : Nat) (h : ∀ j, (f j).length = s) : ∀ j, (seqL f j).length = s * j
  | 0 => rfl
  | j + 1 => by rw [seqL, List.length_append, seqL_length f s h j, h, Nat.mul_succ]
theorem seqL_take (f : Nat → List (BitVec 8)) (s : Nat) (h : ∀ j, (f j).length = s) (N : Nat) : ∀ i j, N ≤ s * j → (seqL f (j + i)).take N = (seqL f j).take N
  | 0, _, _ => rfl
  | i + 1, j, hj => by
    show ((seqL f (j + i)) ++ _).take N = _
    rw [List.take_append_of_le_length (by rw [seqL_length f s h]; exact Nat.le_trans hj (Nat.mul_le_mul_left s (Nat.le_add_right _ _)))]
    exact seqL_take f s h N i j hj
/-- the first N of them -/
def fillL (f : Nat → List (BitVec 8)) (N : Nat) : List (BitVec 8) := (seqL f N).take N
theorem fillL_eq (f : Nat → List (BitVec 8)) (s : Nat) (h : ∀ j, (f j).length = s) (hs : 1 ≤ s) (N j : Nat) (hj : N ≤ s * j) : (seqL f j).take N = fillL f N := by
  have h1 : N ≤ s * N := Nat.le_mul_of_pos_left N hs
  rcases Nat.le_total N j with h2 | h2
  · obtain ⟨i, rfl⟩ := Nat.exists_eq_add_of_le h2
    exact seqL_take f s h N i N h1
  · obtain ⟨i, rfl⟩ := Nat.exists_eq_add_of_le h2
    exact (seqL_take f s h _ i j hj).symm
theorem fillL_length (f : Nat → List (BitVec 8)) (s : Nat) (h : ∀ j, (f j).length = s) (hs : 1 ≤ s) (N : Nat) : (fillL f N).length = N := by
  rw [fillL, List.length_take, seqL_length f s h]
  exact Nat.min_eq_left (Nat.le_mul_of_pos_left N hs)

set_option maxRecDepth 100000 in
set_option maxHeartbeats 1000000 in
theorem fill_any (w : World) (gf : Nat) (lb : Array Value) (eg : ∀ args w, (callFunc gf args).run Tryd.prog w = .ok (.enter gf args) w) (f : Nat → List (BitVec 8)) (s : Nat) (hf : ∀ j, (f j).length = s) (hs1 : 1 ≤ s) (hs2 : s ≤ 64) (N : Nat) (hN1 : 1 ≤ N) (hN2 : N ≤ 65536)
    (hp : ∀ (j : Nat), j < 65536 → ∀ W, Below w.heap.size w W → Calls Tryd.prog gf (#[.int .i64 (j : Int)] ++ lb) W fun e w' => ∃ b, e = .returned (.slice (some ⟨b, 0, none⟩) s s) ∧ W.heap.size ≤ b ∧ RowV 5 w' b ((f j).map W8) ∧ Below W.heap.size W w') :
    Calls Tryd.prog 52 #[.int .i64 (N : Int), .func (.func gf) #[] lb] w fun e w' => ∃ v, e = .returned v ∧ w'.ownsRow w.heap.size 5 1 v N ((fillL f N).map W8) ∧ Below w.heap.size w w' := by
  have HP := Lib.hid hp
  have HF := Lib.hid hf
  have kN1 : (1 : Int) ≤ N := by omega
  have kN2 : (N : Int) ≤ 65536 := by omega
  clear hp hf
  go_enter Tryd.func52, Tryd.ntmps52
  go_wp2
  go_loopw [5, 6] (fun o i wr => ∃ (j l c : Nat) (A : Option Addr), i = .int .i64 (j : Int) ∧ o = .slice A l c ∧ l ≤ N + 64 ∧ j ≤ l ∧ Hid (l = s * j ∧ wr.ownsRow w.heap.size 5 1 (.slice A l c) l ((seqL f j).map W8)) ∧ Hid (Below w.heap.size w wr)) (fun o _ _ => match o with | .slice _ r _ => N + 64 - r | _ => 0)
  case atStart => exact ⟨0, 0, 0, none, rfl, rfl, by omega, by omega, Lib.hid ⟨rfl, rfl, .inl ⟨rfl, rfl⟩⟩, Lib.hid (Below.refl _ _)⟩
  case round =>
    obtain ⟨j, l, c, A, rfl, rfl, hl1, hjl, HO, HB⟩ := hrel
    have kl : (l : Int) ≤ 65600 := by omega
    have kj : (j : Int) ≤ 65600 := by omega
    by_cases hlt : l < N
    · have kI : (l : Int) < N := by omega
      have hpj := HP.out j (by omega) wr HB.out
      have HPJ := Lib.hid hpj
      clear hpj
      go_wp2_with fail
      refine HPJ.out.mono ?_
      rintro e w1 ⟨b, rfl, hb, hr, hb1⟩
      have hsl := hr.sl (by rw [List.length_map, HF.out]; omega)
      rw [List.length_map, HF.out] at hsl
      have hown := HO.out.2
      have hzw := HB.out.size
      have hown1 := own_keep hown (fun q hq => hb1.block q (hown.lt q hq).2)
      have HR := Lib.hid hsl
      have HO1 := Lib.hid hown1
      have HB1 := Lib.hid hb1
      have hz1 := hb1.size
      clear hsl hown hown1 hb1 hr
      go_wp2_with (at_builtin; refine wlv_append Tryd.elem8 rfl _ _ rfl w.heap.size _ l _ rfl HO1.out (some ⟨b, 0, none⟩) s s _ rfl (by intro h; cases h) _ HR.out (ones8 _) (by omega) (by omega) ?_; intro v' w2 hown2 hgr)
      obtain ⟨A2, c2, hv2, _, _, _⟩ := SlV.of_own hown2
      subst hv2
      have HO2 := Lib.hid hown2
      have hB2 : Below w.heap.size w w2 := (HB.out.trans (HB1.out.mono hzw)).grown hgr (by omega) (fun q hq => (HO1.out.lt q hq).1)
      have HB2 := Lib.hid hB2
      clear hown2 hgr hB2
      go_wp2
      go_roundw
      case rel =>
        refine ⟨j + 1, l + s, c2, A2, by go_num, rfl, by omega, by omega, Lib.hid ⟨by rw [HO.out.1, Nat.mul_succ], ?_⟩, HB2⟩
        have h := HO2.out
        rw [← List.map_append] at h
        exact h
      case measure => show N + 64 - (l + s) < N + 64 - l; omega
    · have kI : ¬ (l : Int) < N := by omega
      obtain ⟨A', c', hv, hsl, hlow, hz⟩ := SlV.of_own HO.out.2
      injection hv with e1 e2 e3
      subst e1 e3
      have hcap := hsl.cap
      have hmax := hsl.max
      have kc : (N : Int) ≤ c := by omega
      obtain ⟨b, off, _, rfl, hb, _, _⟩ := hsl.at_ (k := 0) (by omega)
      have hst := hsl.take (k := N) (by omega)
      rw [← List.map_take, fillL_eq f s HF.out hs1 N j (by rw [← HO.out.1]; omega)] at hst
      have hcl := clone_any wr wr.heap.size _ N c _ hst (Nat.le_refl _) (by omega)
      have HCL := Lib.hid hcl
      clear hcl hst hsl hlow hz hb
      go_wp2_with fail
      refine HCL.out.mono ?_
      rintro e w1 ⟨v, rfl, hown, hb1⟩
      have hzw := HB.out.size
      have HO1 := Lib.hid hown
      have HB1 := Lib.hid hb1
      clear hown hb1
      go_wp2
      go_ret
      refine ⟨v, rfl, ?_, HB.out.trans (HB1.out.mono hzw)⟩
      obtain ⟨h1, h2⟩ := HO1.out
      exact ⟨h1, h2.imp id (fun ⟨g, cap, cur, e, hb, r⟩ => ⟨g, cap, cur, e, by omega, r⟩)⟩
end Go.Proofs.YtejhfmjegmccjaaDoor

/- Single operations by a known run, and arrays in the middle of a block, inside a fence. -/
set_option linter.unusedVariables false
set_option linter.unusedSimpArgs false
namespace Go.Proofs.YtejhfmjegmccjaaDoor
open Go.RowKit

section
variable {F : Fence} {n : Nat} {P : Program} {ops : Array Oper} {Q : Exit → Act → World → Prop} {a : Act} {w w' : World} {rest : List Oper} {o : Oper}
theorem wpListIn_value {v : Value} (hg : o.guard = none) (hdf : ∀ c, o.op ≠ .defer c) (hab : ∀ f, o.about P w a.eval = some f → F.fn f) (hrun : (execOp a.eval o).run P w = .ok (.value v) w') (h : wpListIn F n P ops Q rest (a.put o.dst v) w') : wpListIn F n P ops Q (o :: rest) a w :=
  wpListIn_plain hg fun K hK => by
    unfold Oper.wpIn
    refine ⟨hab, ?_⟩
    rw [Oper.semAt_plain F _ _ hdf, hrun]
    exact hK _ _ h
theorem wpListIn_skips (hg : o.guard = none) (hdf : ∀ c, o.op ≠ .defer c) (hab : ∀ f, o.about P w a.eval = some f → F.fn f) (hrun : (execOp a.eval o).run P w = .ok .skip w') (h : wpListIn F n P ops Q rest (a.put o.dst undef) w') : wpListIn F n P ops Q (o :: rest) a w :=
  wpListIn_plain hg fun K hK => by
    unfold Oper.wpIn
    refine ⟨hab, ?_⟩
    rw [Oper.semAt_plain F _ _ hdf, hrun]
    exact hK _ _ h
theorem wpListIn_load_mid (hgd : o.guard = none) (ty : TypeId) (x : Operand) (ho : o.op = .load ty x)
    (b off : Nat) (hx : a.eval x = .pointer (some ⟨b, off, none⟩)) (cs : List Value) (d : TypeDesc) (hc : w.rangeAt b off cs)
    (hu : P.underlying ty = some d) (hd : d.isRow = true) (hi : (P.info? ty).map (·.size) = some cs.length)
    (h : wpListIn F n P ops Q rest (a.put o.dst (.agg cs.toArray)) w) : wpListIn F n P ops Q (o :: rest) a w :=
  wpListIn_value hgd (by rw [ho]; intro c hc; cases hc) (fun f hf => by simp [Oper.about, ho] at hf)
    (by unfold execOp; simp only [ho, hx, Instr.loadAt, Instr.sureAddr, Sem.run_bind, Sem.run_pure, Result.andThen_ok, run_loadVar_mid w b off ty cs d hc hu hd hi]) h
theorem wpListIn_store_mid (hgd : o.guard = none) (ty : TypeId) (x y : Operand) (ho : o.op = .store ty x y)
    (b off : Nat) (cells : Array Value) (hx : a.eval x = .pointer (some ⟨b, off, none⟩)) (hy : a.eval y = .agg cells)
    (ht : w.there b off cells.size) (hi : (P.info? ty).map (·.size) = some cells.size) (h1 : cells.all (·.oneCell') = true)
    (h : wpListIn F n P ops Q rest (a.put o.dst undef) (w.setCells b off cells.toList)) : wpListIn F n P ops Q (o :: rest) a w :=
  wpListIn_skips hgd (by rw [ho]; intro c hc; cases hc) (fun f hf => by simp [Oper.about, ho] at hf)
    (by unfold execOp; simp only [ho, hx, hy, Instr.storeAt, Instr.sureAddr, Sem.run_bind, Sem.run_pure, Result.andThen_ok, run_storeVar_mid w b off ty cells ht hi h1]) h
end
end Go.Proofs.YtejhfmjegmccjaaDoor

/- drbg: the iterator values, Bytes. -/
set_option linter.unusedVariables false
set_option linter.unusedSimpArgs false
namespace Go.Proofs.YtejhfmjegmccjaaDoor
open Go.RowKit Go.Shelf
attribute [local go_sem] Oper.semAt_some

/-- what V becomes -/
def vIter (key val : List (BitVec 8)) : Nat → List (BitVec 8)
  | 0 => val
  | j + 1 => stepL key (vIter key val j)
theorem vIter_length (key val : List (BitVec 8)) (h : val.length = 32) : ∀ j, (vIter key val j).length = 32
  | 0 => h
  | j + 1 => stepL_length _ _
abbrev encV : List (BitVec 8) → Array Value := fun x => #[.agg (x.map W8).toArray]
def VaR (g : Nat) (key val : List (BitVec 8)) (calls : Int) (pre : List (List (BitVec 8))) (x : List (BitVec 8)) (W : World) : Prop :=
  x = vIter key val (pre.length + 1) ∧ DrbgR W g key (vIter key val (pre.length + 1)) calls
theorem DrbgR.kept {A B' : World} {g : Nat} {key val : List (BitVec 8)} {calls : Int} (h : DrbgR A g key val calls) {row : Option Nat} (hg : A.grownBy B' row) (hr : ∀ r, row = some r → ∃ o : Obj, A.heap[r]? = some o ∧ o.isCells = false) : DrbgR B' g key val calls := ⟨h.hk, h.hv, h.row.kept hg hr⟩
theorem VaR.own (g : Nat) (key val : List (BitVec 8)) (calls : Int) (B : Nat) (pre : List (List (BitVec 8))) : OwnFrom B (VaR g key val calls pre) := fun s W W' row hs hg hr => ⟨hs.1, hs.2.kept hg (fun r e => (hr r e).2)⟩
/-- these blocks stay -/
def KpS (s : List Nat) (A B : World) : Prop := A.heap.size ≤ B.heap.size ∧ ∀ q ∈ s, B.heap[q]? = A.heap[q]?
theorem KpS.trans {s : List Nat} {A B C : World} (h : KpS s A B) (h' : KpS s B C) : KpS s A C := ⟨Nat.le_trans h.1 h'.1, fun q hq => (h'.2 q hq).trans (h.2 q hq)⟩
theorem KpS.put {s : List Nat} {l : Nat} {W : World} (hl : ∀ q ∈ s, q ≠ l) (o' : Obj) : KpS s W (W.putObj l o') := ⟨by simp [World.putObj], fun q hq => World.putObj_heap_other (hl q hq)⟩
theorem KpS.below {s : List Nat} {B : Nat} {A C : World} (h : Below B A C) (hB : ∀ q ∈ s, q < B) : KpS s A C := ⟨h.size, fun q hq => h.block q (hB q hq)⟩
theorem DrbgR.drbg' {s : List Nat} {g : Nat} {A C : World} {key val : List (BitVec 8)} {calls : Int} (h : DrbgR A g key val calls) (hk : KpS s A C) (hq : g ∈ s) : DrbgR C g key val calls := ⟨h.hk, h.hv, (hk.2 g hq).trans h.row⟩
theorem cell_of_block {A C : World} {q o : Nat} (h : C.heap[q]? = A.heap[q]?) : C.cell? ⟨q, o, none⟩ = A.cell? ⟨q, o, none⟩ := by simp only [World.cell?, h]
theorem frozen_of_block {A C : World} {q o : Nat} (h : C.heap[q]? = A.heap[q]?) : C.frozen? ⟨q, o, none⟩ = A.frozen? ⟨q, o, none⟩ := by simp only [World.frozen?, h]
theorem StartsG.block {A C : World} (h : StartsG A) (hs : A.heap.size ≤ C.heap.size) (hq : C.heap[0]? = A.heap[0]?) : StartsG C := ⟨Nat.lt_of_lt_of_le h.1 hs, fun k h1 h5 j v hv => (cell_of_block hq).trans (h.2 k h1 h5 j v hv)⟩
theorem RootsG.block {A C : World} (h : RootsG A) (hs : A.heap.size ≤ C.heap.size) (hq : C.heap[1]? = A.heap[1]?) : RootsG C := ⟨Nat.lt_of_lt_of_le h.1 hs, fun k x hx => (cell_of_block hq).trans (h.2 k x hx)⟩
theorem BxE.block {b : Nat} {v : Value} {A C : World} (h : BxE b v A) (hs : A.heap.size ≤ C.heap.size) (hq : C.heap[b]? = A.heap[b]?) : BxE b v C := ⟨(cell_of_block hq).trans h.1, (frozen_of_block hq).trans h.2.1, Nat.lt_of_lt_of_le h.2.2 hs⟩

/-- ahead of a round: m rounds at most are to come -/
def VaI (g bx : Nat) (key val : List (BitVec 8)) (calls : Int) (N : Nat) (J : List (List (BitVec 8)) → World → Prop) (wr : World) (m : Nat) : Prop :=
  ∃ pre : List (List (BitVec 8)), pre.length + m = N ∧ DrbgR wr g key (vIter key val pre.length) calls ∧ BxE bx (.pointer (some ⟨g, 0, none⟩)) wr ∧ StartsG wr ∧ RootsG wr ∧ J pre wr
set_option maxRecDepth 100000 in
set_option maxHeartbeats 2000000 in
theorem values1_in (nn : Nat) (hn : 1 ≤ nn) (w : World) (g bx : Nat) (hg1 : 1 < g) (hbg : bx ≠ g) (hbx1 : 1 < bx) (key val : List (BitVec 8)) (calls : Int) (h : DrbgR w g key val calls) (hb : BxE bx (.pointer (some ⟨g, 0, none⟩)) w) (hGS : StartsG w) (hGR : RootsG w) (N : Nat) (hN : 1 ≤ N) :
    SeqM Fence.wide nn Tryd.prog 83 #[.pointer (some ⟨bx, 0, none⟩)] encV (VaR g key val calls) (KpS [0, 1, g, bx]) (fun _ => False) (fun _ => True) N g w := by
  intro l J Jx W hW hJ hJx hJg hJN hY h0
  have hbl := hb.2.2
  have hgl := h.row.lt
  have H0 := Lib.hid (⟨h.later hW, hb.later hW, hGS.later hW, hGR.later hW⟩ : DrbgR W g key val calls ∧ BxE bx (.pointer (some ⟨g, 0, none⟩)) W ∧ StartsG W ∧ RootsG W)
  have HY := Lib.hid hY
  have HJN := Lib.hid hJN
  have HJG := Lib.hid hJg
  have hWs := hW.size
  clear hY h hb hGS hGR hJN hJg
  refine callsIn_of_wp Tryd.func83 rfl trivial ?_ rfl
  simp only [Tryd.ntmps83, List.size_toArray, List.length_cons, List.length_nil, Nat.reduceAdd, Nat.reduceSub, Array.replicate_succ, Array.replicate_zero, List.push_toArray, List.append_toArray, List.nil_append, List.cons_append]
  gi_wp2
  gi_loopw [] (fun wr => ∃ m, VaI g bx key val calls N J wr m) (fun wr => leastOf (VaI g bx key val calls N J wr))
  case atStart => exact ⟨N, [], by simp, H0.out.1, H0.out.2.1, H0.out.2.2.1, H0.out.2.2.2, h0⟩
  case round =>
    obtain ⟨m, hm⟩ : ∃ m, m = leastOf (VaI g bx key val calls N J wr) := ⟨_, rfl⟩
    have hms := (leastOf_spec hrel).1
    rw [← hm] at hms ⊢
    have HMM := Lib.hid hm
    clear hrel hm
    obtain ⟨pre, hpl, hd, hb, hS, hR, hJp⟩ := hms
    have hst := dstep_any wr g key _ calls hd hS hR
    have HST := Lib.hid hst
    have q1 := hb.1
    have HD := Lib.hid (⟨hd, hb, hS, hR⟩ : DrbgR wr g key (vIter key val pre.length) calls ∧ BxE bx (.pointer (some ⟨g, 0, none⟩)) wr ∧ StartsG wr ∧ RootsG wr)
    have HPL := Lib.hid hpl
    clear hst hd hb hS hR hpl
    gi_wp2_with fail
    refine ⟨trivial, (callsIn_wide.2 HST.out).mono ?_⟩
    rintro e w1 ⟨rfl, hd1, ho1⟩
    have hJ1 := HJG.out pre wr w1 hJp ho1
    have hb1 := HD.out.2.1.block ho1.size (ho1.block bx HD.out.2.1.2.2 (by intro e; injection e; omega))
    have hlt := HJN.out pre w1 hJ1
    obtain ⟨Vn, hVn⟩ : ∃ V, vIter key val (pre.length + 1) = V := ⟨_, rfl⟩
    rw [show stepL key (vIter key val pre.length) = Vn from hVn] at hd1
    have HVN := Lib.hid hVn
    have HD1 := Lib.hid (⟨hd1, hb1, HD.out.2.2.1.only ho1 hg1, HD.out.2.2.2.only ho1 hg1⟩ : DrbgR w1 g key Vn calls ∧ BxE bx (.pointer (some ⟨g, 0, none⟩)) w1 ∧ StartsG w1 ∧ RootsG w1)
    have q1' := hb1.1
    obtain ⟨fn, tmps, assign, body, hy, hRd⟩ := HY.out pre Vn w1 hJ1 ⟨hVn.symm, by rw [hVn]; exact hd1⟩
    dsimp only [encV] at hy
    have hvl : (Vn.map W8).length = 32 := by rw [List.length_map]; exact hd1.hv
    have hrange : w1.rangeAt g 32 (Vn.map W8) := fun j v hv => hd1.row.at_ (by
      have hj := (List.getElem?_eq_some_iff.1 hv).1
      rw [dL, List.getElem?_append_right (by simp [hd1.hk]), List.length_map, hd1.hk, Nat.add_sub_cancel_left, List.getElem?_append_left hj]
      exact hv)
    clear hd1 ho1 hJp hb1 q1 hVn
    gi_wp2_with (refine wpListIn_load_mid rfl 81 _ rfl g 32 rfl (Vn.map W8) _ hrange Tryd.underlying81 rfl (Tryd.arr328.trans (by rw [hvl])) ?_)
    refine hRd.mono ?_
    rintro e W3 (⟨rfl, hJ3, hKp⟩ | ⟨rfl, hJx3⟩)
    · have hnew : VaI g bx key val calls N J W3 (m - 1) := ⟨pre ++ [Vn], by rw [List.length_append, List.length_singleton]; have := HPL.out; omega, by
          rw [List.length_append, List.length_singleton, HVN.out]
          exact HD1.out.1.drbg' hKp (by simp), HD1.out.2.1.block hKp.1 (hKp.2 bx (by simp)), HD1.out.2.2.1.block hKp.1 (hKp.2 _ (by simp)), HD1.out.2.2.2.block hKp.1 (hKp.2 _ (by simp)), hJ3⟩
      have HNEW := Lib.hid hnew
      have hm1 : m - 1 < m := by have := HPL.out; omega
      have HM1 := Lib.hid hm1
      clear hnew hKp hm1
      gi_wp2
      go_roundw
      case rel => exact ⟨_, HNEW.out⟩
      case measure => exact Nat.lt_of_le_of_lt ((leastOf_spec ⟨_, HNEW.out⟩).2 _ HNEW.out) HM1.out
    · gi_wp2
      refine bodyPost_ret (results_none rfl _ _ _) rfl ?_
      exact ⟨⟨_, rfl⟩, .inr ⟨_, trivial, hJx3⟩⟩
end Go.Proofs.YtejhfmjegmccjaaDoor
