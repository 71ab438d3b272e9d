/- Parts of one proof, joined: Hz, Sb, Chn, Sc, Sd. -/
import Derived.Test.YtnpaidieijlkkabDoorPileK4
import Derived.Test.YtnpaidieijlkkabDoorPileK3
import Derived.Test.YtnpaidieijlkkabDoorPileK1
import Derived.Test.YtnpaidieijlkkabDoorPileK2

/- hashes: MGF1. -/
set_option linter.unusedVariables false
set_option linter.unusedSimpArgs false
namespace Go.Proofs.YtnpaidieijlkkabDoor
open Go.RowKit Go.Shelf

theorem counterL_length (i : Nat) : (counterL i).length = 4 := rfl
/-- two parts in a block -/
theorem PartsV.two {w : World} {g B : Nat} {A1 A2 : Option Addr} {n1 c1 n2 c2 : Nat} {p1 p2 : List (BitVec 8)} (h : RowV 22 w g [.slice A1 n1 c1, .slice A2 n2 c2]) (h1 : SlV w B A1 n1 c1 (p1.map W8)) (z1 : A1 = none → c1 = 0) (h2 : SlV w B A2 n2 c2 (p2.map W8)) (z2 : A2 = none → c2 = 0) (hg : g < B) :
    PartsV w B (some ⟨g, 0, none⟩) 2 2 [p1, p2] := by
  refine ⟨[.slice A1 n1 c1, .slice A2 n2 c2], ⟨rfl, by decide, by decide, fun _ => ⟨g, 0, rfl, hg, fun k v hv => by rw [Nat.zero_add]; exact h.at_ hv⟩⟩, rfl, fun i v ps hv hp => ?_⟩
  match i with
  | 0 => cases hv; cases hp; exact ⟨_, _, _, rfl, h1, z1⟩
  | 1 => cases hv; cases hp; exact ⟨_, _, _, rfl, h2, z2⟩
  | i + 2 => simp at hv
theorem hofTwo (w : World) (k : Int) (hk : KindOk k) (hGS : StartsG w) (hGR : RootsG w) {B : Nat} {A1 A2 : Option Addr} {n1 c1 n2 c2 : Nat} {p1 p2 : List (BitVec 8)} (hB : B ≤ w.heap.size) (h1 : SlV w B A1 n1 c1 (p1.map W8)) (z1 : A1 = none → c1 = 0) (h2 : SlV w w.heap.size A2 n2 c2 (p2.map W8)) (z2 : A2 = none → c2 = 0) (hn : n1 + n2 + 256 ≤ 17592186044416) :
    Calls Tryd.prog 15 #[.int .i64 k, .slice (some ⟨w.heap.size, 0, none⟩) 2 2] (w.alloc (.cells #[.slice A1 n1 c1, .slice A2 n2 c2] 22)) fun e w' => ∃ b, e = .returned (.slice (some ⟨b, 0, none⟩) (szN k) (szN k)) ∧ w.heap.size ≤ b ∧ RowV 5 w' b ((sumL k (p1 ++ p2)).map W8) ∧ Below w.heap.size w w' := by
  obtain ⟨W2, e2, r2, b2, z⟩ := newV w 22 [.slice A1 n1 c1, .slice A2 n2 c2] #[.slice A1 n1 c1, .slice A2 n2 c2] rfl
  rw [e2]
  have hl1 := h1.len
  have hl2 := h2.len
  rw [List.length_map] at hl1 hl2
  have hpv : PartsV W2 W2.heap.size (some ⟨w.heap.size, 0, none⟩) 2 2 [p1, p2] := PartsV.two r2 ((h1.below (b2.mono hB)).more (by omega)) z1 ((h2.below b2).more (by omega)) z2 (by omega)
  refine (hof_any W2 k hk (hGS.later b2) (hGR.later b2) W2.heap.size _ _ _ _ hpv (Nat.le_refl _) (by decide) (by simp; omega)).mono ?_
  rintro e w3 ⟨b, rfl, hbb, hrow, hb3⟩
  refine ⟨b, rfl, by omega, by simpa using hrow, b2.trans (hb3.mono b2.size)⟩
set_option maxRecDepth 100000 in
set_option maxHeartbeats 1000000 in
theorem mgfPart_any (w : World) (k : Int) (hk : KindOk k) (hGS : StartsG w) (hGR : RootsG w) (x1 x2 : Nat) (B : Nat) (A : Option Addr) (n c : Nat) (seed : List (BitVec 8)) (hs : SlV w B A n c (seed.map W8)) (hz : A = none → c = 0) (hB : B ≤ w.heap.size) (hn : n + 512 ≤ 17592186044416)
    (h1 : BxE x1 (.int .i64 k) w) (h2 : BxE x2 (.slice A n c) w) (i : Nat) (hi : i < 9223372036854775808) :
    Calls Tryd.prog 55 #[.int .i64 (i : Int), .pointer (some ⟨x1, 0, none⟩), .pointer (some ⟨x2, 0, none⟩)] w fun e w' => ∃ b, e = .returned (.slice (some ⟨b, 0, none⟩) (szN k) (szN k)) ∧ w.heap.size ≤ b ∧ RowV 5 w' b ((sumL k (seed ++ counterL i)).map W8) ∧ Below w.heap.size w w' := by
  have hct := counter_any w.drew i hi
  have c1 := h1.1
  have c2 := h2.1
  obtain ⟨b0, hb0⟩ : ∃ b, w.heap.size = b := ⟨_, rfl⟩
  have hb0' : w.drew.heap.size = b0 := hb0
  rw [hb0'] at hct
  have HCT := Lib.hid hct
  have HB0 := Lib.hid hb0
  have HS := Lib.hid hs
  have H1 := Lib.hid h1
  have H2 := Lib.hid h2
  have HG := Lib.hid (⟨hGS, hGR⟩ : StartsG w ∧ RootsG w)
  have HZ := Lib.hid hz
  clear hct hb0 hb0' hs h1 h2 hGS hGR hz
  go_enter Tryd.func55, Tryd.ntmps55
  go_wp2_with fail
  go_region_held3 (fun w' => w'.cell? ⟨x1, 0, none⟩ = some (.int .i64 k) ∧ w'.cell? ⟨x2, 0, none⟩ = some (.slice A n c)) (go_keep)
    (first | (go_at_call 56; refine HCT.out.mono ?_; rintro e w1 ⟨rfl, hr1, hb1⟩; have hb01 : Below w.heap.size w w1 := (Below.refl _ w).drew.trans (by rw [HB0.out]; exact hb1); have k1 := (H1.out.later hb01).1; have k2 := (H2.out.later hb01).1) | (go_at_call 15; refine (hofTwo w1 k hk (HG.out.1.later hb01) (HG.out.2.later hb01) (Nat.le_trans hB hb01.size) (HS.out.below (hb01.mono hB)) HZ.out (hr1.sl (by simp [counterL_length])) (by intro h; cases h) (by simp [counterL_length]; omega)).mono ?_; rintro e w2 ⟨b2, rfl, hbb2, hr2, hb2⟩; have hb02 : Below w.heap.size w w2 := hb01.trans (hb2.mono hb01.size); have k1' := (H1.out.later hb02).1; have k2' := (H2.out.later hb02).1))
  have HB := Lib.hid hb02
  have HR := Lib.hid hr2
  have hb01' := Lib.hid hb01
  clear hb02 hr2 hb01
  go_wp2
  go_ret
  exact ⟨b2, rfl, Nat.le_trans hb01'.out.size hbb2, HR.out, HB.out⟩

/-- the parts f 0, f 1, .. one after the other -/
def seqL (f : Nat → List (BitVec 8)) : Nat → List (BitVec 8)
  | 0 => []
  | j + 1 => seqL f j ++ f j
theorem seqL_length (f : Nat → List (BitVec 8)) (s : Nat) (h : ∀ j, (f j).length = s) : ∀ j, (seqL f j).length = s * j
  | 0 => rfl
  | j + 1 => by rw [seqL, List.length_append, seqL_length f s h j, h, Nat.mul_succ]
theorem seqL_take (f : Nat → List (BitVec 8)) (s : Nat) (h : ∀ j, (f j).length = s) (N : Nat) : ∀ i j, N ≤ s * j → (seqL f (j + i)).take N = (seqL f j).take N
  | 0, _, _ => rfl
  | i + 1, j, hj => by
    show ((seqL f (j + i)) ++ _).take N = _
    rw [List.take_append_of_le_length (by rw [seqL_length f s h]; exact Nat.le_trans hj (Nat.mul_le_mul_left s (Nat.le_add_right _ _)))]
    exact seqL_take f s h N i j hj
/-- the first N of them -/
def fillL (f : Nat → List (BitVec 8)) (N : Nat) : List (BitVec 8) := (seqL f N).take N
theorem fillL_eq (f : Nat → List (BitVec 8)) (s : Nat) (h : ∀ j, (f j).length = s) (hs : 1 ≤ s) (N j : Nat) (hj : N ≤ s * j) : (seqL f j).take N = fillL f N := by
  have h1 : N ≤ s * N := Nat.le_mul_of_pos_left N hs
  rcases Nat.le_total N j with h2 | h2
  · obtain ⟨i, rfl⟩ := Nat.exists_eq_add_of_le h2
    exact seqL_take f s h N i N h1
  · obtain ⟨i, rfl⟩ := Nat.exists_eq_add_of_le h2
    exact (seqL_take f s h _ i j hj).symm
theorem fillL_length (f : Nat → List (BitVec 8)) (s : Nat) (h : ∀ j, (f j).length = s) (hs : 1 ≤ s) (N : Nat) : (fillL f N).length = N := by
  rw [fillL, List.length_take, seqL_length f s h]
  exact Nat.min_eq_left (Nat.le_mul_of_pos_left N hs)

set_option maxRecDepth 100000 in
set_option maxHeartbeats 1000000 in
theorem fill_any (w : World) (gf : Nat) (lb : Array Value) (eg : ∀ args w, (callFunc gf args).run Tryd.prog w = .ok (.enter gf args) w) (f : Nat → List (BitVec 8)) (s : Nat) (hf : ∀ j, (f j).length = s) (hs1 : 1 ≤ s) (hs2 : s ≤ 64) (N : Nat) (hN1 : 1 ≤ N) (hN2 : N ≤ 65536)
    (hp : ∀ (j : Nat), j < 65536 → ∀ W, Below w.heap.size w W → Calls Tryd.prog gf (#[.int .i64 (j : Int)] ++ lb) W fun e w' => ∃ b, e = .returned (.slice (some ⟨b, 0, none⟩) s s) ∧ W.heap.size ≤ b ∧ RowV 5 w' b ((f j).map W8) ∧ Below W.heap.size W w') :
    Calls Tryd.prog 54 #[.int .i64 (N : Int), .func (.func gf) #[] lb] w fun e w' => ∃ v, e = .returned v ∧ w'.ownsRow w.heap.size 5 1 v N ((fillL f N).map W8) ∧ Below w.heap.size w w' := by
  have HP := Lib.hid hp
  have HF := Lib.hid hf
  have kN1 : (1 : Int) ≤ N := by omega
  have kN2 : (N : Int) ≤ 65536 := by omega
  clear hp hf
  go_enter Tryd.func54, Tryd.ntmps54
  go_wp2
  go_loopw [5, 6] (fun o i wr => ∃ (j l c : Nat) (A : Option Addr), i = .int .i64 (j : Int) ∧ o = .slice A l c ∧ l ≤ N + 64 ∧ j ≤ l ∧ Hid (l = s * j ∧ wr.ownsRow w.heap.size 5 1 (.slice A l c) l ((seqL f j).map W8)) ∧ Hid (Below w.heap.size w wr)) (fun o _ _ => match o with | .slice _ r _ => N + 64 - r | _ => 0)
  case atStart => exact ⟨0, 0, 0, none, rfl, rfl, by omega, by omega, Lib.hid ⟨rfl, rfl, .inl ⟨rfl, rfl⟩⟩, Lib.hid (Below.refl _ _)⟩
  case round =>
    obtain ⟨j, l, c, A, rfl, rfl, hl1, hjl, HO, HB⟩ := hrel
    have kl : (l : Int) ≤ 65600 := by omega
    have kj : (j : Int) ≤ 65600 := by omega
    by_cases hlt : l < N
    · have kI : (l : Int) < N := by omega
      have hpj := HP.out j (by omega) wr HB.out
      have HPJ := Lib.hid hpj
      clear hpj
      go_wp2_with fail
      refine HPJ.out.mono ?_
      rintro e w1 ⟨b, rfl, hb, hr, hb1⟩
      have hsl := hr.sl (by rw [List.length_map, HF.out]; omega)
      rw [List.length_map, HF.out] at hsl
      have hown := HO.out.2
      have hzw := HB.out.size
      have hown1 := own_keep hown (fun q hq => hb1.block q (hown.lt q hq).2)
      have HR := Lib.hid hsl
      have HO1 := Lib.hid hown1
      have HB1 := Lib.hid hb1
      have hz1 := hb1.size
      clear hsl hown hown1 hb1 hr
      go_wp2_with (at_builtin; refine wlv_append Tryd.elem8 rfl _ _ rfl w.heap.size _ l _ rfl HO1.out (some ⟨b, 0, none⟩) s s _ rfl (by intro h; cases h) _ HR.out (ones8 _) (by omega) (by omega) ?_; intro v' w2 hown2 hgr)
      obtain ⟨A2, c2, hv2, _, _, _⟩ := SlV.of_own hown2
      subst hv2
      have HO2 := Lib.hid hown2
      have hB2 : Below w.heap.size w w2 := (HB.out.trans (HB1.out.mono hzw)).grown hgr (by omega) (fun q hq => (HO1.out.lt q hq).1)
      have HB2 := Lib.hid hB2
      clear hown2 hgr hB2
      go_wp2
      go_roundw
      case rel =>
        refine ⟨j + 1, l + s, c2, A2, by go_num, rfl, by omega, by omega, Lib.hid ⟨by rw [HO.out.1, Nat.mul_succ], ?_⟩, HB2⟩
        have h := HO2.out
        rw [← List.map_append] at h
        exact h
      case measure => show N + 64 - (l + s) < N + 64 - l; omega
    · have kI : ¬ (l : Int) < N := by omega
      obtain ⟨A', c', hv, hsl, hlow, hz⟩ := SlV.of_own HO.out.2
      injection hv with e1 e2 e3
      subst e1 e3
      have hcap := hsl.cap
      have hmax := hsl.max
      have kc : (N : Int) ≤ c := by omega
      obtain ⟨b, off, _, rfl, hb, _, _⟩ := hsl.at_ (k := 0) (by omega)
      have hst := hsl.take (k := N) (by omega)
      rw [← List.map_take, fillL_eq f s HF.out hs1 N j (by rw [← HO.out.1]; omega)] at hst
      have hcl := clone_any wr wr.heap.size _ N c _ hst (Nat.le_refl _) (by omega)
      have HCL := Lib.hid hcl
      clear hcl hst hsl hlow hz hb
      go_wp2_with fail
      refine HCL.out.mono ?_
      rintro e w1 ⟨v, rfl, hown, hb1⟩
      have hzw := HB.out.size
      have HO1 := Lib.hid hown
      have HB1 := Lib.hid hb1
      clear hown hb1
      go_wp2
      go_ret
      refine ⟨v, rfl, ?_, HB.out.trans (HB1.out.mono hzw)⟩
      obtain ⟨h1, h2⟩ := HO1.out
      exact ⟨h1, h2.imp id (fun ⟨g, cap, cur, e, hb, r⟩ => ⟨g, cap, cur, e, by omega, r⟩)⟩
end Go.Proofs.YtnpaidieijlkkabDoor

/- baileyref3: pad. -/
set_option linter.unusedVariables false
set_option linter.unusedSimpArgs false
namespace Go.Proofs.YtnpaidieijlkkabDoor
open Go.RowKit Go.Shelf

/-- how many noughts -/
def padZ (len bl : Nat) : Nat := bl - 1 - (len + bl / 8) % bl
/-- the last bytes of a number, the first the greatest -/
def beL (n x : Nat) : List (BitVec 8) := (List.range n).map fun i => byteAt x (n - 1 - i)
theorem padL_eq (len bl : Nat) (hb : bl = 64 ∨ bl = 128) (hlen : 8 * len < 18446744073709551616) : padL len bl = 128 :: (List.replicate (padZ len bl) 0 ++ beL (bl / 8) (8 * len)) := by
  apply List.ext_getElem?
  intro i
  have hN : padN len bl = 1 + padZ len bl + bl / 8 := by unfold padN padZ; rcases hb with rfl | rfl <;> omega
  have hbv : ∀ j, 8 ≤ j → byteAt (8 * len) j = 0 := fun j hj => by
    unfold byteAt
    have : 8 * len / 256 ^ j = 0 := Nat.div_eq_of_lt (Nat.lt_of_lt_of_le hlen (Nat.le_trans (show 18446744073709551616 ≤ 256 ^ 8 by decide) (Nat.pow_le_pow_right (n := 256) (by decide) hj)))
    rw [this]
    rfl
  unfold padL padStep
  rw [List.getElem?_map]
  cases i with
  | zero =>
    rw [List.getElem?_range (by omega)]
    rfl
  | succ i =>
    rw [List.getElem?_cons_succ]
    by_cases h1 : i < padZ len bl
    · rw [List.getElem?_range (by omega), List.getElem?_append_left (by simpa using h1), List.getElem?_replicate, if_pos h1]
      simp only [Option.map_some]
      rw [if_neg (by omega), if_neg]
      rcases hb with rfl | rfl <;> omega
    · rw [List.getElem?_append_right (by simpa using h1), List.length_replicate]
      by_cases h2 : i - padZ len bl < bl / 8
      · rw [List.getElem?_range (by omega), beL, List.getElem?_map, List.getElem?_range h2]
        simp only [Option.map_some]
        rw [if_neg (by omega), show bl / 8 - 1 - (i - padZ len bl) = padN len bl - 1 - (i + 1) by omega]
        split
        · rfl
        · rw [hbv _ (by omega)]
      · rw [List.getElem?_eq_none (by simp; omega), List.getElem?_eq_none (by simp [beL]; omega)]
        rfl
set_option maxRecDepth 100000 in
set_option maxHeartbeats 2000000 in
theorem rpad_any (w : World) (B : Nat) (A : Option Addr) (n c : Nat) (bs : List (BitVec 8)) (hs : SlV w B A n c (bs.map W8)) (hz : A = none → c = 0) (hB : B ≤ w.heap.size) (hn : n ≤ 1000000000) (bl : Nat) (hbl : bl = 64 ∨ bl = 128) :
    Calls Tryd.prog 67 #[.slice A n c, .int .i64 (bl : Int), .int .i64 ((bl / 8 : Nat) : Int)] w fun e w' => ∃ v, e = .returned v ∧ w'.ownsRow w.heap.size 5 1 v (n + padN n bl) ((bs ++ padL n bl).map W8) ∧ Below w.heap.size w w' := by
  have hl : n = bs.length := by simpa using hs.len
  obtain ⟨by_, hby⟩ : ∃ b, bl / 8 = b := ⟨_, rfl⟩
  rw [hby]
  have own0 : w.ownsRow w.heap.size 5 1 (.slice none 0 0) 0 [] := ⟨rfl, .inl ⟨rfl, rfl⟩⟩
  have HS := Lib.hid hs
  have HL := Lib.hid hl
  have HBY := Lib.hid hby
  clear hl hby
  go_enter Tryd.func67, Tryd.ntmps67
  go_wp2_with (first | (at_builtin; refine wlv_append Tryd.elem8 rfl _ _ rfl w.heap.size _ 0 [] rfl own0 A n c (bs.map W8) rfl hz B HS.out (ones8 bs) (by omega) (Nat.le_refl _) ?_; intro v1 w1 hown1 hgr1; rw [Nat.zero_add, List.nil_append] at hown1; obtain ⟨A1, c1, rfl, _, _, _⟩ := SlV.of_own hown1; obtain ⟨W2, e2, r2, b2, s2⟩ := newV w1 5 [W8 128] #[.int .u8 128] rfl; have hown2 := own_keep hown1 (fun q hq => b2.block q (hown1.lt q hq).2); have hb1 := (Below.refl w.heap.size w).grown hgr1 (Nat.le_refl _) (fun q hq => by cases hq); have hsz1 := hb1.size; have hb2 := hb1.trans (b2.mono hsz1); have hsl2 := r2.sl (by decide); have HOW2 := Lib.hid hown2; have HSL2 := Lib.hid hsl2; have HB2 := Lib.hid hb2; clear hown1 hgr1 r2 b2 hown2 hb1 hb2 hsl2 own0) | (at_builtin; refine wlv_append Tryd.elem8 rfl _ _ rfl w.heap.size _ n (bs.map W8) rfl HOW2.out (some ⟨w1.heap.size, 0, none⟩) 1 1 [W8 128] rfl (by intro h; cases h) _ HSL2.out (ones8 [128]) (by omega) (by have := HB2.out.size; omega) ?_; intro v3 w3 hown3 hgr3; obtain ⟨A3, c3, rfl, _, _, _⟩ := SlV.of_own hown3; have HOW3 := Lib.hid hown3; have HB3 := Lib.hid (HB2.out.grown hgr3 (by have := HB2.out.size; omega) (fun q hq => (HOW2.out.lt q hq).1)); clear hown3 hgr3 e2))
  obtain ⟨Z, hZ⟩ : ∃ Z, padZ n bl = Z := ⟨_, rfl⟩
  obtain ⟨d, hd⟩ : ∃ d, bl - by_ = d := ⟨_, rfl⟩
  have hdI : (bl : Int) - (by_ : Int) = (d : Int) := by have := HBY.out; omega
  have hZd : ∀ j, j ≤ Z → ((n + 1 + j) % bl = d ↔ j = Z) := fun j hj => by
    have h1 := HBY.out
    unfold padZ at hZ
    rcases hbl with rfl | rfl <;> omega
  have hZl : Z ≤ 128 := by
    unfold padZ at hZ
    rcases hbl with rfl | rfl <;> omega
  have kbl : (64 : Int) ≤ bl ∧ (bl : Int) ≤ 128 := by rcases hbl with rfl | rfl <;> omega
  obtain ⟨kbl1, kbl2⟩ := kbl
  have kn : (n : Int) ≤ 1000000000 := by omega
  have kby : (by_ : Int) ≤ 16 ∧ (8 : Int) ≤ by_ := by have := HBY.out; rcases hbl with rfl | rfl <;> omega
  obtain ⟨kby1, kby2⟩ := kby
  have HZ := Lib.hid hZ
  have HD := Lib.hid hd
  have HZD := Lib.hid hZd
  have hbl0 : ¬ (bl : Int) = 0 := by omega
  have hbl0' : ¬ bl = 0 := by omega
  clear hZ hd hZd s2
  go_loopw [7] (fun m wr => ∃ (j l c' : Nat) (A' : Option Addr), j ≤ Z ∧ m = .slice A' l c' ∧ l ≤ 1000000200 ∧ Hid (l = n + 1 + j ∧ wr.ownsRow w.heap.size 5 1 (.slice A' l c') l ((bs ++ (128 :: List.replicate j 0)).map W8)) ∧ Hid (Below w.heap.size w wr)) (fun m _ => match m with | .slice _ r _ => 1000000200 - r | _ => 0)
  case atStart => exact ⟨0, n + 1, c3, A3, Nat.zero_le _, rfl, by omega, Lib.hid ⟨rfl, by simpa using HOW3.out⟩, HB3⟩
  case round =>
    obtain ⟨j, l, c', A', hj, rfl, hl2, HO, HB⟩ := hrel
    have kl : (l : Int) ≤ 1000000200 := by omega
    have kl0 : (0 : Int) ≤ l := by omega
    obtain ⟨r, hr⟩ : ∃ r, l % bl = r := ⟨_, rfl⟩
    have hrI : (l : Int) % (bl : Int) = (r : Int) := by rw [← hr]; simp
    have hrT : (l : Int).tmod (bl : Int) = (r : Int) := by rw [Int.tmod_eq_emod_of_nonneg (by omega)]; exact hrI
    have hrd : r = d ↔ j = Z := by rw [← hr, HO.out.1]; exact HZD.out j hj
    have HRD := Lib.hid hrd
    clear hr hrd
    by_cases hjZ : j = Z
    · obtain rfl := HRD.out.2 hjZ
      obtain ⟨wo, rfl⟩ : ∃ V, V = wr := ⟨_, rfl⟩
      have hwz := HB.out.size
      go_wp2_with (refine wlv_make Tryd.elem8 rfl _ rfl _ by_ rfl rfl (by omega) ?_; intro w6 r6 b6 z6)
      obtain ⟨g, hg⟩ : ∃ g, wo.heap.size = g := ⟨_, rfl⟩
      rw [hg] at r6 ⊢
      obtain ⟨x, hx⟩ : ∃ x, 8 * n = x := ⟨_, rfl⟩
      have hxI : (n : Int) * 8 = (x : Int) := by omega
      have hown6 := own_keep HO.out.2 (fun q hq => b6.block q (HO.out.2.lt q hq).2)
      have hb06 := HB.out.trans (b6.mono hwz)
      have HO6 := Lib.hid hown6
      have HB6 := Lib.hid hb06
      have HR6 := Lib.hid r6
      have HX := Lib.hid hx
      have HGZ := Lib.hid (⟨hg, z6⟩ : wo.heap.size = g ∧ w6.heap.size = wo.heap.size + 1)
      clear hown6 hb06 b6 r6 z6 hx hg
      go_loopw [8, 10] (fun nv i wr => ∃ k : Nat, k ≤ by_ ∧ i = .int .i64 ((by_ : Int) - 1 - (k : Int)) ∧ nv = .int .u64 ((x / 256 ^ k : Nat) : Int) ∧ Hid (RowV 5 wr g ((List.replicate (by_ - k) 0 ++ beL k x).map W8)) ∧ Hid (Below g w6 wr)) (fun _ i _ => (intOf i + 1).toNat)
      case atStart => exact ⟨0, Nat.zero_le _, by simp, by simp [hxI], Lib.hid (by have h := HR6.out; rw [show (Value.int .u8 0) = W8 0 from rfl, ← List.map_replicate] at h; simpa only [beL, Nat.sub_zero, List.range_zero, List.map_nil, List.append_nil] using h), Lib.hid (Below.refl _ _)⟩
      case round =>
        obtain ⟨k, hk, rfl, rfl, HR, HB2⟩ := hrel
        by_cases hkb : k = by_
        · have hi1 : (by_ : Int) - 1 - (k : Int) = -1 := by omega
          rw [hi1]
          have hownW := own_keep HO6.out (fun q hq => HB2.out.block q (by rw [← HGZ.out.1]; exact (HO.out.2.lt q hq).2))
          have hrl : ((List.replicate (by_ - k) (0 : BitVec 8) ++ beL k x).map W8).length = by_ := by simp [beL]; omega
          have hslR := HR.out.sl (by rw [hrl]; omega)
          rw [hrl] at hslR
          have HOW := Lib.hid hownW
          have HSR := Lib.hid hslR
          have hlt2 := HR.out.lt
          have hbase : w.heap.size ≤ wo.heap.size := HB.out.size
          have hb6s := HB6.out.size
          have hb2s := HB2.out.size
          have HKB := Lib.hid hkb
          clear hownW hslR hrl hkb hi1 hk
          go_wp2_with (at_builtin; refine wlv_append Tryd.elem8 rfl _ _ rfl w.heap.size _ l _ rfl HOW.out (some ⟨g, 0, none⟩) by_ by_ _ rfl (by intro h; cases h) _ HSR.out (ones8 _) (by omega) (by have := HGZ.out; omega) ?_; intro v7 w7 hown7 hgr7; obtain ⟨A7, c7, rfl, _, _, _⟩ := SlV.of_own hown7; have HO7 := Lib.hid hown7; have HB7 := Lib.hid ((HB6.out.trans (HB2.out.mono (by have := HGZ.out; omega))).grown hgr7 (by omega) (fun q hq => (HOW.out.lt q hq).1)); clear hown7 hgr7)
          go_ret
          have hZp := HZ.out
          have hByp := HBY.out
          have hlp : l + by_ = n + padN n bl := by
            have := HO.out.1
            unfold padZ at hZp
            unfold padN
            rcases hbl with rfl | rfl <;> omega
          refine ⟨.slice A7 (l + by_) c7, rfl, ?_, HB7.out⟩
          rw [← hlp, padL_eq n bl hbl (by omega), HZ.out, HBY.out, HX.out]
          have h := HO7.out
          have e : (bs ++ (128 :: List.replicate j 0)).map W8 ++ ((List.replicate (by_ - k) (0 : BitVec 8) ++ beL k x).map W8) = (bs ++ 128 :: (List.replicate Z 0 ++ beL by_ x)).map W8 := by
            rw [HKB.out, Nat.sub_self, hjZ]
            simp
          exact e ▸ h
        · have hi1 : (0 : Int) ≤ (by_ : Int) - 1 - (k : Int) := by omega
          obtain ⟨i, hi⟩ : ∃ i, by_ - 1 - k = i := ⟨_, rfl⟩
          have hiI : (by_ : Int) - 1 - (k : Int) = (i : Int) := by omega
          rw [hiI]
          have hiI2 : (i : Int) < by_ := by omega
          have hi0 : (0 : Int) ≤ i := by omega
          have hrc : wr.cell? ⟨g, i, none⟩ = some (.int .u8 0) := HR.out.at_ (by
            rw [List.getElem?_map, List.getElem?_append_left (by simp; omega), List.getElem?_replicate, if_pos (by omega)]; rfl)
          have hrf := HR.out.frozen i
          have hst := HR.out.set i (W8 (byteAt x k))
          have hset : ((List.replicate (by_ - k) (0 : BitVec 8) ++ beL k x).map W8).set i (W8 (byteAt x k)) = (List.replicate (by_ - (k + 1)) (0 : BitVec 8) ++ beL (k + 1) x).map W8 := by
            rw [← List.map_set, show by_ - k = i + 1 by omega, show by_ - (k + 1) = i by omega]
            congr 1
            rw [List.replicate_succ', List.append_assoc, List.set_append_right _ _ (by simp), List.length_replicate, Nat.sub_self]
            congr 1
            rw [beL, beL, List.range_succ_eq_map, List.map_cons, List.map_map]
            simp only [List.cons_append, List.nil_append, List.set_cons_zero, Nat.add_sub_cancel, Nat.sub_zero]
            congr 1
            apply List.map_congr_left
            intro a ha
            simp only [Function.comp_apply]
            congr 1
            omega
          rw [hset] at hst
          obtain ⟨y, hy⟩ : ∃ y, x / 256 ^ k = y := ⟨_, rfl⟩
          have hb8 := i8_byteAt x k
          rw [hy] at hb8
          rw [hy]
          have hy1 : x / 256 ^ (k + 1) = y / 256 := by rw [← hy, Nat.pow_succ, Nat.div_div_eq_div_mul]
          have hyI : (y : Int) / 256 = ((y / 256 : Nat) : Int) := by omega
          have hyb : (y : Int) ≤ 18446744073709551615 := by
            have : y ≤ x := by rw [← hy]; exact Nat.div_le_self _ _
            have := HX.out
            omega
          obtain ⟨y2, hy2⟩ : ∃ y2, y / 256 = y2 := ⟨_, rfl⟩
          rw [hy2] at hyI hy1
          have HST := Lib.hid hst
          have HY1 := Lib.hid hy1
          have HSETB := Lib.hid (HB2.out.setCell (p := ⟨g, i, none⟩) (Nat.le_refl _) (W8 (byteAt x k)))
          have HII := Lib.hid hi
          clear hst hset hy hy1 hy2 hi hiI
          go_wp2
          go_roundw
          case rel =>
            refine ⟨k + 1, by omega, by have := HII.out; go_num, by rw [HY1.out], HST, HSETB⟩
          case measure => simp [intOf]
    · have hne : ((r : Int) != (d : Int)) = true := by
        have := mt HRD.out.1 hjZ
        simp; omega
      have hne2 : ¬ (r : Int) = (d : Int) := by
        have := mt HRD.out.1 hjZ
        omega
      obtain ⟨W4, e4, r4, b4, s4⟩ := newV wr 5 [W8 0] #[.int .u8 0] rfl
      have hown4 := own_keep HO.out.2 (fun q hq => b4.block q (HO.out.2.lt q hq).2)
      have hsl4 := r4.sl (by decide)
      have hzw := HB.out.size
      have HO4 := Lib.hid hown4
      have HS4 := Lib.hid hsl4
      have HB4 := Lib.hid (HB.out.trans (b4.mono hzw))
      clear r4 b4 hown4 hsl4
      go_wp2_with (at_builtin; refine wlv_append Tryd.elem8 rfl _ _ rfl w.heap.size _ l _ rfl HO4.out (some ⟨wr.heap.size, 0, none⟩) 1 1 [W8 0] rfl (by intro h; cases h) _ HS4.out (ones8 [0]) (by omega) (by omega) ?_; intro v5 w5 hown5 hgr5; obtain ⟨A5, c5, rfl, _, _, _⟩ := SlV.of_own hown5; have HO5 := Lib.hid hown5; have HB5 := Lib.hid (HB4.out.grown hgr5 (by omega) (fun q hq => (HO4.out.lt q hq).1)); clear hown5 hgr5 e4)
      go_roundw
      case rel =>
        refine ⟨j + 1, l + 1, c5, A5, by omega, rfl, by have := HO.out.1; omega, Lib.hid ⟨by have := HO.out.1; omega, ?_⟩, HB5⟩
        have h := HO5.out
        have e : (bs ++ (128 :: List.replicate j 0)).map W8 ++ [W8 0] = (bs ++ (128 :: List.replicate (j + 1) 0)).map W8 := by simp [List.replicate_succ']
        exact e ▸ h
      case measure => show 1000000200 - (l + 1) < 1000000200 - l; have := HO.out.1; omega
end Go.Proofs.YtnpaidieijlkkabDoor

/- A region that draws its order and whose last operations, one behind the other, make or turn memory. -/
set_option linter.unusedVariables false
set_option linter.unusedSimpArgs false
namespace Go.Proofs.YtnpaidieijlkkabDoor
open Go.RowKit Go.Shelf

theorem wrote_congrH (ops : Array Oper) (v1 v2 : Nat → Value) (L : Array Bool) (t0 : Array Value) (h : ∀ j, L.getD j false = true → v1 j = v2 j) : ∀ k, wrote ops v1 L t0 k = wrote ops v2 L t0 k := by
  intro k
  induction k with
  | zero => rfl
  | succ k ih =>
    simp only [wrote]
    split
    · next hk => rw [ih, h k hk]
    · exact ih

theorem wrote_oldL (ops : Array Oper) (vals : Nat → Value) (L : Array Bool) (t0 : Array Value) (t : Tmp) (h : ∀ (i : Nat) (oi : Oper), ops[i]? = some oi → L.getD i false = true → oi.dst ≠ some t) : ∀ k, (wrote ops vals L t0 k).getD t undef = t0.getD t undef
  | 0 => rfl
  | k + 1 => by
    simp only [wrote]
    split
    · next hk =>
      rw [put_getD_ne, wrote_oldL ops vals L t0 t h k]
      intro e
      obtain ⟨o, ho, e'⟩ := Option.bind_eq_some_iff.1 e
      exact h k o ho hk e'
    · exact wrote_oldL ops vals L t0 t h k
/-- THE REGION: each operation, when its turn comes, yields a value; values and world meet a relation to what has been listed. -/
theorem wpIn_region_relH {β : Type} {F : Fence} {n : Nat} {P : Program} {id : Nat} {ops : Array Oper} {Q : Exit → Act → World → Prop} {a : Act} {w : World} (hm : P.follows .mixedOrders = true) (hd : Distinct ops)
    (vals : β → Nat → Value) (Wo : β → Array Bool → World → Prop) (b0 : β) (hw0 : Wo b0 (Array.replicate ops.size false) w.drew)
    (hstep : ∀ (b : β) (L : Array Bool) (a' : Act) (w' : World), Wo b L w' → L.size = ops.size → a'.defers = a.defers → (∀ (j : Nat) (oj : Oper), ops[j]? = some oj → L.getD j false = true → ∀ e ∈ oj.after, Region.binds .any e = true → L.getD e.on false = true) →
      (∀ t, (∀ (i : Nat) (oi : Oper), ops[i]? = some oi → L.getD i false = true → oi.dst ≠ some t) → a'.tmps.getD t undef = a.tmps.getD t undef) →
      (∀ (j : Nat) (oj : Oper) t, ops[j]? = some oj → oj.dst = some t → L.getD j false = true → t < a.tmps.size → a'.tmps.getD t undef = vals b j) →
      ∀ i ∈ Region.ready .any ops L, ∀ oi, ops[i]? = some oi → ∀ (K : Act → World → Prop), (∀ b' w'', (∀ j, L.getD j false = true → vals b' j = vals b j) → Wo b' (L.setIfInBounds i true) w'' → K (a'.put oi.dst (vals b' i)) w'') → wpOpIn F n P ops Q i K a' w')
    (hend : ∀ (b : β) (L : Array Bool) (w' : World), Wo b L w' → (∀ i, i < ops.size → L.getD i false = true) → Q .normal { tmps := wrote ops (vals b) (Array.replicate ops.size true) a.tmps ops.size, defers := a.defers } w')
    (hacyc : ∀ L : Array Bool, L.size = ops.size → Region.ready .any ops L = [] → ∀ i, i < ops.size → L.getD i false = true) : (Code.region id ops true).wpIn F n P Q a w := by
  refine wpIn_region_any hm ?_
  refine wpAnyIn_inv (fun L a' w' => (L.size = ops.size ∧ ∀ (j : Nat) (oj : Oper), ops[j]? = some oj → L.getD j false = true → ∀ e ∈ oj.after, Region.binds .any e = true → L.getD e.on false = true) ∧ ∃ b, a' = { tmps := wrote ops (vals b) L a.tmps ops.size, defers := a.defers } ∧ Wo b L w') ?_ ?_ (fun L a w h => h.1.1) _ _ _ _ ⟨⟨by simp, ?_⟩, b0, ?_, hw0⟩ ?_
  · rintro L a' w' ⟨⟨hs, hcl⟩, b, rfl, hW⟩ i hi
    obtain ⟨h1, o, ho, hdep⟩ := mem_ready.1 hi
    have hi' : i < L.size := by rw [hs]; exact (Array.getElem?_eq_some_iff.1 ho).1
    have hf : L.getD i false = false := by
      rw [Array.getD_eq_getD_getElem?, Array.getElem?_eq_getElem hi'] at h1 ⊢
      simpa using h1
    refine hstep b L { tmps := wrote ops (vals b) L a.tmps ops.size, defers := a.defers } _ hW hs rfl hcl (fun t ht => wrote_oldL ops (vals b) L a.tmps t ht _) (fun j oj t hj hjt hL ht => wrote_new ops (vals b) L a.tmps hd hj hjt hL ht _ (Array.getElem?_eq_some_iff.1 hj).1) i hi o ho _ fun b' w'' hv hw'' => ⟨⟨by simp [hs], ?_⟩, b', ?_, hw''⟩
    · have hmono : ∀ t, L.getD t false = true → (L.setIfInBounds i true).getD t false = true := by
        intro t ht
        by_cases e : t = i
        · subst e; simp [Array.getD_eq_getD_getElem?, hi']
        · simp only [Array.getD_eq_getD_getElem?] at ht ⊢
          rw [Array.getElem?_setIfInBounds_ne (fun h => e h.symm)]; exact ht
      intro j oj hj hLj e he hb
      by_cases hji : j = i
      · subst hji
        obtain rfl : o = oj := Option.some.inj (ho.symm.trans hj)
        exact hmono _ (hdep e he hb)
      · refine hmono _ (hcl j oj hj ?_ e he hb)
        simp only [Array.getD_eq_getD_getElem?] at hLj ⊢
        rw [Array.getElem?_setIfInBounds_ne (fun h => hji h.symm)] at hLj
        exact hLj
    rw [wrote_set ops (vals b') L a.tmps hd ho hi' hf, if_pos (by rw [← hs]; exact hi'), wrote_congrH ops (vals b') (vals b) L a.tmps hv]
    unfold Act.put
    cases o.dst <;> rfl
  · rintro L a' w' ⟨⟨hs, _⟩, b, rfl, hW⟩ hr
    have hall := hacyc L hs hr
    have e : L = Array.replicate ops.size true := by
      apply Array.ext
      · simp [hs]
      · intro i h1 h2
        have := hall i (by omega)
        rw [Array.getD_eq_getD_getElem?, Array.getElem?_eq_getElem h1] at this
        simpa using this
    have h := hend b L w' hW hall
    rw [e]
    exact h
  · intro j oj _ hLj
    exfalso
    rw [Array.getD_eq_getD_getElem?, Array.getElem?_replicate] at hLj
    split at hLj <;> simp at hLj
  · have : ∀ k, wrote ops (vals b0) (Array.replicate ops.size false) a.tmps k = a.tmps := by
      intro k
      induction k with
      | zero => rfl
      | succ k ih =>
        simp only [wrote]
        rw [if_neg (by rw [Array.getD_eq_getD_getElem?, Array.getElem?_replicate]; split <;> simp)]
        exact ih
    rw [this]
  · simp
/-- the operands that an operation reads: made slices too -/
def usesW : Op → Option (List Operand)
  | .buildSlice _ _ parts => some (parts.toList.map (·.2))
  | .makeSlice _ x y => some [x, y]
  | x => usesOp x
theorem exec_congrW {ρ ρ' : Operand → Value} {o : Oper} {l : List Operand} (h : usesW o.op = some l) (ha : ∀ x ∈ l, ρ x = ρ' x) : execOp ρ o = execOp ρ' o := by
  cases ho : o.op
  case buildSlice t n parts =>
    rw [ho] at h
    simp only [usesW] at h
    cases h
    unfold execOp
    have e : (parts.map fun (i, x) => (i, ρ x)) = (parts.map fun (i, x) => (i, ρ' x)) := map_array_congr parts (fun p hp => by
      have := ha p.2 (List.mem_map.2 ⟨p, hp, rfl⟩)
      simp [this])
    simp only [ho, e]
  case makeSlice t x y =>
    rw [ho] at h
    simp only [usesW] at h
    cases h
    unfold execOp
    simp [ho, ha x (by simp), ha y (by simp)]
  all_goals exact exec_congr (by rw [ho] at h; rw [ho]; simpa only [usesW] using h) ha
theorem about_congrW {P : Program} {w : World} {ρ ρ' : Operand → Value} {o : Oper} {l : List Operand} (h : usesW o.op = some l) (ha : ∀ x ∈ l, ρ x = ρ' x) : o.about P w ρ = o.about P w ρ' := by
  cases ho : o.op
  case buildSlice t n parts => unfold Oper.about; simp only [ho]
  case makeSlice t x y => unfold Oper.about; simp only [ho]
  all_goals exact about_congr (by rw [ho] at h; rw [ho]; simpa only [usesW] using h) ha
def depsW (ops : Array Oper) (asg wk : List Nat) : Bool := (List.range ops.size).all fun i => match ops[i]? with
  | none => true
  | some o => o.guard.isNone && (match o.dst with | some t => asg.contains t || wk.contains t | none => true) && match usesW o.op with
    | none => false
    | some l => l.all fun x => match x with
      | .tmp t => bif asg.contains t then (List.range ops.size).all fun j => match (ops[j]?).bind (·.dst) with
        | some t' => t' != t || o.after.any fun e => e.on == j && Region.binds .any e
        | none => true
        else (List.range ops.size).all fun j => match (ops[j]?).bind (·.dst) with
        | some t' => t' != t || decide (j + 1 = ops.size)
        | none => true
      | _ => true
/-- the operands of one whose turn it is hold what they will hold -/
theorem ops_hold {ops : Array Oper} {asg wrt : List (Nat × Value)} {a a' : Act} {L : Array Bool} (hdep : depsW ops (asg.map (·.1)) (wrt.map (·.1)) = true) (hon : onlyB ops (asg.map (·.1)) = true) (hsz : (asg.map (·.1)).all (fun t => decide (t < a.tmps.size)) = true)
    (hlast : ∀ j, j + 1 = ops.size → L.getD j false = false)
    (hold : ∀ t, (∀ (i : Nat) (oi : Oper), ops[i]? = some oi → L.getD i false = true → oi.dst ≠ some t) → a'.tmps.getD t undef = a.tmps.getD t undef)
    (hnew : ∀ (j : Nat) (oj : Oper) t, ops[j]? = some oj → oj.dst = some t → L.getD j false = true → t < a.tmps.size → a'.tmps.getD t undef = valP ops (asg ++ wrt) j)
    {i : Nat} {o : Oper} (ho : ops[i]? = some o) (hde : ∀ e ∈ o.after, Region.binds .any e = true → L.getD e.on false = true) : ∃ l, usesW o.op = some l ∧ o.guard = none ∧ ∀ x ∈ l, a'.eval x = evP asg a x := by
  have his : i < ops.size := (Array.getElem?_eq_some_iff.1 ho).1
  simp only [depsW, List.all_eq_true, List.mem_range] at hdep
  have h2 := hdep i his
  rw [ho] at h2
  simp only [Bool.and_eq_true] at h2
  cases hu : usesW o.op with
  | none => rw [hu] at h2; simp at h2
  | some l =>
    rw [hu] at h2
    refine ⟨l, rfl, by simpa using h2.1.1, fun x hx => ?_⟩
    have h3 := List.all_eq_true.1 h2.2 x hx
    cases x with
    | tmp t =>
      cases hl : (asg.map (·.1)).contains t with
      | false =>
        simp only [hl, cond_false] at h3
        have hno := lookup_none_of hl
        have e1 : evP asg a (.tmp t) = a.tmps.getD t undef := by simp [evP, hno, Act.eval]
        have e2 : a'.eval (.tmp t) = a'.tmps.getD t undef := by simp [Act.eval]
        rw [e1, e2]
        refine hold t fun j oj hj hLj e => ?_
        have h4 := List.all_eq_true.1 h3 j (List.mem_range.2 (Array.getElem?_eq_some_iff.1 hj).1)
        rw [hj] at h4
        simp only [Option.bind_some, e, bne_self_eq_false, Bool.false_or, decide_eq_true_eq] at h4
        rw [hlast j h4] at hLj
        cases hLj
      | true =>
        simp only [hl, cond_true] at h3
        obtain ⟨v, hv⟩ := lookup_some_of hl
        have e1 : evP asg a (.tmp t) = v := by simp [evP, hv]
        have e2 : a'.eval (.tmp t) = a'.tmps.getD t undef := by simp [Act.eval]
        rw [e1, e2]
        have h5 := List.all_eq_true.1 hon t (by simpa using hl)
        rw [List.any_eq_true] at h5
        obtain ⟨j, hj, h6⟩ := h5
        rw [List.mem_range] at hj
        have hoj : ops[j]? = some ops[j] := Array.getElem?_eq_getElem hj
        rw [hoj] at h6
        simp only [Option.bind_some] at h6
        cases hdj : ops[j].dst with
        | none => rw [hdj] at h6; cases h6
        | some t' =>
          rw [hdj] at h6
          obtain rfl : t' = t := by simpa using h6
          have h7 := List.all_eq_true.1 h3 j (List.mem_range.2 hj)
          rw [hoj] at h7
          simp only [Option.bind_some, hdj, bne_self_eq_false, Bool.false_or] at h7
          obtain ⟨e, he, he2⟩ := Array.any_eq_true'.1 h7
          rw [Bool.and_eq_true, beq_iff_eq] at he2
          have hLj := hde e he he2.2
          rw [he2.1] at hLj
          have htl : t' < a.tmps.size := by
            have := List.all_eq_true.1 hsz t' (by simpa using hl)
            simpa using this
          have h8 := hnew j _ t' hoj hdj hLj htl
          rw [h8]
          simp [valP, hoj, hdj, hv, List.lookup_append]
    | _ => rfl
/-- how many of the tail are done -/
def cntW (s : Nat) (L : Array Bool) : Nat → Nat
  | 0 => 0
  | t + 1 => if L.getD (s + t) false then t + 1 else cntW s L t
theorem cntW_le (s : Nat) (L : Array Bool) : ∀ t, cntW s L t ≤ t
  | 0 => Nat.le_refl _
  | t + 1 => by
    rw [cntW]
    split
    · exact Nat.le_refl _
    · exact Nat.le_trans (cntW_le s L t) (Nat.le_succ t)
theorem cntW_other (s : Nat) (L : Array Bool) {i : Nat} (h : i < s) : ∀ t, cntW s (L.setIfInBounds i true) t = cntW s L t
  | 0 => rfl
  | t + 1 => by rw [cntW, cntW, getD_set_other L (by omega), cntW_other s L h t]
theorem cntW_eq (s : Nat) (L : Array Bool) (k : Nat) (hk : k = 0 ∨ L.getD (s + (k - 1)) false = true) : ∀ t, k ≤ t → (∀ j, k ≤ j → j < t → L.getD (s + j) false = false) → cntW s L t = k
  | 0, h, _ => by rw [cntW]; omega
  | t + 1, h, hn => by
    rw [cntW]
    rcases Nat.lt_or_ge t k with h2 | h2
    · obtain rfl : k = t + 1 := by omega
      rcases hk with hk | hk
      · omega
      · rw [if_pos (by simpa using hk)]
    · rw [hn t h2 (by omega)]
      simp only [Bool.false_eq_true, if_false]
      exact cntW_eq s L k hk t h2 fun j h3 h4 => hn j h3 (by omega)
/-- each of the tail but the first waits for the one ahead -/
def chainW (ops : Array Oper) (s : Nat) : Bool := (List.range ops.size).all fun j => decide (j ≤ s) || match ops[j]? with
  | some o => o.after.any fun e => e.on == j - 1 && Region.binds .any e
  | none => true
/-- one of the region's pure operations, at one world -/
def PureAt (F : Fence) (n : Nat) (P : Program) (W : World) (ρ : Operand → Value) (o : Oper) (v : Value) : Prop :=
  (∀ c, o.op ≠ .defer c) ∧ (∀ f, o.about P W ρ = some f → F.fn f) ∧
    ((execOp ρ o).run P W = .ok (.value v) W ∨
      ∃ f args, (execOp ρ o).run P W = .ok (.enter f args) W ∧ CallsIn F (n - 1) P f args W fun e w' => e = .returned v ∧ ∃ q', w' = W.drewN q')
theorem wpIn_region_chain {β : Type} {F : Fence} {n : Nat} {P : Program} {id : Nat} {ops : Array Oper} {Q : Exit → Act → World → Prop} {a : Act} {w : World} (hF : F.depth = none) (hm : P.follows .mixedOrders = true)
    (asg wrt : β → List (Nat × Value)) (keys wk : List Nat) (hkeys : ∀ b, (asg b).map (·.1) = keys) (hwk : ∀ b, (wrt b).map (·.1) = wk) (hd : distinctB ops = true) (hdep : depsW ops keys wk = true) (hon : onlyB ops keys = true) (hord : orderedB ops = true) (hsz : keys.all (fun t => decide (t < a.tmps.size)) = true)
    (s t : Nat) (hst : s + t = ops.size) (hch : chainW ops s = true) (hroot : rootB ops (ops.size - 1) = true) (R : Nat → β → World → Prop) (hR : ∀ k b W q, R k b W → R k b (W.drewN q)) (b0 : β) (h0 : R 0 b0 w)
    (hops : ∀ i o k b W, i < s → k ≤ t → R k b W → ops[i]? = some o → PureAt F n P W (evP (asg b) a) o (valP ops (asg b ++ wrt b) i))
    (htail : ∀ k b W o, k < t → R k b W → ops[s + k]? = some o → (∀ c, o.op ≠ .defer c) ∧ (∀ f, o.about P W (evP (asg b) a) = some f → F.fn f) ∧ ∃ b' W', (∀ j, j < s + k → valP ops (asg b' ++ wrt b') j = valP ops (asg b ++ wrt b) j) ∧ R (k + 1) b' W' ∧
      ((execOp (evP (asg b) a) o).run P W = .ok .skip W' ∧ valP ops (asg b' ++ wrt b') (s + k) = undef ∨ (execOp (evP (asg b) a) o).run P W = .ok (.value (valP ops (asg b' ++ wrt b') (s + k))) W'))
    (hend : ∀ b W, R t b W → Q .normal { tmps := wrote ops (valP ops (asg b ++ wrt b)) (Array.replicate ops.size true) a.tmps ops.size, defers := a.defers } W) : (Code.region id ops true).wpIn F n P Q a w := by
  have hd' := distinct_of hd
  have hstepback : ∀ (L : Array Bool), (∀ (j : Nat) (oj : Oper), ops[j]? = some oj → L.getD j false = true → ∀ e ∈ oj.after, Region.binds .any e = true → L.getD e.on false = true) → ∀ j, s < j → j < ops.size → L.getD j false = true → L.getD (j - 1) false = true := by
    intro L hcl j h1 h2 hL
    have h3 := List.all_eq_true.1 hch j (List.mem_range.2 h2)
    have hoj : ops[j]? = some ops[j] := Array.getElem?_eq_getElem h2
    rw [hoj, Bool.or_eq_true, decide_eq_true_eq] at h3
    rcases h3 with h3 | h3
    · omega
    · obtain ⟨e, he, he2⟩ := Array.any_eq_true'.1 h3
      rw [Bool.and_eq_true, beq_iff_eq] at he2
      have := hcl j _ hoj hL e he he2.2
      rwa [he2.1] at this
  have hdown : ∀ (L : Array Bool), (∀ (j : Nat) (oj : Oper), ops[j]? = some oj → L.getD j false = true → ∀ e ∈ oj.after, Region.binds .any e = true → L.getD e.on false = true) → ∀ d i, s ≤ i → i + d < ops.size → L.getD (i + d) false = true → L.getD i false = true := by
    intro L hcl d
    induction d with
    | zero => intro i _ _ h; exact h
    | succ d ih =>
      intro i h1 h2 h
      refine ih i h1 (by omega) ?_
      have := hstepback L hcl (i + (d + 1)) (by omega) h2 h
      rwa [show i + (d + 1) - 1 = i + d by omega] at this
  have hclose : ∀ (L : Array Bool), (∀ (j : Nat) (oj : Oper), ops[j]? = some oj → L.getD j false = true → ∀ e ∈ oj.after, Region.binds .any e = true → L.getD e.on false = true) → ∀ s, s + 1 = ops.size → L.getD s false = true → ∀ k i, i + k = s → L.getD i false = true := by
    intro L hcl s hs hL k
    induction k using Nat.strongRecOn with
    | _ k ih =>
      intro i hik
      rcases Nat.eq_zero_or_pos k with h0 | h0
      · obtain rfl : i = s := by omega
        exact hL
      · simp only [rootB, List.all_eq_true, List.mem_range] at hroot
        have h1 := hroot i (by omega)
        rw [List.any_eq_true] at h1
        obtain ⟨j, hj, h2⟩ := h1
        rw [List.mem_range] at hj
        rw [Bool.and_eq_true, decide_eq_true_eq] at h2
        have hjl := ih (s - j) (by omega) j (by omega)
        cases ho : ops[j]? with
        | none => rw [ho] at h2; simp at h2
        | some o =>
          rw [ho] at h2
          obtain ⟨e, he, he2⟩ := Array.any_eq_true'.1 h2.2
          rw [Bool.and_eq_true, beq_iff_eq] at he2
          have := hcl j o ho hjl e he he2.2
          rwa [he2.1] at this
  have hnolast : ∀ (L : Array Bool), (∀ (j : Nat) (oj : Oper), ops[j]? = some oj → L.getD j false = true → ∀ e ∈ oj.after, Region.binds .any e = true → L.getD e.on false = true) → ∀ i, i < ops.size → L.getD i false = false → ∀ j, j + 1 = ops.size → L.getD j false = false := by
    intro L hcl i hi hf j hj
    apply Classical.byContradiction
    intro h
    have := hclose L hcl j hj (by simpa using h) (j - i) i (by omega)
    rw [hf] at this
    cases this
  refine wpIn_region_relH hm hd' (fun b => valP ops (asg b ++ wrt b)) (fun b L W => R (cntW s L t) b W) b0 ?_ ?_ ?_ (acyclic_of hord)
  · have : cntW s (Array.replicate ops.size false) t = 0 := cntW_eq s _ 0 (.inl rfl) t (Nat.zero_le _) fun j _ _ => by
      rw [Array.getD_eq_getD_getElem?, Array.getElem?_replicate]; split <;> rfl
    simp only [this]
    exact hR 0 b0 w 1 h0
  · intro b L a' W hW hLs hdf hcl hold hnew i hi o ho K hK
    obtain ⟨h1, o2, ho2, hde⟩ := mem_ready.1 hi
    obtain rfl : o = o2 := Option.some.inj (ho.symm.trans ho2)
    have hnl := unlisted h1
    have his : i < ops.size := (Array.getElem?_eq_some_iff.1 ho).1
    obtain ⟨l, hu, hg, hev⟩ := ops_hold (asg := asg b) (a := a) (a' := a') (L := L) (wrt := wrt b) (by rw [hkeys, hwk]; exact hdep) (by rw [hkeys]; exact hon) (by rw [hkeys]; exact hsz) (hnolast L hcl i his hnl) hold hnew ho hde
    have hex := exec_congrW hu hev
    have hab : ∀ V : World, o.about P V a'.eval = o.about P V (evP (asg b) a) := fun V => about_congrW hu hev
    rcases Nat.lt_or_ge i s with his' | his'
    · have hkt : cntW s L t ≤ t := cntW_le s L t
      obtain ⟨hdef, hf, hrun⟩ := hops i o _ b W his' hkt hW ho
      have hcw := cntW_other s L his' t
      rcases hrun with hrun | ⟨f, args, hrun, hcall⟩
      · refine in_value ho hg hdef (fun f hf' => hf f (by rw [← hab]; exact hf')) (by rw [hex]; exact hrun) ?_
        exact hK b W (fun _ _ => rfl) (by rw [hcw]; exact hW)
      · refine in_call_any ho hg hdef hF (fun f hf' => hf f (by rw [← hab]; exact hf')) (by rw [hex]; exact hrun) (hcall.mono ?_)
        rintro e w' ⟨rfl, q', rfl⟩
        exact ⟨_, rfl, hK b _ (fun _ _ => rfl) (by rw [hcw]; exact hR _ _ _ _ hW)⟩
    · obtain ⟨k, rfl⟩ : ∃ k, i = s + k := ⟨i - s, by omega⟩
      have hlater : ∀ j, k ≤ j → j < t → L.getD (s + j) false = false := by
        intro j h2 h3
        apply Classical.byContradiction
        intro h
        have := hdown L hcl (j - k) (s + k) (by omega) (by omega) (by rw [show s + k + (j - k) = s + j by omega]; simpa using h)
        rw [hnl] at this
        cases this
      have hprev : k = 0 ∨ L.getD (s + (k - 1)) false = true := by
        rcases Nat.eq_zero_or_pos k with h2 | h2
        · exact .inl h2
        · refine .inr ?_
          have h3 := List.all_eq_true.1 hch (s + k) (List.mem_range.2 his)
          rw [ho, Bool.or_eq_true, decide_eq_true_eq] at h3
          rcases h3 with h3 | h3
          · omega
          · obtain ⟨e, he, he2⟩ := Array.any_eq_true'.1 h3
            rw [Bool.and_eq_true, beq_iff_eq] at he2
            have := hde e he he2.2
            rw [he2.1] at this
            rwa [show s + k - 1 = s + (k - 1) by omega] at this
      have hc1 : cntW s L t = k := cntW_eq s L k hprev t (by omega) hlater
      have hc2 : cntW s (L.setIfInBounds (s + k) true) t = k + 1 := cntW_eq s _ (k + 1) (.inr (getD_set_self L (by omega))) t (by omega) fun j h2 h3 => by
        rw [getD_set_other L (by omega)]; exact hlater j (by omega) h3
      have hW2 : R k b W := by have := hW; simp only [hc1] at this; exact this
      obtain ⟨hdef, hf, b', W', hv, hR', hrun⟩ := htail k b W o (by omega) hW2 ho
      have hvv : ∀ j, L.getD j false = true → valP ops (asg b' ++ wrt b') j = valP ops (asg b ++ wrt b) j := by
        intro j hj
        rcases Nat.lt_or_ge j (s + k) with h2 | h2
        · exact hv j h2
        · exfalso
          have hjl : j < L.size := by
            apply Classical.byContradiction
            intro h
            rw [Array.getD_eq_getD_getElem?, Array.getElem?_eq_none (by omega)] at hj
            cases hj
          have := hlater (j - s) (by omega) (by omega)
          rw [show s + (j - s) = j by omega, hj] at this
          cases this
      have hk := hK b' W' hvv (by rw [hc2]; exact hR')
      rcases hrun with ⟨hrun, hvu⟩ | hrun
      · simp only [hvu] at hk
        exact in_skip ho hg hdef (fun f hf' => hf f (by rw [← hab]; exact hf')) (by rw [hex]; exact hrun) hk
      · exact in_value ho hg hdef (fun f hf' => hf f (by rw [← hab]; exact hf')) (by rw [hex]; exact hrun) hk
  · intro b L W hW hL
    have : cntW s L t = t := cntW_eq s L t (by rcases Nat.eq_zero_or_pos t with h | h; exact .inl h; exact .inr (hL _ (by omega))) t (Nat.le_refl _) fun j h1 h2 => absurd h2 (by omega)
    simp only [this] at hW
    exact hend b W hW
end Go.Proofs.YtnpaidieijlkkabDoor

/- baileyref3: words. -/
set_option linter.unusedVariables false
set_option linter.unusedSimpArgs false
namespace Go.Proofs.YtnpaidieijlkkabDoor
open Go.RowKit Go.Shelf

def byte4 (x : BitVec 32) : List (BitVec 8) := [(x >>> 24).setWidth 8, (x >>> 16).setWidth 8, (x >>> 8).setWidth 8, x.setWidth 8]
def wordsL : List (BitVec 32) → List (BitVec 8)
  | [] => []
  | x :: r => byte4 x ++ wordsL r
theorem wordsL_append : ∀ (a b : List (BitVec 32)), wordsL (a ++ b) = wordsL a ++ wordsL b
  | [], _ => rfl
  | x :: a, b => by rw [List.cons_append, wordsL, wordsL, wordsL_append a b, List.append_assoc]
theorem wordsL_length : ∀ a : List (BitVec 32), (wordsL a).length = 4 * a.length
  | [] => rfl
  | x :: a => by rw [wordsL, List.length_append, wordsL_length a, List.length_cons]; simp [byte4]; omega
theorem d32_24 (x : BitVec 32) : i32 x / (16777216 : Int) = i32 (x >>> 24) := b32_shr x 24
theorem d32_16 (x : BitVec 32) : i32 x / (65536 : Int) = i32 (x >>> 16) := b32_shr x 16
theorem d32_8 (x : BitVec 32) : i32 x / (256 : Int) = i32 (x >>> 8) := b32_shr x 8
theorem own_form {w : World} {base : Nat} {e : TypeId} {v : Value} {n : Nat} {xs : List Value} (h : w.ownsRow base e 1 v n xs) : ∃ A c, v = .slice A n c := by
  rcases h.2 with ⟨rfl, rfl⟩ | ⟨g, cap, cur, rfl, _⟩
  · exact ⟨none, 0, rfl⟩
  · exact ⟨_, _, rfl⟩
theorem w32_8 (x : BitVec 32) : IntKind.u8.wrap (i32 x) = i8 (x.setWidth 8) := by rw [IntKind.wrap_u8']; exact c32_8' x
section
variable {P : Program} {t e : TypeId} {z : Value} {sz : Nat} {w : World} {o : Oper}
/-- append onto an owned row, as one run -/
theorem run_wappend (E : Elem P t e z sz) {ρ : Operand → Value} (s x : Operand)
    (ho : o.op = .call { callee := .builtin .append, args := #[s, x], argTypes := #[t, t] })
    (base : Nat) (v : Value) (k : Nat) (ys : List Value) (hs : ρ s = v) (hown : w.ownsRow base e 1 v k ys) (ad : Addr) (m c : Nat) (xs : List Value) (hx : ρ x = .slice (some ad) m c) (hl : xs.length = m)
    (hnews : ∀ j u, xs[j]? = some u → w.cell? (ad.add j) = some u) (h1 : ∀ u ∈ xs, u.oneCell' = true) (hk : k + m ≤ 17592186044416) (hbase : base ≤ w.heap.size) :
    ∃ v' w', (execOp ρ o).run P w = .ok (.value v') w' ∧ w'.ownsRow base e 1 v' (k + m) (ys ++ xs) ∧ w.grownBy w' v.ownBlock := by
  obtain ⟨i0, hi, hz0, hz1, hz2⟩ := info_parts E.info
  have hb : (k + m) * sz ≤ 140737488355328 := Nat.le_trans (Nat.mul_le_mul hk E.b8) (by decide)
  obtain ⟨v', w', hr, h2, h3, h4⟩ := run_append_own (P := P) w base t o.type e i0 z 1 sz E.sl hi hz0 hz1 hz2 (by rw [E.one]; rfl) (by decide) v k ys hown ad m c xs (by omega) hnews h1 (by simp only [maxLen]; omega) hb hbase
  refine ⟨v', w', ?_, h2, h3⟩
  unfold execOp
  simp only [ho, resolve, invoke, builtin, Sem.run_bind, Sem.run_pure, Result.andThen_ok, List.map_toArray, List.map_cons, List.map_nil, hs, hx, hr]
end
/-- the four bytes' row -/
def row4 (x : BitVec 32) : Obj := .cells ((byte4 x).map W8).toArray 5 (0, 0)
def R72 (wr : World) (base m : Nat) (x : BitVec 32) (zs : List Value) : Nat → Value → World → Prop
  | 0, _, W => ∃ q, W = wr.drewN q
  | 1, _, W => ∃ q, W = (wr.alloc (row4 x)).drewN q
  | _ + 2, v, W => W.ownsRow base 5 1 v m zs ∧ Below base wr W
theorem R72.drew {wr : World} {base m : Nat} {x : BitVec 32} {zs : List Value} : ∀ (k : Nat) (v : Value) (W : World) (q : Nat), R72 wr base m x zs k v W → R72 wr base m x zs k v (W.drewN q)
  | 0, _, _, q, ⟨q0, h⟩ => ⟨q0 + q, by rw [h, drewN_add]⟩
  | 1, _, _, q, ⟨q0, h⟩ => ⟨q0 + q, by rw [h, drewN_add]⟩
  | _ + 2, _, _, q, h => ⟨h.1, below_drewN h.2 q⟩
theorem R72.below {wr : World} {base m : Nat} {x : BitVec 32} {zs : List Value} (hb : base ≤ wr.heap.size) : ∀ (k : Nat) (v : Value) (W : World), R72 wr base m x zs k v W → Below base wr W
  | 0, _, _, ⟨q0, h⟩ => by rw [h]; exact below_drewN (Below.refl _ _) _
  | 1, _, _, ⟨q0, h⟩ => by rw [h]; exact below_drewN ((Below.refl _ _).alloc hb _) _
  | _ + 2, _, _, h => h.2
set_option maxRecDepth 100000 in
set_option maxHeartbeats 2000000 in
theorem words_any (w : World) (B : Nat) (A : Option Addr) (n c : Nat) (ws : List (BitVec 32)) (hs : SlV w B A n c (ws.map W32)) (hB : B ≤ w.heap.size) (hn : n ≤ 1000) :
    Calls Tryd.prog 70 #[.slice A n c] w fun e w' => ∃ v, e = .returned v ∧ w'.ownsRow w.heap.size 5 1 v (4 * n) ((wordsL ws).map W8) ∧ Below w.heap.size w w' := by
  have hl : n = ws.length := by simpa using hs.len
  have kn : (n : Int) ≤ 1000 := by omega
  have HS := Lib.hid hs
  have HL := Lib.hid hl
  clear hs hl
  go_enter Tryd.func70, Tryd.ntmps70
  go_wp2
  go_loopw [3, 4] (fun o i wr => ∃ (j c' : Nat) (A' : Option Addr), j ≤ n ∧ i = .int .i64 (j : Int) ∧ o = .slice A' (4 * j) c' ∧ Hid (wr.ownsRow w.heap.size 5 1 (.slice A' (4 * j) c') (4 * j) ((wordsL (ws.take j)).map W8)) ∧ Hid (Below w.heap.size w wr)) (fun _ i _ => n - (intOf i).toNat)
  case atStart => exact ⟨0, 0, none, Nat.zero_le _, rfl, rfl, Lib.hid ⟨rfl, .inl ⟨rfl, rfl⟩⟩, Lib.hid (Below.refl _ _)⟩
  case round =>
    obtain ⟨j, c', A', hj, rfl, rfl, HO, HB⟩ := hrel
    by_cases hjn : j < n
    · have kj : (j : Int) < n := by omega
      have kj0 : (0 : Int) ≤ j := by omega
      obtain ⟨b, off, v0, rfl, hb, hv, hc⟩ := HS.out.at_ (k := j) hjn
      obtain ⟨x, hx, rfl⟩ : ∃ x, ws[j]? = some x ∧ v0 = W32 x := by
        rw [List.getElem?_map, Option.map_eq_some_iff] at hv
        obtain ⟨x, hx, rfl⟩ := hv
        exact ⟨x, hx, rfl⟩
      have hcw : wr.cell? ⟨b, off + j, none⟩ = some (W32 x) := (HB.out.cell (p := ⟨b, off + j, none⟩) (Nat.lt_of_lt_of_le hb hB)).trans hc
      have HXX := Lib.hid hx
      have hxb := i32_lt x
      have q24 := d32_24
      have q16 := d32_16
      have q8 := d32_8
      have p8 := c32_8'
      clear hc hv hx
      have hmx : Tryd.prog.follows .mixedOrders = true := by kernel_rfl
      obtain ⟨gw, hgw⟩ : ∃ g, g = wr.heap.size := ⟨_, rfl⟩
      have HGW := Lib.hid hgw
      clear hgw
      have hwsz : w.heap.size ≤ wr.heap.size := HB.out.size
      have HWS := Lib.hid hwsz
      clear hwsz
      go_wp2_with fail
      refine (wpIn_wide (n := 9)).1 (wpIn_region_chain (β := Value) rfl hmx (fun v => [(11, (.slice A' (4 * j) c' : Value)), (12, .slice (some ⟨b, off, none⟩) n c), (13, .int .i64 (j : Int)), (14, .pointer (some ⟨b, off + j, none⟩)), (15, W32 x), (16, W32 (x >>> 24)), (17, W8 ((x >>> 24).setWidth 8)), (18, .slice (some ⟨b, off, none⟩) n c), (19, .int .i64 (j : Int)), (20, .pointer (some ⟨b, off + j, none⟩)), (21, W32 x), (22, W32 (x >>> 16)), (23, W8 ((x >>> 16).setWidth 8)), (24, .slice (some ⟨b, off, none⟩) n c), (25, .int .i64 (j : Int)), (26, .pointer (some ⟨b, off + j, none⟩)), (27, W32 x), (28, W32 (x >>> 8)), (29, W8 ((x >>> 8).setWidth 8)), (30, .slice (some ⟨b, off, none⟩) n c), (31, .int .i64 (j : Int)), (32, .pointer (some ⟨b, off + j, none⟩)), (33, W32 x), (34, W8 (x.setWidth 8)), (35, .slice (some ⟨gw, 0, none⟩) 4 4), (36, v)]) (fun v => [(3, v)]) [11, 12, 13, 14, 15, 16, 17, 18, 19, 20, 21, 22, 23, 24, 25, 26, 27, 28, 29, 30, 31, 32, 33, 34, 35, 36] [3] (fun _ => rfl) (fun _ => rfl) (by kernel_rfl) (by kernel_rfl) (by kernel_rfl) (by kernel_rfl) (by first | rfl | simp) 24 3 rfl (by kernel_rfl) (by kernel_rfl)
        (R72 wr w.heap.size (4 * j + 4) x ((wordsL (ws.take j)).map W8 ++ (byte4 x).map W8)) R72.drew undef ⟨0, rfl⟩ ?ops5 ?tail5 ?end5)
      case ops5 =>
        intro i o k v W hi hk hR ho
        have hcW : W.cell? ⟨b, off + j, none⟩ = some (W32 x) := ((R72.below HWS.out k v W hR).cell (p := ⟨b, off + j, none⟩) (Nat.lt_of_lt_of_le hb hB)).trans hcw
        clear hR hk
        have hi2 : i = 0 ∨ i = 1 ∨ i = 2 ∨ i = 3 ∨ i = 4 ∨ i = 5 ∨ i = 6 ∨ i = 7 ∨ i = 8 ∨ i = 9 ∨ i = 10 ∨ i = 11 ∨ i = 12 ∨ i = 13 ∨ i = 14 ∨ i = 15 ∨ i = 16 ∨ i = 17 ∨ i = 18 ∨ i = 19 ∨ i = 20 ∨ i = 21 ∨ i = 22 ∨ i = 23 := by omega
        rcases hi2 with rfl | rfl | rfl | rfl | rfl | rfl | rfl | rfl | rfl | rfl | rfl | rfl | rfl | rfl | rfl | rfl | rfl | rfl | rfl | rfl | rfl | rfl | rfl | rfl
        all_goals
          have ho' := ho
          simp only [List.getElem?_toArray, List.getElem?_cons_zero, List.getElem?_cons_succ, Option.some.injEq] at ho'
          subst ho'
          refine ⟨(by intro c h; cases h), fun _ _ => trivial, .inl ?_⟩
        all_goals first | (simp [execOp, evP, valP, Act.eval, List.lookup_cons]; done) | (simp [execOp, evP, valP, Act.eval, List.lookup_cons, go_sem, hcW, kj0, kj, q24, q16, q8, w32_8]; done) | skip
      case tail5 =>
        intro k v W o hk hR ho
        have hk2 : k = 0 ∨ k = 1 ∨ k = 2 := by omega
        have ho' := ho
        rcases hk2 with rfl | rfl | rfl
        · simp only [Nat.add_zero, List.getElem?_toArray, List.getElem?_cons_zero, List.getElem?_cons_succ, Option.some.injEq] at ho'
          subst ho'
          obtain ⟨q, rfl⟩ := hR
          refine ⟨(by intro c h; cases h), fun _ _ => trivial, v, (wr.alloc (row4 x)).drewN q, fun _ _ => rfl, ⟨q, rfl⟩, .inr ?_⟩
          simp [execOp, evP, valP, Act.eval, List.lookup_cons, go_sem, byte4, row4]
          exact ⟨HGW.out.symm, rfl⟩
        · simp only [Nat.reduceAdd, List.getElem?_toArray, List.getElem?_cons_zero, List.getElem?_cons_succ, Option.some.injEq] at ho'
          obtain ⟨q, rfl⟩ := hR
          have hrow : RowV 5 ((wr.alloc (row4 x)).drewN q) wr.heap.size ((byte4 x).map W8) := RowV.new _ _ _
          have hown : ((wr.alloc (row4 x)).drewN q).ownsRow w.heap.size 5 1 (.slice A' (4 * j) c') (4 * j) ((wordsL (ws.take j)).map W8) := HO.out.alloc _
          have hgw := HGW.out
          refine ⟨(by intro c h; rw [← ho'] at h; cases h), fun _ _ => trivial, ?_⟩
          generalize hρ : evP _ _ = ρ
          have hs11 : ρ (.tmp 11) = .slice A' (4 * j) c' := by rw [← hρ]; rfl
          have hs35 : ρ (.tmp 35) = .slice (some ⟨gw, 0, none⟩) 4 4 := by rw [← hρ]; rfl
          have hn4 : ∀ (k : Nat) (u : Value), ((byte4 x).map W8)[k]? = some u → ((wr.alloc (row4 x)).drewN q).cell? ((⟨gw, 0, none⟩ : Addr).add k) = some u := by
            intro k u hu
            rw [Addr.add_lit, Nat.zero_add, hgw]
            exact hrow.at_ hu
          obtain ⟨v', W', hrun, hO', hG'⟩ := run_wappend Tryd.elem8 (.tmp 11) (.tmp 35) (o := o) (by rw [← ho']) w.heap.size _ (4 * j) _ hs11 hown ⟨gw, 0, none⟩ 4 4 ((byte4 x).map W8) hs35 rfl hn4 (by intro u hu; simp [byte4] at hu; rcases hu with rfl | rfl | rfl | rfl <;> rfl) (by omega) (by have := HWS.out; simp; omega)
          refine ⟨v', W', ?_, ⟨hO', ?_⟩, .inr hrun⟩
          · intro k hk
            have hk3 : k < 25 := hk
            have hk4 : k = 0 ∨ k = 1 ∨ k = 2 ∨ k = 3 ∨ k = 4 ∨ k = 5 ∨ k = 6 ∨ k = 7 ∨ k = 8 ∨ k = 9 ∨ k = 10 ∨ k = 11 ∨ k = 12 ∨ k = 13 ∨ k = 14 ∨ k = 15 ∨ k = 16 ∨ k = 17 ∨ k = 18 ∨ k = 19 ∨ k = 20 ∨ k = 21 ∨ k = 22 ∨ k = 23 ∨ k = 24 := by omega
            rcases hk4 with rfl | rfl | rfl | rfl | rfl | rfl | rfl | rfl | rfl | rfl | rfl | rfl | rfl | rfl | rfl | rfl | rfl | rfl | rfl | rfl | rfl | rfl | rfl | rfl | rfl <;> rfl
          · exact (below_drewN ((Below.refl _ _).alloc HWS.out _) q).grown hG' (by have := HWS.out; simp; omega) (fun k hk => (hown.lt k hk).1)
        · simp only [Nat.reduceAdd, List.getElem?_toArray, List.getElem?_cons_zero, List.getElem?_cons_succ, Option.some.injEq] at ho'
          subst ho'
          refine ⟨(by intro c h; cases h), fun _ _ => trivial, v, W, fun _ _ => rfl, hR, .inr ?_⟩
          simp [execOp, evP, valP, Act.eval, List.lookup_cons]
      case end5 =>
        intro v W hR
        simp [wrote, valP, Act.put, List.lookup_cons]
        obtain ⟨A2, c2, rfl⟩ := own_form hR.1
        obtain ⟨x', hx', hpre⟩ : ∃ x', x' = x ∧ ws.take (j + 1) = ws.take j ++ [x'] := ⟨x, rfl, by rw [List.take_add_one, HXX.out]; rfl⟩
        subst hx'
        have HR := Lib.hid hR
        clear hR
        go_wp2
        go_round
        case rel =>
          refine ⟨j + 1, c2, A2, hjn, by go_num, rfl, ?_, ?_⟩
          · rw [hpre, wordsL_append, List.map_append]
            have := HR.out.1
            rw [show wordsL [x'] = byte4 x' by simp [wordsL]]
            exact Lib.hid this
          · exact Lib.hid (HB.out.trans HR.out.2)
        case measure => simp [intOf]; omega
    · obtain rfl : j = n := by omega
      have e : ws.take j = ws := by rw [HL.out]; exact List.take_length
      rw [e] at HO
      go_wp2
      go_ret
      exact ⟨_, rfl, HO.out, HB.out⟩
end Go.Proofs.YtnpaidieijlkkabDoor

/- baileyref3: the tables. -/
set_option linter.unusedVariables false
set_option linter.unusedSimpArgs false
namespace Go.Proofs.YtnpaidieijlkkabDoor
open Go.RowKit Go.Shelf

def k32L : List (BitVec 32) := (List.range 64).map K32
set_option maxRecDepth 100000 in
set_option maxHeartbeats 2000000 in
theorem k256_any (w : World) : Calls Tryd.prog 71 #[] w fun e w' => e = .returned (.slice (some ⟨w.heap.size, 0, none⟩) 64 64) ∧ RowV 82 w' w.heap.size (k32L.map W32) ∧ Below w.heap.size w w' := by
  go_enter Tryd.func71, Tryd.ntmps71
  go_wp2
  go_ret
  refine ⟨rfl, ?_, (Below.refl _ _).alloc (Nat.le_refl _) _⟩
  unfold RowV
  rw [heap_alloc_new]
  kernel_rfl
set_option maxRecDepth 100000 in
set_option maxHeartbeats 2000000 in
theorem k512_any (w : World) : Calls Tryd.prog 73 #[] w fun e w' => e = .returned (.slice (some ⟨w.heap.size, 0, none⟩) 80 80) ∧ RowV 68 w' w.heap.size (rootsL.map W64) ∧ Below w.heap.size w w' := by
  go_enter Tryd.func73, Tryd.ntmps73
  go_wp2
  go_ret
  refine ⟨rfl, ?_, (Below.refl _ _).alloc (Nat.le_refl _) _⟩
  unfold RowV
  rw [heap_alloc_new]
  kernel_rfl
end Go.Proofs.YtnpaidieijlkkabDoor
