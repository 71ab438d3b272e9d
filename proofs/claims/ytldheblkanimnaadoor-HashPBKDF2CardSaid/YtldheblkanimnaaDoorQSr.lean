/- hashes: the keyed repeat; fill over parts with room behind them. -/
import Derived.Test.YtldheblkanimnaaDoorPileB9
import Derived.Laws.OwnMore
set_option linter.unusedVariables false
set_option linter.unusedSimpArgs false
namespace Go.Proofs.YtldheblkanimnaaDoor
open Go.RowKit Go.Shelf

/-- HMAC of HMAC .. of a message -/
def uL (k : Int) (key m : List (BitVec 8)) : Nat → List (BitVec 8)
  | 0 => hmacL k key m
  | j + 1 => hmacL k key (uL k key m j)
def xorL (a b : List (BitVec 8)) : List (BitVec 8) := (a.zip b).map (fun p => p.1 ^^^ p.2)
/-- the first of them XORed together -/
def tL (k : Int) (key m : List (BitVec 8)) : Nat → List (BitVec 8)
  | 0 => hmacL k key m
  | j + 1 => xorL (tL k key m j) (uL k key m (j + 1))
theorem uL_length (k : Int) (key m : List (BitVec 8)) : ∀ j, (uL k key m j).length = szN k
  | 0 => hmacL_length _ _ _
  | j + 1 => hmacL_length _ _ _
theorem xorL_length (a b : List (BitVec 8)) (h : a.length = b.length) : (xorL a b).length = a.length := by simp [xorL, h]
theorem tL_length (k : Int) (key m : List (BitVec 8)) : ∀ j, (tL k key m j).length = szN k
  | 0 => hmacL_length _ _ _
  | j + 1 => by rw [tL, xorL_length _ _ (by rw [tL_length k key m j, uL_length]), tL_length k key m j]
theorem xorL_get {a b : List (BitVec 8)} {i : Nat} {x y : BitVec 8} (hx : a[i]? = some x) (hy : b[i]? = some y) : (xorL a b)[i]? = some (x ^^^ y) := by
  rw [xorL, List.getElem?_map, List.getElem?_zip_eq_some (z := (x, y)) |>.2 ⟨hx, hy⟩]; rfl
theorem KeyedV.later {w w' : World} {B : Nat} {v : Value} {k : Int} {key : List (BitVec 8)} (h : KeyedV w B v k key) (hb : Below w.heap.size w w') : KeyedV w' B v k key := by
  obtain ⟨gi, go, e, h1, h2, h3, h4⟩ := h
  exact ⟨gi, go, e, h1, h2, h3.later hb, h4.later hb⟩
set_option maxRecDepth 100000 in
set_option maxHeartbeats 1000000 in
theorem fillF_any (w : World) (gf : Nat) (lb : Array Value) (eg : ∀ args w, (callFunc gf args).run Tryd.prog w = .ok (.enter gf args) w) (f : Nat → List (BitVec 8)) (s : Nat) (hf : ∀ j, (f j).length = s) (hs1 : 1 ≤ s) (hs2 : s ≤ 64) (N : Nat) (hN1 : 1 ≤ N) (hN2 : N ≤ 65536)
    (hp : ∀ (j : Nat), j < 65536 → ∀ W, Below w.heap.size w W → Calls Tryd.prog gf (#[.int .i64 (j : Int)] ++ lb) W fun e w' => ∃ b cp, e = .returned (.slice (some ⟨b, 0, none⟩) s cp) ∧ SlV w' w'.heap.size (some ⟨b, 0, none⟩) s cp ((f j).map W8) ∧ Below W.heap.size W w') :
    Calls Tryd.prog 45 #[.int .i64 (N : Int), .func (.func gf) #[] lb] w fun e w' => ∃ v, e = .returned v ∧ w'.ownsRow w.heap.size 5 1 v N ((fillL f N).map W8) ∧ Below w.heap.size w w' := by
  have HP := Lib.hid hp
  have HF := Lib.hid hf
  have kN1 : (1 : Int) ≤ N := by omega
  have kN2 : (N : Int) ≤ 65536 := by omega
  clear hp hf
  go_enter Tryd.func45, Tryd.ntmps45
  go_wp2
  go_loopw [5, 6] (fun o i wr => ∃ (j l c : Nat) (A : Option Addr), i = .int .i64 (j : Int) ∧ o = .slice A l c ∧ l ≤ N + 64 ∧ j ≤ l ∧ Hid (l = s * j ∧ wr.ownsRow w.heap.size 5 1 (.slice A l c) l ((seqL f j).map W8)) ∧ Hid (Below w.heap.size w wr)) (fun o _ _ => match o with | .slice _ r _ => N + 64 - r | _ => 0)
  case atStart => exact ⟨0, 0, 0, none, rfl, rfl, by omega, by omega, Lib.hid ⟨rfl, rfl, .inl ⟨rfl, rfl⟩⟩, Lib.hid (Below.refl _ _)⟩
  case round =>
    obtain ⟨j, l, c, A, rfl, rfl, hl1, hjl, HO, HB⟩ := hrel
    have kl : (l : Int) ≤ 65600 := by omega
    have kj : (j : Int) ≤ 65600 := by omega
    by_cases hlt : l < N
    · have kI : (l : Int) < N := by omega
      have hpj := HP.out j (by omega) wr HB.out
      have HPJ := Lib.hid hpj
      clear hpj
      go_wp2_with fail
      refine HPJ.out.mono ?_
      rintro e w1 ⟨b, cp, rfl, hsl, hb1⟩
      have hown := HO.out.2
      have hzw := HB.out.size
      have hown1 := own_keep hown (fun q hq => hb1.block q (hown.lt q hq).2)
      have HR := Lib.hid hsl
      have HO1 := Lib.hid hown1
      have HB1 := Lib.hid hb1
      have hz1 := hb1.size
      clear hsl hown hown1 hb1
      go_wp2_with (at_builtin; refine wlv_append Tryd.elem8 rfl _ _ rfl w.heap.size _ l _ rfl HO1.out (some ⟨b, 0, none⟩) s cp _ rfl (by intro h; cases h) _ HR.out (ones8 _) (by omega) (by omega) ?_; intro v' w2 hown2 hgr)
      obtain ⟨A2, c2, hv2, _, _, _⟩ := SlV.of_own hown2
      subst hv2
      have HO2 := Lib.hid hown2
      have hB2 : Below w.heap.size w w2 := (HB.out.trans (HB1.out.mono hzw)).grown hgr (by omega) (fun q hq => (HO1.out.lt q hq).1)
      have HB2 := Lib.hid hB2
      clear hown2 hgr hB2
      go_wp2
      go_roundw
      case rel =>
        refine ⟨j + 1, l + s, c2, A2, by go_num, rfl, by omega, by omega, Lib.hid ⟨by rw [HO.out.1, Nat.mul_succ], ?_⟩, HB2⟩
        have h := HO2.out
        rw [← List.map_append] at h
        exact h
      case measure => show N + 64 - (l + s) < N + 64 - l; omega
    · have kI : ¬ (l : Int) < N := by omega
      obtain ⟨A', c', hv, hsl, hlow, hz⟩ := SlV.of_own HO.out.2
      injection hv with e1 e2 e3
      subst e1 e3
      have hcap := hsl.cap
      have hmax := hsl.max
      have kc : (N : Int) ≤ c := by omega
      obtain ⟨b, off, _, rfl, hb, _, _⟩ := hsl.at_ (k := 0) (by omega)
      have hst := hsl.take (k := N) (by omega)
      rw [← List.map_take, fillL_eq f s HF.out hs1 N j (by rw [← HO.out.1]; omega)] at hst
      have hcl := clone_any wr wr.heap.size _ N c _ hst (Nat.le_refl _) (by omega)
      have HCL := Lib.hid hcl
      clear hcl hst hsl hlow hz hb
      go_wp2_with fail
      refine HCL.out.mono ?_
      rintro e w1 ⟨v, rfl, hown, hb1⟩
      have hzw := HB.out.size
      have HO1 := Lib.hid hown
      have HB1 := Lib.hid hb1
      clear hown hb1
      go_wp2
      go_ret
      refine ⟨v, rfl, ?_, HB.out.trans (HB1.out.mono hzw)⟩
      obtain ⟨h1, h2⟩ := HO1.out
      exact ⟨h1, h2.imp id (fun ⟨g, cap, cur, e, hb, r⟩ => ⟨g, cap, cur, e, by omega, r⟩)⟩
set_option maxRecDepth 100000 in
set_option maxHeartbeats 4000000 in
theorem repeat_any (w : World) (k : Int) (hk : KindOk k) (hGR : RootsG w) (B0 : Nat) (v : Value) (key : List (BitVec 8)) (hv : KeyedV w B0 v k key) (R : Nat) (hR1 : 1 ≤ R) (hR2 : R ≤ 65536) (B : Nat) (A : Option Addr) (n c : Nat) (pss : List (List (BitVec 8))) (hs : PartsV w B A n c pss) (hB : B ≤ w.heap.size) (hn : n ≤ 17592186044416) (hlen : pss.flatten.length + 512 ≤ 17592186044416) :
    Calls Tryd.prog 51 #[v, .int .i64 (R : Int), .slice A n c] w fun e w' => ∃ b cp, e = .returned (.slice (some ⟨b, 0, none⟩) (szN k) cp) ∧ SlV w' w'.heap.size (some ⟨b, 0, none⟩) (szN k) cp ((tL k key pss.flatten (R - 1)).map W8) ∧ Below w.heap.size w w' := by
  obtain ⟨gi, go, rfl, hbi, hig, hI, hO⟩ := hv
  obtain ⟨W1, e1, r1, b1, z1⟩ := newV w 71 [.pointer (some ⟨gi, 0, none⟩), .pointer (some ⟨go, 0, none⟩)] #[.pointer (some ⟨gi, 0, none⟩), .pointer (some ⟨go, 0, none⟩)] rfl
  obtain ⟨p1, hp1⟩ : ∃ p, w.heap.size = p := ⟨_, rfl⟩
  have hKV : ∀ W, Below w.heap.size w W → KeyedV W B0 (.agg #[.pointer (some ⟨gi, 0, none⟩), .pointer (some ⟨go, 0, none⟩)]) k key := fun W hW => ⟨gi, go, rfl, hbi, hig, hI.later hW, hO.later hW⟩
  obtain ⟨s, hs0⟩ : ∃ s, szN k = s := ⟨_, rfl⟩
  have hs1 : 20 ≤ s ∧ s ≤ 64 := by have := szN_le hk; omega
  obtain ⟨m, hm⟩ : ∃ l, pss.flatten = l := ⟨_, rfl⟩
  have hof1 : ∀ W, Below w.heap.size w W → Calls Tryd.prog 44 #[.agg #[.pointer (some ⟨gi, 0, none⟩), .pointer (some ⟨go, 0, none⟩)], .slice A n c] W fun e w' => ∃ b, e = .returned (.slice (some ⟨b, 0, none⟩) s s) ∧ W.heap.size ≤ b ∧ RowV 5 w' b ((uL k key m 0).map W8) ∧ Below W.heap.size W w' := fun W hW => by
    have h := keyedOf_any W k hk (hGR.later hW) B0 _ key (hKV W hW) B A n c pss (hs.below (hW.mono hB)) (Nat.le_trans hB hW.size) hn hlen
    rw [hs0, hm] at h
    exact h
  have hof2 : ∀ (W : World) (g lb : Nat) (j : Nat), Below w.heap.size w W → RowV 22 W g [.slice (some ⟨lb, 0, none⟩) s s] → RowV 5 W lb ((uL k key m j).map W8) → Calls Tryd.prog 44 #[.agg #[.pointer (some ⟨gi, 0, none⟩), .pointer (some ⟨go, 0, none⟩)], .slice (some ⟨g, 0, none⟩) 1 1] W fun e w' => ∃ b, e = .returned (.slice (some ⟨b, 0, none⟩) s s) ∧ W.heap.size ≤ b ∧ RowV 5 w' b ((uL k key m (j + 1)).map W8) ∧ Below W.heap.size W w' := fun W g lb j hW hr hl => by
    have hsl := hl.sl (by rw [List.length_map, uL_length, hs0]; omega)
    rw [List.length_map, uL_length, hs0] at hsl
    have h := keyedOf_any W k hk (hGR.later hW) B0 _ key (hKV W hW) W.heap.size (some ⟨g, 0, none⟩) 1 1 [uL k key m j] (PartsV.single hr hsl (by intro h; cases h) hr.lt) (Nat.le_refl _) (by decide) (by simp [uL_length, hs0]; omega)
    rw [hs0, show [uL k key m j].flatten = uL k key m j by simp] at h
    exact h
  obtain ⟨U, hU⟩ : ∃ U : Nat → List (BitVec 8), uL k key m = U := ⟨_, rfl⟩
  obtain ⟨T, hT⟩ : ∃ T : Nat → List (BitVec 8), tL k key m = T := ⟨_, rfl⟩
  have hUl : ∀ j, (U j).length = s := fun j => by rw [← hU, ← hs0]; exact uL_length _ _ _ _
  have hTl : ∀ j, (T j).length = s := fun j => by rw [← hT, ← hs0]; exact tL_length _ _ _ _
  have hT0 : T 0 = U 0 := by rw [← hT, ← hU]; rfl
  have hT1 : ∀ j, T (j + 1) = xorL (T j) (U (j + 1)) := fun j => by rw [← hT, ← hU]; rfl
  rw [hU] at hof1
  simp only [hU] at hof2
  rw [hs0, hm, hT]
  have h1w : Below w.heap.size w W1 := b1
  have c0 : W1.cell? ⟨p1, 0, none⟩ = some (.pointer (some ⟨gi, 0, none⟩)) := by rw [← hp1]; exact r1.at_ rfl
  have c1 : W1.cell? ⟨p1, 1, none⟩ = some (.pointer (some ⟨go, 0, none⟩)) := by rw [← hp1]; exact r1.at_ rfl
  have HR1 := Lib.hid r1
  have HB1 := Lib.hid h1w
  have HOF1 := Lib.hid hof1
  have HOF2 := Lib.hid hof2
  have HUL := Lib.hid hUl
  have HTL := Lib.hid hTl
  have HT0 := Lib.hid hT0
  have HT1 := Lib.hid hT1
  have HP1 := Lib.hid hp1
  have kR : (1 : Int) ≤ R := by omega
  have kR2 : (R : Int) ≤ 65536 := by omega
  obtain ⟨R1, hR1'⟩ : ∃ r, R - 1 = r := ⟨_, rfl⟩
  have kR1 : (R : Int) - 1 = R1 := by omega
  rw [hR1']
  clear hof1 hof2 hUl hTl hT0 hT1 hU hT hKV hI hO hs hGR r1 b1 z1 h1w hm hs0
  go_enter Tryd.func51, Tryd.ntmps51
  go_wp2_with fail
  refine (HOF1.out W1 HB1.out).mono ?_
  rintro e w2 ⟨l0, rfl, hl0, hr2, hb2⟩
  have hsl2 := hr2.sl (by rw [List.length_map, HUL.out]; omega)
  rw [List.length_map, HUL.out] at hsl2
  have hcl := clone_any w2 w2.heap.size ⟨l0, 0, none⟩ s s (U 0) hsl2 (Nat.le_refl _) (by omega)
  have HCL := Lib.hid hcl
  have hl0z := hr2.lt
  have HR2 := Lib.hid hr2
  have HB2 := Lib.hid hb2
  clear hsl2 hcl hr2 hb2 HOF1
  go_wp2_with fail
  refine HCL.out.mono ?_
  rintro e w3 ⟨vs, rfl, hown, hb3⟩
  obtain ⟨sb, sc, rfl, hsb, hsl3⟩ := own_form0 hown (by omega)
  have hscap := hsl3.cap
  have hscm := hsl3.max
  have kc1 : (s : Int) ≤ sc := by omega
  have kc2 : (sc : Int) ≤ 9223372036854775807 := by omega
  have ks1 : (20 : Int) ≤ s := by omega
  have ks2 : (s : Int) ≤ 64 := by omega
  have HO3 := Lib.hid (show w3.ownsRow w2.heap.size 5 1 (.slice (some ⟨sb, 0, none⟩) s sc) s ((T 0).map W8) by rw [HT0.out]; exact hown)
  have HR3 := Lib.hid (HR2.out.later hb3)
  have hw1z := HB1.out.size
  have hp1z := HP1.out
  have HB3 := Lib.hid (HB1.out.trans ((HB2.out.trans (hb3.mono HB2.out.size)).mono hw1z))
  have HRP := Lib.hid ((HR1.out.later HB2.out).later hb3)
  have hl0s : l0 ≠ sb := by omega
  have hw2w : w.heap.size ≤ w2.heap.size := by have := HB2.out.size; omega
  have hwsb : w.heap.size ≤ sb := by omega
  have hp1s : p1 ≠ sb := by have := HR1.out.lt; have := HB2.out.size; omega
  clear hown hb3 hsl3 hl0 hl0z HCL HR2 HB2
  rw [HP1.out] at HRP
  go_wp2
  go_loopw [7, 18] (fun lv iv W => ∃ (j lb : Nat), j ≤ R1 ∧ iv = .int .i64 (j : Int) ∧ lv = .slice (some ⟨lb, 0, none⟩) s s ∧ lb ≠ sb ∧ Hid (RowV 5 W lb ((U j).map W8)) ∧ Hid (W.ownsRow w2.heap.size 5 1 (.slice (some ⟨sb, 0, none⟩) s sc) s ((T j).map W8)) ∧ Hid (RowV 71 W p1 [.pointer (some ⟨gi, 0, none⟩), .pointer (some ⟨go, 0, none⟩)]) ∧ Hid (Below w.heap.size w W)) (fun _ iv _ => R1 - (intOf iv).toNat)
  case atStart => exact ⟨0, l0, Nat.zero_le _, rfl, rfl, hl0s, Lib.hid HR3.out, Lib.hid HO3.out, Lib.hid HRP.out, Lib.hid HB3.out⟩
  case round =>
    obtain ⟨wo, rfl⟩ : ∃ V, V = wr := ⟨_, rfl⟩
    obtain ⟨j, lb, hj, rfl, rfl, hls, HL, HO, HP, HB⟩ := hrel
    by_cases hjR : j < R1
    · have kj : (j : Int) < R1 := by omega
      have d0 : wo.cell? ⟨p1, 0, none⟩ = some (.pointer (some ⟨gi, 0, none⟩)) := HP.out.at_ rfl
      have d1 : wo.cell? ⟨p1, 1, none⟩ = some (.pointer (some ⟨go, 0, none⟩)) := HP.out.at_ rfl
      have hV : Below wo.heap.size wo (wo.alloc (.cells #[.slice (some ⟨lb, 0, none⟩) s s] 22)) := (Below.refl _ _).alloc (Nat.le_refl _) _
      have hrV : RowV 22 (wo.alloc (.cells #[.slice (some ⟨lb, 0, none⟩) s s] 22)) wo.heap.size [.slice (some ⟨lb, 0, none⟩) s s] := RowV.new wo 22 _
      have hlV := HL.out.later hV
      obtain ⟨V, hVe⟩ : ∃ V, wo.alloc (.cells #[.slice (some ⟨lb, 0, none⟩) s s] 22) = V := ⟨_, rfl⟩
      rw [hVe] at hV hrV hlV
      have hwz := HB.out.size
      have hof := HOF2.out V wo.heap.size lb j (HB.out.trans (hV.mono hwz)) hrV hlV
      have HOF := Lib.hid hof
      have HVE := Lib.hid hVe
      have HV := Lib.hid hV
      have hlbz := HL.out.lt
      clear hV hrV hlV hVe hof
      go_wp2_with fail
      rw [HVE.out]
      refine HOF.out.mono ?_
      rintro e w5 ⟨nb, rfl, hnb, hr5, hb5⟩
      have hb05 : Below wo.heap.size wo w5 := HV.out.trans (hb5.mono HV.out.size)
      have ho5 := own_keep HO.out (fun q hq => hb05.block q (HO.out.lt q hq).2)
      have hp5 := HP.out.later hb05
      have hsbz : sb < wo.heap.size := (HO.out.lt sb rfl).2
      have hVz := HV.out.size
      have hnbs : nb ≠ sb := by omega
      have HR5 := Lib.hid hr5
      have HO5 := Lib.hid ho5
      have HP5 := Lib.hid hp5
      have HB5 := Lib.hid (HB.out.trans (hb05.mono hwz))
      have hw5z := HB5.out.size
      clear hb5 hb05 ho5 hp5 hr5 d0 d1
      go_wp2
      go_loopw [26] (fun iv W => ∃ i : Nat, i ≤ s ∧ iv = .int .i64 (i : Int) ∧ Hid (W.ownsRow w2.heap.size 5 1 (.slice (some ⟨sb, 0, none⟩) s sc) s (((T (j + 1)).take i ++ (T j).drop i).map W8)) ∧ Hid (OnlyV w5 W sb)) (fun iv _ => s - (intOf iv).toNat)
      case atStart => exact ⟨0, Nat.zero_le _, rfl, Lib.hid (by simpa using HO5.out), Lib.hid (OnlyV.refl _ _)⟩
      case round =>
        obtain ⟨i, hi, rfl, HOI, HOV⟩ := hrel
        by_cases his : i < s
        · have kis : (i : Int) < s := by omega
          have ki0 : (0 : Int) ≤ i := by omega
          obtain ⟨x, hx⟩ : ∃ x, (T j)[i]? = some x := ⟨(T j)[i]'(by rw [HTL.out]; exact his), List.getElem?_eq_getElem _⟩
          obtain ⟨y, hy⟩ : ∃ y, (U (j + 1))[i]? = some y := ⟨(U (j + 1))[i]'(by rw [HUL.out]; exact his), List.getElem?_eq_getElem _⟩
          have cx : wr.cell? ⟨sb, i, none⟩ = some (W8 x) := by
            rw [HOI.out.cellAt i (by omega), List.getElem?_map, mid_get _ _ _ (by rw [HTL.out]; omega), hx]; rfl
          have cy : wr.cell? ⟨nb, i, none⟩ = some (W8 y) := (HR5.out.only HOV.out hnbs).at_ (by rw [List.getElem?_map, hy]; rfl)
          have hfz := HOI.out.frozenAt i
          have hst := (HOI.out.stored i (W8 (x ^^^ y))).1
          rw [← List.map_set, mid_set _ _ i _ (by rw [HT1.out]; exact xorL_get hx hy) (by rw [HTL.out]; exact his)] at hst
          have hov := HOV.out.set i (W8 (x ^^^ y))
          have bx : bits .xor .u8 (i8 x) (i8 y) = i8 (x ^^^ y) := b8_xor x y
          have HST := Lib.hid hst
          have HOX := Lib.hid hov
          clear hx hy hst hov
          go_wp2
          go_roundw
          case rel => exact ⟨i + 1, by omega, by go_num, Lib.hid HST.out, Lib.hid HOX.out⟩
          case measure => simp [intOf]; omega
        · obtain rfl : i = s := by omega
          have hfin := HOI.out
          rw [List.take_of_length_le (by rw [HTL.out]; exact Nat.le_refl _), List.drop_eq_nil_of_le (by rw [HTL.out]; exact Nat.le_refl _), List.append_nil] at hfin
          have HFI := Lib.hid hfin
          have HLN := Lib.hid (HR5.out.only HOV.out hnbs)
          have HPN := Lib.hid (HP5.out.only HOV.out hp1s)
          have HBN := Lib.hid (HB5.out.trans (HOV.out.below hwsb (by omega)))
          clear hfin
          go_wp2
          go_roundw
          case rel => exact ⟨j + 1, nb, by omega, by go_num, rfl, hnbs, Lib.hid HLN.out, Lib.hid HFI.out, Lib.hid HPN.out, Lib.hid HBN.out⟩
          case measure => simp [intOf]; omega
    · obtain rfl : j = R1 := by omega
      go_wp2
      go_ret
      obtain ⟨A', c', e, hsl, _, _⟩ := SlV.of_own' HO.out
      injection e with e1 e2 e3
      subst e1
      subst e3
      exact ⟨sb, sc, rfl, hsl, HB.out⟩
end Go.Proofs.YtldheblkanimnaaDoor
