/- Parts of one proof, joined: Hmgf, Sw, Ta, Tc, Da, Db. -/
import Derived.Test.YtnpaidieijlkkaaDoorPileI5
import Derived.Test.YtnpaidieijlkkaaDoorPileI8
import Derived.Test.YtnpaidieijlkkaaDoorPileI1

/- hashes: MGF1, whole. -/
set_option linter.unusedVariables false
set_option linter.unusedSimpArgs false
namespace Go.Proofs.YtnpaidieijlkkaaDoor
open Go.RowKit Go.Shelf

def mgfL (k : Int) (seed : List (BitVec 8)) (N : Nat) : List (BitVec 8) := fillL (fun i => sumL k (seed ++ counterL i)) N
theorem szN_ok {k : Int} (h : KindOk k) : 1 ≤ szN k ∧ szN k ≤ 64 := by have := szN_le h; omega
theorem mgfL_length {k : Int} (h : KindOk k) (seed : List (BitVec 8)) (N : Nat) : (mgfL k seed N).length = N := fillL_length _ (szN k) (fun _ => sumL_length _ _) (szN_ok h).1 N
set_option maxRecDepth 100000 in
set_option maxHeartbeats 1000000 in
theorem mgf_any (w : World) (k : Int) (hk : KindOk k) (hGS : StartsG w) (hGR : RootsG w) (B : Nat) (A : Option Addr) (n c : Nat) (seed : List (BitVec 8)) (hs : SlV w B A n c (seed.map W8)) (hz : A = none → c = 0) (hB : B ≤ w.heap.size) (hn : n + 512 ≤ 17592186044416) (N : Nat) (hN1 : 1 ≤ N) (hN2 : N ≤ 65536) :
    Calls Tryd.prog 81 #[.int .i64 k, .slice A n c, .int .i64 (N : Int)] w fun e w' => ∃ v, e = .returned v ∧ w'.ownsRow w.heap.size 5 1 v N ((mgfL k seed N).map W8) ∧ Below w.heap.size w w' := by
  obtain ⟨W1, e1, hB1, b1, s1⟩ := newBox w 3 (.int .i64 k)
  obtain ⟨W2, e2, hB2, b2, s2⟩ := newBox W1 22 (.slice A n c)
  obtain ⟨x1, hx1⟩ : ∃ b, w.heap.size = b := ⟨_, rfl⟩
  obtain ⟨x2, hx2⟩ : ∃ b, W1.heap.size = b := ⟨_, rfl⟩
  rw [hx1] at b1
  rw [hx2] at b2
  replace b1 := b1.later hB2
  have hB12 : Below w.heap.size w W2 := hB1.trans (hB2.mono hB1.size)
  have kN1 : (1 : Int) ≤ N := by omega
  have kN2 : (N : Int) ≤ 65536 := by omega
  have hv := valid_yes W2 k hk
  have hf := fill_any W2 107 #[.pointer (some ⟨x1, 0, none⟩), .pointer (some ⟨x2, 0, none⟩)] (enters_of Tryd.func107 (by kernel_rfl) rfl) (fun i => sumL k (seed ++ counterL i)) (szN k) (fun _ => sumL_length _ _) (szN_ok hk).1 (szN_ok hk).2 N hN1 hN2
    (fun j hj W hW => mgfPart_any W k hk ((hGS.later hB12).later hW) ((hGR.later hB12).later hW) x1 x2 B A n c seed (hs.below ((hB12.trans (hW.mono hB12.size)).mono hB)) hz (Nat.le_trans hB (Nat.le_trans hB12.size hW.size)) hn (b1.later hW) (b2.later hW) j (by omega))
  have q1 := b1.1
  have HF := Lib.hid hf
  have HV := Lib.hid hv
  have HB12 := Lib.hid hB12
  clear hf hv hB12 hB1 hB2 b1 b2 s1 s2 hGS hGR hs hz
  go_enter Tryd.func81, Tryd.ntmps81
  go_wp2_with fail
  refine HV.out.mono ?_
  rintro e w' ⟨rfl, rfl⟩
  go_wp2_with fail
  refine HF.out.mono ?_
  rintro e w3 ⟨v, rfl, hown, hb3⟩
  have hz2 := HB12.out.size
  have HO := Lib.hid hown
  have HB3 := Lib.hid hb3
  clear hown hb3
  go_wp2
  go_ret
  refine ⟨v, rfl, ?_, HB12.out.trans (HB3.out.mono hz2)⟩
  obtain ⟨h1, h2⟩ := HO.out
  exact ⟨h1, h2.imp id (fun ⟨g, cap, cur, e, hb, r⟩ => ⟨g, cap, cur, e, by omega, r⟩)⟩
set_option maxRecDepth 100000 in
set_option maxHeartbeats 1000000 in
theorem mgf_no (w : World) (k : Int) (A : Option Addr) (n c : Nat) (N : Int) (h : KindOk k → N < 1 ∨ 65536 < N) :
    Calls Tryd.prog 81 #[.int .i64 k, .slice A n c, .int .i64 N] w fun e w' => e = .returned (.slice none 0 0) ∧ Below w.heap.size w w' := by
  obtain ⟨W1, e1, hB1, b1, s1⟩ := newBox w 3 (.int .i64 k)
  obtain ⟨W2, e2, hB2, b2, s2⟩ := newBox W1 22 (.slice A n c)
  obtain ⟨x1, hx1⟩ : ∃ b, w.heap.size = b := ⟨_, rfl⟩
  obtain ⟨x2, hx2⟩ : ∃ b, W1.heap.size = b := ⟨_, rfl⟩
  rw [hx1] at b1
  replace b1 := b1.later hB2
  have hB12 : Below w.heap.size w W2 := hB1.trans (hB2.mono hB1.size)
  have q1 := b1.1
  have HB12 := Lib.hid hB12
  clear hB12 hB1 hB2 b1 b2 s1 s2
  by_cases hk : KindOk k
  · have hv := valid_yes W2 k hk
    have HV := Lib.hid hv
    clear hv
    have hN := h hk
    clear h
    by_cases h1 : N < 1
    · go_enter Tryd.func81, Tryd.ntmps81
      go_wp2_with fail
      refine HV.out.mono ?_
      rintro e w' ⟨rfl, rfl⟩
      go_wp2
      go_ret
      exact ⟨rfl, HB12.out⟩
    · have h2 : 65536 < N := by omega
      clear hN
      go_enter Tryd.func81, Tryd.ntmps81
      go_wp2_with fail
      refine HV.out.mono ?_
      rintro e w' ⟨rfl, rfl⟩
      go_wp2
      go_ret
      exact ⟨rfl, HB12.out⟩
  · have hv := valid_no W2 k hk
    have HV := Lib.hid hv
    clear hv h
    go_enter Tryd.func81, Tryd.ntmps81
    go_wp2_with fail
    refine HV.out.mono ?_
    rintro e w' ⟨rfl, rfl⟩
    go_wp2
    go_ret
    exact ⟨rfl, HB12.out⟩
end Go.Proofs.YtnpaidieijlkkaaDoor

/- The program's and the reference's Of and HMAC, of any kind. -/
set_option linter.unusedVariables false
set_option linter.unusedSimpArgs false
namespace Go.Proofs.YtnpaidieijlkkaaDoor
open Go.RowKit Go.Shelf

/-- the hash of a message; nothing of another kind -/
def sumK (k : Int) (msg : List (BitVec 8)) : List (BitVec 8) := if 1 ≤ k ∧ k ≤ 5 then sumL k msg else []
def hmacK (k : Int) (key msg : List (BitVec 8)) : List (BitVec 8) := if 1 ≤ k ∧ k ≤ 5 then hmacL k key msg else []
theorem sumK_le (k : Int) (msg : List (BitVec 8)) : (sumK k msg).length ≤ 64 := by
  unfold sumK
  split
  · rename_i h
    rw [sumL_length]
    exact (szN_le (k := k) h).2.2
  · simp
theorem FreshV.row_ {w : World} {B b n : Nat} {l : List (BitVec 8)} (h : RowV 5 w b (l.map W8)) (hb : B ≤ b) (hl : l.length = n) (hm : n ≤ 9223372036854775807) : FreshV w B (.slice (some ⟨b, 0, none⟩) n n) l := by
  have hs := h.sl (by rw [List.length_map]; omega)
  rw [List.length_map] at hs
  subst hl
  exact ⟨_, _, rfl, hs, (by intro h; cases h), (by intro a e; injection e with e; subst e; exact hb)⟩
theorem FreshV.nil_ (w : World) (B : Nat) : FreshV w B (.slice none 0 0) [] := ⟨none, 0, rfl, SlV.nil _ _ _ (by decide), fun _ => rfl, fun a h => by cases h⟩
theorem hofK_any (w : World) (k : Int) (hG : StartsG w) (hR : RootsG w) (B : Nat) (A : Option Addr) (n c : Nat) (pss : List (List (BitVec 8))) (hs : PartsV w B A n c pss) (hB : B ≤ w.heap.size) (hn : n ≤ 17592186044416) (hlen : pss.flatten.length + 256 ≤ 17592186044416) :
    Calls Tryd.prog 54 #[.int .i64 k, .slice A n c] w fun e w' => ∃ v, e = .returned v ∧ FreshV w' w.heap.size v (sumK k pss.flatten) ∧ Below w.heap.size w w' := by
  by_cases hk : KindOk k
  · refine (hof_any w k hk hG hR B A n c pss hs hB hn hlen).mono ?_
    rintro e w' ⟨b, rfl, hb, hr, hB'⟩
    refine ⟨_, rfl, ?_, hB'⟩
    rw [sumK, if_pos (show 1 ≤ k ∧ k ≤ 5 from hk)]
    exact FreshV.row_ hr hb (sumL_length _ _) (by have := (szN_le hk).2.2; omega)
  · refine (of_no w k hk B A n c pss hs hB hn).mono ?_
    rintro e w' ⟨rfl, hB'⟩
    refine ⟨_, rfl, ?_, hB'⟩
    rw [sumK, if_neg (show ¬ (1 ≤ k ∧ k ≤ 5) from hk)]
    exact FreshV.nil_ _ _
theorem rofK_any (w : World) (k : Int) (B : Nat) (A : Option Addr) (n c : Nat) (bs : List (BitVec 8)) (hs : SlV w B A n c (bs.map W8)) (hz : A = none → c = 0) (hB : B ≤ w.heap.size) (hn : n ≤ 1000000000) :
    Calls Tryd.prog 56 #[.int .i64 k, .slice A n c] w fun e w' => ∃ v, e = .returned v ∧ FreshV w' w.heap.size v (sumK k bs) ∧ Below w.heap.size w w' := by
  by_cases hk : KindOk k
  · refine (rof_any w k hk B A n c bs hs hz hB hn).mono ?_
    rintro e w' ⟨v, rfl, hf, hB'⟩
    refine ⟨_, rfl, ?_, hB'⟩
    rw [sumK, if_pos (show 1 ≤ k ∧ k ≤ 5 from hk)]
    exact hf
  · refine (rof_no w k hk A n c).mono ?_
    rintro e w' ⟨rfl, rfl⟩
    refine ⟨_, rfl, ?_, Below.refl _ _⟩
    rw [sumK, if_neg (show ¬ (1 ≤ k ∧ k ≤ 5) from hk)]
    exact FreshV.nil_ _ _
theorem hmacK_any (w : World) (k : Int) (hGS : StartsG w) (hGR : RootsG w) (B : Nat) (A : Option Addr) (n c : Nat) (key : List (BitVec 8)) (hs : SlV w B A n c (key.map W8)) (hz : A = none → c = 0) (hB : B ≤ w.heap.size) (hn : n + 256 ≤ 17592186044416)
    (A2 : Option Addr) (n2 c2 : Nat) (pss : List (List (BitVec 8))) (hp : PartsV w B A2 n2 c2 pss) (hn2 : n2 ≤ 17592186044416) (hlen : pss.flatten.length + 512 ≤ 17592186044416) :
    Calls Tryd.prog 129 #[.int .i64 k, .slice A n c, .slice A2 n2 c2] w fun e w' => ∃ v, e = .returned v ∧ FreshV w' w.heap.size v (hmacK k key pss.flatten) ∧ Below w.heap.size w w' := by
  by_cases hk : KindOk k
  · refine (hmac_any w k hk hGS hGR B A n c key hs hz hB hn A2 n2 c2 pss hp hn2 hlen).mono ?_
    rintro e w' ⟨b, rfl, hb, hr, hB'⟩
    refine ⟨_, rfl, ?_, hB'⟩
    rw [hmacK, if_pos (show 1 ≤ k ∧ k ≤ 5 from hk)]
    exact FreshV.row_ hr hb (hmacL_length _ _ _) (by have := (szN_le hk).2.2; omega)
  · refine (hmac_no w k hk _ _).mono ?_
    rintro e w' ⟨rfl, rfl⟩
    refine ⟨_, rfl, ?_, Below.refl _ _⟩
    rw [hmacK, if_neg (show ¬ (1 ≤ k ∧ k ≤ 5) from hk)]
    exact FreshV.nil_ _ _
theorem rhmacK_any (w : World) (k : Int) (B : Nat) (A : Option Addr) (n c : Nat) (key : List (BitVec 8)) (hs : SlV w B A n c (key.map W8)) (hz : A = none → c = 0) (hB : B ≤ w.heap.size) (hn : n ≤ 1000000)
    (A2 : Option Addr) (n2 c2 : Nat) (msg : List (BitVec 8)) (hs2 : SlV w B A2 n2 c2 (msg.map W8)) (hz2 : A2 = none → c2 = 0) (hn2 : n2 ≤ 1000000) :
    Calls Tryd.prog 70 #[.int .i64 k, .slice A n c, .slice A2 n2 c2] w fun e w' => ∃ v, e = .returned v ∧ FreshV w' w.heap.size v (hmacK k key msg) ∧ Below w.heap.size w w' := by
  by_cases hk : KindOk k
  · refine (rhmac_any w k hk B A n c key hs hz hB hn A2 n2 c2 msg hs2 hz2 hn2).mono ?_
    rintro e w' ⟨v, rfl, hf, hB'⟩
    refine ⟨_, rfl, ?_, hB'⟩
    rw [hmacK, if_pos (show 1 ≤ k ∧ k ≤ 5 from hk)]
    exact hf
  · refine (rhmac_no w k hk _ _).mono ?_
    rintro e w' ⟨rfl, rfl⟩
    refine ⟨_, rfl, ?_, Below.refl _ _⟩
    rw [hmacK, if_neg (show ¬ (1 ≤ k ∧ k ≤ 5) from hk)]
    exact FreshV.nil_ _ _
theorem PartsV.single {w : World} {g B : Nat} {A1 : Option Addr} {n1 c1 : Nat} {p1 : List (BitVec 8)} (h : RowV 22 w g [.slice A1 n1 c1]) (h1 : SlV w B A1 n1 c1 (p1.map W8)) (z1 : A1 = none → c1 = 0) (hg : g < B) :
    PartsV w B (some ⟨g, 0, none⟩) 1 1 [p1] := by
  refine ⟨[.slice A1 n1 c1], ⟨rfl, by decide, by decide, fun _ => ⟨g, 0, rfl, hg, fun k v hv => by rw [Nat.zero_add]; exact h.at_ hv⟩⟩, rfl, fun i v ps hv hp => ?_⟩
  match i with
  | 0 => cases hv; cases hp; exact ⟨_, _, _, rfl, h1, z1⟩
  | i + 1 => simp at hv
/-- 'b[:m]' of Short -/
theorem short_sl {w : World} {B n c m : Nat} {A : Option Addr} {bs : List (BitVec 8)} (h : SlV w B A n c (bs.map W8)) : SlV w B A (min n m) c ((bs.take m).map W8) := by
  have hl := h.len
  rw [List.length_map] at hl
  have h2 := h.take (k := min n m) (by omega)
  rw [← List.map_take] at h2
  have e : bs.take (min n m) = bs.take m := by
    by_cases hm : n ≤ m
    · rw [List.take_of_length_le (by omega), List.take_of_length_le (by omega)]
    · rw [show min n m = m by omega]
  rwa [e] at h2
/-- a result's string, here and later -/
theorem FreshV.conv {w w' : World} {c : Nat} {A : Option Addr} {l : List (BitVec 8)} (h : SlV w w.heap.size A l.length c (l.map W8)) (hb : Below w.heap.size w w') : (convert 22 9 (.slice A l.length c)).run Tryd.prog w' = .ok (strV l) w' := conv_str (h.below hb)
end Go.Proofs.YtnpaidieijlkkaaDoor

/- baileyref4: hmac. -/
set_option linter.unusedVariables false
set_option linter.unusedSimpArgs false
namespace Go.Proofs.YtnpaidieijlkkaaDoor
open Go.RowKit Go.Shelf

set_option maxRecDepth 100000 in
set_option maxHeartbeats 2000000 in
theorem r4hmac_any (w : World) (B : Nat) (A : Option Addr) (n c : Nat) (key : List (BitVec 8)) (hs : SlV w B A n c (key.map W8)) (hz : A = none → c = 0) (hB : B ≤ w.heap.size) (hn : n ≤ 1000) (A2 : Option Addr) (n2 c2 : Nat) (pss : List (List (BitVec 8))) (hp : PartsV w B A2 n2 c2 pss) (hn2 : n2 ≤ 1000) (hlen : pss.flatten.length ≤ 100000) :
    Calls Tryd.prog 40 #[.slice A n c, .slice A2 n2 c2] w fun e w' => ∃ v, e = .returned v ∧ FreshV w' w.heap.size v (hmacL 3 key pss.flatten) ∧ Below w.heap.size w w' := by
  have hk3 : KindOk 3 := by unfold KindOk; omega
  have hj := rjoin_any w B A2 n2 c2 pss hp hB hn2 (by omega)
  obtain ⟨m, hm⟩ : ∃ m, pss.flatten = m := ⟨_, rfl⟩
  rw [hm] at hj hlen ⊢
  obtain ⟨ml, hml⟩ : ∃ l, m.length = l := ⟨_, rfl⟩
  rw [hml] at hj hlen
  have HJ := Lib.hid hj
  have HS := Lib.hid hs
  have HK := Lib.hid hk3
  clear hj hs hp hk3 hm hml
  go_enter Tryd.func40, Tryd.ntmps40
  go_wp2_with fail
  refine HJ.out.mono ?_
  rintro e w5 ⟨v5, rfl, ho5, hb5⟩
  obtain ⟨A5, c5, rfl, hs5, _, hz5⟩ := SlV.of_own' ho5
  have h0 := HS.out.below (hb5.mono hB)
  have hw5 := hb5.size
  have hkey : SlV w5 w5.heap.size A n c (key.map W8) := ⟨h0.1, h0.2.1, h0.2.2.1, fun hne => by obtain ⟨b', o', e, hb', hc'⟩ := h0.2.2.2 hne; exact ⟨b', o', e, by omega, hc'⟩⟩
  have hof := rhmac_any w5 3 HK.out w5.heap.size A n c key hkey hz (Nat.le_refl _) (by omega) A5 ml c5 m hs5 hz5 (by omega)
  have HOF := Lib.hid hof
  have HB5 := Lib.hid hb5
  clear ho5 hb5 hs5 hof h0 hkey
  go_wp2_with fail
  refine HOF.out.mono ?_
  rintro e w6 ⟨v6, rfl, hfr, hb6⟩
  have HFR := Lib.hid hfr
  have HB6 := Lib.hid hb6
  clear hfr hb6
  go_wp2
  go_ret
  exact ⟨v6, rfl, HFR.out.mono_ hw5, HB5.out.trans (HB6.out.mono hw5)⟩
end Go.Proofs.YtnpaidieijlkkaaDoor

/- A region that draws its order, with makers of memory and calls among its first operations and a chain at its end. -/
set_option linter.unusedVariables false
set_option linter.unusedSimpArgs false
namespace Go.Proofs.YtnpaidieijlkkaaDoor
open Go.RowKit Go.Shelf

theorem wpIn_region_chainM {β : Type} {F : Fence} {n : Nat} {P : Program} {id : Nat} {ops : Array Oper} {Q : Exit → Act → World → Prop} {a : Act} {w : World} (hF : F.depth = none) (hm : P.follows .mixedOrders = true)
    (asg wrt : β → List (Nat × Value)) (keys wk : List Nat) (hkeys : ∀ b, (asg b).map (·.1) = keys) (hwk : ∀ b, (wrt b).map (·.1) = wk) (hd : distinctB ops = true) (hdep : depsW ops keys wk = true) (hon : onlyB ops keys = true) (hord : orderedB ops = true) (hsz : keys.all (fun t => decide (t < a.tmps.size)) = true)
    (s t : Nat) (hst : s + t = ops.size) (hch : chainW ops s = true) (hroot : rootB ops (ops.size - 1) = true) (R : Array Bool → Nat → β → World → Prop) (hR : ∀ L k b W q, R L k b W → R L k b (W.drewN q)) (b0 : β) (h0 : R (Array.replicate ops.size false) 0 b0 w)
    (hops : ∀ i o L k b W, i < s → k ≤ t → L.getD i false = false → L.size = ops.size → R L k b W → ops[i]? = some o → (∀ c, o.op ≠ .defer c) ∧ (∀ f, o.about P W (evP (asg b) a) = some f → F.fn f) ∧
      ((∃ W', (execOp (evP (asg b) a) o).run P W = .ok (.value (valP ops (asg b ++ wrt b) i)) W' ∧ R (L.setIfInBounds i true) k b W') ∨
        ∃ f args, (execOp (evP (asg b) a) o).run P W = .ok (.enter f args) W ∧ CallsIn F (n - 1) P f args W fun e w' => e = .returned (valP ops (asg b ++ wrt b) i) ∧ R (L.setIfInBounds i true) k b w'))
    (htail : ∀ L k b W o, k < t → L.size = ops.size → R L k b W → ops[s + k]? = some o → (∀ e ∈ o.after, Region.binds .any e = true → L.getD e.on false = true) → (∀ c, o.op ≠ .defer c) ∧ (∀ f, o.about P W (evP (asg b) a) = some f → F.fn f) ∧ ((∃ b' W', (∀ j, j < s + k → valP ops (asg b' ++ wrt b') j = valP ops (asg b ++ wrt b) j) ∧ R (L.setIfInBounds (s + k) true) (k + 1) b' W' ∧
      ((execOp (evP (asg b) a) o).run P W = .ok .skip W' ∧ valP ops (asg b' ++ wrt b') (s + k) = undef ∨ (execOp (evP (asg b) a) o).run P W = .ok (.value (valP ops (asg b' ++ wrt b') (s + k))) W')) ∨
      ∃ f args, (execOp (evP (asg b) a) o).run P W = .ok (.enter f args) W ∧ CallsIn F (n - 1) P f args W fun e W' => ∃ b', e = .returned (valP ops (asg b' ++ wrt b') (s + k)) ∧ (∀ j, j < s + k → valP ops (asg b' ++ wrt b') j = valP ops (asg b ++ wrt b) j) ∧ R (L.setIfInBounds (s + k) true) (k + 1) b' W'))
    (hend : ∀ b L W, (∀ i, i < ops.size → L.getD i false = true) → R L t b W → Q .normal { tmps := wrote ops (valP ops (asg b ++ wrt b)) (Array.replicate ops.size true) a.tmps ops.size, defers := a.defers } W) : (Code.region id ops true).wpIn F n P Q a w := by
  have hd' := distinct_of hd
  have hstepback : ∀ (L : Array Bool), (∀ (j : Nat) (oj : Oper), ops[j]? = some oj → L.getD j false = true → ∀ e ∈ oj.after, Region.binds .any e = true → L.getD e.on false = true) → ∀ j, s < j → j < ops.size → L.getD j false = true → L.getD (j - 1) false = true := by
    intro L hcl j h1 h2 hL
    have h3 := List.all_eq_true.1 hch j (List.mem_range.2 h2)
    have hoj : ops[j]? = some ops[j] := Array.getElem?_eq_getElem h2
    rw [hoj, Bool.or_eq_true, decide_eq_true_eq] at h3
    rcases h3 with h3 | h3
    · omega
    · obtain ⟨e, he, he2⟩ := Array.any_eq_true'.1 h3
      rw [Bool.and_eq_true, beq_iff_eq] at he2
      have := hcl j _ hoj hL e he he2.2
      rwa [he2.1] at this
  have hdown : ∀ (L : Array Bool), (∀ (j : Nat) (oj : Oper), ops[j]? = some oj → L.getD j false = true → ∀ e ∈ oj.after, Region.binds .any e = true → L.getD e.on false = true) → ∀ d i, s ≤ i → i + d < ops.size → L.getD (i + d) false = true → L.getD i false = true := by
    intro L hcl d
    induction d with
    | zero => intro i _ _ h; exact h
    | succ d ih =>
      intro i h1 h2 h
      refine ih i h1 (by omega) ?_
      have := hstepback L hcl (i + (d + 1)) (by omega) h2 h
      rwa [show i + (d + 1) - 1 = i + d by omega] at this
  have hclose : ∀ (L : Array Bool), (∀ (j : Nat) (oj : Oper), ops[j]? = some oj → L.getD j false = true → ∀ e ∈ oj.after, Region.binds .any e = true → L.getD e.on false = true) → ∀ s, s + 1 = ops.size → L.getD s false = true → ∀ k i, i + k = s → L.getD i false = true := by
    intro L hcl s hs hL k
    induction k using Nat.strongRecOn with
    | _ k ih =>
      intro i hik
      rcases Nat.eq_zero_or_pos k with h0 | h0
      · obtain rfl : i = s := by omega
        exact hL
      · simp only [rootB, List.all_eq_true, List.mem_range] at hroot
        have h1 := hroot i (by omega)
        rw [List.any_eq_true] at h1
        obtain ⟨j, hj, h2⟩ := h1
        rw [List.mem_range] at hj
        rw [Bool.and_eq_true, decide_eq_true_eq] at h2
        have hjl := ih (s - j) (by omega) j (by omega)
        cases ho : ops[j]? with
        | none => rw [ho] at h2; simp at h2
        | some o =>
          rw [ho] at h2
          obtain ⟨e, he, he2⟩ := Array.any_eq_true'.1 h2.2
          rw [Bool.and_eq_true, beq_iff_eq] at he2
          have := hcl j o ho hjl e he he2.2
          rwa [he2.1] at this
  have hnolast : ∀ (L : Array Bool), (∀ (j : Nat) (oj : Oper), ops[j]? = some oj → L.getD j false = true → ∀ e ∈ oj.after, Region.binds .any e = true → L.getD e.on false = true) → ∀ i, i < ops.size → L.getD i false = false → ∀ j, j + 1 = ops.size → L.getD j false = false := by
    intro L hcl i hi hf j hj
    apply Classical.byContradiction
    intro h
    have := hclose L hcl j hj (by simpa using h) (j - i) i (by omega)
    rw [hf] at this
    cases this
  refine wpIn_region_relH hm hd' (fun b => valP ops (asg b ++ wrt b)) (fun b L W => R L (cntW s L t) b W) b0 ?_ ?_ ?_ (acyclic_of hord)
  · have : cntW s (Array.replicate ops.size false) t = 0 := cntW_eq s _ 0 (.inl rfl) t (Nat.zero_le _) fun j _ _ => by
      rw [Array.getD_eq_getD_getElem?, Array.getElem?_replicate]; split <;> rfl
    simp only [this]
    exact hR _ 0 b0 w 1 h0
  · intro b L a' W hW hLs hdf hcl hold hnew i hi o ho K hK
    obtain ⟨h1, o2, ho2, hde⟩ := mem_ready.1 hi
    obtain rfl : o = o2 := Option.some.inj (ho.symm.trans ho2)
    have hnl := unlisted h1
    have his : i < ops.size := (Array.getElem?_eq_some_iff.1 ho).1
    obtain ⟨l, hu, hg, hev⟩ := ops_hold (asg := asg b) (a := a) (a' := a') (L := L) (wrt := wrt b) (by rw [hkeys, hwk]; exact hdep) (by rw [hkeys]; exact hon) (by rw [hkeys]; exact hsz) (hnolast L hcl i his hnl) hold hnew ho hde
    have hex := exec_congrW hu hev
    have hab : ∀ V : World, o.about P V a'.eval = o.about P V (evP (asg b) a) := fun V => about_congrW hu hev
    rcases Nat.lt_or_ge i s with his' | his'
    · have hkt : cntW s L t ≤ t := cntW_le s L t
      obtain ⟨hdef, hf, hrun⟩ := hops i o L _ b W his' hkt hnl hLs hW ho
      have hcw := cntW_other s L his' t
      rcases hrun with ⟨W', hrun, hW'⟩ | ⟨f, args, hrun, hcall⟩
      · refine in_value ho hg hdef (fun f hf' => hf f (by rw [← hab]; exact hf')) (by rw [hex]; exact hrun) ?_
        exact hK b W' (fun _ _ => rfl) (by rw [hcw]; exact hW')
      · refine in_call_any ho hg hdef hF (fun f hf' => hf f (by rw [← hab]; exact hf')) (by rw [hex]; exact hrun) (hcall.mono ?_)
        rintro e w' ⟨rfl, hW'⟩
        exact ⟨_, rfl, hK b _ (fun _ _ => rfl) (by rw [hcw]; exact hW')⟩
    · obtain ⟨k, rfl⟩ : ∃ k, i = s + k := ⟨i - s, by omega⟩
      have hlater : ∀ j, k ≤ j → j < t → L.getD (s + j) false = false := by
        intro j h2 h3
        apply Classical.byContradiction
        intro h
        have := hdown L hcl (j - k) (s + k) (by omega) (by omega) (by rw [show s + k + (j - k) = s + j by omega]; simpa using h)
        rw [hnl] at this
        cases this
      have hprev : k = 0 ∨ L.getD (s + (k - 1)) false = true := by
        rcases Nat.eq_zero_or_pos k with h2 | h2
        · exact .inl h2
        · refine .inr ?_
          have h3 := List.all_eq_true.1 hch (s + k) (List.mem_range.2 his)
          rw [ho, Bool.or_eq_true, decide_eq_true_eq] at h3
          rcases h3 with h3 | h3
          · omega
          · obtain ⟨e, he, he2⟩ := Array.any_eq_true'.1 h3
            rw [Bool.and_eq_true, beq_iff_eq] at he2
            have := hde e he he2.2
            rw [he2.1] at this
            rwa [show s + k - 1 = s + (k - 1) by omega] at this
      have hc1 : cntW s L t = k := cntW_eq s L k hprev t (by omega) hlater
      have hc2 : cntW s (L.setIfInBounds (s + k) true) t = k + 1 := cntW_eq s _ (k + 1) (.inr (getD_set_self L (by omega))) t (by omega) fun j h2 h3 => by
        rw [getD_set_other L (by omega)]; exact hlater j (by omega) h3
      have hW2 : R L k b W := by have := hW; simp only [hc1] at this; exact this
      obtain ⟨hdef, hf, hor⟩ := htail L k b W o (by omega) hLs hW2 ho hde
      have hvv : ∀ b', (∀ j, j < s + k → valP ops (asg b' ++ wrt b') j = valP ops (asg b ++ wrt b) j) → ∀ j, L.getD j false = true → valP ops (asg b' ++ wrt b') j = valP ops (asg b ++ wrt b) j := by
        intro b' hv j hj
        rcases Nat.lt_or_ge j (s + k) with h2 | h2
        · exact hv j h2
        · exfalso
          have hjl : j < L.size := by
            apply Classical.byContradiction
            intro h
            rw [Array.getD_eq_getD_getElem?, Array.getElem?_eq_none (by omega)] at hj
            cases hj
          have := hlater (j - s) (by omega) (by omega)
          rw [show s + (j - s) = j by omega, hj] at this
          cases this
      rcases hor with ⟨b', W', hv, hR', hrun⟩ | ⟨f, args, hrun, hcall⟩
      · have hk := hK b' W' (hvv b' hv) (by rw [hc2]; exact hR')
        rcases hrun with ⟨hrun, hvu⟩ | hrun
        · simp only [hvu] at hk
          exact in_skip ho hg hdef (fun f hf' => hf f (by rw [← hab]; exact hf')) (by rw [hex]; exact hrun) hk
        · exact in_value ho hg hdef (fun f hf' => hf f (by rw [← hab]; exact hf')) (by rw [hex]; exact hrun) hk
      · refine in_call_any ho hg hdef hF (fun f hf' => hf f (by rw [← hab]; exact hf')) (by rw [hex]; exact hrun) (hcall.mono ?_)
        rintro e W' ⟨b', rfl, hv, hR'⟩
        exact ⟨_, rfl, hK b' W' (hvv b' hv) (by rw [hc2]; exact hR')⟩
  · intro b L W hW hL
    have : cntW s L t = t := cntW_eq s L t (by rcases Nat.eq_zero_or_pos t with h | h; exact .inl h; exact .inr (hL _ (by omega))) t (Nat.le_refl _) fun j h1 h2 => absurd h2 (by omega)
    simp only [this] at hW
    exact hend b L W hL hW
end Go.Proofs.YtnpaidieijlkkaaDoor

/- drbg: hmac, step, mix, update. -/
set_option linter.unusedVariables false
set_option linter.unusedSimpArgs false
namespace Go.Proofs.YtnpaidieijlkkaaDoor
open Go.RowKit Go.Shelf

/-- the cells of a generator -/
def dL (key val : List (BitVec 8)) (calls : Int) : List Value := key.map W8 ++ (val.map W8 ++ [.int .i64 calls])
structure DrbgR (w : World) (g : Nat) (key val : List (BitVec 8)) (calls : Int) : Prop where
  hk : key.length = 32
  hv : val.length = 32
  row : RowV 63 w g (dL key val calls)
theorem DrbgR.later {w w' : World} {g : Nat} {key val : List (BitVec 8)} {calls : Int} (h : DrbgR w g key val calls) (hb : Below w.heap.size w w') : DrbgR w' g key val calls := ⟨h.hk, h.hv, h.row.later hb⟩
theorem dL_length {key val : List (BitVec 8)} (calls : Int) (hk : key.length = 32) (hv : val.length = 32) : (dL key val calls).length = 65 := by simp [dL, hk, hv]
theorem DrbgR.key_ {w : World} {g : Nat} {key val : List (BitVec 8)} {calls : Int} (h : DrbgR w g key val calls) : SlV w w.heap.size (some ⟨g, 0, none⟩) 32 32 (key.map W8) := by
  have hs := h.row.slOff 0 32 (by rw [dL_length _ h.hk h.hv]; decide) (by rw [dL_length _ h.hk h.hv]; decide)
  have : ((dL key val calls).drop 0).take 32 = key.map W8 := by
    rw [List.drop_zero, dL, List.take_left' (by simp [h.hk])]
  rw [this] at hs
  exact ⟨hs.1, Nat.le_refl _, by decide, hs.2.2.2⟩
theorem DrbgR.val_ {w : World} {g : Nat} {key val : List (BitVec 8)} {calls : Int} (h : DrbgR w g key val calls) : SlV w w.heap.size (some ⟨g, 32, none⟩) 32 32 (val.map W8) := by
  have hs := h.row.slOff 32 32 (by rw [dL_length _ h.hk h.hv]; decide) (by rw [dL_length _ h.hk h.hv]; decide)
  have : ((dL key val calls).drop 32).take 32 = val.map W8 := by
    rw [dL, List.drop_left' (by simp [h.hk]), List.take_left' (by simp [h.hv])]
  rw [this] at hs
  exact ⟨hs.1, Nat.le_refl _, by decide, hs.2.2.2⟩
theorem Tryd.arr328 : (Tryd.prog.info? 61).map (·.size) = some 32 := by kernel_rfl
theorem run_arrayAt (w : World) (b n c : Nat) (hn : 32 ≤ n) : (Instr.arrayAt 61 (.slice (some ⟨b, 0, none⟩) n c)).run Tryd.prog w = .ok (.pointer (some ⟨b, 0, none⟩)) w := by
  have h : ¬ n < 32 := by omega
  simp [Instr.arrayAt, run_underlying Tryd.underlying61, h, go_sem]
theorem StartsG.only {w w' : World} {g : Nat} (h : StartsG w) (ho : OnlyV w w' g) (hg : 4 < g) : StartsG w' := ⟨Nat.lt_of_lt_of_le h.1 ho.size, fun k h1 h5 j v hv => (ho.cell (p := ⟨1, k * 8 + j, none⟩) h.1 (by show 1 ≠ g; omega)).trans (h.2 k h1 h5 j v hv)⟩
theorem szN3 : szN 3 = 32 := rfl
theorem kind3 : KindOk 3 := by unfold KindOk; omega

set_option maxRecDepth 100000 in
set_option maxHeartbeats 2000000 in
theorem dhmac_any (w : World) (g : Nat) (key val : List (BitVec 8)) (calls : Int) (h : DrbgR w g key val calls) (hGS : StartsG w) (hGR : RootsG w) (B : Nat) (A : Option Addr) (n c : Nat) (pss : List (List (BitVec 8))) (hp : PartsV w B A n c pss) (hB : B ≤ w.heap.size) (hn : n ≤ 17592186044416) (hlen : pss.flatten.length + 512 ≤ 17592186044416) :
    Calls Tryd.prog 97 #[.pointer (some ⟨g, 0, none⟩), .slice A n c] w fun e w' => e = .returned (.agg ((hmacL 3 key pss.flatten).map W8).toArray) ∧ Below w.heap.size w w' := by
  obtain ⟨W1, e1, r1, b1, z1⟩ := newV w 61 (List.replicate 32 (.int .u8 0)) #[.int .u8 0, .int .u8 0, .int .u8 0, .int .u8 0, .int .u8 0, .int .u8 0, .int .u8 0, .int .u8 0, .int .u8 0, .int .u8 0, .int .u8 0, .int .u8 0, .int .u8 0, .int .u8 0, .int .u8 0, .int .u8 0, .int .u8 0, .int .u8 0, .int .u8 0, .int .u8 0, .int .u8 0, .int .u8 0, .int .u8 0, .int .u8 0, .int .u8 0, .int .u8 0, .int .u8 0, .int .u8 0, .int .u8 0, .int .u8 0, .int .u8 0, .int .u8 0] rfl
  obtain ⟨b0, hb0⟩ : ∃ b, w.heap.size = b := ⟨_, rfl⟩
  rw [hb0] at r1
  have hh := h.later b1
  have hm := hmac_any W1 3 kind3 (hGS.later b1) (hGR.later b1) W1.heap.size _ 32 32 key hh.key_ (by intro h; cases h) (Nat.le_refl _) (by decide) A n c pss ⟨hp.choose, (hp.choose_spec.1.below (b1.mono hB)).more (by omega), hp.choose_spec.2.1, fun i v ps a b => by
    obtain ⟨Ai, ni, ci, e, hs, hz⟩ := hp.choose_spec.2.2 i v ps a b
    exact ⟨Ai, ni, ci, e, (hs.below (b1.mono hB)).more (by omega), hz⟩⟩ hn hlen
  obtain ⟨D, hD⟩ : ∃ D, hmacL 3 key pss.flatten = D := ⟨_, rfl⟩
  have hl2 : (D.map W8).length = 32 := by rw [← hD, List.length_map, hmacL_length, szN3]
  rw [hD] at hm ⊢
  have har := fun (w : World) (b : Nat) => run_arrayAt w b 32 32 (Nat.le_refl _)
  have HM := Lib.hid hm
  have HB1 := Lib.hid b1
  have HR1 := Lib.hid r1
  have HB0 := Lib.hid hb0
  have hlt := r1.lt
  clear hm b1 r1 hh h hp hGS hGR hlen z1 hD
  go_enter Tryd.func97, Tryd.ntmps97
  go_wp2_with fail
  refine HM.out.mono ?_
  rintro e w2 ⟨b, rfl, hbb, hrow, hb2⟩
  rw [szN3]
  have hr2 := HR1.out.later hb2
  have HB2 := Lib.hid hb2
  clear hb2
  go_wp2_with (first | refine wlv_load rfl 61 32 _ Tryd.underlying61 Tryd.arr328 _ rfl b rfl _ _ hrow hl2 ?_ | (refine wlv_storeO rfl 61 32 Tryd.arr328 _ _ rfl b0 (D.map W8) rfl rfl _ _ hr2 rfl hl2 (ones8 D) ?_; intro w3 hr3 ho3))
  refine ⟨rfl, _, results_rowV rfl _ b0 _ _ rfl hr3 Tryd.underlying61 Tryd.arr328 hl2, rfl, ?_⟩
  rw [HB0.out]
  exact (HB1.out.mono (by omega)).trans ((HB2.out.mono (by omega)).trans (ho3.below (Nat.le_refl _) (by have := HB2.out.size; omega)))
theorem DrbgR.cells_ {w : World} {g : Nat} {key val : List (BitVec 8)} {calls : Int} (h : DrbgR w g key val calls) (off : Nat) (ho : off + 32 ≤ 65) : w.there g off 32 := fun j hj => ⟨by
    have := h.row.cell (off + j)
    rw [this, List.getElem?_eq_getElem (by rw [dL_length _ h.hk h.hv]; omega)]
    rfl, h.row.frozen _⟩
theorem DrbgR.putVal {w : World} {g : Nat} {key val : List (BitVec 8)} {calls : Int} (h : DrbgR w g key val calls) (D : List (BitVec 8)) (hl : D.length = 32) : DrbgR (w.setCells g 32 (D.map W8)) g key D calls :=
  ⟨h.hk, hl, by
    have h2 := RowV.setCells (D.map W8) 32 _ _ h.row
    have h3 := setL_mid (D.map W8) (key.map W8) (val.map W8) [.int .i64 calls] (by simp [h.hv, hl])
    rw [show (key.map W8).length = 32 by simp [h.hk]] at h3
    rw [dL, h3] at h2
    exact h2⟩
theorem DrbgR.putKey {w : World} {g : Nat} {key val : List (BitVec 8)} {calls : Int} (h : DrbgR w g key val calls) (D : List (BitVec 8)) (hl : D.length = 32) : DrbgR (w.setCells g 0 (D.map W8)) g D val calls :=
  ⟨hl, h.hv, by
    have h2 := RowV.setCells (D.map W8) 0 _ _ h.row
    have h3 := setL_mid (D.map W8) [] (key.map W8) (val.map W8 ++ [.int .i64 calls]) (by simp [h.hk, hl])
    rw [List.length_nil, List.nil_append, List.nil_append] at h3
    rw [dL, h3] at h2
    exact h2⟩
theorem PartsV.one {w : World} {g B : Nat} {A1 : Option Addr} {n1 c1 : Nat} {p1 : List (BitVec 8)} (h : RowV 22 w g [.slice A1 n1 c1]) (h1 : SlV w B A1 n1 c1 (p1.map W8)) (z1 : A1 = none → c1 = 0) (hg : g < B) :
    PartsV w B (some ⟨g, 0, none⟩) 1 1 [p1] := by
  refine ⟨[.slice A1 n1 c1], ⟨rfl, by decide, by decide, fun _ => ⟨g, 0, rfl, hg, fun k v hv => by rw [Nat.zero_add]; exact h.at_ hv⟩⟩, rfl, fun i v ps hv hp => ?_⟩
  match i with
  | 0 => cases hv; cases hp; exact ⟨_, _, _, rfl, h1, z1⟩
  | i + 1 => simp at hv
theorem PartsV.three {w : World} {g B : Nat} {A1 A2 A3 : Option Addr} {n1 c1 n2 c2 n3 c3 : Nat} {p1 p2 p3 : List (BitVec 8)} (h : RowV 22 w g [.slice A1 n1 c1, .slice A2 n2 c2, .slice A3 n3 c3]) (h1 : SlV w B A1 n1 c1 (p1.map W8)) (z1 : A1 = none → c1 = 0) (h2 : SlV w B A2 n2 c2 (p2.map W8)) (z2 : A2 = none → c2 = 0) (h3 : SlV w B A3 n3 c3 (p3.map W8)) (z3 : A3 = none → c3 = 0) (hg : g < B) :
    PartsV w B (some ⟨g, 0, none⟩) 3 3 [p1, p2, p3] := by
  refine ⟨[.slice A1 n1 c1, .slice A2 n2 c2, .slice A3 n3 c3], ⟨rfl, by decide, by decide, fun _ => ⟨g, 0, rfl, hg, fun k v hv => by rw [Nat.zero_add]; exact h.at_ hv⟩⟩, rfl, fun i v ps hv hp => ?_⟩
  match i with
  | 0 => cases hv; cases hp; exact ⟨_, _, _, rfl, h1, z1⟩
  | 1 => cases hv; cases hp; exact ⟨_, _, _, rfl, h2, z2⟩
  | 2 => cases hv; cases hp; exact ⟨_, _, _, rfl, h3, z3⟩
  | i + 3 => simp at hv
/-- V anew -/
def stepL (key val : List (BitVec 8)) : List (BitVec 8) := hmacL 3 key val
theorem stepL_length (key val : List (BitVec 8)) : (stepL key val).length = 32 := by rw [stepL, hmacL_length]; rfl
set_option maxRecDepth 100000 in
set_option maxHeartbeats 2000000 in
theorem dstep_any (w : World) (g : Nat) (key val : List (BitVec 8)) (calls : Int) (h : DrbgR w g key val calls) (hGS : StartsG w) (hGR : RootsG w) :
    Calls Tryd.prog 72 #[.pointer (some ⟨g, 0, none⟩)] w fun e w' => e = .returned (.tuple #[]) ∧ DrbgR w' g key (stepL key val) calls ∧ OnlyV w w' g := by
  obtain ⟨W1, e1, r1, b1, z1⟩ := newV w 22 [.slice (some ⟨g, 32, none⟩) 32 32] #[.slice (some ⟨g, 32, none⟩) 32 32] rfl
  obtain ⟨b0, hb0⟩ : ∃ b, w.heap.size = b := ⟨_, rfl⟩
  rw [hb0] at r1
  have hh := h.later b1
  have hm := dhmac_any W1 g key val calls hh (hGS.later b1) (hGR.later b1) W1.heap.size _ 1 1 [val] (PartsV.one r1 hh.val_ (by intro h; cases h) (by omega)) (Nat.le_refl _) (by decide) (by simp [h.hv])
  rw [List.flatten_singleton] at hm
  have hDl := stepL_length key val
  obtain ⟨D, hD⟩ : ∃ D, stepL key val = D := ⟨_, rfl⟩
  rw [show hmacL 3 key val = D from hD] at hm
  rw [hD] at hDl ⊢
  have HM := Lib.hid hm
  have HH := Lib.hid hh
  have HB1 := Lib.hid b1
  have HDL := Lib.hid hDl
  clear hm b1 r1 hh h hGS hGR z1 hD hDl
  go_enter Tryd.func72, Tryd.ntmps72
  go_wp2_with fail
  refine HM.out.mono ?_
  rintro e w2 ⟨rfl, hb2⟩
  have hh2 := HH.out.later hb2
  have hth := hh2.cells_ 32 (by decide)
  have hDm : (D.map W8).toArray.size = 32 := by simpa using HDL.out
  have HB2 := Lib.hid hb2
  have HH2 := Lib.hid hh2
  clear hb2 hh2
  go_wp2_with (refine wpList_store_mid rfl 61 _ _ rfl g 32 (D.map W8).toArray rfl rfl (by rw [hDm]; exact hth) (by rw [hDm]; exact Tryd.arr328) (all_oneCell_toArray (ones8 D)) ?_)
  refine bodyPost_end (results_none rfl _ _ _) rfl ?_
  exact ⟨rfl, HH2.out.putVal D HDL.out, OnlyV.sets _ _ _ ((OnlyV.of_below HB1.out g).trans (OnlyV.of_below HB2.out g))⟩
/-- K anew -/
def mixK (key val : List (BitVec 8)) (mark : BitVec 8) (data : List (BitVec 8)) : List (BitVec 8) := hmacL 3 key (val ++ ([mark] ++ data))
theorem mixK_length (key val : List (BitVec 8)) (mark : BitVec 8) (data : List (BitVec 8)) : (mixK key val mark data).length = 32 := by rw [mixK, hmacL_length]; rfl
set_option maxRecDepth 100000 in
set_option maxHeartbeats 2000000 in
theorem dmix_any (w : World) (g : Nat) (hg1 : 4 < g) (key val : List (BitVec 8)) (calls : Int) (h : DrbgR w g key val calls) (hGS : StartsG w) (hGR : RootsG w) (mark : BitVec 8) (mz : Int) (hmz : i8 mark = mz) (B : Nat) (A : Option Addr) (n c : Nat) (data : List (BitVec 8)) (hs : SlV w B A n c (data.map W8)) (hz : A = none → c = 0) (hB : B ≤ w.heap.size) (hn : n + 1024 ≤ 17592186044416) :
    Calls Tryd.prog 69 #[.pointer (some ⟨g, 0, none⟩), .int .u8 mz, .slice A n c] w fun e w' => e = .returned (.tuple #[]) ∧ DrbgR w' g (mixK key val mark data) (stepL (mixK key val mark data) val) calls ∧ OnlyV w w' g := by
  subst hmz
  obtain ⟨W1, e1, r1, b1, z1⟩ := newV w 5 [.int .u8 (i8 mark)] #[.int .u8 (i8 mark)] rfl
  obtain ⟨b0, hb0⟩ : ∃ b, w.heap.size = b := ⟨_, rfl⟩
  rw [hb0] at r1
  obtain ⟨W2, e2, r2, b2, z2⟩ := newV W1 22 [.slice (some ⟨g, 32, none⟩) 32 32, .slice (some ⟨b0, 0, none⟩) 1 1, .slice A n c] #[.slice (some ⟨g, 32, none⟩) 32 32, .slice (some ⟨b0, 0, none⟩) 1 1, .slice A n c] rfl
  obtain ⟨b3, hb3⟩ : ∃ b, W1.heap.size = b := ⟨_, rfl⟩
  rw [hb3] at r2
  have h12 : Below w.heap.size w W2 := b1.trans (b2.mono b1.size)
  have hh := h.later h12
  have hl0 := hs.len
  rw [List.length_map] at hl0
  have hs1 : SlV W1 W1.heap.size (some ⟨b0, 0, none⟩) 1 1 ([mark].map W8) := r1.sl (by simp)
  have hm := dhmac_any W2 g key val calls hh (hGS.later h12) (hGR.later h12) W2.heap.size _ 3 3 [val, [mark], data] (PartsV.three r2 hh.val_ (by intro h; cases h) ((hs1.below b2).more b2.size) (by intro h; cases h) ((hs.below (h12.mono hB)).more (Nat.le_trans hB h12.size)) hz (by omega)) (Nat.le_refl _) (by decide) (by simp [h.hv]; omega)
  rw [show [val, [mark], data].flatten = val ++ ([mark] ++ data) by simp] at hm
  have hKl := mixK_length key val mark data
  obtain ⟨K, hK⟩ : ∃ K, mixK key val mark data = K := ⟨_, rfl⟩
  rw [show hmacL 3 key (val ++ ([mark] ++ data)) = K from hK] at hm
  rw [hK] at hKl ⊢
  have HM := Lib.hid hm
  have HH := Lib.hid hh
  have HB1 := Lib.hid h12
  have HKL := Lib.hid hKl
  have HG := Lib.hid (⟨hGS.later h12, hGR.later h12⟩ : StartsG W2 ∧ RootsG W2)
  clear hm b1 r1 hh h hGS hGR z1 hK hKl h12 b2 r2 hs1 hs z2 hl0
  go_enter Tryd.func69, Tryd.ntmps69
  go_wp2_with fail
  refine HM.out.mono ?_
  rintro e w2 ⟨rfl, hb2⟩
  have hh2 := HH.out.later hb2
  have hth := hh2.cells_ 0 (by decide)
  have hDm : (K.map W8).toArray.size = 32 := by simpa using HKL.out
  obtain ⟨W3, e3⟩ : ∃ W, w2.setCells g 0 (K.map W8).toArray.toList = W := ⟨_, rfl⟩
  have hh3 : DrbgR W3 g K val calls := by rw [← e3]; exact hh2.putKey K HKL.out
  have ho3 : OnlyV W2 W3 g := by rw [← e3]; exact OnlyV.sets _ _ _ (OnlyV.of_below hb2 g)
  have hst := dstep_any W3 g K val calls hh3 (HG.out.1.only ho3 hg1) (HG.out.2.only ho3 hg1)
  have HST := Lib.hid hst
  have HO3 := Lib.hid ho3
  clear hb2 hh2 hh3 ho3 hst
  go_wp2_with (refine wpList_store_mid rfl 61 _ _ rfl g 0 (K.map W8).toArray rfl rfl (by rw [hDm]; exact hth) (by rw [hDm]; exact Tryd.arr328) (all_oneCell_toArray (ones8 K)) ?_)
  refine HST.out.mono ?_
  rintro e w4 ⟨rfl, hh4, ho4⟩
  have HH4 := Lib.hid hh4
  have HO4 := Lib.hid ho4
  clear hh4 ho4 hth
  go_wp2
  refine bodyPost_end (results_none rfl _ _ _) rfl ?_
  exact ⟨rfl, HH4.out, ((OnlyV.of_below HB1.out g).trans HO3.out).trans HO4.out⟩
end Go.Proofs.YtnpaidieijlkkaaDoor

/- drbg: update, New, Reseed, Left. -/
set_option linter.unusedVariables false
set_option linter.unusedSimpArgs false
namespace Go.Proofs.YtnpaidieijlkkaaDoor
open Go.RowKit Go.Shelf

def updL (kv : List (BitVec 8) × List (BitVec 8)) (data : List (BitVec 8)) : List (BitVec 8) × List (BitVec 8) :=
  let k1 := mixK kv.1 kv.2 0 data
  let v1 := stepL k1 kv.2
  if data = [] then (k1, v1) else (mixK k1 v1 1 data, stepL (mixK k1 v1 1 data) v1)
set_option maxRecDepth 100000 in
set_option maxHeartbeats 2000000 in
theorem dupdate_any (w : World) (g : Nat) (hg1 : 4 < g) (kv : List (BitVec 8) × List (BitVec 8)) (calls : Int) (h : DrbgR w g kv.1 kv.2 calls) (hGS : StartsG w) (hGR : RootsG w) (B : Nat) (A : Option Addr) (n c : Nat) (data : List (BitVec 8)) (hs : SlV w B A n c (data.map W8)) (hz : A = none → c = 0) (hB : B ≤ g) (hn : n + 1024 ≤ 17592186044416) :
    Calls Tryd.prog 37 #[.pointer (some ⟨g, 0, none⟩), .slice A n c] w fun e w' => e = .returned (.tuple #[]) ∧ DrbgR w' g (updL kv data).1 (updL kv data).2 calls ∧ OnlyV w w' g := by
  have hgw := h.row.lt
  have hm := dmix_any w g hg1 kv.1 kv.2 calls h hGS hGR 0 0 rfl B A n c data hs hz (by omega) hn
  obtain ⟨k1, hk1⟩ : ∃ k, mixK kv.1 kv.2 0 data = k := ⟨_, rfl⟩
  obtain ⟨v1, hv1⟩ : ∃ v, stepL k1 kv.2 = v := ⟨_, rfl⟩
  have hl0 := hs.len
  rw [List.length_map] at hl0
  rw [hk1, hv1] at hm
  have hcap := hs.cap
  have hmax := hs.max
  have HM := Lib.hid hm
  have HS := Lib.hid hs
  have HG := Lib.hid (⟨hGS, hGR⟩ : StartsG w ∧ RootsG w)
  by_cases hd : data = []
  · have hu : updL kv data = (k1, v1) := by simp only [updL, hk1, hv1, if_pos hd]
    rw [hu]
    have hn0 : n = 0 := by rw [hl0, hd]; rfl
    subst hn0
    clear hm hs hGS hGR h hk1 hv1 hl0 hd hu
    go_enter Tryd.func37, Tryd.ntmps37
    go_wp2_with fail
    refine HM.out.mono ?_
    rintro e w1 ⟨rfl, hh1, ho1⟩
    have H1 := Lib.hid hh1
    have O1 := Lib.hid ho1
    clear hh1 ho1
    go_wp2
    refine bodyPost_end (results_none rfl _ _ _) rfl ?_
    exact ⟨rfl, H1.out, O1.out⟩
  · have hu : updL kv data = (mixK k1 v1 1 data, stepL (mixK k1 v1 1 data) v1) := by simp only [updL, hk1, hv1, if_neg hd]
    rw [hu]
    have hnI : (0 : Int) < n := by
      have : data.length ≠ 0 := fun h => hd (List.eq_nil_of_length_eq_zero h)
      omega
    clear hm hs hGS hGR h hk1 hv1 hl0 hd hu
    go_enter Tryd.func37, Tryd.ntmps37
    go_wp2_with fail
    refine HM.out.mono ?_
    rintro e w1 ⟨rfl, hh1, ho1⟩
    have hm2 := dmix_any w1 g hg1 k1 v1 calls hh1 (HG.out.1.only ho1 hg1) (HG.out.2.only ho1 hg1) 1 1 rfl B A n c data (HS.out.below (ho1.below hB (by omega))) hz (by have := ho1.size; omega) hn
    have M2 := Lib.hid hm2
    have O1 := Lib.hid ho1
    clear hh1 ho1 hm2
    go_wp2_with fail
    refine M2.out.mono ?_
    rintro e w2 ⟨rfl, hh2, ho2⟩
    have H2 := Lib.hid hh2
    have O2 := Lib.hid ho2
    clear hh2 ho2
    go_wp2
    refine bodyPost_end (results_none rfl _ _ _) rfl ?_
    exact ⟨rfl, H2.out, O1.out.trans O2.out⟩
set_option maxRecDepth 100000 in
set_option maxHeartbeats 2000000 in
theorem dnew_any (w : World) (hGS : StartsG w) (hGR : RootsG w) (B : Nat) (A : Option Addr) (n c : Nat) (data : List (BitVec 8)) (hs : SlV w B A n c (data.map W8)) (hz : A = none → c = 0) (hB : B ≤ w.heap.size) (hn : n + 1024 ≤ 17592186044416) :
    Calls Tryd.prog 11 #[.slice A n c] w fun e w' => e = .returned (.pointer (some ⟨w.heap.size, 0, none⟩)) ∧ DrbgR w' w.heap.size (updL (List.replicate 32 0, List.replicate 32 1) data).1 (updL (List.replicate 32 0, List.replicate 32 1) data).2 0 ∧ Below w.heap.size w w' := by
  obtain ⟨W1, e1, r1, b1, z1⟩ := newV w 63 (dL (List.replicate 32 0) (List.replicate 32 0) 0) Tryd.zeroCells63 (by first | rfl | kernel_rfl)
  obtain ⟨g, hg⟩ : ∃ b, w.heap.size = b := ⟨_, rfl⟩
  rw [hg] at r1 ⊢
  have hg1 : 4 < g := by have := hGR.1; omega
  have HB1 := Lib.hid b1
  have HR1 := Lib.hid r1
  have HG := Lib.hid (⟨hGS, hGR⟩ : StartsG w ∧ RootsG w)
  have HS := Lib.hid hs
  have HGG := Lib.hid hg
  have h32 : (List.replicate 32 (0 : BitVec 8)).length = 32 := by simp
  have hgl := r1.lt
  clear b1 r1 hGS hGR hs z1
  go_enter Tryd.func11, Tryd.ntmps11
  go_wp2
  go_loopw [7] (fun i wr => ∃ (j : Nat), j ≤ 32 ∧ i = .int .i64 (j : Int) ∧ Hid (DrbgR wr g (List.replicate 32 0) ((List.replicate 32 1).take j ++ List.replicate (32 - j) 0) 0) ∧ Hid (Below g w wr)) (fun i _ => 32 - (intOf i).toNat)
  case atStart => exact ⟨0, by decide, rfl, Lib.hid ⟨by simp, by simp, HR1.out⟩, Lib.hid (by rw [← HGG.out]; exact HB1.out)⟩
  case round =>
    obtain ⟨j, hj, rfl, HD, HB⟩ := hrel
    by_cases hj32 : j = 32
    · subst hj32
      have hd := HD.out
      rw [show (List.replicate 32 (1 : BitVec 8)).take 32 ++ List.replicate (32 - 32) 0 = List.replicate 32 1 from rfl] at hd
      have hbw := HB.out
      rw [← HGG.out] at hbw
      have hu := dupdate_any wr g hg1 (List.replicate 32 0, List.replicate 32 1) 0 hd (HG.out.1.later hbw) (HG.out.2.later hbw) B A n c data (HS.out.below (hbw.mono hB)) hz (by rw [← HGG.out]; exact hB) hn
      have HU := Lib.hid hu
      clear hu hd hbw
      go_wp2_with fail
      refine HU.out.mono ?_
      rintro e w1 ⟨rfl, hd1, ho1⟩
      have H1 := Lib.hid hd1
      have O1 := Lib.hid ho1
      clear hd1 ho1
      go_wp2
      go_ret
      exact ⟨rfl, H1.out, HB.out.trans (O1.out.below (Nat.le_refl _) (by have := HD.out.row.lt; omega))⟩
    · have hjI : (j : Int) < 32 := by omega
      have hj0 : (0 : Int) ≤ j := by omega
      have hc : wr.cell? ⟨g, 32 + j, none⟩ = some (.int .u8 0) := HD.out.row.at_ (by
        rw [dL, List.getElem?_append_right (by simp), List.length_map, List.length_replicate, Nat.add_sub_cancel_left, List.getElem?_append_left (by simp; omega), List.getElem?_map]
        have := fill_get (List.replicate 32 (1 : BitVec 8)) 0 j (by simp; omega)
        rw [List.length_replicate] at this
        rw [this]
        rfl)
      have hf := HD.out.row.frozen (32 + j)
      have hst := HD.out.row.set (32 + j) (.int .u8 1)
      have hset : (dL (List.replicate 32 0) ((List.replicate 32 (1 : BitVec 8)).take j ++ List.replicate (32 - j) 0) 0).set (32 + j) (.int .u8 1) = dL (List.replicate 32 0) ((List.replicate 32 1).take (j + 1) ++ List.replicate (32 - (j + 1)) 0) 0 := by
        have h1 := fill_set (List.replicate 32 (1 : BitVec 8)) 0 j 1 (by rw [List.getElem?_replicate, if_pos (by omega)])
        rw [List.length_replicate] at h1
        rw [dL, dL, List.set_append_right _ _ (by simp), List.length_map, List.length_replicate, Nat.add_sub_cancel_left, List.set_append_left _ _ (by simp; omega), ← h1, List.map_set]
        rfl
      rw [hset] at hst
      have HST := Lib.hid hst
      clear hst hset
      go_wp2
      go_roundw
      case rel => exact ⟨j + 1, by omega, by go_num, Lib.hid ⟨by simp, by simp; omega, HST.out⟩, Lib.hid (HB.out.setCell (p := ⟨g, 32 + j, none⟩) (Nat.le_refl _) _)⟩
      case measure => simp [intOf]; omega
end Go.Proofs.YtnpaidieijlkkaaDoor
