/- Parts of one proof, joined: Hmgf, Sw, Sp, Pa, PdB, PdC, PdD, ShelfB, PdI, PdH, PdJ, PdK. -/
import Derived.Test.YtnpaidieijlkkaaDoorPileJ5
import Derived.Test.YtnpaidieijlkkaaDoorPileJ8
import Derived.Test.YtnpaidieijlkkaaDoorPileJ4
import Derived.Ground.Names2Prog
import Derived.Shelf.Slices.SearchI
import Derived.Shelf.Bytes.SlIndexAt
import Derived.Shelf.Bytes.SlSearch0
import Derived.Shelf.Bytes.SlSmallAll
import Derived.Shelf.Bytes.SlEqualAll
import Derived.Shelf.Bytes.Small
import Derived.Shelf.Bytes.IndexByte

/- hashes: MGF1, whole. -/
set_option linter.unusedVariables false
set_option linter.unusedSimpArgs false
namespace Go.Proofs.YtnpaidieijlkkaaDoor
open Go.RowKit Go.Shelf

def mgfL (k : Int) (seed : List (BitVec 8)) (N : Nat) : List (BitVec 8) := fillL (fun i => sumL k (seed ++ counterL i)) N
theorem szN_ok {k : Int} (h : KindOk k) : 1 ≤ szN k ∧ szN k ≤ 64 := by have := szN_le h; omega
theorem mgfL_length {k : Int} (h : KindOk k) (seed : List (BitVec 8)) (N : Nat) : (mgfL k seed N).length = N := fillL_length _ (szN k) (fun _ => sumL_length _ _) (szN_ok h).1 N
set_option maxRecDepth 100000 in
set_option maxHeartbeats 1000000 in
theorem mgf_any (w : World) (k : Int) (hk : KindOk k) (hGS : StartsG w) (hGR : RootsG w) (B : Nat) (A : Option Addr) (n c : Nat) (seed : List (BitVec 8)) (hs : SlV w B A n c (seed.map W8)) (hz : A = none → c = 0) (hB : B ≤ w.heap.size) (hn : n + 512 ≤ 17592186044416) (N : Nat) (hN1 : 1 ≤ N) (hN2 : N ≤ 65536) :
    Calls Tryd.prog 81 #[.int .i64 k, .slice A n c, .int .i64 (N : Int)] w fun e w' => ∃ v, e = .returned v ∧ w'.ownsRow w.heap.size 5 1 v N ((mgfL k seed N).map W8) ∧ Below w.heap.size w w' := by
  obtain ⟨W1, e1, hB1, b1, s1⟩ := newBox w 3 (.int .i64 k)
  obtain ⟨W2, e2, hB2, b2, s2⟩ := newBox W1 22 (.slice A n c)
  obtain ⟨x1, hx1⟩ : ∃ b, w.heap.size = b := ⟨_, rfl⟩
  obtain ⟨x2, hx2⟩ : ∃ b, W1.heap.size = b := ⟨_, rfl⟩
  rw [hx1] at b1
  rw [hx2] at b2
  replace b1 := b1.later hB2
  have hB12 : Below w.heap.size w W2 := hB1.trans (hB2.mono hB1.size)
  have kN1 : (1 : Int) ≤ N := by omega
  have kN2 : (N : Int) ≤ 65536 := by omega
  have hv := valid_yes W2 k hk
  have hf := fill_any W2 107 #[.pointer (some ⟨x1, 0, none⟩), .pointer (some ⟨x2, 0, none⟩)] (enters_of Tryd.func107 (by kernel_rfl) rfl) (fun i => sumL k (seed ++ counterL i)) (szN k) (fun _ => sumL_length _ _) (szN_ok hk).1 (szN_ok hk).2 N hN1 hN2
    (fun j hj W hW => mgfPart_any W k hk ((hGS.later hB12).later hW) ((hGR.later hB12).later hW) x1 x2 B A n c seed (hs.below ((hB12.trans (hW.mono hB12.size)).mono hB)) hz (Nat.le_trans hB (Nat.le_trans hB12.size hW.size)) hn (b1.later hW) (b2.later hW) j (by omega))
  have q1 := b1.1
  have HF := Lib.hid hf
  have HV := Lib.hid hv
  have HB12 := Lib.hid hB12
  clear hf hv hB12 hB1 hB2 b1 b2 s1 s2 hGS hGR hs hz
  go_enter Tryd.func81, Tryd.ntmps81
  go_wp2_with fail
  refine HV.out.mono ?_
  rintro e w' ⟨rfl, rfl⟩
  go_wp2_with fail
  refine HF.out.mono ?_
  rintro e w3 ⟨v, rfl, hown, hb3⟩
  have hz2 := HB12.out.size
  have HO := Lib.hid hown
  have HB3 := Lib.hid hb3
  clear hown hb3
  go_wp2
  go_ret
  refine ⟨v, rfl, ?_, HB12.out.trans (HB3.out.mono hz2)⟩
  obtain ⟨h1, h2⟩ := HO.out
  exact ⟨h1, h2.imp id (fun ⟨g, cap, cur, e, hb, r⟩ => ⟨g, cap, cur, e, by omega, r⟩)⟩
set_option maxRecDepth 100000 in
set_option maxHeartbeats 1000000 in
theorem mgf_no (w : World) (k : Int) (A : Option Addr) (n c : Nat) (N : Int) (h : KindOk k → N < 1 ∨ 65536 < N) :
    Calls Tryd.prog 81 #[.int .i64 k, .slice A n c, .int .i64 N] w fun e w' => e = .returned (.slice none 0 0) ∧ Below w.heap.size w w' := by
  obtain ⟨W1, e1, hB1, b1, s1⟩ := newBox w 3 (.int .i64 k)
  obtain ⟨W2, e2, hB2, b2, s2⟩ := newBox W1 22 (.slice A n c)
  obtain ⟨x1, hx1⟩ : ∃ b, w.heap.size = b := ⟨_, rfl⟩
  obtain ⟨x2, hx2⟩ : ∃ b, W1.heap.size = b := ⟨_, rfl⟩
  rw [hx1] at b1
  replace b1 := b1.later hB2
  have hB12 : Below w.heap.size w W2 := hB1.trans (hB2.mono hB1.size)
  have q1 := b1.1
  have HB12 := Lib.hid hB12
  clear hB12 hB1 hB2 b1 b2 s1 s2
  by_cases hk : KindOk k
  · have hv := valid_yes W2 k hk
    have HV := Lib.hid hv
    clear hv
    have hN := h hk
    clear h
    by_cases h1 : N < 1
    · go_enter Tryd.func81, Tryd.ntmps81
      go_wp2_with fail
      refine HV.out.mono ?_
      rintro e w' ⟨rfl, rfl⟩
      go_wp2
      go_ret
      exact ⟨rfl, HB12.out⟩
    · have h2 : 65536 < N := by omega
      clear hN
      go_enter Tryd.func81, Tryd.ntmps81
      go_wp2_with fail
      refine HV.out.mono ?_
      rintro e w' ⟨rfl, rfl⟩
      go_wp2
      go_ret
      exact ⟨rfl, HB12.out⟩
  · have hv := valid_no W2 k hk
    have HV := Lib.hid hv
    clear hv h
    go_enter Tryd.func81, Tryd.ntmps81
    go_wp2_with fail
    refine HV.out.mono ?_
    rintro e w' ⟨rfl, rfl⟩
    go_wp2
    go_ret
    exact ⟨rfl, HB12.out⟩
end Go.Proofs.YtnpaidieijlkkaaDoor

/- The program's and the reference's Of and HMAC, of any kind. -/
set_option linter.unusedVariables false
set_option linter.unusedSimpArgs false
namespace Go.Proofs.YtnpaidieijlkkaaDoor
open Go.RowKit Go.Shelf

/-- the hash of a message; nothing of another kind -/
def sumK (k : Int) (msg : List (BitVec 8)) : List (BitVec 8) := if 1 ≤ k ∧ k ≤ 5 then sumL k msg else []
def hmacK (k : Int) (key msg : List (BitVec 8)) : List (BitVec 8) := if 1 ≤ k ∧ k ≤ 5 then hmacL k key msg else []
theorem sumK_le (k : Int) (msg : List (BitVec 8)) : (sumK k msg).length ≤ 64 := by
  unfold sumK
  split
  · rename_i h
    rw [sumL_length]
    exact (szN_le (k := k) h).2.2
  · simp
theorem FreshV.row_ {w : World} {B b n : Nat} {l : List (BitVec 8)} (h : RowV 5 w b (l.map W8)) (hb : B ≤ b) (hl : l.length = n) (hm : n ≤ 9223372036854775807) : FreshV w B (.slice (some ⟨b, 0, none⟩) n n) l := by
  have hs := h.sl (by rw [List.length_map]; omega)
  rw [List.length_map] at hs
  subst hl
  exact ⟨_, _, rfl, hs, (by intro h; cases h), (by intro a e; injection e with e; subst e; exact hb)⟩
theorem FreshV.nil_ (w : World) (B : Nat) : FreshV w B (.slice none 0 0) [] := ⟨none, 0, rfl, SlV.nil _ _ _ (by decide), fun _ => rfl, fun a h => by cases h⟩
theorem hofK_any (w : World) (k : Int) (hG : StartsG w) (hR : RootsG w) (B : Nat) (A : Option Addr) (n c : Nat) (pss : List (List (BitVec 8))) (hs : PartsV w B A n c pss) (hB : B ≤ w.heap.size) (hn : n ≤ 17592186044416) (hlen : pss.flatten.length + 256 ≤ 17592186044416) :
    Calls Tryd.prog 54 #[.int .i64 k, .slice A n c] w fun e w' => ∃ v, e = .returned v ∧ FreshV w' w.heap.size v (sumK k pss.flatten) ∧ Below w.heap.size w w' := by
  by_cases hk : KindOk k
  · refine (hof_any w k hk hG hR B A n c pss hs hB hn hlen).mono ?_
    rintro e w' ⟨b, rfl, hb, hr, hB'⟩
    refine ⟨_, rfl, ?_, hB'⟩
    rw [sumK, if_pos (show 1 ≤ k ∧ k ≤ 5 from hk)]
    exact FreshV.row_ hr hb (sumL_length _ _) (by have := (szN_le hk).2.2; omega)
  · refine (of_no w k hk B A n c pss hs hB hn).mono ?_
    rintro e w' ⟨rfl, hB'⟩
    refine ⟨_, rfl, ?_, hB'⟩
    rw [sumK, if_neg (show ¬ (1 ≤ k ∧ k ≤ 5) from hk)]
    exact FreshV.nil_ _ _
theorem rofK_any (w : World) (k : Int) (B : Nat) (A : Option Addr) (n c : Nat) (bs : List (BitVec 8)) (hs : SlV w B A n c (bs.map W8)) (hz : A = none → c = 0) (hB : B ≤ w.heap.size) (hn : n ≤ 1000000000) :
    Calls Tryd.prog 56 #[.int .i64 k, .slice A n c] w fun e w' => ∃ v, e = .returned v ∧ FreshV w' w.heap.size v (sumK k bs) ∧ Below w.heap.size w w' := by
  by_cases hk : KindOk k
  · refine (rof_any w k hk B A n c bs hs hz hB hn).mono ?_
    rintro e w' ⟨v, rfl, hf, hB'⟩
    refine ⟨_, rfl, ?_, hB'⟩
    rw [sumK, if_pos (show 1 ≤ k ∧ k ≤ 5 from hk)]
    exact hf
  · refine (rof_no w k hk A n c).mono ?_
    rintro e w' ⟨rfl, rfl⟩
    refine ⟨_, rfl, ?_, Below.refl _ _⟩
    rw [sumK, if_neg (show ¬ (1 ≤ k ∧ k ≤ 5) from hk)]
    exact FreshV.nil_ _ _
theorem hmacK_any (w : World) (k : Int) (hGS : StartsG w) (hGR : RootsG w) (B : Nat) (A : Option Addr) (n c : Nat) (key : List (BitVec 8)) (hs : SlV w B A n c (key.map W8)) (hz : A = none → c = 0) (hB : B ≤ w.heap.size) (hn : n + 256 ≤ 17592186044416)
    (A2 : Option Addr) (n2 c2 : Nat) (pss : List (List (BitVec 8))) (hp : PartsV w B A2 n2 c2 pss) (hn2 : n2 ≤ 17592186044416) (hlen : pss.flatten.length + 512 ≤ 17592186044416) :
    Calls Tryd.prog 129 #[.int .i64 k, .slice A n c, .slice A2 n2 c2] w fun e w' => ∃ v, e = .returned v ∧ FreshV w' w.heap.size v (hmacK k key pss.flatten) ∧ Below w.heap.size w w' := by
  by_cases hk : KindOk k
  · refine (hmac_any w k hk hGS hGR B A n c key hs hz hB hn A2 n2 c2 pss hp hn2 hlen).mono ?_
    rintro e w' ⟨b, rfl, hb, hr, hB'⟩
    refine ⟨_, rfl, ?_, hB'⟩
    rw [hmacK, if_pos (show 1 ≤ k ∧ k ≤ 5 from hk)]
    exact FreshV.row_ hr hb (hmacL_length _ _ _) (by have := (szN_le hk).2.2; omega)
  · refine (hmac_no w k hk _ _).mono ?_
    rintro e w' ⟨rfl, rfl⟩
    refine ⟨_, rfl, ?_, Below.refl _ _⟩
    rw [hmacK, if_neg (show ¬ (1 ≤ k ∧ k ≤ 5) from hk)]
    exact FreshV.nil_ _ _
theorem rhmacK_any (w : World) (k : Int) (B : Nat) (A : Option Addr) (n c : Nat) (key : List (BitVec 8)) (hs : SlV w B A n c (key.map W8)) (hz : A = none → c = 0) (hB : B ≤ w.heap.size) (hn : n ≤ 1000000)
    (A2 : Option Addr) (n2 c2 : Nat) (msg : List (BitVec 8)) (hs2 : SlV w B A2 n2 c2 (msg.map W8)) (hz2 : A2 = none → c2 = 0) (hn2 : n2 ≤ 1000000) :
    Calls Tryd.prog 70 #[.int .i64 k, .slice A n c, .slice A2 n2 c2] w fun e w' => ∃ v, e = .returned v ∧ FreshV w' w.heap.size v (hmacK k key msg) ∧ Below w.heap.size w w' := by
  by_cases hk : KindOk k
  · refine (rhmac_any w k hk B A n c key hs hz hB hn A2 n2 c2 msg hs2 hz2 hn2).mono ?_
    rintro e w' ⟨v, rfl, hf, hB'⟩
    refine ⟨_, rfl, ?_, hB'⟩
    rw [hmacK, if_pos (show 1 ≤ k ∧ k ≤ 5 from hk)]
    exact hf
  · refine (rhmac_no w k hk _ _).mono ?_
    rintro e w' ⟨rfl, rfl⟩
    refine ⟨_, rfl, ?_, Below.refl _ _⟩
    rw [hmacK, if_neg (show ¬ (1 ≤ k ∧ k ≤ 5) from hk)]
    exact FreshV.nil_ _ _
theorem PartsV.single {w : World} {g B : Nat} {A1 : Option Addr} {n1 c1 : Nat} {p1 : List (BitVec 8)} (h : RowV 22 w g [.slice A1 n1 c1]) (h1 : SlV w B A1 n1 c1 (p1.map W8)) (z1 : A1 = none → c1 = 0) (hg : g < B) :
    PartsV w B (some ⟨g, 0, none⟩) 1 1 [p1] := by
  refine ⟨[.slice A1 n1 c1], ⟨rfl, by decide, by decide, fun _ => ⟨g, 0, rfl, hg, fun k v hv => by rw [Nat.zero_add]; exact h.at_ hv⟩⟩, rfl, fun i v ps hv hp => ?_⟩
  match i with
  | 0 => cases hv; cases hp; exact ⟨_, _, _, rfl, h1, z1⟩
  | i + 1 => simp at hv
/-- 'b[:m]' of Short -/
theorem short_sl {w : World} {B n c m : Nat} {A : Option Addr} {bs : List (BitVec 8)} (h : SlV w B A n c (bs.map W8)) : SlV w B A (min n m) c ((bs.take m).map W8) := by
  have hl := h.len
  rw [List.length_map] at hl
  have h2 := h.take (k := min n m) (by omega)
  rw [← List.map_take] at h2
  have e : bs.take (min n m) = bs.take m := by
    by_cases hm : n ≤ m
    · rw [List.take_of_length_le (by omega), List.take_of_length_le (by omega)]
    · rw [show min n m = m by omega]
  rwa [e] at h2
/-- a result's string, here and later -/
theorem FreshV.conv {w w' : World} {c : Nat} {A : Option Addr} {l : List (BitVec 8)} (h : SlV w w.heap.size A l.length c (l.map W8)) (hb : Below w.heap.size w w') : (convert 22 9 (.slice A l.length c)).run Tryd.prog w' = .ok (strV l) w' := conv_str (h.below hb)
end Go.Proofs.YtnpaidieijlkkaaDoor

/- baileyref3: MGF1. -/
set_option linter.unusedVariables false
set_option linter.unusedSimpArgs false
namespace Go.Proofs.YtnpaidieijlkkaaDoor
open Go.RowKit Go.Shelf

set_option maxRecDepth 100000 in
set_option maxHeartbeats 4000000 in
theorem rmgf_any (w : World) (k : Int) (hk : KindOk k) (B : Nat) (A : Option Addr) (n c : Nat) (seed : List (BitVec 8)) (hs : SlV w B A n c (seed.map W8)) (hz : A = none → c = 0) (hB : B ≤ w.heap.size) (hn : n ≤ 1000) (N : Nat) (hN1 : 1 ≤ N) (hN2 : N ≤ 65536) :
    Calls Tryd.prog 58 #[.int .i64 k, .slice A n c, .int .i64 (N : Int)] w fun e w' => ∃ v, e = .returned v ∧ FreshV w' w.heap.size v (mgfL k seed N) ∧ Below w.heap.size w w' := by
  have hl : n = seed.length := by simpa using hs.len
  obtain ⟨s, hs0⟩ : ∃ s, szN k = s := ⟨_, rfl⟩
  have hs1 : 20 ≤ s ∧ s ≤ 64 := by have := szN_le hk; omega
  have ks : ¬ (s : Int) = 0 := by omega
  have kN1 : ¬ (N : Int) < 1 := by omega
  have kN2 : ¬ 65536 < (N : Int) := by omega
  have b1 : ((s : Int) == 0) = false := by simpa using ks
  have b2 : decide ((N : Int) < 1) = false := by simpa using kN1
  have b3 : decide (65536 < (N : Int)) = false := by simpa using kN2
  have hsz := rsize_any w k
  rw [szN_eq hk, hs0] at hsz
  obtain ⟨f, hf⟩ : ∃ f : Nat → List (BitVec 8), (fun i => sumL k (seed ++ counterL i)) = f := ⟨_, rfl⟩
  have hfl : ∀ j, (f j).length = s := fun j => by rw [← hf, ← hs0]; exact sumL_length _ _
  have hfin : ∀ j, N ≤ s * j → (seqL f j).take N = mgfL k seed N := fun j hj => by rw [fillL_eq f s hfl (by omega) N j hj, ← hf]; rfl
  have own0 : w.ownsRow w.heap.size 5 1 (.slice none 0 0) (s * 0) ((seqL f 0).map W8) := World.ownsRow_nil _ _ _ _
  have HSZ := Lib.hid hsz
  have HS := Lib.hid hs
  have HK := Lib.hid hk
  have HF := Lib.hid hf
  have HFL := Lib.hid hfl
  have HFIN := Lib.hid hfin
  have HO0 := Lib.hid own0
  have HL := Lib.hid hl
  clear hsz hs hk hf hfl hfin own0 hs0 hl
  go_enter Tryd.func58, Tryd.ntmps58
  go_wp2_with fail
  refine HSZ.out.mono ?_
  rintro e w' ⟨rfl, rfl⟩
  go_wp2
  go_loopw [8, 9] (fun tv iv W => ∃ (i c' : Nat) (A' : Option Addr), i ≤ 65536 ∧ s * i ≤ N + 64 ∧ iv = .int .i64 (i : Int) ∧ tv = .slice A' (s * i) c' ∧ Hid (W.ownsRow w.heap.size 5 1 (.slice A' (s * i) c') (s * i) ((seqL f i).map W8)) ∧ Hid (Below w.heap.size w W)) (fun tv _ _ => match tv with | .slice _ n _ => N - n | _ => 0)
  case atStart => exact ⟨0, 0, none, Nat.zero_le _, by omega, rfl, rfl, Lib.hid HO0.out, Lib.hid (Below.refl _ _)⟩
  case round =>
    obtain ⟨i, c', A', hi, hsi, rfl, rfl, HO, HB⟩ := hrel
    obtain ⟨m, hm⟩ : ∃ m, s * i = m := ⟨_, rfl⟩
    have hmi : i ≤ m := by rw [← hm]; exact Nat.le_mul_of_pos_left i (by omega)
    rw [hm] at HO hsi
    rw [hm]
    by_cases hmN : m < N
    · have kmN : (m : Int) < N := by omega
      obtain ⟨wo, rfl⟩ : ∃ V, V = wr := ⟨_, rfl⟩
      have h4 := rfour_any wo i (by omega)
      have H4 := Lib.hid h4
      have HM := Lib.hid hm
      clear h4 hm
      go_wp2_with fail
      refine H4.out.mono ?_
      rintro e w4 ⟨rfl, hr4, hb4⟩
      have hw0 := HB.out.size
      have hV : Below wo.heap.size wo (w4.alloc (.cells #[.slice A n c, .slice (some ⟨wo.heap.size, 0, none⟩) 4 4] 22)) := hb4.alloc hb4.size _
      have hrV : RowV 22 (w4.alloc (.cells #[.slice A n c, .slice (some ⟨wo.heap.size, 0, none⟩) 4 4] 22)) w4.heap.size [.slice A n c, .slice (some ⟨wo.heap.size, 0, none⟩) 4 4] := RowV.new w4 22 _
      have hr4V := hr4.later ((Below.refl w4.heap.size w4).alloc (Nat.le_refl _) (.cells #[.slice A n c, .slice (some ⟨wo.heap.size, 0, none⟩) 4 4] 22))
      obtain ⟨V, hVe⟩ : ∃ V, w4.alloc (.cells #[.slice A n c, .slice (some ⟨wo.heap.size, 0, none⟩) 4 4] 22) = V := ⟨_, rfl⟩
      rw [hVe] at hV hrV hr4V
      have hsV := HS.out.below ((HB.out.trans (hV.mono hw0)).mono hB)
      have hz4 := hb4.size
      have hlt4 := hrV.lt
      have lift : SlV V V.heap.size A n c (seed.map W8) := ⟨hsV.1, hsV.2.1, hsV.2.2.1, fun hne => by obtain ⟨b', o', e, hb', hc'⟩ := hsV.2.2.2 hne; exact ⟨b', o', e, by omega, hc'⟩⟩
      have hs4 : SlV V V.heap.size (some ⟨wo.heap.size, 0, none⟩) 4 4 ((counterL i).map W8) := by
        have := hr4V.sl (by simp [counterL_length])
        rwa [List.length_map, counterL_length] at this
      have hj := rjoin_any V V.heap.size (some ⟨w4.heap.size, 0, none⟩) 2 2 [seed, counterL i] (PartsV.two hrV lift hz hs4 (by intro h; cases h) hlt4) (Nat.le_refl _) (by decide) (by simp [counterL_length]; have := HL.out; omega)
      rw [show [seed, counterL i].flatten = seed ++ counterL i by simp] at hj
      obtain ⟨js, hjs⟩ : ∃ l, seed ++ counterL i = l := ⟨_, rfl⟩
      obtain ⟨jl, hjl⟩ : ∃ l, js.length = l := ⟨_, rfl⟩
      have hjb : jl ≤ 2000 := by rw [← hjl, ← hjs, List.length_append, counterL_length]; have := HL.out; omega
      have hfi : sumL k js = f i := by rw [← hjs, ← HF.out]
      rw [hjs, hjl] at hj
      have HFI := Lib.hid hfi
      have HJ := Lib.hid hj
      have HV := Lib.hid hV
      have HVE := Lib.hid hVe
      clear hr4 hb4 hV hrV hr4V hsV lift hs4 hj hVe hjs hjl hfi
      go_wp2_with fail
      rw [HVE.out]
      refine HJ.out.mono ?_
      rintro e w5 ⟨v5, rfl, ho5, hb5⟩
      obtain ⟨A5, c5, rfl, hs5, _, hz5⟩ := SlV.of_own' ho5
      have hof := rof_any w5 k HK.out _ A5 _ c5 _ hs5 hz5 (Nat.le_refl _) (by omega)
      rw [HFI.out] at hof
      have HOF := Lib.hid hof
      have hb05 : Below wo.heap.size wo w5 := HV.out.trans (hb5.mono HV.out.size)
      have HB05 := Lib.hid hb05
      clear ho5 hb5 hs5 hof hb05
      go_wp2_with fail
      refine HOF.out.mono ?_
      rintro e w6 ⟨v6, rfl, hfr, hb6⟩
      obtain ⟨A6, c6, rfl, hs6, hz6, _⟩ := hfr
      rw [HFL.out] at hs6 ⊢
      have hb06 := HB05.out.trans (hb6.mono HB05.out.size)
      have how := own_keep HO.out (fun q hq => hb06.block q (HO.out.lt q hq).2)
      have hone := ones8 (f i)
      have hmm : m + s ≤ 17592186044416 := by omega
      have hw6 : w.heap.size ≤ w6.heap.size := by have := hb06.size; omega
      have HS6 := Lib.hid hs6
      have HOW := Lib.hid how
      have HB06 := Lib.hid (HB.out.trans (hb06.mono hw0))
      clear hs6 hb6 hb06 how
      have t1 := HOW.out
      have t2 := HS6.out
      go_wp2_with (at_builtin; refine wlv_append Tryd.elem8 rfl _ _ rfl w.heap.size _ m _ rfl t1 A6 s c6 _ rfl hz6 _ t2 hone hmm hw6 ?_; intro v7 w7 hown7 hgr7; obtain ⟨A7, c7, rfl⟩ := own_form hown7; have HO7 := Lib.hid hown7; have HB7 := Lib.hid (HB06.out.grown hgr7 hw6 (fun q hq => (t1.lt q hq).1)); clear hown7 hgr7)
      go_roundw
      case rel =>
        have hms : s * (i + 1) = m + s := by rw [Nat.mul_succ, HM.out]
        refine ⟨i + 1, c7, A7, by omega, by omega, by go_num, by rw [hms], ?_, Lib.hid HB7.out⟩
        rw [hms, seqL, List.map_append]
        exact Lib.hid HO7.out
      case measure => simp; omega
    · have kmN : ¬ (m : Int) < N := by omega
      obtain ⟨g, c2, e2, hbg, hsl⟩ := own_form0 HO.out (by omega)
      injection e2 with e2 e3 e4
      subst e2
      subst e4
      have hcap := hsl.cap
      have hmx := hsl.max
      have kc1 : (N : Int) ≤ c' := by omega
      have kc2 : (c' : Int) ≤ 9223372036854775807 := by omega
      have kN0 : (0 : Int) ≤ N := by omega
      have HSL := Lib.hid hsl
      have hfi := HFIN.out i (by omega)
      have HFI := Lib.hid hfi
      clear hsl hfi hm
      go_wp2
      go_ret
      exact ⟨_, rfl, FreshV.take_ HSL.out (by intro h; cases h) (by intro a e; injection e with e; subst e; exact hbg) N (by omega) HFI.out, HB.out⟩
theorem rmgf_no (w : World) (k : Int) (v1 : Value) (N : Int) (h : KindOk k → N < 1 ∨ 65536 < N) :
    Calls Tryd.prog 58 #[.int .i64 k, v1, .int .i64 N] w fun e w' => e = .returned (.slice none 0 0) ∧ w = w' := by
  have hsz := rsize_any w k
  by_cases hk : KindOk k
  · have hp := sizeV_pos hk
    obtain ⟨s, hs⟩ : ∃ s, sizeV k = s := ⟨_, rfl⟩
    rw [hs] at hsz hp
    have ks : ¬ s = 0 := by omega
    have b1 : (s == 0) = false := by simpa using ks
    have HSZ := Lib.hid hsz
    have hN := h hk
    clear hsz hs hk h hp
    by_cases h1 : N < 1
    · clear hN
      have b2 : decide (N < 1) = true := by simpa using h1
      go_enter Tryd.func58, Tryd.ntmps58
      go_wp2_with fail
      refine HSZ.out.mono ?_
      rintro e w' ⟨rfl, rfl⟩
      go_wp2
      go_ret
      exact ⟨rfl, rfl⟩
    · have h2 : 65536 < N := by omega
      have b2 : decide (N < 1) = false := by simpa using h1
      have b3 : decide (65536 < N) = true := by simpa using h2
      clear hN
      go_enter Tryd.func58, Tryd.ntmps58
      go_wp2_with fail
      refine HSZ.out.mono ?_
      rintro e w' ⟨rfl, rfl⟩
      go_wp2
      go_ret
      exact ⟨rfl, rfl⟩
  · rw [sizeV_no hk] at hsz
    have HSZ := Lib.hid hsz
    clear hsz h hk
    go_enter Tryd.func58, Tryd.ntmps58
    go_wp2_with fail
    refine HSZ.out.mono ?_
    rintro e w' ⟨rfl, rfl⟩
    go_wp2
    go_ret
    exact ⟨rfl, rfl⟩
/-- the mask; nothing where the document gives nothing -/
def mgfK (k : Int) (seed : List (BitVec 8)) (N : Int) : List (BitVec 8) := if (1 ≤ k ∧ k ≤ 5) ∧ 1 ≤ N ∧ N ≤ 65536 then mgfL k seed N.toNat else []
theorem mgfK_any (w : World) (k : Int) (hGS : StartsG w) (hGR : RootsG w) (B : Nat) (A : Option Addr) (n c : Nat) (seed : List (BitVec 8)) (hs : SlV w B A n c (seed.map W8)) (hz : A = none → c = 0) (hB : B ≤ w.heap.size) (hn : n + 512 ≤ 17592186044416) (N : Int) :
    Calls Tryd.prog 81 #[.int .i64 k, .slice A n c, .int .i64 N] w fun e w' => ∃ v, e = .returned v ∧ FreshV w' w.heap.size v (mgfK k seed N) ∧ Below w.heap.size w w' := by
  by_cases h : (1 ≤ k ∧ k ≤ 5) ∧ 1 ≤ N ∧ N ≤ 65536
  · obtain ⟨M, rfl⟩ : ∃ M : Nat, N = (M : Int) := ⟨N.toNat, by omega⟩
    refine (mgf_any w k h.1 hGS hGR B A n c seed hs hz hB hn M (by omega) (by omega)).mono ?_
    rintro e w' ⟨v, rfl, ho, hb⟩
    refine ⟨v, rfl, ?_, hb⟩
    rw [mgfK, if_pos h, Int.toNat_natCast]
    exact FreshV.of_own ho
  · refine (mgf_no w k A n c N (fun hk => by have hk' : 1 ≤ k ∧ k ≤ 5 := hk; omega)).mono ?_
    rintro e w' ⟨rfl, hb⟩
    refine ⟨_, rfl, ?_, hb⟩
    rw [mgfK, if_neg h]
    exact FreshV.nil_ _ _
theorem rmgfK_any (w : World) (k : Int) (B : Nat) (A : Option Addr) (n c : Nat) (seed : List (BitVec 8)) (hs : SlV w B A n c (seed.map W8)) (hz : A = none → c = 0) (hB : B ≤ w.heap.size) (hn : n ≤ 1000) (N : Int) :
    Calls Tryd.prog 58 #[.int .i64 k, .slice A n c, .int .i64 N] w fun e w' => ∃ v, e = .returned v ∧ FreshV w' w.heap.size v (mgfK k seed N) ∧ Below w.heap.size w w' := by
  by_cases h : (1 ≤ k ∧ k ≤ 5) ∧ 1 ≤ N ∧ N ≤ 65536
  · obtain ⟨M, rfl⟩ : ∃ M : Nat, N = (M : Int) := ⟨N.toNat, by omega⟩
    refine (rmgf_any w k h.1 B A n c seed hs hz hB hn M (by omega) (by omega)).mono ?_
    rintro e w' ⟨v, rfl, ho, hb⟩
    refine ⟨v, rfl, ?_, hb⟩
    rw [mgfK, if_pos h, Int.toNat_natCast]
    exact ho
  · refine (rmgf_no w k _ N (fun hk => by have hk' : 1 ≤ k ∧ k ≤ 5 := hk; omega)).mono ?_
    rintro e w' ⟨rfl, rfl⟩
    refine ⟨_, rfl, ?_, Below.refl _ _⟩
    rw [mgfK, if_neg h]
    exact FreshV.nil_ _ _
end Go.Proofs.YtnpaidieijlkkaaDoor

/- append to the call's own slice of bytes, nil or not: where the result lies. -/
set_option linter.unusedVariables false
set_option linter.unusedSimpArgs false
namespace Go.Proofs.YtnpaidieijlkkaaDoor
open Go.RowKit

section
variable {P : Program} {t e : TypeId} {z : Value} {sz : Nat} {w : World} {o : Oper} {a : Act}
theorem run_appA (E : Elem P t e z sz) (ty : TypeId) (base : Nat) (v : Value) (k : Nat) (ys : List Value) (hown : w.ownsRow base e 1 v k ys) (A : Option Addr) (m c : Nat) (xs : List Value) (hnil : A = none → c = 0) (B : Nat) (hsl : SlV w B A m c xs) (h1 : Ones xs)
    (hk : k + m ≤ 17592186044416) (hbase : base ≤ w.heap.size) :
    ∃ v' w', (Builtin.append_ #[t, t] ty #[v, .slice A m c]).run P w = .ok v' w' ∧ w'.ownsRow base e 1 v' (k + m) (ys ++ xs) ∧ w.grownBy w' v.ownBlock ∧ (∀ r, v'.ownBlock = some r → v.ownBlock = some r ∨ w.heap.size ≤ r) := by
  obtain ⟨i0, hi, hz0, hz1, hz2⟩ := info_parts E.info
  have hm : m = xs.length := hsl.len
  cases A with
  | none =>
    have hm0 : xs = [] := by
      apply Classical.byContradiction
      intro hn
      obtain ⟨b, off, e, _⟩ := hsl.2.2.2 hn
      cases e
    subst hm0
    obtain rfl : m = 0 := hm
    obtain rfl := hnil rfl
    exact ⟨v, w, run_append_owned_none (P := P) (w := w) base t ty e i0 1 E.sl hi v k ys hown, by simpa using hown, ⟨rfl, rfl, rfl, Nat.le_refl _, fun _ _ _ => rfl⟩, fun r hr => .inl hr⟩
  | some ad =>
    have hc : ∀ j u, xs[j]? = some u → w.cell? (ad.add j) = some u := fun j u hu => by
      obtain ⟨b, off, e, _, hc⟩ := hsl.2.2.2 (by intro e; subst e; simp at hu)
      injection e with e
      subst e
      rw [Addr.add_lit]
      exact hc j u hu
    have hb : (k + m) * sz ≤ 140737488355328 := Nat.le_trans (Nat.mul_le_mul hk E.b8) (by decide)
    have h63 : k + m ≤ maxLen := by simp only [maxLen]; omega
    rcases hown.2 with ⟨e0, e1⟩ | ⟨g0, cap0, cur, e0, hbg, hg, hnc, hcm, hcs, htake⟩
    · have hown' : w.ownsRow w.heap.size e 1 v k ys := ⟨hown.1, .inl ⟨e0, e1⟩⟩
      obtain ⟨v', w', hr, h2, h3, _⟩ := run_append_own (P := P) w w.heap.size t ty e i0 z 1 sz E.sl hi hz0 hz1 hz2 (by rw [E.one]; rfl) (by decide) v k ys hown' ad m c xs (by omega) hc h1 h63 hb (Nat.le_refl _)
      exact ⟨v', w', hr, ⟨h2.1, h2.2.imp id (fun ⟨g, cap, cur, h1, h2, h3⟩ => ⟨g, cap, cur, h1, Nat.le_trans hbase h2, h3⟩)⟩, h3, fun r hr => .inr (h2.lt r hr).1⟩
    · have hown2 : w.ownsRow base e i0.size v k ys := by rw [hz1]; exact hown
      obtain ⟨v', w', hr, h2, h3, _⟩ := run_append_own (P := P) w base t ty e i0 z 1 sz E.sl hi hz0 hz1 hz2 (by rw [E.one]; rfl) (by decide) v k ys hown ad m c xs (by omega) hc h1 h63 hb hbase
      refine ⟨v', w', hr, h2, h3, fun r hr' => ?_⟩
      subst e0
      by_cases hroom : k + m ≤ cap0
      · have hfit : k * i0.size + xs.length ≤ cur.size := by rw [hcs, hz1]; omega
        have hr2 := run_append_room (P := P) w t ty e i0 E.sl hi g0 k cap0 cur hg ad m c xs (by rw [hz1]; omega) hc h1 hroom hfit
        rw [hr] at hr2
        injection hr2 with hr2 _
        rw [hr2] at hr'
        exact .inl hr'
      · have holds : ∀ j u, ys[j]? = some u → w.cell? ((⟨g0, 0, none⟩ : Addr).add j) = some u := hown2.cells (g := g0) rfl
        have hr2 := run_append_grow (P := P) w t ty e i0 z E.sl hi hz0 ⟨g0, 0, none⟩ k cap0 ys hown2.1 holds ad m c xs (by rw [hz1]; omega) hc (by omega) (by omega) (growslice_fits (by omega) (by rw [hz2]; exact hb))
        rw [hr] at hr2
        injection hr2 with hr2 _
        rw [hr2] at hr'
        have hr3 : some w.heap.size = some r := hr'
        injection hr3 with hr3
        exact .inr (by omega)
theorem wp_appA {K : Act → World → Prop} {Q : Exit → Act → World → Prop} (E : Elem P t e z sz) (s x : Operand)
    (ho : o.op = .call { callee := .builtin .append, args := #[s, x], argTypes := #[t, t] })
    (base : Nat) (v : Value) (k : Nat) (ys : List Value) (hs : a.eval s = v) (hown : w.ownsRow base e 1 v k ys) (A : Option Addr) (m c : Nat) (xs : List Value) (hx : a.eval x = .slice A m c) (hnil : A = none → c = 0) (B : Nat) (hsl : SlV w B A m c xs) (h1 : Ones xs)
    (hk : k + m ≤ 17592186044416) (hbase : base ≤ w.heap.size)
    (h : ∀ v' w', w'.ownsRow base e 1 v' (k + m) (ys ++ xs) → w.grownBy w' v.ownBlock → (∀ r, v'.ownBlock = some r → v.ownBlock = some r ∨ w.heap.size ≤ r) → K (a.put o.dst v') w') : Oper.wp P o a w K Q := by
  obtain ⟨v', w', hr, h2, h3, h4⟩ := run_appA E o.type base v k ys hown A m c xs hnil B hsl h1 hk hbase
  unfold Oper.wp execOp
  simp only [ho, resolve, invoke, builtin, Sem.run_bind, Sem.run_pure, Result.andThen_ok, List.map_toArray, List.map_cons, List.map_nil, hs, hx, hr]
  exact h v' w' h2 h3 h4
theorem wlv_appA {ops : Array Oper} {rest : List Oper} {Q : Exit → Act → World → Prop} (E : Elem P t e z sz) (hgd : o.guard = none) (s x : Operand)
    (ho : o.op = .call { callee := .builtin .append, args := #[s, x], argTypes := #[t, t] })
    (base : Nat) (v : Value) (k : Nat) (ys : List Value) (hs : a.eval s = v) (hown : w.ownsRow base e 1 v k ys) (A : Option Addr) (m c : Nat) (xs : List Value) (hx : a.eval x = .slice A m c) (hnil : A = none → c = 0) (B : Nat) (hsl : SlV w B A m c xs) (h1 : Ones xs)
    (hk : k + m ≤ 17592186044416) (hbase : base ≤ w.heap.size)
    (h : ∀ v' w', w'.ownsRow base e 1 v' (k + m) (ys ++ xs) → w.grownBy w' v.ownBlock → (∀ r, v'.ownBlock = some r → v.ownBlock = some r ∨ w.heap.size ≤ r) → wpList P ops Q rest (a.put o.dst v') w') : wpList P ops Q (o :: rest) a w :=
  wpList_plain hgd fun K hK => wp_appA E s x ho base v k ys hs hown A m c xs hx hnil B hsl h1 hk hbase fun v' w' h2 h3 h4 => hK _ _ (h v' w' h2 h3 h4)
end
/-- at a step of a region that draws, under a guard that is open -/
theorem step_appA {P : Program} {t e : TypeId} {z : Value} {sz : Nat} {w : World} {o : Oper} {a : Act} {ops : Array Oper} {E0 : Prop} {K : Act → World → Prop} {Q : Exit → Act → World → Prop} (E : Elem P t e z sz) (hgd : Region.wanted o (yielded ops a.tmps) = true) (s x : Operand)
    (ho : o.op = .call { callee := .builtin .append, args := #[s, x], argTypes := #[t, t] })
    (base : Nat) (v : Value) (k : Nat) (ys : List Value) (hs : a.eval s = v) (hown : w.ownsRow base e 1 v k ys) (A : Option Addr) (m c : Nat) (xs : List Value) (hx : a.eval x = .slice A m c) (hnil : A = none → c = 0) (B : Nat) (hsl : SlV w B A m c xs) (h1 : Ones xs)
    (hk : k + m ≤ 17592186044416) (hbase : base ≤ w.heap.size)
    (h : ∀ v' w', w'.ownsRow base e 1 v' (k + m) (ys ++ xs) → w.grownBy w' v.ownBlock → (∀ r, v'.ownBlock = some r → v.ownBlock = some r ∨ w.heap.size ≤ r) → K (a.put o.dst v') w') :
    if Region.wanted o (yielded ops a.tmps) = true then Oper.wp P o a w K Q else E0 := by
  rw [if_pos hgd]
  exact wp_appA E s x ho base v k ys hs hown A m c xs hx hnil B hsl h1 hk hbase h
/-- the call's own bytes, as a block of their own -/
theorem own_rowV {w : World} {base : Nat} {e : TypeId} {v : Value} {n : Nat} {xs : List Value} (h : w.ownsRow base e 1 v n xs) (hn : 0 < n) :
    ∃ g c ys, v = .slice (some ⟨g, 0, none⟩) n c ∧ base ≤ g ∧ RowV e w g ys ∧ ys.length = c ∧ n ≤ c := by
  rcases h.2 with ⟨e0, h4⟩ | ⟨g, cap, cur, e0, h4, hg, hnc, _, hcs, _⟩
  · have := h.1; subst h4; simp at this; omega
  · exact ⟨g, cap, cur.toList, e0, h4, by unfold RowV; rw [hg], by simpa using hcs, hnc⟩
theorem own_only {w w' : World} {base g : Nat} {e : TypeId} {v : Value} {n : Nat} {xs : List Value} (h : w.ownsRow base e 1 v n xs) (ho : OnlyV w w' g) (hn : v.ownBlock ≠ some g) : w'.ownsRow base e 1 v n xs :=
  own_keep h fun q hq => ho.block q (h.lt q hq).2 (fun e => hn (by rw [hq, e]))
theorem OnlyV.setV {a w : World} {g : Nat} (h : OnlyV a w g) (i : Nat) (u : Value) : OnlyV a (w.setCell ⟨g, i, none⟩ u) g := h.set i u
theorem own_all {w : World} {base : Nat} {e : TypeId} {v : Value} {n : Nat} {xs : List Value} (h : w.ownsRow base e 1 v n xs) :
    ∃ A c, v = .slice A n c ∧ SlV w w.heap.size A n c xs ∧ (A = none → c = 0) := by
  obtain ⟨A, c, rfl, hs, h2, h3⟩ := SlV.of_own h
  refine ⟨A, c, rfl, hs, fun e => ?_⟩
  subst e
  rcases h.2 with ⟨e0, _⟩ | ⟨g, cap, cur, e0, _⟩
  · injection e0
  · injection e0 with e1 _ _
    cases e1
theorem own_sl {w : World} {base : Nat} {e : TypeId} {A : Option Addr} {n c : Nat} {xs : List Value} (h : w.ownsRow base e 1 (.slice A n c) n xs) : SlV w w.heap.size A n c xs := by
  obtain ⟨A', c', e0, hs, _⟩ := SlV.of_own h
  injection e0 with e1 e2 e3
  subst e1 e3
  exact hs
theorem own_later_ {w w' : World} {base : Nat} {e : TypeId} {v : Value} {n : Nat} {vs : List Value} (h : w.ownsRow base e 1 v n vs) (hb : Below w.heap.size w w') : w'.ownsRow base e 1 v n vs := own_keep h (fun q hq => hb.block q (h.lt q hq).2)
theorem HashIs.keep {w w' : World} {g : Nat} {k : Int} {msg : List (BitVec 8)} (h : HashIs w g k msg) (hk : w'.heap[g]? = w.heap[g]?) : HashIs w' g k msg := by
  obtain ⟨left, h1, h2⟩ := h
  exact ⟨left, ⟨hk.trans h1.row, h1.hw, h1.hl⟩, h2⟩
/-- a block of the call's own bytes, or a number that nothing bears -/
theorem own_place {w : World} {bp n c : Nat} {A : Option Addr} {e : TypeId} {xs : List Value} (h : w.ownsRow bp e 1 (.slice A n c) n xs) (lo : Nat) (hlo : lo ≤ bp) (hw : lo ≤ w.heap.size) :
    ∃ gp, lo ≤ gp ∧ (∀ r, r < w.heap.size → (Value.slice A n c).ownBlock ≠ some r → r ≠ gp) ∧ (0 < n → A = some ⟨gp, 0, none⟩ ∧ ∃ ys, RowV e w gp ys ∧ ys.length = c ∧ n ≤ c) := by
  by_cases hn : n = 0
  · exact ⟨w.heap.size, hw, fun r hr _ => by omega, fun h => by omega⟩
  · obtain ⟨g, c', ys, e0, hb, hr, hl, hle⟩ := own_rowV h (by omega)
    injection e0 with e1 e2 e3
    subst e1 e3
    exact ⟨g, by omega, fun r _ hne e => hne (by rw [e]; rfl), fun _ => ⟨rfl, ys, hr, hl, hle⟩⟩
end Go.Proofs.YtnpaidieijlkkaaDoor

/- Pieces in a row: Concat and Of over rows just built. -/
set_option linter.unusedVariables false
set_option linter.unusedSimpArgs false
namespace Go.Proofs.YtnpaidieijlkkaaDoor
open Go.RowKit Go.Shelf

/-- a slice that reads a list -/
def Pc (w : World) (B : Nat) (v : Value) (l : List (BitVec 8)) : Prop := ∃ A c, v = .slice A l.length c ∧ SlV w B A l.length c (l.map W8) ∧ (A = none → c = 0)
theorem Pc.of_sl {w : World} {B n c : Nat} {A : Option Addr} {l : List (BitVec 8)} (h : SlV w B A n c (l.map W8)) (hz : A = none → c = 0) : Pc w B (.slice A n c) l := by
  obtain rfl : n = l.length := by simpa using h.len
  exact ⟨A, c, rfl, h, hz⟩
theorem FreshV.form {w : World} {B : Nat} {v : Value} {l : List (BitVec 8)} (h : FreshV w B v l) : ∃ A n c, v = .slice A n c := by
  obtain ⟨A, c, e, _⟩ := h
  exact ⟨A, _, c, e⟩
theorem FreshV.len_ {w : World} {B n c : Nat} {A : Option Addr} {l : List (BitVec 8)} (h : FreshV w B (.slice A n c) l) : n = l.length := by
  obtain ⟨A', c', e, _⟩ := h
  injection e
theorem FreshV.pc {w : World} {B : Nat} {v : Value} {l : List (BitVec 8)} (h : FreshV w B v l) : Pc w w.heap.size v l := by
  obtain ⟨A, c, e, h1, h2, _⟩ := h
  exact ⟨A, c, e, h1, h2⟩
theorem Pc.later {w w' : World} {B : Nat} {v : Value} {l : List (BitVec 8)} (h : Pc w B v l) (hb : Below B w w') : Pc w' B v l := by
  obtain ⟨A, c, e, h1, h2⟩ := h
  exact ⟨A, c, e, h1.below hb, h2⟩
theorem Pc.more {w : World} {B B' : Nat} {v : Value} {l : List (BitVec 8)} (h : Pc w B v l) (hb : B ≤ B') : Pc w B' v l := by
  obtain ⟨A, c, e, h1, h2⟩ := h
  exact ⟨A, c, e, h1.more hb, h2⟩
theorem Pc.up {w w' : World} {v : Value} {l : List (BitVec 8)} (h : Pc w w.heap.size v l) (hb : Below w.heap.size w w') : Pc w' w'.heap.size v l := (h.later hb).more hb.size
theorem FreshV.up {w w' : World} {B : Nat} {v : Value} {l : List (BitVec 8)} (h : FreshV w B v l) (hb : Below w.heap.size w w') : FreshV w' B v l := by
  obtain ⟨A, c, e, h1, h2, h3⟩ := h
  exact ⟨A, c, e, (h1.below hb).more hb.size, h2, h3⟩
def Pcs (w : World) (B : Nat) : List Value → List (List (BitVec 8)) → Prop
  | [], [] => True
  | v :: vs, l :: ls => Pc w B v l ∧ Pcs w B vs ls
  | _, _ => False
theorem Pcs.len {w : World} {B : Nat} : ∀ {vs : List Value} {ls : List (List (BitVec 8))}, Pcs w B vs ls → vs.length = ls.length
  | [], [], _ => rfl
  | _ :: _, _ :: _, h => by simp [Pcs.len h.2]
  | [], _ :: _, h => h.elim
  | _ :: _, [], h => h.elim
theorem Pcs.at_ {w : World} {B : Nat} : ∀ {vs : List Value} {ls : List (List (BitVec 8))}, Pcs w B vs ls → ∀ (i : Nat) (v : Value) (l : List (BitVec 8)), vs[i]? = some v → ls[i]? = some l → Pc w B v l
  | [], [], _, i, v, l, hv, _ => by simp at hv
  | _ :: _, _ :: _, h, 0, v, l, hv, hl => by cases hv; cases hl; exact h.1
  | _ :: _, _ :: _, h, i + 1, v, l, hv, hl => Pcs.at_ h.2 i v l (by simpa using hv) (by simpa using hl)
  | [], _ :: _, h, _, _, _, _, _ => h.elim
  | _ :: _, [], h, _, _, _, _, _ => h.elim
theorem Pcs.later {w w' : World} {B : Nat} (hb : Below B w w') : ∀ {vs : List Value} {ls : List (List (BitVec 8))}, Pcs w B vs ls → Pcs w' B vs ls
  | [], [], _ => trivial
  | _ :: _, _ :: _, h => ⟨h.1.later hb, Pcs.later hb h.2⟩
  | [], _ :: _, h => h.elim
  | _ :: _, [], h => h.elim
theorem Pcs.more {w : World} {B B' : Nat} (hb : B ≤ B') : ∀ {vs : List Value} {ls : List (List (BitVec 8))}, Pcs w B vs ls → Pcs w B' vs ls
  | [], [], _ => trivial
  | _ :: _, _ :: _, h => ⟨h.1.more hb, Pcs.more hb h.2⟩
  | [], _ :: _, h => h.elim
  | _ :: _, [], h => h.elim
theorem parts_row {w : World} {g B : Nat} {vs : List Value} {ls : List (List (BitVec 8))} (h : RowV 22 w g vs) (hp : Pcs w B vs ls) (hg : g < B) (hl : vs.length ≤ 1000000) : PartsV w B (some ⟨g, 0, none⟩) vs.length vs.length ls :=
  ⟨vs, ⟨rfl, Nat.le_refl _, by omega, fun _ => ⟨g, 0, rfl, hg, fun k v hv => by rw [Nat.zero_add]; exact h.at_ hv⟩⟩, hp.len, fun i v ps hv hq => by
    obtain ⟨A, c, e, h1, h2⟩ := hp.at_ i v ps hv hq
    exact ⟨A, _, c, e, h1, h2⟩⟩
/-- a row of slices just built, with all that they read -/
theorem parts_new (w : World) (vs : List Value) (arr : Array Value) (ha : vs.toArray = arr) (ls : List (List (BitVec 8))) (hp : Pcs w w.heap.size vs ls) (n : Nat) (hn : vs.length = n) (hn2 : n ≤ 1000000) :
    PartsV (w.alloc (.cells arr 22)) (w.alloc (.cells arr 22)).heap.size (some ⟨w.heap.size, 0, none⟩) n n ls ∧ Below w.heap.size w (w.alloc (.cells arr 22)) := by
  obtain ⟨W2, e2, r2, b2, z⟩ := newV w 22 vs arr ha
  rw [e2]
  subst hn
  exact ⟨parts_row r2 ((hp.later b2).more (by omega)) (by omega) hn2, b2⟩
theorem concatA (w : World) (vs : List Value) (arr : Array Value) (ha : vs.toArray = arr) (ls : List (List (BitVec 8))) (hp : Pcs w w.heap.size vs ls) (n : Nat) (hn : vs.length = n) (hn2 : n ≤ 1000000) (hl : ls.flatten.length ≤ 17592186044416) :
    Calls Tryd.prog 53 #[.slice (some ⟨w.heap.size, 0, none⟩) n n] (w.alloc (.cells arr 22)) fun e w' => ∃ v, e = .returned v ∧ FreshV w' w.heap.size v ls.flatten ∧ Below w.heap.size w w' := by
  obtain ⟨hpv, hb⟩ := parts_new w vs arr ha ls hp n hn hn2
  obtain ⟨W2, e2⟩ : ∃ W, w.alloc (.cells arr 22) = W := ⟨_, rfl⟩
  rw [e2] at hpv hb ⊢
  refine (concat_any W2 _ _ n n ls hpv (Nat.le_refl _) hn2 hl).mono ?_
  rintro e w3 ⟨v, rfl, ho, hb3⟩
  exact ⟨v, rfl, (FreshV.of_own ho).mono_ hb.size, hb.trans (hb3.mono hb.size)⟩
theorem ofA (w : World) (k : Int) (hG : StartsG w) (hR : RootsG w) (vs : List Value) (arr : Array Value) (ha : vs.toArray = arr) (ls : List (List (BitVec 8))) (hp : Pcs w w.heap.size vs ls) (n : Nat) (hn : vs.length = n) (hn2 : n ≤ 1000000) (hl : ls.flatten.length + 256 ≤ 17592186044416) :
    Calls Tryd.prog 54 #[.int .i64 k, .slice (some ⟨w.heap.size, 0, none⟩) n n] (w.alloc (.cells arr 22)) fun e w' => ∃ v, e = .returned v ∧ FreshV w' w.heap.size v (sumK k ls.flatten) ∧ Below w.heap.size w w' := by
  obtain ⟨hpv, hb⟩ := parts_new w vs arr ha ls hp n hn hn2
  obtain ⟨W2, e2⟩ : ∃ W, w.alloc (.cells arr 22) = W := ⟨_, rfl⟩
  rw [e2] at hpv hb ⊢
  refine (hofK_any W2 k (hG.later hb) (hR.later hb) _ _ n n ls hpv (Nat.le_refl _) (by omega) hl).mono ?_
  rintro e w3 ⟨v, rfl, ho, hb3⟩
  exact ⟨v, rfl, ho.mono_ hb.size, hb.trans (hb3.mono hb.size)⟩
/-- a literal of bytes, just built -/
theorem freshA (w : World) (l : List (BitVec 8)) (arr : Array Value) (ha : (l.map W8).toArray = arr) (n : Nat) (hn : l.length = n) (hl : n ≤ 1000000) :
    FreshV (w.alloc (.cells arr 5)) w.heap.size (.slice (some ⟨w.heap.size, 0, none⟩) n n) l ∧ Below w.heap.size w (w.alloc (.cells arr 5)) := by
  obtain ⟨W2, e2, r2, b2, z⟩ := newV w 5 (l.map W8) arr ha
  rw [e2]
  exact ⟨FreshV.row_ r2 (Nat.le_refl _) hn (by omega), b2⟩
end Go.Proofs.YtnpaidieijlkkaaDoor

/- pad: kinds, identifiers, elements, Info. -/
set_option linter.unusedVariables false
set_option linter.unusedSimpArgs false
namespace Go.Proofs.YtnpaidieijlkkaaDoor
open Go.RowKit Go.Shelf

def okB (k : Int) (n : Nat) : Bool := decide (0 < sizeV k ∧ (n : Int) = sizeV k)
theorem sizeV_bd (k : Int) : 0 ≤ sizeV k ∧ sizeV k ≤ 64 := by
  unfold sizeV
  split; decide
  split; decide
  split; decide
  split; decide
  split; decide
  decide
set_option maxRecDepth 100000 in
theorem pishash_any (w : World) (k : Int) (A : Option Addr) (n c : Nat) :
    Calls Tryd.prog 42 #[.int .i64 k, .slice A n c] w fun e w' => e = .returned (.bool (okB k n)) ∧ w = w' := by
  have hs := size_any w k
  obtain ⟨z, hz⟩ : ∃ z, sizeV k = z := ⟨_, rfl⟩
  have hzb := sizeV_bd k
  rw [hz] at hs hzb
  have hz0 := hzb.1
  have hz64 := hzb.2
  have HS := Lib.hid hs
  have hok : okB k n = decide (0 < z ∧ (n : Int) = z) := by rw [okB, hz]
  rw [hok]
  clear hs hz hok hzb
  by_cases h0 : 0 < z
  · by_cases h1 : (n : Int) = z
    · rw [decide_eq_true (⟨h0, h1⟩ : 0 < z ∧ (n : Int) = z)]
      have hb : ((n : Int) == z) = true := by simpa using h1
      have HH := Lib.hid h1
      clear h1
      go_enter Tryd.func42, Tryd.ntmps42
      go_wp2_with fail
      refine HS.out.mono ?_
      rintro e w' ⟨rfl, rfl⟩
      go_wp2
      go_ret
      exact ⟨by first | rfl | simp [hb] | (simp [HH.out]), rfl⟩
    · rw [decide_eq_false (fun h : 0 < z ∧ (n : Int) = z => h1 h.2)]
      have hb : ((n : Int) == z) = false := by simpa using h1
      go_enter Tryd.func42, Tryd.ntmps42
      go_wp2_with fail
      refine HS.out.mono ?_
      rintro e w' ⟨rfl, rfl⟩
      go_wp2
      go_ret
      exact ⟨by first | rfl | simp [hb] | (simp [h1]), rfl⟩
  · rw [decide_eq_false (fun h : 0 < z ∧ (n : Int) = z => h0 h.1)]
    go_enter Tryd.func42, Tryd.ntmps42
    go_wp2_with fail
    refine HS.out.mono ?_
    rintro e w' ⟨rfl, rfl⟩
    go_wp2
    go_ret
    exact ⟨rfl, rfl⟩
def sha2L (x : BitVec 8) : List (BitVec 8) := [0x60, 0x86, 0x48, 0x01, 0x65, 0x03, 0x04, 0x02, x]
theorem psha2_any (w : World) (x : BitVec 8) :
    Calls Tryd.prog 73 #[W8 x] w fun e w' => ∃ v, e = .returned v ∧ FreshV w' w.heap.size v (sha2L x) ∧ Below w.heap.size w w' := by
  have hf := freshA w (sha2L x) #[.int .u8 96, .int .u8 134, .int .u8 72, .int .u8 1, .int .u8 101, .int .u8 3, .int .u8 4, .int .u8 2, W8 x] rfl 9 rfl (by decide)
  obtain ⟨W1, e1⟩ : ∃ W, w.alloc (.cells #[.int .u8 96, .int .u8 134, .int .u8 72, .int .u8 1, .int .u8 101, .int .u8 3, .int .u8 4, .int .u8 2, W8 x] 5) = W := ⟨_, rfl⟩
  rw [e1] at hf
  have HF := Lib.hid hf
  clear hf
  go_enter Tryd.func73, Tryd.ntmps73
  go_wp2
  go_ret
  exact ⟨_, rfl, HF.out.1, HF.out.2⟩
def oidL (k : Int) : List (BitVec 8) := if k = 1 then [0x2b, 0x0e, 0x03, 0x02, 0x1a] else if k = 2 then sha2L 4 else if k = 3 then sha2L 1 else if k = 4 then sha2L 2 else sha2L 3
theorem oidL_le (k : Int) : (oidL k).length ≤ 9 := by
  unfold oidL
  split; decide
  split; decide
  split; decide
  split; decide
  decide
set_option maxRecDepth 100000 in
theorem pident_any (w : World) (k : Int) :
    Calls Tryd.prog 44 #[.int .i64 k] w fun e w' => ∃ v, e = .returned v ∧ FreshV w' w.heap.size v (oidL k) ∧ Below w.heap.size w w' := by
  by_cases h1 : k = 1
  · subst h1
    have hf := freshA w (oidL 1) #[.int .u8 43, .int .u8 14, .int .u8 3, .int .u8 2, .int .u8 26] rfl 5 rfl (by decide)
    obtain ⟨W1, e1⟩ : ∃ W, w.alloc (.cells #[.int .u8 43, .int .u8 14, .int .u8 3, .int .u8 2, .int .u8 26] 5) = W := ⟨_, rfl⟩
    rw [e1] at hf
    have HF := Lib.hid hf
    clear hf
    go_enter Tryd.func44, Tryd.ntmps44
    go_wp2
    go_ret
    exact ⟨_, rfl, HF.out.1, HF.out.2⟩
  · have k1 : (k == 1) = false := by simpa using h1
    by_cases h2 : k = 2
    · subst h2
      have hs := psha2_any w 4
      have HS := Lib.hid hs
      clear hs
      go_enter Tryd.func44, Tryd.ntmps44
      go_wp2_with fail
      refine HS.out.mono ?_
      rintro e w1 ⟨v, rfl, hf, hb⟩
      have HF := Lib.hid hf
      clear hf
      go_wp2
      go_ret
      exact ⟨_, rfl, HF.out, hb⟩
    · have k2 : (k == 2) = false := by simpa using h2
      by_cases h3 : k = 3
      · subst h3
        have hs := psha2_any w 1
        have HS := Lib.hid hs
        clear hs
        go_enter Tryd.func44, Tryd.ntmps44
        go_wp2_with fail
        refine HS.out.mono ?_
        rintro e w1 ⟨v, rfl, hf, hb⟩
        have HF := Lib.hid hf
        clear hf
        go_wp2
        go_ret
        exact ⟨_, rfl, HF.out, hb⟩
      · have k3 : (k == 3) = false := by simpa using h3
        by_cases h4 : k = 4
        · subst h4
          have hs := psha2_any w 2
          have HS := Lib.hid hs
          clear hs
          go_enter Tryd.func44, Tryd.ntmps44
          go_wp2_with fail
          refine HS.out.mono ?_
          rintro e w1 ⟨v, rfl, hf, hb⟩
          have HF := Lib.hid hf
          clear hf
          go_wp2
          go_ret
          exact ⟨_, rfl, HF.out, hb⟩
        · have k4 : (k == 4) = false := by simpa using h4
          have hs := psha2_any w 3
          have HS := Lib.hid hs
          have ho : oidL k = sha2L 3 := by rw [oidL, if_neg h1, if_neg h2, if_neg h3, if_neg h4]
          have HO := Lib.hid ho
          clear hs ho
          go_enter Tryd.func44, Tryd.ntmps44
          go_wp2_with fail
          refine HS.out.mono ?_
          rintro e w1 ⟨v, rfl, hf, hb⟩
          have HF := Lib.hid hf
          clear hf
          go_wp2
          go_ret
          rw [HO.out]
          exact ⟨_, rfl, HF.out, hb⟩
def elemL (tag : BitVec 8) (body : List (BitVec 8)) : List (BitVec 8) := tag :: BitVec.ofNat 8 body.length :: body
theorem elemL_length (tag : BitVec 8) (body : List (BitVec 8)) : (elemL tag body).length = body.length + 2 := by simp [elemL]
theorem W8_ofNat (k : Nat) (h : k < 256) : W8 (BitVec.ofNat 8 k) = .int .u8 (k : Int) := by
  show Value.int .u8 (i8 (BitVec.ofNat 8 k)) = _
  congr 1
  unfold i8
  rw [BitVec.toNat_ofNat]
  omega
set_option maxRecDepth 100000 in
set_option maxHeartbeats 1000000 in
theorem pelem_any (w : World) (tag : BitVec 8) (B : Nat) (A : Option Addr) (n c : Nat) (pss : List (List (BitVec 8))) (hs : PartsV w B A n c pss) (hB : B ≤ w.heap.size) (hn : n ≤ 1000000) (hl : pss.flatten.length < 128) :
    Calls Tryd.prog 43 #[W8 tag, .slice A n c] w fun e w' => ∃ v, e = .returned v ∧ FreshV w' w.heap.size v (elemL tag pss.flatten) ∧ Below w.heap.size w w' := by
  have hc := concat_any w B A n c pss hs hB hn (by omega)
  obtain ⟨body, hbody⟩ : ∃ l, pss.flatten = l := ⟨_, rfl⟩
  rw [hbody] at hc hl ⊢
  obtain ⟨L, hL⟩ : ∃ L, body.length = L := ⟨_, rfl⟩
  rw [hL] at hc hl
  obtain ⟨g, hg⟩ : ∃ g, w.heap.size = g := ⟨_, rfl⟩
  rw [hg] at hc ⊢
  have hLI : (L : Int) < 128 := by omega
  have HC := Lib.hid hc
  have HL := Lib.hid hL
  have HLB := Lib.hid hl
  have HG := Lib.hid hg
  clear hc hL hbody hs hn hB hl hg
  go_enter Tryd.func43, Tryd.ntmps43
  go_wp2_with fail
  refine HC.out.mono ?_
  rintro e w1 ⟨v, rfl, hown, hb1⟩
  obtain ⟨A1, c1, rfl, hsl, hz⟩ := own_all hown
  have hf := freshA w1 [tag, BitVec.ofNat 8 L] #[W8 tag, .int .u8 (L : Int)] (by show #[W8 tag, W8 (BitVec.ofNat 8 L)] = _; rw [W8_ofNat L (by have := HLB.out; omega)]) 2 rfl (by decide)
  obtain ⟨W2, e2⟩ : ∃ W, w1.alloc (.cells #[W8 tag, .int .u8 (L : Int)] 5) = W := ⟨_, rfl⟩
  rw [e2] at hf
  have hcc := concatA W2 [.slice (some ⟨w1.heap.size, 0, none⟩) 2 2, .slice A1 L c1] #[.slice (some ⟨w1.heap.size, 0, none⟩) 2 2, .slice A1 L c1] rfl [[tag, BitVec.ofNat 8 L], body] ⟨hf.1.pc, (Pc.of_sl hsl hz).up hf.2, trivial⟩ 2 rfl (by decide) (by simp [HL.out]; have := HLB.out; omega)
  have HCC := Lib.hid hcc
  have hg1 : g ≤ w1.heap.size := by have := hb1.size; have := HG.out; omega
  have hb2 : Below g w W2 := hb1.trans (hf.2.mono hg1)
  have hgs : g ≤ W2.heap.size := Nat.le_trans hg1 hf.2.size
  have HB2 := Lib.hid hb2
  have HGS := Lib.hid hgs
  clear hcc hf hsl hown hb1 hb2 hgs hz
  go_wp2_with fail
  refine HCC.out.mono ?_
  rintro e w3 ⟨v3, rfl, hf3, hb3⟩
  have HF3 := Lib.hid (hf3.mono_ HGS.out)
  have HB3 := Lib.hid (HB2.out.trans (hb3.mono HGS.out))
  clear hf3 hb3
  go_wp2
  go_ret
  refine ⟨_, rfl, ?_, HB3.out⟩
  have h := HF3.out
  rw [elemL, HL.out]
  simpa using h
end Go.Proofs.YtnpaidieijlkkaaDoor

/- pad: the mask. -/
set_option linter.unusedVariables false
set_option linter.unusedSimpArgs false
namespace Go.Proofs.YtnpaidieijlkkaaDoor
open Go.RowKit Go.Shelf

theorem own_row2 {w : World} {base : Nat} {e : TypeId} {v : Value} {n : Nat} {xs : List Value} (h : w.ownsRow base e 1 v n xs) (hn : 0 < n) :
    ∃ g c ys, v = .slice (some ⟨g, 0, none⟩) n c ∧ base ≤ g ∧ RowV e w g ys ∧ ys.length = c ∧ n ≤ c ∧ c ≤ maxLen ∧ ys.take n = xs := by
  rcases h.2 with ⟨e0, h4⟩ | ⟨g, cap, cur, e0, h4, hg, hnc, hm, hcs, ht⟩
  · omega
  · exact ⟨g, cap, cur.toList, e0, h4, by unfold RowV; rw [hg], by simpa using hcs, hnc, hm, by simpa using ht⟩
theorem own_of_row {w : World} {base g : Nat} {e : TypeId} {n c : Nat} {ys xs : List Value} (h : RowV e w g ys) (hb : base ≤ g) (hl : ys.length = c) (hn : n ≤ c) (hm : c ≤ maxLen) (ht : ys.take n = xs) : w.ownsRow base e 1 (.slice (some ⟨g, 0, none⟩) n c) n xs :=
  ⟨by rw [← ht, List.length_take]; omega, .inr ⟨g, c, ys.toArray, rfl, hb, h, hn, hm, by simpa using hl, by simpa using ht⟩⟩
def xorL (a b : List (BitVec 8)) : List (BitVec 8) := List.zipWith (· ^^^ ·) a b
theorem xorL_comm (a b : List (BitVec 8)) : xorL a b = xorL b a := by
  unfold xorL
  rw [List.zipWith_comm]
  congr 1
  funext x y
  exact BitVec.xor_comm _ _
theorem xorL_length (a b : List (BitVec 8)) : (xorL a b).length = min a.length b.length := by simp [xorL]
theorem xorL_at {a b : List (BitVec 8)} {i : Nat} {x y : BitVec 8} (h1 : a[i]? = some x) (h2 : b[i]? = some y) : (xorL a b)[i]? = some (x ^^^ y) := by
  rw [xorL, List.getElem?_zipWith, h1, h2]
theorem xorL_twice {a b : List (BitVec 8)} (h : a.length ≤ b.length) : xorL (xorL a b) b = a := by
  induction a generalizing b with
  | nil => rfl
  | cons x a ih =>
    cases b with
    | nil => simp at h
    | cons y b =>
      have := ih (b := b) (by simpa using h)
      simp only [xorL, List.zipWith_cons_cons] at this ⊢
      rw [this, BitVec.xor_assoc, BitVec.xor_self, BitVec.xor_zero]
set_option maxRecDepth 100000 in
set_option maxHeartbeats 2000000 in
theorem pmasked_any (w : World) (k : Int) (hk : KindOk k) (hGS : StartsG w) (hGR : RootsG w) (B : Nat) (A1 : Option Addr) (n1 c1 : Nat) (b : List (BitVec 8)) (h1 : SlV w B A1 n1 c1 (b.map W8)) (A2 : Option Addr) (n2 c2 : Nat) (sd : List (BitVec 8)) (h2 : SlV w B A2 n2 c2 (sd.map W8)) (z2 : A2 = none → c2 = 0) (hB : B ≤ w.heap.size) (hn1 : 1 ≤ n1) (hn1' : n1 ≤ 65536) (hn2 : n2 ≤ 1000000) :
    Calls Tryd.prog 55 #[.int .i64 k, .slice A1 n1 c1, .slice A2 n2 c2] w fun e w' => ∃ v, e = .returned v ∧ w'.ownsRow w.heap.size 5 1 v n1 ((xorL b (mgfL k sd n1)).map W8) ∧ Below w.heap.size w w' := by
  have hm := mgf_any w k hk hGS hGR B A2 n2 c2 sd h2 z2 hB (by omega) n1 hn1 hn1'
  obtain ⟨X, hX⟩ : ∃ X, mgfL k sd n1 = X := ⟨_, rfl⟩
  have hXl : X.length = n1 := by rw [← hX]; exact mgfL_length hk _ _
  rw [hX] at hm ⊢
  have hbl : b.length = n1 := by simpa using h1.len.symm
  obtain ⟨M, hM⟩ : ∃ M, xorL X b = M := ⟨_, rfl⟩
  have hMl : M.length = n1 := by rw [← hM, xorL_length]; omega
  rw [xorL_comm, hM]
  obtain ⟨b1, o1, _, rfl, hb1l, _, _⟩ := h1.at_ (k := 0) (by omega)
  obtain ⟨G, hG⟩ : ∃ g, w.heap.size = g := ⟨_, rfl⟩
  rw [hG] at hm ⊢
  have hBG : B ≤ G := by omega
  have i1 : (n1 : Int) ≤ 65536 := by omega
  have i0 : (1 : Int) ≤ n1 := by omega
  have HM := Lib.hid hm
  have HX := Lib.hid hXl
  have HBL := Lib.hid hbl
  have HMX := Lib.hid hM
  have HML := Lib.hid hMl
  have HS1 := Lib.hid h1
  have HG := Lib.hid hG
  clear hm hXl hbl hM hMl h1 h2 hG hGS hGR hX hn2 z2
  go_enter Tryd.func55, Tryd.ntmps55
  go_wp2_with fail
  refine HM.out.mono ?_
  rintro e w1 ⟨v, rfl, hown, hb1⟩
  obtain ⟨g, c, ys, rfl, hgB, hrow, hyl, hnc, hcm, htk⟩ := own_row2 hown (by omega)
  have hcI : (n1 : Int) ≤ c := by omega
  have HYL := Lib.hid hyl
  have HTK := Lib.hid htk
  have HNC := Lib.hid (⟨hnc, hcm⟩ : n1 ≤ c ∧ c ≤ maxLen)
  have hrow0 : RowV 5 w1 g ((M.map W8).take 0 ++ ys.drop 0) := by simpa using hrow
  have HR0 := Lib.hid hrow0
  have HB1 := Lib.hid hb1
  clear hown hrow hrow0 hyl htk hnc hcm hb1
  go_wp2
  go_loopw [17] (fun i wr => ∃ j : Nat, j ≤ n1 ∧ i = .int .i64 (j : Int) ∧ Hid (RowV 5 wr g ((M.map W8).take j ++ ys.drop j)) ∧ Hid (Below G w wr)) (fun i _ => n1 - (intOf i).toNat)
  case atStart => exact ⟨0, by omega, rfl, HR0, HB1⟩
  case round =>
    obtain ⟨j, hj, rfl, HR, HB⟩ := hrel
    by_cases hjn : j = n1
    · subst hjn
      go_wp2
      go_ret
      refine ⟨_, rfl, ?_, HB.out⟩
      have hr := HR.out
      rw [List.take_of_length_le (by rw [List.length_map]; exact Nat.le_of_eq HML.out)] at hr
      refine own_of_row hr hgB ?_ HNC.out.1 HNC.out.2 ?_
      · rw [List.length_append, List.length_map, HML.out, List.length_drop, HYL.out]
        have := HNC.out.1
        omega
      · rw [List.take_left' (by rw [List.length_map, HML.out])]
    · have hji : (j : Int) < n1 := by omega
      have hjl : j < n1 := by omega
      obtain ⟨x, hx⟩ : ∃ x, b[j]? = some x := ⟨_, List.getElem?_eq_getElem (by have := HBL.out; omega)⟩
      obtain ⟨y, hy⟩ : ∃ y, X[j]? = some y := ⟨_, List.getElem?_eq_getElem (by have := HX.out; omega)⟩
      have hyy : ys[j]? = some (W8 y) := by
        have h := congrArg (fun l => l[j]?) HTK.out
        simp only [List.getElem?_take, if_pos hjl, List.getElem?_map, hy, Option.map_some] at h
        exact h
      have hMj : (M.map W8)[j]? = some (W8 (y ^^^ x)) := by rw [List.getElem?_map, ← HMX.out, xorL_at hy hx]; rfl
      have hcb : wr.cell? ⟨b1, o1 + j, none⟩ = some (W8 x) := by
        obtain ⟨b', o', v', e', _, hv', hc'⟩ := (HS1.out.below (HB.out.mono hBG)).at_ (k := j) hjl
        injection e' with e'
        injection e' with e1 e2 _
        subst e1 e2
        rw [List.getElem?_map, hx] at hv'
        cases hv'
        exact hc'
      have hcl : wr.cell? ⟨g, j, none⟩ = some (W8 y) := HR.out.at_ (by rw [mid_get _ _ _ (by rw [List.length_map]; have := HML.out; omega), hyy])
      have hfz := HR.out.frozen j
      have hr2 := HR.out.set j (W8 (y ^^^ x))
      rw [mid_set _ _ _ _ hMj (by have := HYL.out; have := HNC.out.1; omega)] at hr2
      have hB2 := below_setV HB.out hgB j (W8 (y ^^^ x))
      have hxo := b8_xor y x
      have hjc : (j : Int) < c := by omega
      have HR2 := Lib.hid hr2
      have HB2 := Lib.hid hB2
      clear hr2 hB2 hx hy hyy hMj
      go_wp2
      go_roundw
      case rel => exact ⟨j + 1, by omega, by go_num, HR2, HB2⟩
      case measure => simp [intOf]; omega
end Go.Proofs.YtnpaidieijlkkaaDoor

/- The library contracts that are laid beside those of the first laying: the same tool, the same form. -/
namespace Go.Proofs
open Go.Shelf
def Tryd.laysNm237_ren : Go.Shelf.Ren := ⟨fun | 37 => 135 | n => n, fun | 3 => 3 | 4 => 4 | n => n, fun | n => n⟩
theorem Tryd.laysNm237 : Go.Proofs.Lays2.n37 Tryd.prog Tryd.laysNm237_ren := {
  mixed := by kernel_rfl
  f37 := Tryd.func135.trans (congrArg some (by kernel_rfl))
  t3 := Tryd.underlying3
  a3 := Tryd.isAgg3
  z3 := Tryd.sizeOf3
  v3 := Tryd.zeroValue3
  t4 := Tryd.underlying4
  a4 := Tryd.isAgg4
  z4 := Tryd.sizeOf4
  v4 := Tryd.zeroValue4 }
open Go.RowKit Go.Lib in
/-- cmp.isNaN[int]: 'x != x': false. (LAID: no walk: one application.) -/
theorem Tryd.cmp_isNaN_int2 (x : Int) (w : World) :
    Calls Tryd.prog 135 #[.int .i64 x] w fun e w' => e = .returned (.bool false) ∧ w' = w := Any.cmp_isNaN_int2 Tryd.laysNm237 x w
def Tryd.lays187_ren : Go.Shelf.Ren := ⟨fun | 187 => 50 | 255 => 76 | n => n, fun | 37 => 22 | 5 => 5 | 3 => 3 | n => n, fun | n => n⟩
theorem Tryd.lays187 : Go.Proofs.Lays.n187 Tryd.prog Tryd.lays187_ren := {
  mixed := by kernel_rfl
  f187 := Tryd.func50.trans (congrArg some (by kernel_rfl))
  f255 := Tryd.func76.trans (congrArg some (by kernel_rfl))
  t3 := Tryd.underlying3
  a3 := Tryd.isAgg3
  z3 := Tryd.sizeOf3
  v3 := Tryd.zeroValue3
  t5 := Tryd.underlying5
  a5 := Tryd.isAgg5
  z5 := Tryd.sizeOf5
  v5 := Tryd.zeroValue5
  t37 := Tryd.underlying22
  a37 := Tryd.isAgg22
  z37 := Tryd.sizeOf22
  v37 := Tryd.zeroValue22 }
open Go.RowKit Go.Lib in
/-- bytes.IndexByte, b at whatever address: "IndexByte returns the index of the first instance of c in b, or -1 if c is not present in b." (LAID: no walk: one application.) -/
theorem Tryd.bytes_IndexByte_at (a : Addr) (n c : Nat) (xs : List Int) (cv : Int) (w : World) (hx : xs.length = n) (hc : ∀ i, i < n → w.cell? (a.add i) = some (.int .u8 (xs.getD i 0))) :
    Calls Tryd.prog 50 #[.slice (some a) n c, .int .u8 cv] w fun e w' => e = .returned (.int .i64 (Lib.indexByte (Lib.bytesOf xs) cv.toNat.toUInt8)) ∧ w' = w := Any.bytes_IndexByte_at Tryd.lays187 a n c xs cv w hx hc
open Go.Proofs Go.RowKit Go.Lib in
/-- bytes.IndexByte, the slice's bytes told by a ByteArray. (LAID: no walk: one application.) -/
theorem Tryd.bytes_IndexByte_bytes (b o cap : Nat) (t : ByteArray) (cv : Int) (w : World) (hc : Lib.Bytes w b o t) :
    Calls Tryd.prog 50 #[.slice (some ⟨b, o, none⟩) t.size cap, .int .u8 cv] w fun e w' => e = .returned (.int .i64 (Lib.indexByte t.data.toList cv.toNat.toUInt8)) ∧ w' = w := Any.bytes_IndexByte_bytes Tryd.lays187 b o cap t cv w hc
def Tryd.lays115_ren : Go.Shelf.Ren := ⟨fun | 115 => 65 | n => n, fun | 37 => 22 | 4 => 4 | 9 => 9 | 5 => 5 | n => n, fun | n => n⟩
theorem Tryd.lays115 : Go.Proofs.Lays.n115 Tryd.prog Tryd.lays115_ren := {
  mixed := by kernel_rfl
  f115 := Tryd.func65.trans (congrArg some (by kernel_rfl))
  t4 := Tryd.underlying4
  a4 := Tryd.isAgg4
  z4 := Tryd.sizeOf4
  v4 := Tryd.zeroValue4
  t9 := Tryd.underlying9
  a9 := Tryd.isAgg9
  z9 := Tryd.sizeOf9
  v9 := Tryd.zeroValue9
  t37 := Tryd.underlying22
  a37 := Tryd.isAgg22
  z37 := Tryd.sizeOf22
  v37 := Tryd.zeroValue22 }
open Go.Proofs Go.RowKit Go.Lib in
/-- bytes.Equal, each argument with what 'string(..)' of it gives. (LAID: no walk: one application.) -/
theorem Tryd.bytes_Equal_strs (v1 v2 : Value) (t1 t2 : ByteArray) (w : World) (h1 : (convert 22 9 v1).run Tryd.prog w = .ok (.string t1) w) (h2 : (convert 22 9 v2).run Tryd.prog w = .ok (.string t2) w) :
    Calls Tryd.prog 65 #[v1, v2] w fun e w' => e = .returned (.bool (t1.toList == t2.toList)) ∧ w' = w := Any.bytes_Equal_strs Tryd.lays115 v1 v2 t1 t2 w h1 h2
def Tryd.laysnb116_ren : Go.Shelf.Ren := ⟨fun | 116 => 75 | 115 => 65 | n => n, fun | 37 => 22 | 4 => 4 | 3 => 3 | 9 => 9 | 5 => 5 | n => n, fun | n => n⟩
theorem Tryd.laysnb116 : Go.Proofs.Lays.nb116 Tryd.prog Tryd.laysnb116_ren := {
  mixed := by kernel_rfl
  f115 := Tryd.func65.trans (congrArg some (by kernel_rfl))
  f116 := Tryd.func75.trans (congrArg some (by kernel_rfl))
  t3 := Tryd.underlying3
  a3 := Tryd.isAgg3
  z3 := Tryd.sizeOf3
  v3 := Tryd.zeroValue3
  t4 := Tryd.underlying4
  a4 := Tryd.isAgg4
  z4 := Tryd.sizeOf4
  v4 := Tryd.zeroValue4
  t9 := Tryd.underlying9
  a9 := Tryd.isAgg9
  z9 := Tryd.sizeOf9
  v9 := Tryd.zeroValue9
  t37 := Tryd.underlying22
  a37 := Tryd.isAgg22
  z37 := Tryd.sizeOf22
  v37 := Tryd.zeroValue22
  t5 := Tryd.underlying5
  a5 := Tryd.isAgg5
  z5 := Tryd.sizeOf5
  v5 := Tryd.zeroValue5 }
theorem Tryd.bytes_HasPrefix_e2 (p1 p2 : Option Addr) (n c d : Nat) (w : World) :
    Calls Tryd.prog 75 #[.slice p1 n c, .slice p2 0 d] w fun e w' => e = .returned (.bool true) ∧ w' = w := Any.bytes_HasPrefix_e2 Tryd.laysnb116 p1 p2 n c d w
theorem Tryd.bytes_HasPrefix_e1 (p1 p2 : Option Addr) (c m d : Nat) (hm : 0 < m) (w : World) :
    Calls Tryd.prog 75 #[.slice p1 0 c, .slice p2 m d] w fun e w' => e = .returned (.bool false) ∧ w' = w := Any.bytes_HasPrefix_e1 Tryd.laysnb116 p1 p2 c m d hm w
def Tryd.laysnb141_ren : Go.Shelf.Ren := ⟨fun | 141 => 49 | 116 => 75 | 115 => 65 | n => n, fun | 37 => 22 | 4 => 4 | 3 => 3 | 9 => 9 | 5 => 5 | n => n, fun | n => n⟩
theorem Tryd.laysnb141 : Go.Proofs.Lays.nb141 Tryd.prog Tryd.laysnb141_ren := {
  mixed := by kernel_rfl
  f115 := Tryd.func65.trans (congrArg some (by kernel_rfl))
  f116 := Tryd.func75.trans (congrArg some (by kernel_rfl))
  f141 := Tryd.func49.trans (congrArg some (by kernel_rfl))
  t3 := Tryd.underlying3
  a3 := Tryd.isAgg3
  z3 := Tryd.sizeOf3
  v3 := Tryd.zeroValue3
  t4 := Tryd.underlying4
  a4 := Tryd.isAgg4
  z4 := Tryd.sizeOf4
  v4 := Tryd.zeroValue4
  t9 := Tryd.underlying9
  a9 := Tryd.isAgg9
  z9 := Tryd.sizeOf9
  v9 := Tryd.zeroValue9
  t37 := Tryd.underlying22
  a37 := Tryd.isAgg22
  z37 := Tryd.sizeOf22
  v37 := Tryd.zeroValue22
  t5 := Tryd.underlying5
  a5 := Tryd.isAgg5
  z5 := Tryd.sizeOf5
  v5 := Tryd.zeroValue5 }
theorem Tryd.bytes_CutPrefix_e2 (p1 p2 : Option Addr) (n c d : Nat) (_hnc : n ≤ c) (w : World) :
    Calls Tryd.prog 49 #[.slice p1 n c, .slice p2 0 d] w fun e w' => e = .returned (.tuple #[.slice p1 n c, .bool true]) ∧ w' = w := Any.bytes_CutPrefix_e2 Tryd.laysnb141 p1 p2 n c d _hnc w
theorem Tryd.bytes_CutPrefix_e1 (p1 p2 : Option Addr) (c m d : Nat) (hm : 0 < m) (w : World) :
    Calls Tryd.prog 49 #[.slice p1 0 c, .slice p2 m d] w fun e w' => e = .returned (.tuple #[.slice p1 0 c, .bool false]) ∧ w' = w := Any.bytes_CutPrefix_e1 Tryd.laysnb141 p1 p2 c m d hm w
/-- bytes.HasPrefix: WHOLE: each argument nil, or of no byte at whatever address, or at an address with its cells. (LAID: no walk: one application.) -/
theorem Tryd.bytes_HasPrefix_all (p1 p2 : Option Addr) (n c m d : Nat) (xs ys : List Int) (w : World) (hx : xs.length = n) (hy : ys.length = m) (hnc : n ≤ c) (h1 : Lib.BytesIn w p1 n xs) (h2 : Lib.BytesIn w p2 m ys) :
    Calls Tryd.prog 75 #[.slice p1 n c, .slice p2 m d] w fun e w' => e = .returned (.bool (Lib.hasPrefix (Lib.bytesOf xs) (Lib.bytesOf ys))) ∧ w' = w := Any.bytes_HasPrefix_all Tryd.laysnb116 p1 p2 n c m d xs ys w hx hy hnc h1 h2
/-- bytes.CutPrefix: WHOLE. (LAID: no walk: one application.) -/
theorem Tryd.bytes_CutPrefix_all (p1 p2 : Option Addr) (n c m d : Nat) (xs ys : List Int) (w : World) (hx : xs.length = n) (hy : ys.length = m) (hnc : n ≤ c) (h1 : Lib.BytesIn w p1 n xs) (h2 : Lib.BytesIn w p2 m ys) :
    Calls Tryd.prog 49 #[.slice p1 n c, .slice p2 m d] w fun e w' => e = .returned (.tuple #[Lib.trimPrefixV p1 n c xs ys, .bool (Lib.hasPrefix (Lib.bytesOf xs) (Lib.bytesOf ys))]) ∧ w' = w := Any.bytes_CutPrefix_all Tryd.laysnb141 p1 p2 n c m d xs ys w hx hy hnc h1 h2
def Tryd.laysnb115_ren : Go.Shelf.Ren := ⟨fun | 115 => 65 | n => n, fun | 37 => 22 | 4 => 4 | 9 => 9 | 5 => 5 | n => n, fun | n => n⟩
theorem Tryd.laysnb115 : Go.Proofs.Lays.nb115 Tryd.prog Tryd.laysnb115_ren := {
  mixed := by kernel_rfl
  f115 := Tryd.func65.trans (congrArg some (by kernel_rfl))
  t4 := Tryd.underlying4
  a4 := Tryd.isAgg4
  z4 := Tryd.sizeOf4
  v4 := Tryd.zeroValue4
  t9 := Tryd.underlying9
  a9 := Tryd.isAgg9
  z9 := Tryd.sizeOf9
  v9 := Tryd.zeroValue9
  t37 := Tryd.underlying22
  a37 := Tryd.isAgg22
  z37 := Tryd.sizeOf22
  v37 := Tryd.zeroValue22
  t5 := Tryd.underlying5
  a5 := Tryd.isAgg5
  z5 := Tryd.sizeOf5
  v5 := Tryd.zeroValue5 }
/-- bytes.Equal: WHOLE. (LAID: no walk: one application.) -/
theorem Tryd.bytes_Equal_all (p1 p2 : Option Addr) (n c m d : Nat) (xs ys : List Int) (w : World) (hx : xs.length = n) (hy : ys.length = m) (h1 : Lib.BytesIn w p1 n xs) (h2 : Lib.BytesIn w p2 m ys) :
    Calls Tryd.prog 65 #[.slice p1 n c, .slice p2 m d] w fun e w' => e = .returned (.bool (Lib.bytesOf xs == Lib.bytesOf ys)) ∧ w' = w := Any.bytes_Equal_all Tryd.laysnb115 p1 p2 n c m d xs ys w hx hy h1 h2
/-- bytes.Equal: "Equal reports whether a and b are the same length and contain the same bytes. A nil argument is equivalent to an empty slice.": IT RETURNS 'the bytes of the one == the bytes of the other'; the world is as it was. THE TWO ARGUMENTS COME AS WHATEVER VALUES, each with the one fact that the walk wants of it: what 'string(..)' of it gives: for a slice whose cells you know: 'run_convert_bytes_arg' (Derived/Laws/BytesArg.lean) hands that fact; for a nil one: 'run_convert_bytes_nil' (with xs := []). (LAID: no walk: one application.) -/
theorem Tryd.bytes_Equal (v1 v2 : Value) (xs ys : List Int) (w : World) (h1 : (convert 22 9 v1).run Tryd.prog w = .ok (.string (strOfNums xs)) w) (h2 : (convert 22 9 v2).run Tryd.prog w = .ok (.string (strOfNums ys)) w) :
    Calls Tryd.prog 65 #[v1, v2] w fun e w' => e = .returned (.bool (Lib.bytesOf xs == Lib.bytesOf ys)) ∧ w' = w := Any.bytes_Equal Tryd.lays115 v1 v2 xs ys w h1 h2
/-- bytes.HasPrefix: "HasPrefix reports whether the byte slice s begins with prefix.": IT RETURNS 'Lib.hasPrefix (the bytes of s) (the bytes of prefix)'; the world is as it was. ITS CALLEE bytes.Equal IS MET BY ITS OWN CONTRACT OFF THE SHELF (lay that first). 'xs', 'ys': the numbers that the two slices' cells hold. (LAID: no walk: one application.) -/
theorem Tryd.bytes_HasPrefix (b1 o1 n c b2 o2 m d : Nat) (xs ys : List Int) (w : World) (hx : xs.length = n) (hy : ys.length = m) (hnc : n ≤ c) (hc1 : ∀ i, i < n → w.cell? ⟨b1, o1 + i, none⟩ = some (.int .u8 (xs.getD i 0))) (hc2 : ∀ i, i < m → w.cell? ⟨b2, o2 + i, none⟩ = some (.int .u8 (ys.getD i 0))) :
    Calls Tryd.prog 75 #[.slice (some ⟨b1, o1, none⟩) n c, .slice (some ⟨b2, o2, none⟩) m d] w fun e w' => e = .returned (.bool (Lib.hasPrefix (Lib.bytesOf xs) (Lib.bytesOf ys))) ∧ w' = w := Any.bytes_HasPrefix Tryd.laysnb116 b1 o1 n c b2 o2 m d xs ys w hx hy hnc hc1 hc2
/-- bytes.CutPrefix: "CutPrefix returns s without the provided leading prefix byte slice and reports whether it found the prefix. If s doesn't start with prefix, CutPrefix returns s, false. If prefix is the empty byte slice, CutPrefix returns s, true.": IT RETURNS ('Lib.bytesTrimPrefix', 'Lib.hasPrefix'): the first a slice OF THE ARGUMENT's OWN MEMORY ("CutPrefix returns slices of the original slice s, not copies."); the world is as it was. (LAID: no walk: one application.) -/
theorem Tryd.bytes_CutPrefix (b1 o1 n c b2 o2 m d : Nat) (xs ys : List Int) (w : World) (hx : xs.length = n) (hy : ys.length = m) (hnc : n ≤ c) (hc1 : ∀ i, i < n → w.cell? ⟨b1, o1 + i, none⟩ = some (.int .u8 (xs.getD i 0))) (hc2 : ∀ i, i < m → w.cell? ⟨b2, o2 + i, none⟩ = some (.int .u8 (ys.getD i 0))) :
    Calls Tryd.prog 49 #[.slice (some ⟨b1, o1, none⟩) n c, .slice (some ⟨b2, o2, none⟩) m d] w fun e w' => e = .returned (.tuple #[Lib.bytesTrimPrefix b1 o1 n c xs ys, .bool (Lib.hasPrefix (Lib.bytesOf xs) (Lib.bytesOf ys))]) ∧ w' = w := Any.bytes_CutPrefix Tryd.laysnb141 b1 o1 n c b2 o2 m d xs ys w hx hy hnc hc1 hc2
/-- bytes.IndexByte: "IndexByte returns the index of the first instance of c in b, or -1 if c is not present in b.": IT RETURNS 'Lib.indexByte (the bytes of b) c'; the world is as it was. 'xs': the numbers that the slice's cells hold. (LAID: no walk: one application.) -/
theorem Tryd.bytes_IndexByte (b o n c : Nat) (xs : List Int) (cv : Int) (w : World) (hx : xs.length = n) (hc : ∀ i, i < n → w.cell? ⟨b, o + i, none⟩ = some (.int .u8 (xs.getD i 0))) :
    Calls Tryd.prog 50 #[.slice (some ⟨b, o, none⟩) n c, .int .u8 cv] w fun e w' => e = .returned (.int .i64 (Lib.indexByte (Lib.bytesOf xs) cv.toNat.toUInt8)) ∧ w' = w := Any.bytes_IndexByte Tryd.lays187 b o n c xs cv w hx hc
/-- bytes.IndexByte AT nil: -1. (LAID: no walk: one application.) -/
theorem Tryd.bytes_IndexByte_nil (cv : Int) (w : World) :
    Calls Tryd.prog 50 #[.slice none 0 0, .int .u8 cv] w fun e w' => e = .returned (.int .i64 (-1)) ∧ w' = w := Any.bytes_IndexByte_nil Tryd.lays187 cv w
end Go.Proofs

/- bytes: CutPrefix, Equal, IndexByte, TrimLeft, and slices.Clone, over lists. -/
set_option linter.unusedVariables false
set_option linter.unusedSimpArgs false
namespace Go.Proofs.YtnpaidieijlkkaaDoor
open Go.RowKit Go.Shelf

def u8of (b : BitVec 8) : UInt8 := UInt8.ofNat (i8 b).toNat
theorem u8of_inj {a b : BitVec 8} (h : u8of a = u8of b) : a = b := by
  have h1 := congrArg UInt8.toNat h
  unfold u8of i8 at h1
  simp only [Int.toNat_natCast, UInt8.toNat_ofNat'] at h1
  have ha := a.isLt
  have hb := b.isLt
  exact BitVec.eq_of_toNat_eq (by omega)
theorem u8of_beq (a b : BitVec 8) : (u8of a == u8of b) = (a == b) := by
  by_cases h : a = b
  · subst h; simp
  · rw [beq_eq_false_iff_ne.2 h, beq_eq_false_iff_ne.2 (fun e => h (u8of_inj e))]
theorem bytesOf_map (l : List (BitVec 8)) : Lib.bytesOf (l.map i8) = l.map u8of := by simp [Lib.bytesOf, u8of]
theorem pre_map : ∀ (p l : List (BitVec 8)), (p.map u8of).isPrefixOf (l.map u8of) = p.isPrefixOf l
  | [], _ => by simp
  | _ :: _, [] => by simp
  | a :: p, b :: l => by simp only [List.map_cons, List.isPrefixOf_cons_cons, u8of_beq, pre_map p l]
theorem eq_map : ∀ (p l : List (BitVec 8)), (p.map u8of == l.map u8of) = decide (p = l) := by
  intro p l
  by_cases h : p = l
  · subst h; simp
  · rw [decide_eq_false h, beq_eq_false_iff_ne]
    exact fun e => h ((List.map_inj_right (fun a b h => u8of_inj h)).1 e)
theorem bytesIn {w : World} {B n c : Nat} {A : Option Addr} {l : List (BitVec 8)} (h : SlV w B A n c (l.map W8)) : Lib.BytesIn w A n (l.map i8) := fun hn => by
  obtain ⟨b, o, _, e, _⟩ := h.at_ (k := 0) hn
  refine ⟨b, o, e, fun i hi => ?_⟩
  obtain ⟨b', o', v, e', _, hv, hc⟩ := h.at_ (k := i) hi
  rw [e] at e'
  injection e' with e'
  injection e' with e1 e2 _
  subst e1 e2
  rw [hc]
  rw [List.getElem?_map, Option.map_eq_some_iff] at hv
  obtain ⟨x, hx, rfl⟩ := hv
  rw [List.getD_eq_getElem?_getD, List.getElem?_map, hx]
  rfl
theorem len_i8 {w : World} {B n c : Nat} {A : Option Addr} {l : List (BitVec 8)} (h : SlV w B A n c (l.map W8)) : (l.map i8).length = n := by
  rw [List.length_map]; simpa using h.len.symm
theorem equal_any (w : World) (B : Nat) (A1 : Option Addr) (n1 c1 : Nat) (l1 : List (BitVec 8)) (h1 : SlV w B A1 n1 c1 (l1.map W8)) (B2 : Nat) (A2 : Option Addr) (n2 c2 : Nat) (l2 : List (BitVec 8)) (h2 : SlV w B2 A2 n2 c2 (l2.map W8)) :
    Calls Tryd.prog 65 #[.slice A1 n1 c1, .slice A2 n2 c2] w fun e w' => e = .returned (.bool (decide (l1 = l2))) ∧ w = w' := by
  refine (Tryd.bytes_Equal_all A1 A2 n1 c1 n2 c2 _ _ w (len_i8 h1) (len_i8 h2) (bytesIn h1) (bytesIn h2)).mono ?_
  rintro e w' ⟨rfl, rfl⟩
  rw [bytesOf_map, bytesOf_map, eq_map]
  exact ⟨rfl, rfl⟩
theorem cut_any (w : World) (B : Nat) (A1 : Option Addr) (n1 c1 : Nat) (l : List (BitVec 8)) (h1 : SlV w B A1 n1 c1 (l.map W8)) (z1 : A1 = none → c1 = 0) (B2 : Nat) (A2 : Option Addr) (n2 c2 : Nat) (p : List (BitVec 8)) (h2 : SlV w B2 A2 n2 c2 (p.map W8)) (hp : 0 < p.length) :
    Calls Tryd.prog 49 #[.slice A1 n1 c1, .slice A2 n2 c2] w fun e w' => ∃ A n c, e = .returned (.tuple #[.slice A n c, .bool (p.isPrefixOf l)]) ∧ w = w' ∧ Pc w B (.slice A n c) (if p.isPrefixOf l then l.drop p.length else l) := by
  refine (Tryd.bytes_CutPrefix_all A1 A2 n1 c1 n2 c2 _ _ w (len_i8 h1) (len_i8 h2) h1.cap (bytesIn h1) (bytesIn h2)).mono ?_
  rintro e w' ⟨rfl, rfl⟩
  have hpe : Lib.hasPrefix (Lib.bytesOf (l.map i8)) (Lib.bytesOf (p.map i8)) = p.isPrefixOf l := by rw [bytesOf_map, bytesOf_map, Lib.hasPrefix, pre_map]
  rw [hpe]
  obtain ⟨y, p', rfl⟩ : ∃ y p', p = y :: p' := by
    cases p with
    | nil => simp at hp
    | cons y p' => exact ⟨y, p', rfl⟩
  by_cases h : (y :: p').isPrefixOf l = true
  · rw [if_pos h]
    have hle : (y :: p').length ≤ l.length := (List.isPrefixOf_iff_prefix.1 h).length_le
    have hln : l.length = n1 := by simpa using h1.len.symm
    obtain ⟨b, o, _, rfl, _⟩ := h1.at_ (k := 0) (by simp at hle; omega)
    have hd := h1.dropIf (k := (y :: p').length) (by omega)
    rw [← List.map_drop] at hd
    refine ⟨_, _, _, ?_, rfl, Pc.of_sl hd ?_⟩
    · simp only [Lib.trimPrefixV, List.map_cons, Lib.bytesTrimPrefix]
      have hpe' := hpe
      rw [List.map_cons] at hpe'
      rw [hpe', if_pos h, h]
      simp [Lib.sliceFrom]
    · intro e
      split at e <;> cases e
  · rw [if_neg h]
    refine ⟨A1, n1, c1, ?_, rfl, Pc.of_sl h1 z1⟩
    have e : Lib.trimPrefixV A1 n1 c1 (l.map i8) ((y :: p').map i8) = .slice A1 n1 c1 := by
      unfold Lib.trimPrefixV
      split
      · unfold Lib.bytesTrimPrefix
        rw [hpe, if_neg h]
      · rfl
    rw [e]
/-- the place of the first x, or -1 -/
def idxL (x : BitVec 8) : List (BitVec 8) → Int
  | [] => -1
  | b :: l => if b = x then 0 else if idxL x l = -1 then -1 else idxL x l + 1
theorem idx_map (x : BitVec 8) : ∀ l : List (BitVec 8), Lib.indexByte (l.map u8of) (u8of x) = idxL x l
  | [] => rfl
  | b :: l => by
    rw [List.map_cons, Lib.indexByte, idxL, idx_map x l, u8of_beq]
    simp only [beq_iff_eq]
theorem idxL_ge (x : BitVec 8) : ∀ l : List (BitVec 8), -1 ≤ idxL x l ∧ idxL x l < l.length
  | [] => by simp [idxL]
  | b :: l => by
    have := idxL_ge x l
    rw [idxL, List.length_cons]
    split
    · omega
    · split <;> omega
theorem index_any (w : World) (B : Nat) (A : Option Addr) (n c : Nat) (l : List (BitVec 8)) (h : SlV w B A n c (l.map W8)) (hz : A = none → c = 0) (x : BitVec 8) :
    Calls Tryd.prog 50 #[.slice A n c, W8 x] w fun e w' => e = .returned (.int .i64 (idxL x l)) ∧ w = w' := by
  cases A with
  | none =>
    have h1 := hz rfl
    have h2 := h.cap
    obtain rfl : n = 0 := by omega
    subst h1
    obtain rfl : l = [] := List.eq_nil_of_length_eq_zero (by simpa using h.len.symm)
    refine (Tryd.bytes_IndexByte_nil (i8 x) w).mono ?_
    rintro e w' ⟨rfl, rfl⟩
    exact ⟨rfl, rfl⟩
  | some a =>
    refine (Tryd.bytes_IndexByte_at a n c (l.map i8) (i8 x) w (len_i8 h) (fun i hi => ?_)).mono ?_
    · obtain ⟨b, o, e, hc⟩ := bytesIn h (by omega)
      injection e with e
      subst e
      rw [Addr.add_lit]
      exact hc i hi
    · rintro e w' ⟨rfl, rfl⟩
      rw [bytesOf_map, show (i8 x).toNat.toUInt8 = u8of x from rfl, idx_map]
      exact ⟨rfl, rfl⟩
/-- Clone, whatever comes: the same bytes in memory of its own -/
theorem cloneK_any (w : World) (B : Nat) (A : Option Addr) (n c : Nat) (l : List (BitVec 8)) (h : SlV w B A n c (l.map W8)) (hz : A = none → c = 0) (hB : B ≤ w.heap.size) (hn : n ≤ 17592186044416) :
    Calls Tryd.prog 51 #[.slice A n c] w fun e w' => ∃ v, e = .returned v ∧ FreshV w' w.heap.size v l ∧ Below w.heap.size w w' := by
  cases A with
  | none =>
    have h1 := hz rfl
    have h2 := h.cap
    obtain rfl : n = 0 := by omega
    subst h1
    obtain rfl : l = [] := List.eq_nil_of_length_eq_zero (by simpa using h.len.symm)
    refine (clone_nil w).mono ?_
    rintro e w' ⟨rfl, rfl⟩
    exact ⟨_, rfl, FreshV.nil_ _ _, Below.refl _ _⟩
  | some a =>
    refine (clone_any w B a n c l h hB hn).mono ?_
    rintro e w' ⟨v, rfl, ho, hb⟩
    exact ⟨v, rfl, FreshV.of_own ho, hb⟩
def dropX (x : BitVec 8) (l : List (BitVec 8)) : List (BitVec 8) := l.dropWhile (· == x)
def lenV : Value → Nat
  | .slice _ n _ => n
  | _ => 0
set_option maxRecDepth 100000 in
set_option maxHeartbeats 1000000 in
theorem trimByte_any (w : World) (B : Nat) (A : Option Addr) (n c : Nat) (l : List (BitVec 8)) (h : SlV w B A n c (l.map W8)) (hz : A = none → c = 0) (x : BitVec 8) :
    Calls Tryd.prog 86 #[.slice A n c, W8 x] w fun e w' => ∃ A' n' c', e = .returned (.slice A' n' c') ∧ w = w' ∧ Pc w B (.slice A' n' c') (dropX x l) := by
  have H := Lib.hid h
  have HZ := Lib.hid hz
  clear h hz
  go_enter Tryd.func86, Tryd.ntmps86
  go_wp2
  go_loopw [0] (fun v wr => w = wr ∧ ∃ (A' : Option Addr) (n' c' : Nat) (l' : List (BitVec 8)), v = .slice A' n' c' ∧ Hid (SlV w B A' n' c' (l'.map W8)) ∧ Hid (A' = none → c' = 0) ∧ Hid (dropX x l' = dropX x l)) (fun v _ => lenV v)
  case atStart => exact ⟨rfl, A, n, c, l, rfl, H, HZ, Lib.hid rfl⟩
  case round =>
    obtain ⟨rfl, A', n', c', l', rfl, H', HZ', HD⟩ := hrel
    clear H HZ
    obtain ⟨hcap, hmax⟩ : n' ≤ c' ∧ c' ≤ 9223372036854775807 := ⟨H'.out.cap, H'.out.max⟩
    have hlen : l'.length = n' := by simpa using H'.out.len.symm
    have HL := Lib.hid hlen
    clear hlen
    by_cases hn0 : n' = 0
    · subst hn0
      have hl0 : l' = [] := List.eq_nil_of_length_eq_zero HL.out
      have hp : Pc w B (.slice none 0 0) (dropX x l) := by
        rw [← HD.out, hl0]
        exact Pc.of_sl (l := []) (SlV.nil _ _ _ (by decide)) (fun _ => rfl)
      have HP := Lib.hid hp
      clear hp hl0
      go_wp2
      go_ret
      exact ⟨_, _, _, rfl, rfl, HP.out⟩
    · obtain ⟨b, o, v, rfl, _, hv, hc⟩ := H'.out.at_ (k := 0) (by omega)
      rw [Nat.add_zero] at hc
      obtain ⟨y, t, hl⟩ : ∃ y t, l' = y :: t := by
        cases l' with
        | nil => have := HL.out; simp at this; omega
        | cons y t => exact ⟨y, t, rfl⟩
      have hvy : v = W8 y := by
        rw [hl] at hv
        exact (Option.some.inj hv).symm
      rw [hvy] at hc
      have kn : (0 : Int) < n' := by omega
      have kc : (0 : Int) < c' := by omega
      have HLT := Lib.hid hl
      clear hl hv hvy
      by_cases hxy : y = x
      · subst hxy
        have kb : (i8 y == i8 y) = true := by simp
        have hd := H'.out.dropIf (k := 1) (by omega)
        rw [← List.map_drop] at hd
        have hdx : dropX y (l'.drop 1) = dropX y l := by
          rw [← HD.out, HLT.out]
          simp [dropX]
        have HDX := Lib.hid hdx
        have HDD := Lib.hid hd
        have kn1 : (n' : Int) - 1 = ((n' - 1 : Nat) : Int) := by omega
        clear hd hdx
        by_cases hc1 : c' = 1
        · subst hc1
          obtain rfl : n' = 1 := by omega
          rw [if_pos rfl] at HDD
          go_wp2
          go_roundw
          case rel => exact ⟨by first | rfl | trivial, _, _, _, l'.drop 1, rfl, HDD, Lib.hid (fun e => by cases e), HDX⟩
          case measure => first | (simp [lenV]; done) | (simp [lenV]; omega)
        · rw [if_neg hc1] at HDD
          go_wp2
          go_roundw
          case rel => exact ⟨by first | rfl | trivial, _, _, _, l'.drop 1, rfl, HDD, Lib.hid (fun e => by cases e), HDX⟩
          case measure => first | (simp [lenV]; done) | (simp [lenV]; omega)
      · have kb : (i8 y == i8 x) = false := by
          rw [beq_eq_false_iff_ne]
          intro e
          apply hxy
          unfold i8 at e
          exact BitVec.eq_of_toNat_eq (by omega)
        have hne : ¬ i8 y = i8 x := by simpa using kb
        have hp : Pc w B (.slice (some ⟨b, o, none⟩) n' c') (dropX x l) := by
          have e : dropX x l = l' := by
            rw [← HD.out, HLT.out]
            simp [dropX, List.dropWhile_cons, hxy]
          rw [e]
          exact Pc.of_sl H'.out HZ'.out
        have HP := Lib.hid hp
        clear hp
        go_wp2
        go_ret
        exact ⟨_, _, _, rfl, rfl, HP.out⟩
end Go.Proofs.YtnpaidieijlkkaaDoor

/- pad: EncOAEP. -/
set_option linter.unusedVariables false
set_option linter.unusedSimpArgs false
namespace Go.Proofs.YtnpaidieijlkkaaDoor
open Go.RowKit Go.Shelf

theorem okB_kind {k : Int} {n : Nat} (h : okB k n = true) : KindOk k ∧ n = szN k := by
  have h1 := of_decide_eq_true h
  by_cases hk : KindOk k
  · refine ⟨hk, ?_⟩
    have := szN_eq hk
    omega
  · have := sizeV_no hk
    omega
theorem okB_of {k : Int} (h : KindOk k) : okB k (szN k) = true := by
  rw [okB, szN_eq h]
  exact decide_eq_true ⟨by have := (szN_le h).1; omega, rfl⟩
theorem pover_any (w : World) (k : Int) : Calls Tryd.prog 52 #[.int .i64 k] w fun e w' => e = .returned (.int .i64 (2 * sizeV k + 2)) ∧ w = w' := by
  have hs := size_any w k
  obtain ⟨z, hz⟩ : ∃ z, sizeV k = z := ⟨_, rfl⟩
  have hzb := sizeV_bd k
  rw [hz] at hs hzb ⊢
  have hz0 := hzb.1
  have hz64 := hzb.2
  have HS := Lib.hid hs
  clear hs hz hzb
  go_enter Tryd.func52, Tryd.ntmps52
  go_wp2_with fail
  refine HS.out.mono ?_
  rintro e w' ⟨rfl, rfl⟩
  go_wp2
  go_ret
  exact ⟨rfl, rfl⟩
def blockL (k : Int) (Z : Nat) (label m : List (BitVec 8)) : List (BitVec 8) := sumK k label ++ (List.replicate Z 0 ++ ([1] ++ m))
def maskK (k : Int) (b sd : List (BitVec 8)) : List (BitVec 8) := xorL b (mgfL k sd b.length)
theorem maskK_length {k : Int} (hk : KindOk k) (b sd : List (BitVec 8)) : (maskK k b sd).length = b.length := by rw [maskK, xorL_length, mgfL_length hk, Nat.min_self]
def oaepL (k : Int) (Z : Nat) (label seed m : List (BitVec 8)) : List (BitVec 8) := 0 :: (maskK k seed (maskK k (blockL k Z label m) seed) ++ maskK k (blockL k Z label m) seed)
theorem sumK_len {k : Int} (hk : KindOk k) (l : List (BitVec 8)) : (sumK k l).length = szN k := by
  rw [sumK, if_pos (show 1 ≤ k ∧ k ≤ 5 from hk), sumL_length]
theorem blockL_length {k : Int} (hk : KindOk k) (Z : Nat) (label m : List (BitVec 8)) : (blockL k Z label m).length = szN k + Z + 1 + m.length := by
  rw [blockL, List.length_append, sumK_len hk]
  simp
  omega
set_option maxRecDepth 100000 in
theorem pencoaep_no1 (w : World) (k n : Int) (v : Value) (A2 : Option Addr) (n2 c2 : Nat) (v4 : Value) (h : 65536 < n ∨ okB k n2 = false) :
    Calls Tryd.prog 27 #[.int .i64 k, .int .i64 n, v, .slice A2 n2 c2, v4] w fun e w' => e = .returned (.tuple #[.slice none 0 0, .int .i64 7]) ∧ w = w' := by
  have ho := pover_any w k
  obtain ⟨z, hz⟩ : ∃ z, 2 * sizeV k + 2 = z := ⟨_, rfl⟩
  rw [hz] at ho
  have HO := Lib.hid ho
  have hi := pishash_any w k A2 n2 c2
  clear ho hz
  by_cases h1 : 65536 < n
  · clear h hi
    go_enter Tryd.func27, Tryd.ntmps27
    go_wp2_with fail
    refine HO.out.mono ?_
    rintro e w' ⟨rfl, rfl⟩
    go_wp2
    go_ret2
    exact ⟨rfl, rfl⟩
  · have h2 : okB k n2 = false := by rcases h with h | h; exact absurd h h1; exact h
    rw [h2] at hi
    have HI := Lib.hid hi
    clear h hi h2
    go_enter Tryd.func27, Tryd.ntmps27
    go_wp2_with fail
    refine HO.out.mono ?_
    rintro e w' ⟨rfl, rfl⟩
    go_wp2_with fail
    refine HI.out.mono ?_
    rintro e w' ⟨rfl, rfl⟩
    go_wp2
    go_ret2
    exact ⟨rfl, rfl⟩
set_option maxRecDepth 100000 in
theorem pencoaep_no2 (w : World) (k n : Int) (v : Value) (A2 : Option Addr) (n2 c2 : Nat) (A3 : Option Addr) (n3 c3 : Nat) (h0 : -9223372036854775808 ≤ n) (h : n ≤ 65536) (hok : okB k n2 = true) (hsm : n < 2 * sizeV k + 2 ∨ n - (2 * sizeV k + 2) < n3) :
    Calls Tryd.prog 27 #[.int .i64 k, .int .i64 n, v, .slice A2 n2 c2, .slice A3 n3 c3] w fun e w' => e = .returned (.tuple #[.slice none 0 0, .int .i64 33]) ∧ w = w' := by
  have ho := pover_any w k
  have hzb := sizeV_bd k
  obtain ⟨z, hz⟩ : ∃ z, 2 * sizeV k + 2 = z := ⟨_, rfl⟩
  have hz0 : 2 ≤ z := by omega
  have hz1 : z ≤ 130 := by omega
  rw [hz] at ho hsm
  have hi := pishash_any w k A2 n2 c2
  rw [hok] at hi
  have HO := Lib.hid ho
  have HI := Lib.hid hi
  clear ho hi hz hok hzb
  have h65 : ¬ 65536 < n := by omega
  by_cases h1 : n < z
  · clear hsm
    go_enter Tryd.func27, Tryd.ntmps27
    go_wp2_with fail
    refine HO.out.mono ?_
    rintro e w' ⟨rfl, rfl⟩
    go_wp2_with fail
    refine HI.out.mono ?_
    rintro e w' ⟨rfl, rfl⟩
    go_wp2
    go_ret2
    exact ⟨rfl, rfl⟩
  · have h2 : n - z < n3 := by omega
    have h3 : z ≤ n := by omega
    clear hsm h1
    go_enter Tryd.func27, Tryd.ntmps27
    go_wp2_with fail
    refine HO.out.mono ?_
    rintro e w' ⟨rfl, rfl⟩
    go_wp2_with fail
    refine HI.out.mono ?_
    rintro e w' ⟨rfl, rfl⟩
    go_wp2
    go_ret2
    exact ⟨rfl, rfl⟩
set_option maxRecDepth 100000 in
set_option maxHeartbeats 4000000 in
theorem pencoaep_ok (w : World) (k : Int) (hGS : StartsG w) (hGR : RootsG w) (N : Nat) (hN : N ≤ 65536) (B : Nat) (A1 : Option Addr) (n1 c1 : Nat) (label : List (BitVec 8)) (h1 : SlV w B A1 n1 c1 (label.map W8)) (z1 : A1 = none → c1 = 0)
    (A2 : Option Addr) (n2 c2 : Nat) (seed : List (BitVec 8)) (h2 : SlV w B A2 n2 c2 (seed.map W8)) (z2 : A2 = none → c2 = 0) (hok : okB k n2 = true) (A3 : Option Addr) (n3 c3 : Nat) (m : List (BitVec 8)) (h3 : SlV w B A3 n3 c3 (m.map W8)) (z3 : A3 = none → c3 = 0)
    (hB : B ≤ w.heap.size) (hn1 : n1 ≤ 1000000) (Z : Nat) (hfit : n3 + (2 * szN k + 2) + Z = N) :
    Calls Tryd.prog 27 #[.int .i64 k, .int .i64 (N : Int), .slice A1 n1 c1, .slice A2 n2 c2, .slice A3 n3 c3] w fun e w' => ∃ v, e = .returned (.tuple #[v, .int .i64 0]) ∧ FreshV w' w.heap.size v (oaepL k Z label seed m) ∧ Below w.heap.size w w' := by
  obtain ⟨hk, hn2⟩ := okB_kind hok
  have ho := pover_any w k
  have hi := pishash_any w k A2 n2 c2
  rw [hok] at hi
  have hle := szN_le hk
  rw [szN_eq hk] at ho
  obtain ⟨h, hh⟩ : ∃ h, szN k = h := ⟨_, rfl⟩
  rw [hh] at ho hn2 hfit hle
  obtain ⟨z, hz⟩ : ∃ z, 2 * h + 2 = z := ⟨_, rfl⟩
  have hzI : 2 * (h : Int) + 2 = (z : Int) := by omega
  rw [hzI] at ho
  rw [hz] at hfit
  have k1 : (N : Int) ≤ 65536 := by omega
  have k2 : ¬ (65536 : Int) < N := by omega
  have k3 : (z : Int) ≤ N := by omega
  have k4 : ¬ (N : Int) < z := by omega
  have k5 : ¬ (N : Int) - z < n3 := by omega
  have k6 : (N : Int) - z - n3 = (Z : Int) := by omega
  have k7 : (n3 : Int) ≤ N - z := by omega
  have k8 : (Z : Int) ≤ 65536 := by omega
  have hl1 : label.length = n1 := by simpa using h1.len.symm
  have hl2 : seed.length = n2 := by simpa using h2.len.symm
  have hl3 : m.length = n3 := by simpa using h3.len.symm
  have P1 := Lib.hid ((Pc.of_sl h1 z1).more hB)
  have P2 := Lib.hid ((Pc.of_sl h2 z2).more hB)
  have P3 := Lib.hid ((Pc.of_sl h3 z3).more hB)
  have HO := Lib.hid ho
  have HI := Lib.hid hi
  have HG := Lib.hid (⟨hGS, hGR⟩ : StartsG w ∧ RootsG w)
  have HN := Lib.hid (⟨hk, hh, hz, hle.1, hle.2.2, hn2, hfit, hN⟩ : KindOk k ∧ szN k = h ∧ 2 * h + 2 = z ∧ 20 ≤ h ∧ h ≤ 64 ∧ n2 = h ∧ n3 + z + Z = N ∧ N ≤ 65536)
  have HL := Lib.hid (⟨hl1, hl2, hl3, hn1⟩ : label.length = n1 ∧ seed.length = n2 ∧ m.length = n3 ∧ n1 ≤ 1000000)
  have S2 := Lib.hid h2
  have Z2 := Lib.hid z2
  have HBB := Lib.hid hB
  clear hk hn2 ho hi hok hle hz hzI hh hfit hN hl1 hl2 hl3 h1 z1 h2 z2 h3 z3 hGS hGR hB hn1
  go_enter Tryd.func27, Tryd.ntmps27
  go_wp2_with fail
  refine HO.out.mono ?_
  rintro e w' ⟨rfl, rfl⟩
  go_wp2_with fail
  refine HI.out.mono ?_
  rintro e w' ⟨rfl, rfl⟩
  clear HO HI
  go_wp2_with (at_make; refine wlv_make Tryd.elem8 rfl _ rfl _ Z rfl rfl (by omega) ?_; intro w1 hr1 hb1 hz1; clear hz1)
  have hzs : FreshV w1 w.heap.size (.slice (some ⟨w.heap.size, 0, none⟩) Z Z) (List.replicate Z 0) := FreshV.row_ (by rw [List.map_replicate]; exact hr1) (Nat.le_refl _) (by simp) (by omega)
  have hof := ofA w1 k (HG.out.1.later hb1) (HG.out.2.later hb1) [.slice A1 n1 c1] #[.slice A1 n1 c1] rfl [label] ⟨P1.out.up hb1, trivial⟩ 1 rfl (by decide) (by have := HL.out; simp; omega)
  rw [show ([label] : List (List (BitVec 8))).flatten = label by simp] at hof
  have HOF := Lib.hid hof
  have HB1 := Lib.hid hb1
  have HZS := Lib.hid hzs
  clear hof hr1 hb1 hzs
  go_wp2_with fail
  refine HOF.out.mono ?_
  rintro e w2 ⟨v2, rfl, hf2, hb2⟩
  obtain ⟨Aa, na, ca, rfl⟩ := hf2.form
  obtain ⟨hf3, hb3⟩ := freshA w2 [1] #[.int .u8 1] rfl 1 rfl (by decide)
  obtain ⟨W3, e3⟩ : ∃ W, w2.alloc (.cells #[.int .u8 1] 5) = W := ⟨_, rfl⟩
  rw [e3] at hf3 hb3
  have hb03 : Below w.heap.size w W3 := (HB1.out.trans (hb2.mono HB1.out.size)).trans (hb3.mono (Nat.le_trans HB1.out.size hb2.size))
  have hcc := concatA W3 [.slice Aa na ca, .slice (some ⟨w.heap.size, 0, none⟩) Z Z, .slice (some ⟨w2.heap.size, 0, none⟩) 1 1, .slice A3 n3 c3] #[.slice Aa na ca, .slice (some ⟨w.heap.size, 0, none⟩) Z Z, .slice (some ⟨w2.heap.size, 0, none⟩) 1 1, .slice A3 n3 c3] rfl [sumK k label, List.replicate Z 0, [1], m] ⟨hf2.pc.up hb3, (HZS.out.up (hb2.trans (hb3.mono hb2.size))).pc, hf3.pc, P3.out.up hb03, trivial⟩ 4 rfl (by decide) (by have := HL.out; have := HN.out; have := sumK_le k label; simp; omega)
  have hblk : [sumK k label, List.replicate Z 0, [1], m].flatten = blockL k Z label m := by simp [blockL]
  rw [hblk] at hcc
  have hbl : (blockL k Z label m).length = h + Z + 1 + n3 := by rw [blockL_length HN.out.1, HN.out.2.1, HL.out.2.2.1]
  obtain ⟨blk, hbk⟩ : ∃ l, blockL k Z label m = l := ⟨_, rfl⟩
  rw [hbk] at hcc hbl
  have HCC := Lib.hid hcc
  have HBK := Lib.hid (⟨hbk, hbl⟩ : blockL k Z label m = blk ∧ blk.length = h + Z + 1 + n3)
  have HB3 := Lib.hid hb03
  clear hcc hf2 hf3 hb2 hb3 hb03 hblk hbk hbl HOF HZS
  go_wp2_with fail
  refine HCC.out.mono ?_
  rintro e w4 ⟨v4, rfl, hf4, hb4⟩
  obtain ⟨Ab, nb, cb, rfl⟩ := hf4.form
  have hb04 : Below w.heap.size w w4 := HB3.out.trans (hb4.mono HB3.out.size)
  have hnb : nb = h + Z + 1 + n3 := by rw [hf4.len_, HBK.out.2]
  obtain ⟨Ab', cb', eb, hsb, hzb⟩ := hf4.sl
  injection eb with eb1 eb2 eb3
  subst eb1 eb3
  rw [← hf4.len_] at hsb
  clear eb2
  have hma := pmasked_any w4 k HN.out.1 (HG.out.1.later hb04) (HG.out.2.later hb04) w4.heap.size Ab nb cb blk hsb A2 n2 c2 seed ((S2.out.below (hb04.mono HBB.out)).more (by have := HBB.out; have := hb04.size; omega)) Z2.out (Nat.le_refl _) (by omega) (by have := HN.out; omega) (by have := HN.out; omega)
  have HMA := Lib.hid hma
  have HNB := Lib.hid hnb
  have HB4 := Lib.hid hb04
  clear hma hsb hf4 hb4 hb04 hnb hzb HCC HB3
  go_wp2_with fail
  refine HMA.out.mono ?_
  rintro e w5 ⟨v5, rfl, hown5, hb5⟩
  have hhid : xorL blk (mgfL k seed nb) = maskK k blk seed := by rw [maskK, HBK.out.2, HNB.out]
  rw [hhid] at hown5
  obtain ⟨hid, hhd⟩ : ∃ l, maskK k blk seed = l := ⟨_, rfl⟩
  rw [hhd] at hown5
  obtain ⟨Ac, cc, rfl, hsc, hzc⟩ := own_all hown5
  have hf5 : FreshV w5 w4.heap.size (.slice Ac nb cc) hid := FreshV.of_own hown5
  have hb05 : Below w.heap.size w w5 := HB4.out.trans (hb5.mono HB4.out.size)
  obtain ⟨hf6, hb6⟩ := freshA w5 [0] #[.int .u8 0] rfl 1 rfl (by decide)
  obtain ⟨W6, e6⟩ : ∃ W, w5.alloc (.cells #[.int .u8 0] 5) = W := ⟨_, rfl⟩
  rw [e6] at hf6 hb6
  have hb06 : Below w.heap.size w W6 := hb05.trans (hb6.mono hb05.size)
  have hmb := pmasked_any W6 k HN.out.1 (HG.out.1.later hb06) (HG.out.2.later hb06) W6.heap.size A2 n2 c2 seed ((S2.out.below (hb06.mono HBB.out)).more (by have := HBB.out; have := hb06.size; omega)) Ac nb cc hid ((hsc.below hb6).more hb6.size) hzc (Nat.le_refl _) (by have := HN.out; omega) (by have := HN.out; omega) (by have := HN.out; have := HNB.out; omega)
  have HMB := Lib.hid hmb
  have HHD := Lib.hid hhd
  have HB6 := Lib.hid hb06
  have HF5 := Lib.hid (hf5.up hb6)
  have HF6 := Lib.hid hf6
  clear hmb hhid hhd hown5 hsc hzc hf5 hb5 hb05 hb6 hb06 hf6 HMA HB4
  go_wp2_with fail
  refine HMB.out.mono ?_
  rintro e w7 ⟨v7, rfl, hown7, hb7⟩
  have hf7 : FreshV w7 W6.heap.size v7 (maskK k seed hid) := by
    rw [maskK, HL.out.2.1]
    exact FreshV.of_own hown7
  obtain ⟨Ad, nd, cd, rfl⟩ := hf7.form
  have hcd := concatA w7 [.slice (some ⟨w5.heap.size, 0, none⟩) 1 1, .slice Ad nd cd, .slice Ac nb cc] #[.slice (some ⟨w5.heap.size, 0, none⟩) 1 1, .slice Ad nd cd, .slice Ac nb cc] rfl [[0], maskK k seed hid, hid] ⟨(HF6.out.up hb7).pc, hf7.pc, (HF5.out.up hb7).pc, trivial⟩ 3 rfl (by decide) (by have h5 := HF5.out.len_; have h7 := hf7.len_; have := HNB.out; have := HN.out; have h8 := maskK_length HN.out.1 seed hid; have := HL.out.2.1; simp; omega)
  have hfin : [[0], maskK k seed hid, hid].flatten = oaepL k Z label seed m := by rw [oaepL, HBK.out.1, HHD.out]; simp
  rw [hfin] at hcd
  have HCD := Lib.hid hcd
  have HB7 := Lib.hid (HB6.out.trans (hb7.mono HB6.out.size))
  clear hcd hfin hown7 hf7 hb7 HMB HB6 HF5 HF6
  go_wp2_with fail
  refine HCD.out.mono ?_
  rintro e w8 ⟨v8, rfl, hf8, hb8⟩
  have HF8 := Lib.hid (hf8.mono_ HB7.out.size)
  have HB8 := Lib.hid (HB7.out.trans (hb8.mono HB7.out.size))
  clear hf8 hb8
  go_wp2
  go_ret2
  exact ⟨_, rfl, HF8.out, HB8.out⟩
end Go.Proofs.YtnpaidieijlkkaaDoor

/- pad: DecOAEP. -/
set_option linter.unusedVariables false
set_option linter.unusedSimpArgs false
namespace Go.Proofs.YtnpaidieijlkkaaDoor
open Go.RowKit Go.Shelf

set_option maxRecDepth 100000 in
theorem trim0_any (w : World) (B : Nat) (A : Option Addr) (n c : Nat) (l : List (BitVec 8)) (h : SlV w B A n c (l.map W8)) (hz : A = none → c = 0) :
    Calls Tryd.prog 61 #[.slice A n c, .string ⟨#[0]⟩] w fun e w' => ∃ A' n' c', e = .returned (.slice A' n' c') ∧ w = w' ∧ Pc w B (.slice A' n' c') (dropX 0 l) := by
  by_cases hn : n = 0
  · subst hn
    obtain rfl : l = [] := List.eq_nil_of_length_eq_zero (by simpa using h.len.symm)
    clear h hz
    go_enter Tryd.func61, Tryd.ntmps61
    go_wp2
    go_ret
    exact ⟨_, _, _, rfl, rfl, Pc.of_sl (l := []) (SlV.nil _ _ _ (by decide)) (fun _ => rfl)⟩
  · have ht : Calls Tryd.prog 86 #[.slice A n c, .int .u8 0] w fun e w' => ∃ A' n' c', e = .returned (.slice A' n' c') ∧ w = w' ∧ Pc w B (.slice A' n' c') (dropX 0 l) := trimByte_any w B A n c l h hz 0
    have HT := Lib.hid ht
    have kn : ((n : Int) == 0) = false := beq_eq_false_iff_ne.2 (by omega)
    clear ht h hz
    go_enter Tryd.func61, Tryd.ntmps61
    go_wp2_with fail
    refine HT.out.mono ?_
    rintro e w' ⟨A', n', c', rfl, rfl, hp⟩
    have HP := Lib.hid hp
    clear hp
    go_wp2
    go_ret
    exact ⟨_, _, _, rfl, rfl, HP.out⟩
def decBlk (k : Int) (em : List (BitVec 8)) : List (BitVec 8) := maskK k (em.drop (1 + szN k)) (maskK k ((em.drop 1).take (szN k)) (em.drop (1 + szN k)))
def decRest (k : Int) (label em : List (BitVec 8)) : List (BitVec 8) := if (sumK k label).isPrefixOf (decBlk k em) then (decBlk k em).drop (sumK k label).length else decBlk k em
def decOk (k : Int) (label em : List (BitVec 8)) : Bool := (sumK k label).isPrefixOf (decBlk k em) && ([1] : List (BitVec 8)).isPrefixOf (dropX 0 (decRest k label em))
def decMsg (k : Int) (label em : List (BitVec 8)) : List (BitVec 8) := (dropX 0 (decRest k label em)).drop 1
set_option maxRecDepth 100000 in
theorem pdecoaep_no1 (w : World) (k : Int) (v1 v2 : Value) (hk : ¬ KindOk k) :
    Calls Tryd.prog 29 #[.int .i64 k, v1, v2] w fun e w' => e = .returned (.tuple #[.slice none 0 0, .int .i64 7]) ∧ w = w' := by
  have hs := size_any w k
  rw [sizeV_no hk] at hs
  have HS := Lib.hid hs
  clear hs hk
  go_enter Tryd.func29, Tryd.ntmps29
  go_wp2_with fail
  refine HS.out.mono ?_
  rintro e w' ⟨rfl, rfl⟩
  go_wp2
  go_ret2
  exact ⟨rfl, rfl⟩
set_option maxRecDepth 100000 in
set_option maxHeartbeats 1000000 in
theorem pdecoaep_no2 (w : World) (k : Int) (v1 : Value) (B : Nat) (A : Option Addr) (n c : Nat) (em : List (BitVec 8)) (hs : SlV w B A n c (em.map W8)) (hk : KindOk k) (h : n < 2 * szN k + 2 ∨ 65536 < n ∨ em.head? ≠ some 0) :
    Calls Tryd.prog 29 #[.int .i64 k, v1, .slice A n c] w fun e w' => e = .returned (.tuple #[.slice none 0 0, .int .i64 64]) ∧ w = w' := by
  have hsz := size_any w k
  have ho := pover_any w k
  have hle := szN_le hk
  have hel : em.length = n := by simpa using hs.len.symm
  rw [szN_eq hk] at hsz ho
  obtain ⟨z, hz⟩ : ∃ h, szN k = h := ⟨_, rfl⟩
  rw [hz] at hsz ho hle h
  obtain ⟨y, hy⟩ : ∃ y, 2 * z + 2 = y := ⟨_, rfl⟩
  have hyI : 2 * (z : Int) + 2 = (y : Int) := by omega
  rw [hyI] at ho
  rw [hy] at h
  have HSZ := Lib.hid hsz
  have HO := Lib.hid ho
  have hz0 : ((z : Int) == 0) = false := beq_eq_false_iff_ne.2 (by omega)
  have hz1 : ¬ (z : Int) = 0 := by omega
  have hy42 : 42 ≤ y := by omega
  clear hsz ho hle hz hy hyI hk
  by_cases h1 : n < y
  · have k1 : (n : Int) < y := by omega
    clear h hs
    go_enter Tryd.func29, Tryd.ntmps29
    go_wp2_with fail
    refine HSZ.out.mono ?_
    rintro e w' ⟨rfl, rfl⟩
    go_wp2_with fail
    refine HO.out.mono ?_
    rintro e w' ⟨rfl, rfl⟩
    go_wp2
    go_ret2
    exact ⟨rfl, rfl⟩
  · have k1 : ¬ (n : Int) < y := by omega
    by_cases h2 : 65536 < n
    · have k2 : (65536 : Int) < n := by omega
      clear h hs
      go_enter Tryd.func29, Tryd.ntmps29
      go_wp2_with fail
      refine HSZ.out.mono ?_
      rintro e w' ⟨rfl, rfl⟩
      go_wp2_with fail
      refine HO.out.mono ?_
      rintro e w' ⟨rfl, rfl⟩
      go_wp2
      go_ret2
      exact ⟨rfl, rfl⟩
    · have k2 : ¬ (65536 : Int) < n := by omega
      have h3 : em.head? ≠ some 0 := by rcases h with h | h | h; exact absurd h h1; exact absurd h h2; exact h
      obtain ⟨b, o, v, rfl, _, hv, hc⟩ := hs.at_ (k := 0) (by omega)
      rw [Nat.add_zero] at hc
      obtain ⟨x, t, hx⟩ : ∃ x t, em = x :: t := by
        cases em with
        | nil => simp at hel; omega
        | cons x t => exact ⟨x, t, rfl⟩
      subst hx
      obtain rfl : v = W8 x := (Option.some.inj hv).symm
      have hx0 : ¬ x = 0 := fun e => h3 (by rw [e]; rfl)
      have kx : ¬ i8 x = 0 := fun e => hx0 (by unfold i8 at e; exact BitVec.eq_of_toNat_eq (by simp; omega))
      have kb : (i8 x != 0) = true := by simpa using kx
      have kc : (0 : Int) < c := by have := hs.cap; omega
      clear h h3 hs hv hel
      go_enter Tryd.func29, Tryd.ntmps29
      go_wp2_with fail
      refine HSZ.out.mono ?_
      rintro e w' ⟨rfl, rfl⟩
      go_wp2_with fail
      refine HO.out.mono ?_
      rintro e w' ⟨rfl, rfl⟩
      go_wp2
      go_ret2
      exact ⟨rfl, rfl⟩
end Go.Proofs.YtnpaidieijlkkaaDoor

/- pad: DecOAEP of bytes that have the form. -/
set_option linter.unusedVariables false
set_option linter.unusedSimpArgs false
namespace Go.Proofs.YtnpaidieijlkkaaDoor
open Go.RowKit Go.Shelf

theorem Pc.sl {w : World} {B n c : Nat} {A : Option Addr} {l : List (BitVec 8)} (h : Pc w B (.slice A n c) l) : SlV w B A n c (l.map W8) ∧ (A = none → c = 0) := by
  obtain ⟨A', c', e, h1, h2⟩ := h
  injection e with e1 e2 e3
  subst e1 e2 e3
  exact ⟨h1, h2⟩
theorem own_slice {w : World} {base : Nat} {e : TypeId} {v : Value} {n : Nat} {xs : List Value} (h : w.ownsRow base e 1 v n xs) : ∃ A c, v = .slice A n c := by
  obtain ⟨A, c, e, _⟩ := own_all h
  exact ⟨A, c, e⟩
set_option maxRecDepth 100000 in
set_option maxHeartbeats 4000000 in
theorem pdecoaep_run (w : World) (k : Int) (hk : KindOk k) (hGS : StartsG w) (hGR : RootsG w) (B : Nat) (A1 : Option Addr) (n1 c1 : Nat) (label : List (BitVec 8)) (h1 : SlV w B A1 n1 c1 (label.map W8)) (z1 : A1 = none → c1 = 0) (hn1 : n1 ≤ 1000000)
    (A : Option Addr) (n c : Nat) (em : List (BitVec 8)) (hs : SlV w B A n c (em.map W8)) (hB : B ≤ w.heap.size) (hlo : 2 * szN k + 2 ≤ n) (hhi : n ≤ 65536) (h0 : em.head? = some 0) :
    Calls Tryd.prog 29 #[.int .i64 k, .slice A1 n1 c1, .slice A n c] w fun e w' => ∃ v, e = .returned (.tuple #[v, .int .i64 (if decOk k label em then 0 else 64)]) ∧ FreshV w' w.heap.size v (if decOk k label em then decMsg k label em else []) ∧ Below w.heap.size w w' := by
  obtain ⟨DO, hDO⟩ : ∃ b, decOk k label em = b := ⟨_, rfl⟩
  obtain ⟨DM, hDM⟩ : ∃ l, decMsg k label em = l := ⟨_, rfl⟩
  rw [hDO, hDM]
  have HDO := Lib.hid hDO
  have HDM := Lib.hid hDM
  clear hDO hDM
  have hsz := size_any w k
  have ho := pover_any w k
  have hle := szN_le hk
  have hel : em.length = n := by simpa using hs.len.symm
  rw [szN_eq hk] at hsz ho
  obtain ⟨z, hz⟩ : ∃ h, szN k = h := ⟨_, rfl⟩
  rw [hz] at hsz ho hle hlo
  obtain ⟨y, hy⟩ : ∃ y, 2 * z + 2 = y := ⟨_, rfl⟩
  have hyI : 2 * (z : Int) + 2 = (y : Int) := by omega
  rw [hyI] at ho
  rw [hy] at hlo
  obtain ⟨p, hp⟩ : ∃ p, 1 + z = p := ⟨_, rfl⟩
  have hpI : (1 : Int) + (z : Int) = (p : Int) := by omega
  obtain ⟨b, o, v, rfl, _, hv, hc⟩ := hs.at_ (k := 0) (by omega)
  rw [Nat.add_zero] at hc
  have hcl : w.cell? ⟨b, o, none⟩ = some (.int .u8 0) := by
    cases em with
    | nil => simp at h0
    | cons x t =>
      obtain rfl : x = 0 := by simpa using h0
      obtain rfl : v = W8 0 := (Option.some.inj hv).symm
      exact hc
  have hcap := hs.cap
  have hz0 : ((z : Int) == 0) = false := beq_eq_false_iff_ne.2 (by omega)
  have hz1 : ¬ (z : Int) = 0 := by omega
  have k1 : (y : Int) ≤ n := by omega
  have k2 : (n : Int) ≤ 65536 := by omega
  have k3 : (p : Int) ≤ n := by omega
  have k4 : (1 : Int) ≤ p := by omega
  have k5 : ¬ c = p := by omega
  have k6 : ¬ c = 1 := by omega
  have k7 : (n : Int) ≤ c := by omega
  have k8 : (0 : Int) < c := by omega
  have sH := hs.drop (k := p) (by omega)
  rw [← List.map_drop] at sH
  have sS := (hs.drop (k := 1) (by omega)).take (k := p - 1) (by omega)
  rw [← List.map_drop, ← List.map_take] at sS
  obtain ⟨H, hH⟩ : ∃ l, em.drop p = l := ⟨_, rfl⟩
  obtain ⟨S, hS⟩ : ∃ l, (em.drop 1).take (p - 1) = l := ⟨_, rfl⟩
  rw [hH] at sH
  rw [hS] at sS
  have hma := pmasked_any w k hk hGS hGR B (some ⟨b, o + 1, none⟩) (p - 1) (c - 1) S sS (some ⟨b, o + p, none⟩) (n - p) (c - p) H sH (fun e => by cases e) hB (by omega) (by omega) (by omega)
  have hSl : S.length = p - 1 := by simpa using sS.len.symm
  have hHl : H.length = n - p := by simpa using sH.len.symm
  have hmk : xorL S (mgfL k H (p - 1)) = maskK k S H := by rw [maskK, hSl]
  rw [hmk] at hma
  have HMA := Lib.hid hma
  have HSZ := Lib.hid hsz
  have HO := Lib.hid ho
  have HG := Lib.hid (⟨hGS, hGR⟩ : StartsG w ∧ RootsG w)
  have HN := Lib.hid (⟨hk, hz, hy, hp, hle.1, hle.2.2, hB, hn1, by omega, hhi⟩ : KindOk k ∧ szN k = z ∧ 2 * z + 2 = y ∧ 1 + z = p ∧ 20 ≤ z ∧ z ≤ 64 ∧ B ≤ w.heap.size ∧ n1 ≤ 1000000 ∧ 1 ≤ n - p ∧ n ≤ 65536)
  have HHS := Lib.hid (⟨hH, hS, hSl, hHl⟩ : em.drop p = H ∧ (em.drop 1).take (p - 1) = S ∧ S.length = p - 1 ∧ H.length = n - p)
  have P1 := Lib.hid ((Pc.of_sl h1 z1).more hB)
  have SH := Lib.hid sH
  have hl1 : label.length = n1 := by simpa using h1.len.symm
  have HL1 := Lib.hid hl1
  clear hma hsz ho hk hz hy hp hle hB hn1 hlo hhi hH hS sH sS h1 z1 hGS hGR hs hc hv hel h0 hyI hSl hHl hmk hl1
  go_enter Tryd.func29, Tryd.ntmps29
  go_wp2_with fail
  refine HSZ.out.mono ?_
  rintro e w' ⟨rfl, rfl⟩
  go_wp2_with fail
  refine HO.out.mono ?_
  rintro e w' ⟨rfl, rfl⟩
  go_wp2_with fail
  refine HMA.out.mono ?_
  rintro e w1 ⟨v1, rfl, hown1, hb1⟩
  have hf1 : FreshV w1 w.heap.size v1 (maskK k S H) := FreshV.of_own hown1
  obtain ⟨Aa, ca, rfl⟩ := own_slice hown1
  obtain ⟨sA, zA⟩ := hf1.pc.sl
  obtain ⟨SD, hSD⟩ : ∃ l, maskK k S H = l := ⟨_, rfl⟩
  rw [hSD] at sA
  have hmb := pmasked_any w1 k HN.out.1 (HG.out.1.later hb1) (HG.out.2.later hb1) w1.heap.size (some ⟨b, o + p, none⟩) (n - p) (c - p) H ((SH.out.below (hb1.mono HN.out.2.2.2.2.2.2.1)).more (by have := HN.out.2.2.2.2.2.2.1; have := hb1.size; omega)) Aa (p - 1) ca SD sA zA (Nat.le_refl _) HN.out.2.2.2.2.2.2.2.2.1 (by have := HN.out; omega) (by have := HN.out; omega)
  have hmk : xorL H (mgfL k SD (n - p)) = maskK k H SD := by rw [maskK, HHS.out.2.2.2]
  rw [hmk] at hmb
  have HMB := Lib.hid hmb
  have HSD := Lib.hid hSD
  have HB1 := Lib.hid hb1
  clear hmb hmk hSD hf1 hown1 hb1 sA zA HSZ HO HMA
  go_wp2_with fail
  refine HMB.out.mono ?_
  rintro e w2 ⟨v2, rfl, hown2, hb2⟩
  have hf2 : FreshV w2 w1.heap.size v2 (maskK k H SD) := FreshV.of_own hown2
  obtain ⟨Ab, cb, rfl⟩ := own_slice hown2
  have hb02 : Below w.heap.size w w2 := HB1.out.trans (hb2.mono HB1.out.size)
  obtain ⟨K, hK⟩ : ∃ l, maskK k H SD = l := ⟨_, rfl⟩
  rw [hK] at hf2
  have hof := ofA w2 k (HG.out.1.later hb02) (HG.out.2.later hb02) [.slice A1 n1 c1] #[.slice A1 n1 c1] rfl [label] ⟨P1.out.up hb02, trivial⟩ 1 rfl (by decide) (by have := HL1.out; have := HN.out; simp; omega)
  rw [show ([label] : List (List (BitVec 8))).flatten = label by simp] at hof
  have HOF := Lib.hid hof
  have HK := Lib.hid hK
  have HB2 := Lib.hid hb02
  have HF2 := Lib.hid hf2
  clear hof hK hb02 hf2 hown2 hb2 HMB HB1
  go_wp2_with fail
  refine HOF.out.mono ?_
  rintro e w3 ⟨v3, rfl, hf3, hb3⟩
  obtain ⟨Ac, nc, cc, rfl⟩ := hf3.form
  obtain ⟨sK, zK⟩ := (HF2.out.up hb3).pc.sl
  obtain ⟨sD, zD⟩ := hf3.pc.sl
  have hct := cut_any w3 _ Ab (n - p) cb K sK zK _ Ac nc cc (sumK k label) sD (by rw [sumK_len HN.out.1]; have := HN.out; omega)
  obtain ⟨b1, hb1⟩ : ∃ b, (sumK k label).isPrefixOf K = b := ⟨_, rfl⟩
  rw [hb1] at hct
  obtain ⟨R, hR⟩ : ∃ R, (if b1 = true then K.drop (sumK k label).length else K) = R := ⟨_, rfl⟩
  rw [hR] at hct
  have HCT := Lib.hid hct
  have HB3 := Lib.hid (HB2.out.trans (hb3.mono HB2.out.size))
  have HR := Lib.hid (⟨hb1, hR⟩ : (sumK k label).isPrefixOf K = b1 ∧ (if b1 = true then K.drop (sumK k label).length else K) = R)
  clear hct hb1 hR sK zK sD zD hf3 hb3 HOF HB2 HF2
  go_wp2_with fail
  refine HCT.out.mono ?_
  rintro e w' ⟨Ad, nd, cd, rfl, rfl, hpd⟩
  obtain ⟨sR, zR⟩ := hpd.sl
  have htr := trim0_any w3 _ Ad nd cd R sR zR
  have HTR := Lib.hid htr
  clear htr sR zR hpd HCT
  go_wp2_with fail
  refine HTR.out.mono ?_
  rintro e w' ⟨Ae, ne, ce, rfl, rfl, hpe⟩
  obtain ⟨hf4, hb4⟩ := freshA w3 [1] #[.int .u8 1] rfl 1 rfl (by decide)
  obtain ⟨W4, e4⟩ : ∃ W, w3.alloc (.cells #[.int .u8 1] 5) = W := ⟨_, rfl⟩
  rw [e4] at hf4 hb4
  obtain ⟨sT, zT⟩ := (hpe.up hb4).sl
  obtain ⟨sO, zO⟩ := hf4.pc.sl
  have hcu := cut_any W4 _ Ae ne ce (dropX 0 R) sT zT _ _ 1 1 [1] sO (by decide)
  obtain ⟨b2, hb2⟩ : ∃ b, ([1] : List (BitVec 8)).isPrefixOf (dropX 0 R) = b := ⟨_, rfl⟩
  rw [hb2] at hcu
  have HCU := Lib.hid hcu
  have hb04 := HB3.out.trans (hb4.mono HB3.out.size)
  have HB4 := Lib.hid hb04
  have HB2 := Lib.hid hb2
  clear hcu hb04 hb2 hf4 hb4 sT zT sO zO hpe HTR HB3
  go_wp2_with fail
  refine HCU.out.mono ?_
  rintro e w' ⟨Af, nf, cf, rfl, rfl, hpf⟩
  have hblk : decBlk k em = K := by
    rw [decBlk, HN.out.2.1, HN.out.2.2.2.1, HHS.out.1, show z = p - 1 by have := HN.out; omega, HHS.out.2.1, HSD.out, HK.out]
  have hrest : decRest k label em = R := by rw [decRest, hblk, ← HR.out.2, HR.out.1]
  have hok : decOk k label em = (b1 && b2) := by rw [decOk, hblk, hrest, HR.out.1, HB2.out]
  have hmsg : decMsg k label em = (dropX 0 R).drop 1 := by rw [decMsg, hrest]
  rw [HDO.out] at hok
  rw [HDM.out] at hmsg
  clear hblk hrest HDO HDM
  subst hmsg
  cases b1
  · subst hok
    clear hpf
    go_wp2
    go_ret2
    exact ⟨_, rfl, FreshV.nil_ _ _, HB4.out⟩
  · cases b2
    · subst hok
      clear hpf
      go_wp2
      go_ret2
      exact ⟨_, rfl, FreshV.nil_ _ _, HB4.out⟩
    · subst hok
      obtain ⟨sF, zF⟩ := hpf.sl
      have hcn := cloneK_any W4 _ Af nf cf _ sF zF (Nat.le_refl _) (by
        have h2 : (List.drop 1 (dropX 0 R)).length ≤ R.length := by
          rw [List.length_drop]
          have := (List.dropWhile_suffix (l := R) (· == (0 : BitVec 8))).length_le
          unfold dropX
          omega
        have h3 : R.length ≤ K.length := by rw [← HR.out.2, if_pos rfl, List.length_drop]; omega
        have h4 : K.length = n - p := by rw [← HK.out, maskK_length HN.out.1, HHS.out.2.2.2]
        have h5 := sF.len
        rw [List.length_map] at h5
        have := HN.out
        simp at h5 h2
        omega)
      have HCN := Lib.hid hcn
      clear hcn sF zF hpf
      go_wp2_with fail
      refine HCN.out.mono ?_
      rintro e w5 ⟨v5, rfl, hf5, hb5⟩
      have HF5 := Lib.hid (hf5.mono_ HB4.out.size)
      have HB5 := Lib.hid (HB4.out.trans (hb5.mono HB4.out.size))
      clear hf5 hb5
      go_wp2
      go_ret2
      refine ⟨_, rfl, ?_, HB5.out⟩
      have h := HF5.out
      simpa using h
end Go.Proofs.YtnpaidieijlkkaaDoor
