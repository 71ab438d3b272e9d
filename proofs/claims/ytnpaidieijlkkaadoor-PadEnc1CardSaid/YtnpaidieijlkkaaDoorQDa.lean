/- drbg: hmac, step, mix, update. -/
import Derived.Test.YtnpaidieijlkkaaDoorPileJ10
set_option linter.unusedVariables false
set_option linter.unusedSimpArgs false
namespace Go.Proofs.YtnpaidieijlkkaaDoor
open Go.RowKit Go.Shelf

/-- the cells of a generator -/
def dL (key val : List (BitVec 8)) (calls : Int) : List Value := key.map W8 ++ (val.map W8 ++ [.int .i64 calls])
structure DrbgR (w : World) (g : Nat) (key val : List (BitVec 8)) (calls : Int) : Prop where
  hk : key.length = 32
  hv : val.length = 32
  row : RowV 63 w g (dL key val calls)
theorem DrbgR.later {w w' : World} {g : Nat} {key val : List (BitVec 8)} {calls : Int} (h : DrbgR w g key val calls) (hb : Below w.heap.size w w') : DrbgR w' g key val calls := ⟨h.hk, h.hv, h.row.later hb⟩
theorem dL_length {key val : List (BitVec 8)} (calls : Int) (hk : key.length = 32) (hv : val.length = 32) : (dL key val calls).length = 65 := by simp [dL, hk, hv]
theorem DrbgR.key_ {w : World} {g : Nat} {key val : List (BitVec 8)} {calls : Int} (h : DrbgR w g key val calls) : SlV w w.heap.size (some ⟨g, 0, none⟩) 32 32 (key.map W8) := by
  have hs := h.row.slOff 0 32 (by rw [dL_length _ h.hk h.hv]; decide) (by rw [dL_length _ h.hk h.hv]; decide)
  have : ((dL key val calls).drop 0).take 32 = key.map W8 := by
    rw [List.drop_zero, dL, List.take_left' (by simp [h.hk])]
  rw [this] at hs
  exact ⟨hs.1, Nat.le_refl _, by decide, hs.2.2.2⟩
theorem DrbgR.val_ {w : World} {g : Nat} {key val : List (BitVec 8)} {calls : Int} (h : DrbgR w g key val calls) : SlV w w.heap.size (some ⟨g, 32, none⟩) 32 32 (val.map W8) := by
  have hs := h.row.slOff 32 32 (by rw [dL_length _ h.hk h.hv]; decide) (by rw [dL_length _ h.hk h.hv]; decide)
  have : ((dL key val calls).drop 32).take 32 = val.map W8 := by
    rw [dL, List.drop_left' (by simp [h.hk]), List.take_left' (by simp [h.hv])]
  rw [this] at hs
  exact ⟨hs.1, Nat.le_refl _, by decide, hs.2.2.2⟩
theorem Tryd.arr328 : (Tryd.prog.info? 61).map (·.size) = some 32 := by kernel_rfl
theorem run_arrayAt (w : World) (b n c : Nat) (hn : 32 ≤ n) : (Instr.arrayAt 61 (.slice (some ⟨b, 0, none⟩) n c)).run Tryd.prog w = .ok (.pointer (some ⟨b, 0, none⟩)) w := by
  have h : ¬ n < 32 := by omega
  simp [Instr.arrayAt, run_underlying Tryd.underlying61, h, go_sem]
theorem StartsG.only {w w' : World} {g : Nat} (h : StartsG w) (ho : OnlyV w w' g) (hg : 4 < g) : StartsG w' := ⟨Nat.lt_of_lt_of_le h.1 ho.size, fun k h1 h5 j v hv => (ho.cell (p := ⟨1, k * 8 + j, none⟩) h.1 (by show 1 ≠ g; omega)).trans (h.2 k h1 h5 j v hv)⟩
theorem szN3 : szN 3 = 32 := rfl
theorem kind3 : KindOk 3 := by unfold KindOk; omega

set_option maxRecDepth 100000 in
set_option maxHeartbeats 2000000 in
theorem dhmac_any (w : World) (g : Nat) (key val : List (BitVec 8)) (calls : Int) (h : DrbgR w g key val calls) (hGS : StartsG w) (hGR : RootsG w) (B : Nat) (A : Option Addr) (n c : Nat) (pss : List (List (BitVec 8))) (hp : PartsV w B A n c pss) (hB : B ≤ w.heap.size) (hn : n ≤ 17592186044416) (hlen : pss.flatten.length + 512 ≤ 17592186044416) :
    Calls Tryd.prog 97 #[.pointer (some ⟨g, 0, none⟩), .slice A n c] w fun e w' => e = .returned (.agg ((hmacL 3 key pss.flatten).map W8).toArray) ∧ Below w.heap.size w w' := by
  obtain ⟨W1, e1, r1, b1, z1⟩ := newV w 61 (List.replicate 32 (.int .u8 0)) #[.int .u8 0, .int .u8 0, .int .u8 0, .int .u8 0, .int .u8 0, .int .u8 0, .int .u8 0, .int .u8 0, .int .u8 0, .int .u8 0, .int .u8 0, .int .u8 0, .int .u8 0, .int .u8 0, .int .u8 0, .int .u8 0, .int .u8 0, .int .u8 0, .int .u8 0, .int .u8 0, .int .u8 0, .int .u8 0, .int .u8 0, .int .u8 0, .int .u8 0, .int .u8 0, .int .u8 0, .int .u8 0, .int .u8 0, .int .u8 0, .int .u8 0, .int .u8 0] rfl
  obtain ⟨b0, hb0⟩ : ∃ b, w.heap.size = b := ⟨_, rfl⟩
  rw [hb0] at r1
  have hh := h.later b1
  have hm := hmac_any W1 3 kind3 (hGS.later b1) (hGR.later b1) W1.heap.size _ 32 32 key hh.key_ (by intro h; cases h) (Nat.le_refl _) (by decide) A n c pss ⟨hp.choose, (hp.choose_spec.1.below (b1.mono hB)).more (by omega), hp.choose_spec.2.1, fun i v ps a b => by
    obtain ⟨Ai, ni, ci, e, hs, hz⟩ := hp.choose_spec.2.2 i v ps a b
    exact ⟨Ai, ni, ci, e, (hs.below (b1.mono hB)).more (by omega), hz⟩⟩ hn hlen
  obtain ⟨D, hD⟩ : ∃ D, hmacL 3 key pss.flatten = D := ⟨_, rfl⟩
  have hl2 : (D.map W8).length = 32 := by rw [← hD, List.length_map, hmacL_length, szN3]
  rw [hD] at hm ⊢
  have har := fun (w : World) (b : Nat) => run_arrayAt w b 32 32 (Nat.le_refl _)
  have HM := Lib.hid hm
  have HB1 := Lib.hid b1
  have HR1 := Lib.hid r1
  have HB0 := Lib.hid hb0
  have hlt := r1.lt
  clear hm b1 r1 hh h hp hGS hGR hlen z1 hD
  go_enter Tryd.func97, Tryd.ntmps97
  go_wp2_with fail
  refine HM.out.mono ?_
  rintro e w2 ⟨b, rfl, hbb, hrow, hb2⟩
  rw [szN3]
  have hr2 := HR1.out.later hb2
  have HB2 := Lib.hid hb2
  clear hb2
  go_wp2_with (first | refine wlv_load rfl 61 32 _ Tryd.underlying61 Tryd.arr328 _ rfl b rfl _ _ hrow hl2 ?_ | (refine wlv_storeO rfl 61 32 Tryd.arr328 _ _ rfl b0 (D.map W8) rfl rfl _ _ hr2 rfl hl2 (ones8 D) ?_; intro w3 hr3 ho3))
  refine ⟨rfl, _, results_rowV rfl _ b0 _ _ rfl hr3 Tryd.underlying61 Tryd.arr328 hl2, rfl, ?_⟩
  rw [HB0.out]
  exact (HB1.out.mono (by omega)).trans ((HB2.out.mono (by omega)).trans (ho3.below (Nat.le_refl _) (by have := HB2.out.size; omega)))
theorem DrbgR.cells_ {w : World} {g : Nat} {key val : List (BitVec 8)} {calls : Int} (h : DrbgR w g key val calls) (off : Nat) (ho : off + 32 ≤ 65) : w.there g off 32 := fun j hj => ⟨by
    have := h.row.cell (off + j)
    rw [this, List.getElem?_eq_getElem (by rw [dL_length _ h.hk h.hv]; omega)]
    rfl, h.row.frozen _⟩
theorem DrbgR.putVal {w : World} {g : Nat} {key val : List (BitVec 8)} {calls : Int} (h : DrbgR w g key val calls) (D : List (BitVec 8)) (hl : D.length = 32) : DrbgR (w.setCells g 32 (D.map W8)) g key D calls :=
  ⟨h.hk, hl, by
    have h2 := RowV.setCells (D.map W8) 32 _ _ h.row
    have h3 := setL_mid (D.map W8) (key.map W8) (val.map W8) [.int .i64 calls] (by simp [h.hv, hl])
    rw [show (key.map W8).length = 32 by simp [h.hk]] at h3
    rw [dL, h3] at h2
    exact h2⟩
theorem DrbgR.putKey {w : World} {g : Nat} {key val : List (BitVec 8)} {calls : Int} (h : DrbgR w g key val calls) (D : List (BitVec 8)) (hl : D.length = 32) : DrbgR (w.setCells g 0 (D.map W8)) g D val calls :=
  ⟨hl, h.hv, by
    have h2 := RowV.setCells (D.map W8) 0 _ _ h.row
    have h3 := setL_mid (D.map W8) [] (key.map W8) (val.map W8 ++ [.int .i64 calls]) (by simp [h.hk, hl])
    rw [List.length_nil, List.nil_append, List.nil_append] at h3
    rw [dL, h3] at h2
    exact h2⟩
theorem PartsV.one {w : World} {g B : Nat} {A1 : Option Addr} {n1 c1 : Nat} {p1 : List (BitVec 8)} (h : RowV 22 w g [.slice A1 n1 c1]) (h1 : SlV w B A1 n1 c1 (p1.map W8)) (z1 : A1 = none → c1 = 0) (hg : g < B) :
    PartsV w B (some ⟨g, 0, none⟩) 1 1 [p1] := by
  refine ⟨[.slice A1 n1 c1], ⟨rfl, by decide, by decide, fun _ => ⟨g, 0, rfl, hg, fun k v hv => by rw [Nat.zero_add]; exact h.at_ hv⟩⟩, rfl, fun i v ps hv hp => ?_⟩
  match i with
  | 0 => cases hv; cases hp; exact ⟨_, _, _, rfl, h1, z1⟩
  | i + 1 => simp at hv
theorem PartsV.three {w : World} {g B : Nat} {A1 A2 A3 : Option Addr} {n1 c1 n2 c2 n3 c3 : Nat} {p1 p2 p3 : List (BitVec 8)} (h : RowV 22 w g [.slice A1 n1 c1, .slice A2 n2 c2, .slice A3 n3 c3]) (h1 : SlV w B A1 n1 c1 (p1.map W8)) (z1 : A1 = none → c1 = 0) (h2 : SlV w B A2 n2 c2 (p2.map W8)) (z2 : A2 = none → c2 = 0) (h3 : SlV w B A3 n3 c3 (p3.map W8)) (z3 : A3 = none → c3 = 0) (hg : g < B) :
    PartsV w B (some ⟨g, 0, none⟩) 3 3 [p1, p2, p3] := by
  refine ⟨[.slice A1 n1 c1, .slice A2 n2 c2, .slice A3 n3 c3], ⟨rfl, by decide, by decide, fun _ => ⟨g, 0, rfl, hg, fun k v hv => by rw [Nat.zero_add]; exact h.at_ hv⟩⟩, rfl, fun i v ps hv hp => ?_⟩
  match i with
  | 0 => cases hv; cases hp; exact ⟨_, _, _, rfl, h1, z1⟩
  | 1 => cases hv; cases hp; exact ⟨_, _, _, rfl, h2, z2⟩
  | 2 => cases hv; cases hp; exact ⟨_, _, _, rfl, h3, z3⟩
  | i + 3 => simp at hv
/-- V anew -/
def stepL (key val : List (BitVec 8)) : List (BitVec 8) := hmacL 3 key val
theorem stepL_length (key val : List (BitVec 8)) : (stepL key val).length = 32 := by rw [stepL, hmacL_length]; rfl
set_option maxRecDepth 100000 in
set_option maxHeartbeats 2000000 in
theorem dstep_any (w : World) (g : Nat) (key val : List (BitVec 8)) (calls : Int) (h : DrbgR w g key val calls) (hGS : StartsG w) (hGR : RootsG w) :
    Calls Tryd.prog 72 #[.pointer (some ⟨g, 0, none⟩)] w fun e w' => e = .returned (.tuple #[]) ∧ DrbgR w' g key (stepL key val) calls ∧ OnlyV w w' g := by
  obtain ⟨W1, e1, r1, b1, z1⟩ := newV w 22 [.slice (some ⟨g, 32, none⟩) 32 32] #[.slice (some ⟨g, 32, none⟩) 32 32] rfl
  obtain ⟨b0, hb0⟩ : ∃ b, w.heap.size = b := ⟨_, rfl⟩
  rw [hb0] at r1
  have hh := h.later b1
  have hm := dhmac_any W1 g key val calls hh (hGS.later b1) (hGR.later b1) W1.heap.size _ 1 1 [val] (PartsV.one r1 hh.val_ (by intro h; cases h) (by omega)) (Nat.le_refl _) (by decide) (by simp [h.hv])
  rw [List.flatten_singleton] at hm
  have hDl := stepL_length key val
  obtain ⟨D, hD⟩ : ∃ D, stepL key val = D := ⟨_, rfl⟩
  rw [show hmacL 3 key val = D from hD] at hm
  rw [hD] at hDl ⊢
  have HM := Lib.hid hm
  have HH := Lib.hid hh
  have HB1 := Lib.hid b1
  have HDL := Lib.hid hDl
  clear hm b1 r1 hh h hGS hGR z1 hD hDl
  go_enter Tryd.func72, Tryd.ntmps72
  go_wp2_with fail
  refine HM.out.mono ?_
  rintro e w2 ⟨rfl, hb2⟩
  have hh2 := HH.out.later hb2
  have hth := hh2.cells_ 32 (by decide)
  have hDm : (D.map W8).toArray.size = 32 := by simpa using HDL.out
  have HB2 := Lib.hid hb2
  have HH2 := Lib.hid hh2
  clear hb2 hh2
  go_wp2_with (refine wpList_store_mid rfl 61 _ _ rfl g 32 (D.map W8).toArray rfl rfl (by rw [hDm]; exact hth) (by rw [hDm]; exact Tryd.arr328) (all_oneCell_toArray (ones8 D)) ?_)
  refine bodyPost_end (results_none rfl _ _ _) rfl ?_
  exact ⟨rfl, HH2.out.putVal D HDL.out, OnlyV.sets _ _ _ ((OnlyV.of_below HB1.out g).trans (OnlyV.of_below HB2.out g))⟩
/-- K anew -/
def mixK (key val : List (BitVec 8)) (mark : BitVec 8) (data : List (BitVec 8)) : List (BitVec 8) := hmacL 3 key (val ++ ([mark] ++ data))
theorem mixK_length (key val : List (BitVec 8)) (mark : BitVec 8) (data : List (BitVec 8)) : (mixK key val mark data).length = 32 := by rw [mixK, hmacL_length]; rfl
set_option maxRecDepth 100000 in
set_option maxHeartbeats 2000000 in
theorem dmix_any (w : World) (g : Nat) (hg1 : 4 < g) (key val : List (BitVec 8)) (calls : Int) (h : DrbgR w g key val calls) (hGS : StartsG w) (hGR : RootsG w) (mark : BitVec 8) (mz : Int) (hmz : i8 mark = mz) (B : Nat) (A : Option Addr) (n c : Nat) (data : List (BitVec 8)) (hs : SlV w B A n c (data.map W8)) (hz : A = none → c = 0) (hB : B ≤ w.heap.size) (hn : n + 1024 ≤ 17592186044416) :
    Calls Tryd.prog 69 #[.pointer (some ⟨g, 0, none⟩), .int .u8 mz, .slice A n c] w fun e w' => e = .returned (.tuple #[]) ∧ DrbgR w' g (mixK key val mark data) (stepL (mixK key val mark data) val) calls ∧ OnlyV w w' g := by
  subst hmz
  obtain ⟨W1, e1, r1, b1, z1⟩ := newV w 5 [.int .u8 (i8 mark)] #[.int .u8 (i8 mark)] rfl
  obtain ⟨b0, hb0⟩ : ∃ b, w.heap.size = b := ⟨_, rfl⟩
  rw [hb0] at r1
  obtain ⟨W2, e2, r2, b2, z2⟩ := newV W1 22 [.slice (some ⟨g, 32, none⟩) 32 32, .slice (some ⟨b0, 0, none⟩) 1 1, .slice A n c] #[.slice (some ⟨g, 32, none⟩) 32 32, .slice (some ⟨b0, 0, none⟩) 1 1, .slice A n c] rfl
  obtain ⟨b3, hb3⟩ : ∃ b, W1.heap.size = b := ⟨_, rfl⟩
  rw [hb3] at r2
  have h12 : Below w.heap.size w W2 := b1.trans (b2.mono b1.size)
  have hh := h.later h12
  have hl0 := hs.len
  rw [List.length_map] at hl0
  have hs1 : SlV W1 W1.heap.size (some ⟨b0, 0, none⟩) 1 1 ([mark].map W8) := r1.sl (by simp)
  have hm := dhmac_any W2 g key val calls hh (hGS.later h12) (hGR.later h12) W2.heap.size _ 3 3 [val, [mark], data] (PartsV.three r2 hh.val_ (by intro h; cases h) ((hs1.below b2).more b2.size) (by intro h; cases h) ((hs.below (h12.mono hB)).more (Nat.le_trans hB h12.size)) hz (by omega)) (Nat.le_refl _) (by decide) (by simp [h.hv]; omega)
  rw [show [val, [mark], data].flatten = val ++ ([mark] ++ data) by simp] at hm
  have hKl := mixK_length key val mark data
  obtain ⟨K, hK⟩ : ∃ K, mixK key val mark data = K := ⟨_, rfl⟩
  rw [show hmacL 3 key (val ++ ([mark] ++ data)) = K from hK] at hm
  rw [hK] at hKl ⊢
  have HM := Lib.hid hm
  have HH := Lib.hid hh
  have HB1 := Lib.hid h12
  have HKL := Lib.hid hKl
  have HG := Lib.hid (⟨hGS.later h12, hGR.later h12⟩ : StartsG W2 ∧ RootsG W2)
  clear hm b1 r1 hh h hGS hGR z1 hK hKl h12 b2 r2 hs1 hs z2 hl0
  go_enter Tryd.func69, Tryd.ntmps69
  go_wp2_with fail
  refine HM.out.mono ?_
  rintro e w2 ⟨rfl, hb2⟩
  have hh2 := HH.out.later hb2
  have hth := hh2.cells_ 0 (by decide)
  have hDm : (K.map W8).toArray.size = 32 := by simpa using HKL.out
  obtain ⟨W3, e3⟩ : ∃ W, w2.setCells g 0 (K.map W8).toArray.toList = W := ⟨_, rfl⟩
  have hh3 : DrbgR W3 g K val calls := by rw [← e3]; exact hh2.putKey K HKL.out
  have ho3 : OnlyV W2 W3 g := by rw [← e3]; exact OnlyV.sets _ _ _ (OnlyV.of_below hb2 g)
  have hst := dstep_any W3 g K val calls hh3 (HG.out.1.only ho3 hg1) (HG.out.2.only ho3 hg1)
  have HST := Lib.hid hst
  have HO3 := Lib.hid ho3
  clear hb2 hh2 hh3 ho3 hst
  go_wp2_with (refine wpList_store_mid rfl 61 _ _ rfl g 0 (K.map W8).toArray rfl rfl (by rw [hDm]; exact hth) (by rw [hDm]; exact Tryd.arr328) (all_oneCell_toArray (ones8 K)) ?_)
  refine HST.out.mono ?_
  rintro e w4 ⟨rfl, hh4, ho4⟩
  have HH4 := Lib.hid hh4
  have HO4 := Lib.hid ho4
  clear hh4 ho4 hth
  go_wp2
  refine bodyPost_end (results_none rfl _ _ _) rfl ?_
  exact ⟨rfl, HH4.out, ((OnlyV.of_below HB1.out g).trans HO3.out).trans HO4.out⟩
end Go.Proofs.YtnpaidieijlkkaaDoor
