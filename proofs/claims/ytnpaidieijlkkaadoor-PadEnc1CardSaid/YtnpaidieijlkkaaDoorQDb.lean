/- drbg: update, New, Reseed, Left. -/
import Derived.Test.YtnpaidieijlkkaaDoorQDa
set_option linter.unusedVariables false
set_option linter.unusedSimpArgs false
namespace Go.Proofs.YtnpaidieijlkkaaDoor
open Go.RowKit Go.Shelf

def updL (kv : List (BitVec 8) × List (BitVec 8)) (data : List (BitVec 8)) : List (BitVec 8) × List (BitVec 8) :=
  let k1 := mixK kv.1 kv.2 0 data
  let v1 := stepL k1 kv.2
  if data = [] then (k1, v1) else (mixK k1 v1 1 data, stepL (mixK k1 v1 1 data) v1)
set_option maxRecDepth 100000 in
set_option maxHeartbeats 2000000 in
theorem dupdate_any (w : World) (g : Nat) (hg1 : 4 < g) (kv : List (BitVec 8) × List (BitVec 8)) (calls : Int) (h : DrbgR w g kv.1 kv.2 calls) (hGS : StartsG w) (hGR : RootsG w) (B : Nat) (A : Option Addr) (n c : Nat) (data : List (BitVec 8)) (hs : SlV w B A n c (data.map W8)) (hz : A = none → c = 0) (hB : B ≤ g) (hn : n + 1024 ≤ 17592186044416) :
    Calls Tryd.prog 37 #[.pointer (some ⟨g, 0, none⟩), .slice A n c] w fun e w' => e = .returned (.tuple #[]) ∧ DrbgR w' g (updL kv data).1 (updL kv data).2 calls ∧ OnlyV w w' g := by
  have hgw := h.row.lt
  have hm := dmix_any w g hg1 kv.1 kv.2 calls h hGS hGR 0 0 rfl B A n c data hs hz (by omega) hn
  obtain ⟨k1, hk1⟩ : ∃ k, mixK kv.1 kv.2 0 data = k := ⟨_, rfl⟩
  obtain ⟨v1, hv1⟩ : ∃ v, stepL k1 kv.2 = v := ⟨_, rfl⟩
  have hl0 := hs.len
  rw [List.length_map] at hl0
  rw [hk1, hv1] at hm
  have hcap := hs.cap
  have hmax := hs.max
  have HM := Lib.hid hm
  have HS := Lib.hid hs
  have HG := Lib.hid (⟨hGS, hGR⟩ : StartsG w ∧ RootsG w)
  by_cases hd : data = []
  · have hu : updL kv data = (k1, v1) := by simp only [updL, hk1, hv1, if_pos hd]
    rw [hu]
    have hn0 : n = 0 := by rw [hl0, hd]; rfl
    subst hn0
    clear hm hs hGS hGR h hk1 hv1 hl0 hd hu
    go_enter Tryd.func37, Tryd.ntmps37
    go_wp2_with fail
    refine HM.out.mono ?_
    rintro e w1 ⟨rfl, hh1, ho1⟩
    have H1 := Lib.hid hh1
    have O1 := Lib.hid ho1
    clear hh1 ho1
    go_wp2
    refine bodyPost_end (results_none rfl _ _ _) rfl ?_
    exact ⟨rfl, H1.out, O1.out⟩
  · have hu : updL kv data = (mixK k1 v1 1 data, stepL (mixK k1 v1 1 data) v1) := by simp only [updL, hk1, hv1, if_neg hd]
    rw [hu]
    have hnI : (0 : Int) < n := by
      have : data.length ≠ 0 := fun h => hd (List.eq_nil_of_length_eq_zero h)
      omega
    clear hm hs hGS hGR h hk1 hv1 hl0 hd hu
    go_enter Tryd.func37, Tryd.ntmps37
    go_wp2_with fail
    refine HM.out.mono ?_
    rintro e w1 ⟨rfl, hh1, ho1⟩
    have hm2 := dmix_any w1 g hg1 k1 v1 calls hh1 (HG.out.1.only ho1 hg1) (HG.out.2.only ho1 hg1) 1 1 rfl B A n c data (HS.out.below (ho1.below hB (by omega))) hz (by have := ho1.size; omega) hn
    have M2 := Lib.hid hm2
    have O1 := Lib.hid ho1
    clear hh1 ho1 hm2
    go_wp2_with fail
    refine M2.out.mono ?_
    rintro e w2 ⟨rfl, hh2, ho2⟩
    have H2 := Lib.hid hh2
    have O2 := Lib.hid ho2
    clear hh2 ho2
    go_wp2
    refine bodyPost_end (results_none rfl _ _ _) rfl ?_
    exact ⟨rfl, H2.out, O1.out.trans O2.out⟩
set_option maxRecDepth 100000 in
set_option maxHeartbeats 2000000 in
theorem dnew_any (w : World) (hGS : StartsG w) (hGR : RootsG w) (B : Nat) (A : Option Addr) (n c : Nat) (data : List (BitVec 8)) (hs : SlV w B A n c (data.map W8)) (hz : A = none → c = 0) (hB : B ≤ w.heap.size) (hn : n + 1024 ≤ 17592186044416) :
    Calls Tryd.prog 11 #[.slice A n c] w fun e w' => e = .returned (.pointer (some ⟨w.heap.size, 0, none⟩)) ∧ DrbgR w' w.heap.size (updL (List.replicate 32 0, List.replicate 32 1) data).1 (updL (List.replicate 32 0, List.replicate 32 1) data).2 0 ∧ Below w.heap.size w w' := by
  obtain ⟨W1, e1, r1, b1, z1⟩ := newV w 63 (dL (List.replicate 32 0) (List.replicate 32 0) 0) Tryd.zeroCells63 (by first | rfl | kernel_rfl)
  obtain ⟨g, hg⟩ : ∃ b, w.heap.size = b := ⟨_, rfl⟩
  rw [hg] at r1 ⊢
  have hg1 : 4 < g := by have := hGR.1; omega
  have HB1 := Lib.hid b1
  have HR1 := Lib.hid r1
  have HG := Lib.hid (⟨hGS, hGR⟩ : StartsG w ∧ RootsG w)
  have HS := Lib.hid hs
  have HGG := Lib.hid hg
  have h32 : (List.replicate 32 (0 : BitVec 8)).length = 32 := by simp
  have hgl := r1.lt
  clear b1 r1 hGS hGR hs z1
  go_enter Tryd.func11, Tryd.ntmps11
  go_wp2
  go_loopw [7] (fun i wr => ∃ (j : Nat), j ≤ 32 ∧ i = .int .i64 (j : Int) ∧ Hid (DrbgR wr g (List.replicate 32 0) ((List.replicate 32 1).take j ++ List.replicate (32 - j) 0) 0) ∧ Hid (Below g w wr)) (fun i _ => 32 - (intOf i).toNat)
  case atStart => exact ⟨0, by decide, rfl, Lib.hid ⟨by simp, by simp, HR1.out⟩, Lib.hid (by rw [← HGG.out]; exact HB1.out)⟩
  case round =>
    obtain ⟨j, hj, rfl, HD, HB⟩ := hrel
    by_cases hj32 : j = 32
    · subst hj32
      have hd := HD.out
      rw [show (List.replicate 32 (1 : BitVec 8)).take 32 ++ List.replicate (32 - 32) 0 = List.replicate 32 1 from rfl] at hd
      have hbw := HB.out
      rw [← HGG.out] at hbw
      have hu := dupdate_any wr g hg1 (List.replicate 32 0, List.replicate 32 1) 0 hd (HG.out.1.later hbw) (HG.out.2.later hbw) B A n c data (HS.out.below (hbw.mono hB)) hz (by rw [← HGG.out]; exact hB) hn
      have HU := Lib.hid hu
      clear hu hd hbw
      go_wp2_with fail
      refine HU.out.mono ?_
      rintro e w1 ⟨rfl, hd1, ho1⟩
      have H1 := Lib.hid hd1
      have O1 := Lib.hid ho1
      clear hd1 ho1
      go_wp2
      go_ret
      exact ⟨rfl, H1.out, HB.out.trans (O1.out.below (Nat.le_refl _) (by have := HD.out.row.lt; omega))⟩
    · have hjI : (j : Int) < 32 := by omega
      have hj0 : (0 : Int) ≤ j := by omega
      have hc : wr.cell? ⟨g, 32 + j, none⟩ = some (.int .u8 0) := HD.out.row.at_ (by
        rw [dL, List.getElem?_append_right (by simp), List.length_map, List.length_replicate, Nat.add_sub_cancel_left, List.getElem?_append_left (by simp; omega), List.getElem?_map]
        have := fill_get (List.replicate 32 (1 : BitVec 8)) 0 j (by simp; omega)
        rw [List.length_replicate] at this
        rw [this]
        rfl)
      have hf := HD.out.row.frozen (32 + j)
      have hst := HD.out.row.set (32 + j) (.int .u8 1)
      have hset : (dL (List.replicate 32 0) ((List.replicate 32 (1 : BitVec 8)).take j ++ List.replicate (32 - j) 0) 0).set (32 + j) (.int .u8 1) = dL (List.replicate 32 0) ((List.replicate 32 1).take (j + 1) ++ List.replicate (32 - (j + 1)) 0) 0 := by
        have h1 := fill_set (List.replicate 32 (1 : BitVec 8)) 0 j 1 (by rw [List.getElem?_replicate, if_pos (by omega)])
        rw [List.length_replicate] at h1
        rw [dL, dL, List.set_append_right _ _ (by simp), List.length_map, List.length_replicate, Nat.add_sub_cancel_left, List.set_append_left _ _ (by simp; omega), ← h1, List.map_set]
        rfl
      rw [hset] at hst
      have HST := Lib.hid hst
      clear hst hset
      go_wp2
      go_roundw
      case rel => exact ⟨j + 1, by omega, by go_num, Lib.hid ⟨by simp, by simp; omega, HST.out⟩, Lib.hid (HB.out.setCell (p := ⟨g, 32 + j, none⟩) (Nat.le_refl _) _)⟩
      case measure => simp [intOf]; omega
end Go.Proofs.YtnpaidieijlkkaaDoor
