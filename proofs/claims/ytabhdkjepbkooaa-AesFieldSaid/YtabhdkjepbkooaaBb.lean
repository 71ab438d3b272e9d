/- aescore: the element of a block. -/
import Derived.Test.YtabhdkjepbkooaaBa
import Derived.Test.YtabhdkjepbkooaaAv
import Derived.StillTailTactics
set_option linter.unusedVariables false
set_option linter.unusedSimpArgs false
namespace Go.Proofs.Ytabhdkjepbkooaa
open Go.RowKit

def padE (bs : List (BitVec 8)) : List (BitVec 8) := bs ++ List.replicate (16 - bs.length) 0
theorem padE_length (bs : List (BitVec 8)) (h : bs.length ≤ 16) : (padE bs).length = 16 := by simp [padE]; omega
theorem padE_get (bs : List (BitVec 8)) (i : Nat) (hi : i < 16) : (padE bs).getD i 0 = bs.getD i 0 := by
  unfold padE
  rw [List.getD_eq_getElem?_getD, List.getD_eq_getElem?_getD]
  by_cases h : i < bs.length
  · rw [List.getElem?_append_left h]
  · rw [List.getElem?_append_right (by omega), List.getElem?_replicate, if_pos (by omega), List.getElem?_eq_none (by omega)]
    rfl
def hiE (bs : List (BitVec 8)) : BitVec 64 := foldQ ((padE bs).take 8)
def loE (bs : List (BitVec 8)) : BitVec 64 := foldQ ((padE bs).drop 8)
theorem elV_halves (bs : List (BitVec 8)) (h : bs.length ≤ 16) : elV bs = hiE bs ++ loE bs := by
  have hl := padE_length bs h
  unfold elV hiE loE
  congr 2
  · refine List.ext_getElem (by simp; omega) fun i h1 h2 => ?_
    have hi : i < 8 := by simpa using h1
    simp only [List.getElem_map, List.getElem_range, List.getElem_take]
    rw [← padE_get bs i (by omega), List.getD_eq_getElem?_getD, List.getElem?_eq_getElem (by omega)]
    rfl
  · refine List.ext_getElem (by simp; omega) fun i h1 h2 => ?_
    have hi : i < 8 := by simpa using h1
    simp only [List.getElem_map, List.getElem_range, List.getElem_drop]
    rw [← padE_get bs (8 + i) (by omega), List.getD_eq_getElem?_getD, List.getElem?_eq_getElem (by omega)]
    rfl
set_option maxRecDepth 100000 in
set_option maxHeartbeats 1600000 in
theorem toElement_any (w : World) (B b off n c : Nat) (bs : List (BitVec 8)) (hs : SlV w B (some ⟨b, off, none⟩) n c (bs.map W8)) (hB : B ≤ w.heap.size) (hn0 : 0 < n) (hn : n ≤ 16) :
    Calls Try.prog 35 #[.slice (some ⟨b, off, none⟩) n c] w fun e w' => e = .returned (EV (hiE bs) (loE bs)) ∧ Below w.heap.size w w' := by
  have hbl : bs.length = n := by have := hs.len; simpa using this.symm
  obtain ⟨W1, e1, r1, b1, z1⟩ := newE0 w
  obtain ⟨W2, e2, r2, b2, z2⟩ := newV W1 49 ((List.replicate 16 (0 : BitVec 8)).map W8) #[.int .u8 0, .int .u8 0, .int .u8 0, .int .u8 0, .int .u8 0, .int .u8 0, .int .u8 0, .int .u8 0, .int .u8 0, .int .u8 0, .int .u8 0, .int .u8 0, .int .u8 0, .int .u8 0, .int .u8 0, .int .u8 0] rfl
  obtain ⟨g, hg⟩ : ∃ g, w.heap.size = g := ⟨_, rfl⟩
  have b02 : Below g w W2 := by rw [← hg]; exact b1.trans (b2.mono b1.size)
  have r1 := r1.later b2
  obtain ⟨g2, hg2⟩ : ∃ x, W1.heap.size = x := ⟨_, rfl⟩
  rw [hg] at r1 hB
  rw [hg2] at r2
  have l2 : g < g2 := by omega
  have hs2 := hs.below (b02.mono hB)
  have hbm : (bs.map W8).length = n := by rw [List.length_map]; exact hbl
  obtain ⟨V, hV⟩ : ∃ V, W2.setCells g2 0 (bs.map W8) = V := ⟨_, rfl⟩
  have hcp : ∀ ty, (Builtin.copy_ #[22, 22] ty #[.slice (some ⟨g2, 0, none⟩) 16 16, .slice (some ⟨b, off, none⟩) n c]).run Try.prog W2 = .ok (goInt n) V := fun ty => by
    obtain ⟨i0, hi, hz0, hz1, hz2⟩ := info_parts Try.elem8.info
    have h := run_copy_cells W2 22 22 ty 5 g2 0 16 16 ⟨b, off, none⟩ n c (bs.map W8) Try.underlying22 (by rw [hi]; simp [hz1]) (by rw [hbm]; exact (Nat.min_eq_left hn).symm) (fun j v hv => ?_) (fun j hj => ?_) (fun j hj => r2.frozen _) (ones8 bs)
    · rw [hV, hbm] at h; exact h
    · obtain ⟨b', off', e, _, hc⟩ := hs2.2.2.2 (by intro e; rw [e] at hv; simp at hv)
      injection e with e
      injection e with e1 e2
      subst e1 e2
      rw [Addr.add_lit]
      exact hc j v hv
    · rw [hbm] at hj
      rw [r2.cell, List.getElem?_map, List.getElem?_replicate, if_pos (by omega)]; rfl
  have r3 : RowV 49 V g2 ((padE bs).map W8) := by
    have h := r2.setMany (bs.map W8) 0 W2 _ (by rw [hbm]; simp; omega)
    rw [hV] at h
    have e : ((List.replicate 16 (0 : BitVec 8)).map W8).take 0 ++ (bs.map W8 ++ ((List.replicate 16 (0 : BitVec 8)).map W8).drop (0 + (bs.map W8).length)) = (padE bs).map W8 := by
      rw [List.take_zero, List.nil_append, Nat.zero_add, hbm, ← List.map_drop, ← List.map_append, List.drop_replicate, padE, hbl]
    rwa [e] at h
  have b03 : Below g w V := by rw [← hV]; exact below_setMany (by omega) _ 0 w W2 b02
  have r1V : RowV 61 V g [W64 0, W64 0] := by rw [← hV]; exact (r1.below (below_setMany (Nat.le_refl g2) (bs.map W8) 0 W2 W2 (Below.refl _ _)) l2)
  have hpl := padE_length bs (by omega)
  obtain ⟨pe, hpe⟩ : ∃ l, padE bs = l := ⟨_, rfl⟩
  rw [hpe] at r3 hpl
  obtain ⟨x, hx⟩ : ∃ x, foldQ (pe.take 8) = x := ⟨_, rfl⟩
  obtain ⟨y, hy⟩ : ∃ x, foldQ (pe.drop 8) = x := ⟨_, rfl⟩
  have HE := Lib.hid (show hiE bs = x ∧ loE bs = y from ⟨by unfold hiE; rw [hpe, hx], by unfold loE; rw [hpe, hy]⟩)
  have hsl := r3.sl (by rw [List.length_map, hpl]; decide)
  rw [List.length_map, hpl] at hsl
  have h1 := hsl.take (k := 8) (by decide)
  have h2 := hsl.drop (k := 8) (by decide)
  rw [← List.map_take] at h1
  rw [← List.map_drop, Nat.zero_add] at h2
  have k1 : Calls Try.prog 44 #[.slice (some ⟨g2, 0, none⟩) 8 16] V.drew fun e w' => e = .returned (W64 x) ∧ w' = V.drew := (hx ▸ word_any V.drew _ g2 0 8 16 (pe.take 8) h1 rfl).mono fun _ _ ⟨a, b⟩ => ⟨a, b.symm⟩
  have k2 : Calls Try.prog 44 #[.slice (some ⟨g2, 8, none⟩) 8 8] V.drew fun e w' => e = .returned (W64 y) ∧ w' = V.drew := (hy ▸ word_any V.drew _ g2 8 8 8 (pe.drop 8) h2 rfl).mono fun _ _ ⟨a, b⟩ => ⟨a, b.symm⟩
  have HB := Lib.hid b03
  have HG := Lib.hid hg
  have hg2g : g ≤ g := Nat.le_refl g
  have r1D : RowV 61 V.drew g [W64 0, W64 0] := r1V
  have K1 := Lib.hid k1
  have K2 := Lib.hid k2
  obtain ⟨VD, hVD⟩ : ∃ X, V.drew = X := ⟨_, rfl⟩
  rw [hVD] at r1D K1 K2
  have HBD := Lib.hid (show Below g w VD by rw [← hVD]; exact below_drewN b03 1)
  have HVD := Lib.hid hVD
  clear b1 b2 z1 z2 b02 r1 r2 r3 r1V b03 hs hs2 hx hy h1 h2 hsl hV k1 k2 hpe hVD
  go_enter Try.func35, Try.ntmps35
  go_wp2
  refine wp_region_still_tail 5 (by kernel_rfl) (by kernel_rfl) ?_
  simp only [List.take_succ_cons, List.take_zero, List.drop_succ_cons, List.drop_zero]
  show wpStill _ _ (World.drew _) (fun a' => wpList _ _ _ _ a' (World.drew _)) _ _
  rw [HVD.out]
  refine wpStill_step (fun K hK => ?_); go_simp; refine hK _ ?_; clear hK K
  refine wpStill_step (fun K hK => ?_); go_simp; refine ⟨_, K1.out, hK _ ?_⟩; clear hK K
  refine wpStill_step (fun K hK => ?_); go_simp; refine hK _ ?_; clear hK K
  refine wpStill_step (fun K hK => ?_); go_simp; refine ⟨_, K2.out, hK _ ?_⟩; clear hK K
  refine wpStill_step (fun K hK => ?_); go_simp; refine hK _ ?_; clear hK K
  refine wpStill_nil ?_
  go_wp2_with ((with_reducible show wpList _ _ _ (⟨none, _, _, _, _, _⟩ :: _) _ _); refine wlv_store rfl 61 2 Try.sizeE _ _ rfl g [W64 x, W64 y] rfl rfl _ _ r1D rfl rfl (by intro v hv; simp at hv; rcases hv with rfl | rfl <;> rfl) ?_; intro w2 hr2 hb2 hz2)
  refine ⟨rfl, _, results_elem rfl _ g _ _ rfl hr2, by rw [HE.out.1, HE.out.2], ?_⟩
  rw [HG.out]
  exact hb2 _ _ HBD.out hg2g
end Go.Proofs.Ytabhdkjepbkooaa
