/- baileyref8: pss, EncPSS. -/
import Derived.Test.YtnpaidieijlkkaaDoorQPdV
set_option linter.unusedVariables false
set_option linter.unusedSimpArgs false
namespace Go.Proofs.YtnpaidieijlkkaaDoor
open Go.RowKit Go.Shelf

def psR (k bits : Int) (n1 : Nat) (salt : Int) : Int := if psB k bits n1 = false then 7 else if (bits + 7) / 8 < sizeV k + 2 ∨ (bits + 7) / 8 - sizeV k - 2 < salt then 33 else 0
set_option maxRecDepth 100000 in
set_option maxHeartbeats 1000000 in
theorem rpss_any (w : World) (k bits : Int) (A : Option Addr) (n c : Nat) (salt : Int) (hs1 : 0 ≤ salt) :
    Calls Tryd.prog 64 #[.int .i64 k, .int .i64 bits, .slice A n c, .int .i64 salt] w fun e w' => e = .returned (.int .i64 (psR k bits n salt)) ∧ w = w' := by
  have hs := rsize_any w k
  have hbd := sizeV_bd k
  have hpr : psR k bits n salt = if decide (decide (0 < sizeV k ∧ (n : Int) = sizeV k) = true ∧ 1 ≤ bits ∧ bits ≤ 65536) = false then 7 else if (bits + 7) / 8 < sizeV k + 2 ∨ (bits + 7) / 8 - sizeV k - 2 < salt then 33 else 0 := rfl
  obtain ⟨R, hR⟩ : ∃ r, psR k bits n salt = r := ⟨_, rfl⟩
  rw [hR] at hpr ⊢
  obtain ⟨z, hz⟩ : ∃ z, sizeV k = z := ⟨_, rfl⟩
  rw [hz] at hs hbd hpr
  have z0 := hbd.1
  have z64 := hbd.2
  have HS := Lib.hid hs
  clear hs hbd hz hR
  by_cases h0 : z = 0
  · obtain rfl : R = 7 := by rw [hpr, if_pos (decide_eq_false (fun h => by have := (of_decide_eq_true h.1).1; omega))]
    subst h0
    clear hpr
    go_enter Tryd.func64, Tryd.ntmps64
    go_wp2_with fail
    refine HS.out.mono ?_
    rintro e w' ⟨rfl, rfl⟩
    go_wp2
    go_ret
    exact ⟨rfl, rfl⟩
  · have kz : (z == 0) = false := beq_eq_false_iff_ne.2 h0
    by_cases h1 : (n : Int) = z
    · have kb : ((n : Int) != z) = false := by simpa using h1
      have H1 := Lib.hid h1
      clear h1
      by_cases h2 : bits < 1
      · obtain rfl : R = 7 := by rw [hpr, if_pos (decide_eq_false (fun h => by omega))]
        clear hpr
        go_enter Tryd.func64, Tryd.ntmps64
        go_wp2_with fail
        refine HS.out.mono ?_
        rintro e w' ⟨rfl, rfl⟩
        go_wp2
        go_ret
        exact ⟨rfl, rfl⟩
      · by_cases h3 : 65536 < bits
        · obtain rfl : R = 7 := by rw [hpr, if_pos (decide_eq_false (fun h => by omega))]
          clear hpr
          go_enter Tryd.func64, Tryd.ntmps64
          go_wp2_with fail
          refine HS.out.mono ?_
          rintro e w' ⟨rfl, rfl⟩
          go_wp2
          go_ret
          exact ⟨rfl, rfl⟩
        · have hps : ¬ decide (decide (0 < z ∧ (n : Int) = z) = true ∧ 1 ≤ bits ∧ bits ≤ 65536) = false := by
            intro h
            exact of_decide_eq_false h ⟨decide_eq_true ⟨by omega, H1.out⟩, by omega, by omega⟩
          rw [if_neg hps] at hpr
          obtain ⟨M, hM⟩ : ∃ M, (bits + 7) / 8 = M := ⟨_, rfl⟩
          have m0 : 0 ≤ M := by omega
          have m1 : M ≤ 8192 := by omega
          rw [hM] at hpr
          by_cases h4 : M < z + 2
          · obtain rfl : R = 33 := by rw [hpr, if_pos (.inl h4)]
            clear hpr hps
            go_enter Tryd.func64, Tryd.ntmps64
            go_wp2_with fail
            refine HS.out.mono ?_
            rintro e w' ⟨rfl, rfl⟩
            go_wp2
            go_ret
            exact ⟨rfl, rfl⟩
          · by_cases h5 : M - z - 2 < salt
            · obtain rfl : R = 33 := by rw [hpr, if_pos (.inr h5)]
              clear hpr hps
              go_enter Tryd.func64, Tryd.ntmps64
              go_wp2_with fail
              refine HS.out.mono ?_
              rintro e w' ⟨rfl, rfl⟩
              go_wp2
              go_ret
              exact ⟨rfl, rfl⟩
            · obtain rfl : R = 0 := by rw [hpr, if_neg (by omega)]
              clear hpr hps
              go_enter Tryd.func64, Tryd.ntmps64
              go_wp2_with fail
              refine HS.out.mono ?_
              rintro e w' ⟨rfl, rfl⟩
              go_wp2
              go_ret
              exact ⟨rfl, rfl⟩
    · obtain rfl : R = 7 := by rw [hpr, if_pos (decide_eq_false (fun h => h1 (of_decide_eq_true h.1).2))]
      have kb : ((n : Int) != z) = true := by simpa using h1
      clear hpr
      go_enter Tryd.func64, Tryd.ntmps64
      go_wp2_with fail
      refine HS.out.mono ?_
      rintro e w' ⟨rfl, rfl⟩
      go_wp2
      go_ret
      exact ⟨rfl, rfl⟩
end Go.Proofs.YtnpaidieijlkkaaDoor
