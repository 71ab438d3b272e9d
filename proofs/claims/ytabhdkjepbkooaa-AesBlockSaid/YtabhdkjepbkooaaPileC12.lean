/- Parts of one proof, joined: Cb. -/
import Derived.Test.YtabhdkjepbkooaaPileC10
import Derived.Test.YtabhdkjepbkooaaPileC6
import Derived.Test.YtabhdkjepbkooaaPileC7

/- The reference's New: keys of 24 bytes. -/
set_option linter.unusedVariables false
set_option linter.unusedSimpArgs false
namespace Go.Proofs.Ytabhdkjepbkooaa
open Go.RowKit

set_option maxRecDepth 100000 in
set_option maxHeartbeats 8000000 in
theorem rnew24_any (w : World) (B : Nat) (A : Option Addr) (c : Nat) (key : List (BitVec 8)) (hs : SlV w B A 24 c (key.map W8)) (hB : B ≤ w.heap.size) :
    Calls Try.prog 9 #[.slice A 24 c] w fun e w' => ∃ g, e = .returned (.pointer (some ⟨g, 0, none⟩)) ∧ w.heap.size ≤ g ∧ (∃ gK cK gs gt gw kr vr, RcR w' g key gK cK gs gt gw kr vr) ∧ Below w.heap.size w w' := by
  have hkl : key.length = 24 := by have := hs.len; simp at this; omega
  obtain ⟨bA, oA, _, rfl, _, _, _⟩ := hs.at_ (k := 0) (by decide)
  obtain ⟨z, hz⟩ : ∃ z, w.heap.size = z := ⟨_, rfl⟩
  rw [hz] at hB
  have hbx := rboxes_any w
  rw [hz] at hbx
  obtain ⟨J, hJ⟩ : ∃ J, 4 * cntL 24 - 24 / 4 = J := ⟨_, rfl⟩
  have hJT : 24 + 4 * J = 208 := by rw [← hJ]; rfl
  have hwh : wholeL key = (expN 24 (key, 1) J).1 := by unfold wholeL; rw [hkl, hJ]
  have HBX := Lib.hid hbx
  have HZ := Lib.hid hz
  have HS := Lib.hid hs
  have HKL := Lib.hid hkl
  have HWH := Lib.hid hwh
  have hown0 : ∀ (W : World) (zb : Nat), W.ownsRow zb 5 1 (.slice none 0 0) 0 [] := fun W zb => ⟨rfl, .inl ⟨rfl, rfl⟩⟩
  clear hbx hs hkl hJ hwh
  go_enter Try.func9, Try.ntmps9
  go_wp2_with fail
  refine HBX.out.mono ?_
  rintro e w2 ⟨g1, g2, rfl, hg1, hg2, hrs, hrt, hb2⟩
  obtain ⟨zb, hzb⟩ : ∃ x, w2.heap.size = x := ⟨_, rfl⟩
  have hg1b : g1 < zb := by rw [← hzb]; exact hrs.lt
  have hg2b : g2 < zb := by rw [← hzb]; exact hrt.lt
  have hzz : z ≤ zb := by have h1 := hb2.size; have h2 := HZ.out; omega
  have hk2 := HS.out.below (hb2.mono hB)
  have HRS := Lib.hid hrs
  have HRT := Lib.hid hrt
  have HB2 := Lib.hid hb2
  have HK2 := Lib.hid hk2
  have HZB := Lib.hid hzb
  have hzb2 : zb ≤ w2.heap.size := by omega
  clear hrs hrt hb2 hk2 HBX hz hzb
  go_wp2_with (at_builtin; refine wlv_append Try.elem8 rfl _ _ rfl zb _ 0 [] rfl (hown0 _ _) (some ⟨bA, oA, none⟩) 24 c (key.map W8) rfl (by intro h; cases h) B HK2.out (ones8 key) (by decide) hzb2 ?_; intro v1 w3 hown1 hgr1; rw [Nat.zero_add, List.nil_append] at hown1; obtain ⟨gb0, cb0, rfl, hgb0, _⟩ := own_form0 hown1 (by decide))
  have HO3 := Lib.hid (show w3.ownsRow zb 5 1 (.slice (some ⟨gb0, 0, none⟩) 24 cb0) 24 ((expN 24 (key, 1) 0).1.map W8) from hown1)
  have HB3 := Lib.hid ((Below.refl zb w2).grown hgr1 hzb2 (fun r e => by cases e))
  clear hown1 hgr1 hgb0
  go_loopw [7, 8] (fun wv rv W => ∃ (j L c' gb : Nat) (m : BitVec 8), j ≤ J ∧ 24 + 4 * j = L ∧ wv = .slice (some ⟨gb, 0, none⟩) L c' ∧ rv = W8 m ∧ Hid (W.ownsRow zb 5 1 (.slice (some ⟨gb, 0, none⟩) L c') L ((expN 24 (key, 1) j).1.map W8)) ∧ Hid ((expN 24 (key, 1) j).2 = m) ∧ Hid (Below zb w2 W)) (fun wv _ _ => match wv with | .slice _ r _ => 208 - r | _ => 0)
  case atStart => exact ⟨0, 24, cb0, gb0, 1, Nat.zero_le _, rfl, rfl, rfl, HO3, Lib.hid rfl, HB3⟩
  case round =>
    clear HO3 HB3
    obtain ⟨j, L, c', gb, m, hj, hjL, rfl, rfl, HO, HM, HB⟩ := hrel
    obtain ⟨wo, rfl⟩ : ∃ V, V = wr := ⟨_, rfl⟩
    have kL0 : (24 : Int) ≤ L := by omega
    have kLT : (L : Int) ≤ 208 := by omega
    obtain ⟨_, _, e0, hsl, hlow, _⟩ := SlV.of_own' HO.out
    injection e0 with e1 e2 e3
    subst e1 e3
    have hcL := hsl.cap
    have hcM := hsl.max
    have hgbz : zb ≤ gb := hlow gb 0 none rfl
    have hgbw : gb < wo.heap.size := (HO.out.lt gb rfl).2
    have kcL : (L : Int) ≤ c' := by omega
    have kcM : (c' : Int) ≤ 9223372036854775807 := by omega
    by_cases hjJ : j = J
    · have hLT : L = 208 := by omega
      have hown := HO.out
      rw [show (expN 24 (key, 1) j).1 = wholeL key by rw [HWH.out, hjJ]] at hown
      have hwl : (wholeL key).length = 208 := by rw [HWH.out, expN_length]; show key.length + 4 * J = 208; rw [HKL.out]; omega
      obtain ⟨gw, cw, vs, e0', _, hcw1, hcw2, hvl, hvt, hrv⟩ := own_row hown (by omega)
      injection e0' with e1 e2 e3
      injection e1 with e1
      injection e1 with e1 _
      subst e1 e3
      obtain ⟨vr, hvrd⟩ : ∃ l, vs.drop L = l := ⟨_, rfl⟩
      have hvse : vs = (wholeL key).map W8 ++ vr := by rw [← hvrd, ← hvt]; exact (List.take_append_drop L vs).symm
      have hrx : RowX wo gb (wholeL key) vr := by unfold RowX; rw [← hvse]; exact hrv
      have hroom : (wholeL key).length + vr.length ≤ 9223372036854775807 := by
        have h1 := congrArg List.length hvse
        rw [List.length_append, List.length_map] at h1
        omega
      subst hLT
      obtain ⟨W9, e9, r9, b9, z9⟩ := newV wo 35 [.slice none 0 0, .slice (some ⟨g1, 0, none⟩) 256 256, .slice (some ⟨g2, 0, none⟩) 256 256] #[.slice none 0 0, .slice (some ⟨g1, 0, none⟩) 256 256, .slice (some ⟨g2, 0, none⟩) 256 256] rfl
      obtain ⟨gc, hgc⟩ : ∃ x, wo.heap.size = x := ⟨_, rfl⟩
      rw [hgc] at r9 b9 hgbw
      obtain ⟨zc, hzc⟩ : ∃ x, W9.heap.size = x := ⟨_, rfl⟩
      have hzc2 : gc + 1 = zc := by omega
      have HR9 := Lib.hid r9
      have HB9 := Lib.hid b9
      have HRX := Lib.hid hrx
      have HROOM := Lib.hid hroom
      have HBO := Lib.hid HB.out
      have hzbc : zb ≤ gc := by have h1 := HB.out.size; have h2 := HZB.out; omega
      have HGC := Lib.hid hgc
      have HZC := Lib.hid hzc
      have HWL := Lib.hid hwl
      clear r9 b9 hrx hroom hrv hvse hvrd hvt hvl hown hzc hwl z9 hsl hlow
      go_wp2
      clear hgc e9
      go_loopw [13] (fun iv W => ∃ (i : Nat) (v : Value), i ≤ 13 ∧ iv = .int .i64 (i : Int) ∧ Hid (W.ownsRow zc 22 1 v i (keySl gb i)) ∧ Hid (RowV 35 W gc [v, .slice (some ⟨g1, 0, none⟩) 256 256, .slice (some ⟨g2, 0, none⟩) 256 256]) ∧ Hid (Below gc wo W)) (fun iv _ => 13 - (intOf iv).toNat)
      case atStart => exact ⟨0, .slice none 0 0, Nat.zero_le _, rfl, Lib.hid ⟨rfl, .inl ⟨rfl, rfl⟩⟩, HR9, HB9⟩
      case round =>
        clear HR9 HB9
        obtain ⟨i, v0, hi, rfl, HOK, HRC, HBC⟩ := hrel
        obtain ⟨A0, c0, rfl⟩ := own_form HOK.out
        by_cases hiC : i = 13
        · subst hiC
          obtain ⟨gK, cK, vK, eK, _, hK1, _, hKl, hKt, hKr⟩ := own_row HOK.out (by decide)
          injection eK with e1 e2 e3
          subst e1 e3
          have hKe : vK = keySl gb 13 ++ vK.drop 13 := by
            have h1 := (List.take_append_drop 13 vK).symm
            rw [hKt] at h1
            exact h1
          rw [hKe] at hKr
          have HKR := Lib.hid hKr
          clear hKe hKt hKr
          go_wp2
          go_ret
          have hzg : z ≤ gc := by omega
          have hBf : Below z w wr := HB2.out.trans ((HBO.out.mono hzz).trans (HBC.out.mono (by omega)))
          have hcn : cntL key.length = 13 := by rw [HKL.out]; rfl
          have hBw2 : Below zb w2 wr := HBO.out.trans (HBC.out.mono hzbc)
          rw [HZ.out]
          refine ⟨gc, rfl, hzg, ⟨gK, c0, g1, g2, gb, vK.drop 13, vr, by rw [HKL.out]; decide, ?_, ?_, HRS.out.below hBw2 hg1b, HRT.out.below hBw2 hg2b, RowV.below HRX.out HBC.out hgbw, HROOM.out⟩, hBf⟩
          · rw [hcn]; exact HRC.out
          · rw [hcn]; exact HKR.out
        · have hile : (i : Int) ≤ 12 := by omega
          have hi0 : (0 : Int) ≤ i := by omega
          obtain ⟨p, hp⟩ : ∃ p, 16 * i = p := ⟨_, rfl⟩
          obtain ⟨p16, hp16⟩ : ∃ q, p + 16 = q := ⟨_, rfl⟩
          have wp1 : IntKind.i64.wrap (16 * (i : Int)) = (p : Int) := by rw [IntKind.wrap_i64]; omega
          have wp2 : IntKind.i64.wrap ((p : Int) + 16) = (p16 : Int) := by rw [IntKind.wrap_i64]; omega
          have hp0 : (0 : Int) ≤ p := by omega
          have hpp : (p : Int) ≤ (p16 : Int) := by omega
          have hpc : (p16 : Int) ≤ (c' : Int) := by omega
          have hpd : p16 - p = 16 := by omega
          have hpne : ¬ p16 = p := by omega
          have hppN : p ≤ p16 := by omega
          have hpcN : p16 ≤ c' := by omega
          have hkn : keySl gb i ++ [.slice (some ⟨gb, p, none⟩) 16 16] = keySl gb (i + 1) := by rw [← hp]; simp [keySl, List.range_succ]
          obtain ⟨gn, hgn⟩ : ∃ x, x = wr.heap.size := ⟨_, rfl⟩
          have hmx : Try.prog.follows .mixedOrders = true := by kernel_rfl
          have hgcw : gc < wr.heap.size := HRC.out.lt
          have HKN := Lib.hid hkn
          have HGN := Lib.hid hgn
          have HPX := Lib.hid (And.intro hp hp16)
          have hzcw : zc ≤ wr.heap.size := by omega
          clear hkn hgn hp hp16
          go_wp2_with fail
          refine (wpIn_wide (n := 9)).1 (wpIn_region_chainM (β := Value) rfl hmx (fun v => [(144, (.pointer (some ⟨gc, 0, none⟩) : Value)), (145, .pointer (some ⟨gc, 0, none⟩)), (146, .pointer (some ⟨gc, 0, none⟩)), (147, .pointer (some ⟨gc, 0, none⟩)), (148, .slice A0 i c0), (149, .slice (some ⟨gb, 0, none⟩) 208 c'), (150, .int .i64 (i : Int)), (151, .int .i64 (p : Int)), (152, .int .i64 (i : Int)), (153, .int .i64 (p : Int)), (154, .int .i64 (p16 : Int)), (155, .int .i64 (i : Int)), (156, .int .i64 (p : Int)), (157, .int .i64 (p16 : Int)), (158, .slice (some ⟨gb, p, none⟩) 16 16), (159, .slice (some ⟨gn, 0, none⟩) 1 1), (160, v), (161, .pointer (some ⟨gc, 0, none⟩)), (162, .pointer (some ⟨gc, 0, none⟩))]) (fun _ => []) [144, 145, 146, 147, 148, 149, 150, 151, 152, 153, 154, 155, 156, 157, 158, 159, 160, 161, 162] [] (fun _ => rfl) (fun _ => rfl) (by kernel_rfl) (by kernel_rfl) (by kernel_rfl) (by kernel_rfl) (by first | rfl | simp) 15 5 rfl (by kernel_rfl) (by kernel_rfl)
            (fun L k v V => (k = 0 → ∃ q, V = wr.drewN q) ∧ (k = 1 → ∃ q, V = (wr.alloc (.cells #[.slice (some ⟨gb, p, none⟩) 16 16] 22)).drewN q) ∧ (2 ≤ k → V.ownsRow zc 22 1 v (i + 1) (keySl gb (i + 1)) ∧ Below gc wo V) ∧ (2 ≤ k ∧ k < 5 → RowV 35 V gc [.slice A0 i c0, .slice (some ⟨g1, 0, none⟩) 256 256, .slice (some ⟨g2, 0, none⟩) 256 256]) ∧ (k = 5 → (∀ i, i < 15 → L.getD i false = true) ∧ RowV 35 V gc [v, .slice (some ⟨g1, 0, none⟩) 256 256, .slice (some ⟨g2, 0, none⟩) 256 256])) ?hR6 undef ?h06 ?hops6 ?htail6 ?hend6)
          case hR6 =>
            rintro L k v V q ⟨q1, q2, q3, q4, q5⟩
            exact ⟨fun e => by obtain ⟨x, hx⟩ := q1 e; exact ⟨x + q, by rw [hx, World.drewN_drewN]⟩, fun e => by obtain ⟨x, hx⟩ := q2 e; exact ⟨x + q, by rw [hx, World.drewN_drewN]⟩, fun e => ⟨(q3 e).1, below_drewN (q3 e).2 q⟩, q4, q5⟩
          case h06 => exact ⟨fun _ => ⟨0, rfl⟩, fun e => by omega, fun e => by omega, fun e => by omega, fun e => by omega⟩
          case hops6 =>
            rintro m o L k v V his hk hLi hLs ⟨q1, q2, q3, q4, q5⟩ ho
            have hk5 : k ≠ 5 := fun e => by
              have := (q5 e).1 m his
              rw [hLi] at this
              cases this
            have hrow : RowV 35 V gc [.slice A0 i c0, .slice (some ⟨g1, 0, none⟩) 256 256, .slice (some ⟨g2, 0, none⟩) 256 256] := by
              have hk3 : k = 0 ∨ k = 1 ∨ (2 ≤ k ∧ k < 5) := by omega
              rcases hk3 with rfl | rfl | h2
              · obtain ⟨x, rfl⟩ := q1 rfl
                exact HRC.out
              · obtain ⟨x, rfl⟩ := q2 rfl
                exact HRC.out.later (below_drewN ((Below.refl _ wr).alloc (Nat.le_refl _) _) x)
              · exact q4 h2
            have hcc := hrow.at_ (i := 0) rfl
            have hR' : ∀ L' : Array Bool, (k = 0 → ∃ q, V = wr.drewN q) ∧ (k = 1 → ∃ q, V = (wr.alloc (.cells #[.slice (some ⟨gb, p, none⟩) 16 16] 22)).drewN q) ∧ (2 ≤ k → V.ownsRow zc 22 1 v (i + 1) (keySl gb (i + 1)) ∧ Below gc wo V) ∧ (2 ≤ k ∧ k < 5 → RowV 35 V gc [.slice A0 i c0, .slice (some ⟨g1, 0, none⟩) 256 256, .slice (some ⟨g2, 0, none⟩) 256 256]) ∧ (k = 5 → (∀ i, i < 15 → L'.getD i false = true) ∧ RowV 35 V gc [v, .slice (some ⟨g1, 0, none⟩) 256 256, .slice (some ⟨g2, 0, none⟩) 256 256]) := fun L' => ⟨q1, q2, q3, q4, fun e => absurd e hk5⟩
            clear q1 q2 q3 q4 q5 hrow hk5
            have hi2 : m = 0 ∨ m = 1 ∨ m = 2 ∨ m = 3 ∨ m = 4 ∨ m = 5 ∨ m = 6 ∨ m = 7 ∨ m = 8 ∨ m = 9 ∨ m = 10 ∨ m = 11 ∨ m = 12 ∨ m = 13 ∨ m = 14 := by omega
            rcases hi2 with rfl | rfl | rfl | rfl | rfl | rfl | rfl | rfl | rfl | rfl | rfl | rfl | rfl | rfl | rfl
            all_goals
              have ho' := ho
              simp only [List.getElem?_toArray, List.getElem?_cons_zero, List.getElem?_cons_succ, Option.some.injEq] at ho'
              subst ho'
              refine ⟨(by intro c h; cases h), fun _ _ => trivial, .inl ⟨V, ?_, hR' _⟩⟩
            all_goals first | (simp [execOp, evP, valP, Act.eval, List.lookup_cons]; done) | (simp [execOp, evP, valP, Act.eval, List.lookup_cons, go_sem, hcc, wp1, wp2, hp0, hpp, hpc, hpd, hpne, hppN, hpcN, hi0]; done) | skip
          case htail6 =>
            rintro L k v V o hk hLs ⟨q1, q2, q3, q4, q5⟩ ho haf
            have hk2 : k = 0 ∨ k = 1 ∨ k = 2 ∨ k = 3 ∨ k = 4 := by omega
            have ho' := ho
            rcases hk2 with rfl | rfl | rfl | rfl | rfl
            · simp only [Nat.add_zero, List.getElem?_toArray, List.getElem?_cons_zero, List.getElem?_cons_succ, Option.some.injEq] at ho'
              subst ho'
              obtain ⟨x, rfl⟩ := q1 rfl
              refine ⟨(by intro c h; cases h), fun _ _ => trivial, .inl ⟨v, (wr.alloc (.cells #[.slice (some ⟨gb, p, none⟩) 16 16] 22)).drewN x, fun _ _ => rfl, ⟨fun e => by omega, fun _ => ⟨x, rfl⟩, fun e => by omega, fun e => by omega, fun e => by omega⟩, .inr ?_⟩⟩
              simp [execOp, evP, valP, Act.eval, List.lookup_cons, go_sem]
              exact ⟨HGN.out.symm, rfl⟩
            · simp only [Nat.reduceAdd, List.getElem?_toArray, List.getElem?_cons_zero, List.getElem?_cons_succ, Option.some.injEq] at ho'
              obtain ⟨x, rfl⟩ := q2 rfl
              have hrow : RowV 22 ((wr.alloc (.cells #[.slice (some ⟨gb, p, none⟩) 16 16] 22)).drewN x) wr.heap.size [.slice (some ⟨gb, p, none⟩) 16 16] := RowV.new wr 22 [.slice (some ⟨gb, p, none⟩) 16 16]
              have hgn2 := HGN.out
              have hba : Below wr.heap.size wr ((wr.alloc (.cells #[.slice (some ⟨gb, p, none⟩) 16 16] 22)).drewN x) := below_drewN ((Below.refl _ _).alloc (Nat.le_refl _) _) x
              have hown := own_later HOK.out hba
              refine ⟨(by intro c h; rw [← ho'] at h; cases h), fun _ _ => trivial, .inl ?_⟩
              generalize hρ : evP _ _ = ρ
              have hs11 : ρ (.tmp 148) = .slice A0 i c0 := by rw [← hρ]; rfl
              have hs35 : ρ (.tmp 159) = .slice (some ⟨gn, 0, none⟩) 1 1 := by rw [← hρ]; rfl
              have hn4 : ∀ (k : Nat) (u : Value), [(.slice (some ⟨gb, p, none⟩) 16 16 : Value)][k]? = some u → ((wr.alloc (.cells #[.slice (some ⟨gb, p, none⟩) 16 16] 22)).drewN x).cell? ((⟨gn, 0, none⟩ : Addr).add k) = some u := by
                intro k u hu
                rw [Addr.add_lit, Nat.zero_add, hgn2]
                exact hrow.at_ hu
              obtain ⟨v', W', hrun, hO', hG'⟩ := run_wappendS (z := .slice none 0 0) Try.underlying33 (by kernel_rfl) rfl (.tmp 148) (.tmp 159) (o := o) (by rw [← ho']) zc _ i _ hs11 hown ⟨gn, 0, none⟩ 1 1 [.slice (some ⟨gb, p, none⟩) 16 16] hs35 rfl hn4 (by intro u hu; simp at hu; subst hu; rfl) (by omega) (Nat.le_trans hzcw hba.size)
              have hbW : Below zc wr W' := (hba.mono hzcw).grown hG' (Nat.le_trans hzcw hba.size) (fun r e => (hown.lt r e).1)
              refine ⟨v', W', ?_, ⟨fun e => by omega, fun e => by omega, fun _ => ⟨by rw [← HKN.out]; exact hO', HBC.out.trans (hbW.mono (by omega))⟩, fun _ => HRC.out.below hbW (by omega), fun e => by omega⟩, .inr hrun⟩
              intro k hk
              have hk3 : k < 16 := hk
              have hk4 : k = 0 ∨ k = 1 ∨ k = 2 ∨ k = 3 ∨ k = 4 ∨ k = 5 ∨ k = 6 ∨ k = 7 ∨ k = 8 ∨ k = 9 ∨ k = 10 ∨ k = 11 ∨ k = 12 ∨ k = 13 ∨ k = 14 ∨ k = 15 := by omega
              rcases hk4 with rfl | rfl | rfl | rfl | rfl | rfl | rfl | rfl | rfl | rfl | rfl | rfl | rfl | rfl | rfl | rfl <;> rfl
            · simp only [Nat.reduceAdd, List.getElem?_toArray, List.getElem?_cons_zero, List.getElem?_cons_succ, Option.some.injEq] at ho'
              subst ho'
              refine ⟨(by intro c h; cases h), fun _ _ => trivial, .inl ⟨v, V, fun _ _ => rfl, ⟨fun e => by omega, fun e => by omega, fun _ => q3 (by omega), fun _ => q4 (by omega), fun e => by omega⟩, .inr ?_⟩⟩
              simp [execOp, evP, valP, Act.eval, List.lookup_cons, go_sem]
            · simp only [Nat.reduceAdd, List.getElem?_toArray, List.getElem?_cons_zero, List.getElem?_cons_succ, Option.some.injEq] at ho'
              subst ho'
              refine ⟨(by intro c h; cases h), fun _ _ => trivial, .inl ⟨v, V, fun _ _ => rfl, ⟨fun e => by omega, fun e => by omega, fun _ => q3 (by omega), fun _ => q4 (by omega), fun e => by omega⟩, .inr ?_⟩⟩
              simp [execOp, evP, valP, Act.eval, List.lookup_cons, go_sem]
            · simp only [Nat.reduceAdd, List.getElem?_toArray, List.getElem?_cons_zero, List.getElem?_cons_succ, Option.some.injEq] at ho'
              subst ho'
              have hrow := q4 (by omega)
              obtain ⟨hO', hB'⟩ := q3 (by omega)
              obtain ⟨Av, cv, rfl⟩ := own_form hO'
              have hfz := hrow.frozen 0
              have hcc := hrow.at_ (i := 0) rfl
              refine ⟨(by intro c h; cases h), fun _ _ => trivial, .inl ⟨.slice Av (i + 1) cv, V.setCell ⟨gc, 0, none⟩ (.slice Av (i + 1) cv), fun _ _ => rfl, ⟨fun e => by omega, fun e => by omega, fun _ => ⟨?_, below_setV hB' (Nat.le_refl _) 0 (.slice Av (i + 1) cv)⟩, fun e => by omega, fun _ => ⟨?_, hrow.set 0 (.slice Av (i + 1) cv)⟩⟩, .inl ⟨?_, rfl⟩⟩⟩
              · exact own_keep hO' (fun q hq => Below.heap_setCell V ⟨gc, 0, none⟩ (.slice Av (i + 1) cv) q (by have := (hO'.lt q hq).1; show q ≠ gc; omega))
              · intro m hm
                rw [show 15 + 4 = 19 from rfl, getD_set_other _ (show (19 : Nat) ≠ m by omega)]
                have hi2 : m = 0 ∨ m = 1 ∨ m = 2 ∨ m = 3 ∨ m = 4 ∨ m = 5 ∨ m = 6 ∨ m = 7 ∨ m = 8 ∨ m = 9 ∨ m = 10 ∨ m = 11 ∨ m = 12 ∨ m = 13 ∨ m = 14 := by omega
                rcases hi2 with rfl | rfl | rfl | rfl | rfl | rfl | rfl | rfl | rfl | rfl | rfl | rfl | rfl | rfl | rfl
                · exact haf ⟨0, .phase⟩ (by simp) rfl
                · exact haf ⟨1, .phase⟩ (by simp) rfl
                · exact haf ⟨2, .phase⟩ (by simp) rfl
                · exact haf ⟨3, .phase⟩ (by simp) rfl
                · exact haf ⟨4, .phase⟩ (by simp) rfl
                · exact haf ⟨5, .phase⟩ (by simp) rfl
                · exact haf ⟨6, .phase⟩ (by simp) rfl
                · exact haf ⟨7, .phase⟩ (by simp) rfl
                · exact haf ⟨8, .phase⟩ (by simp) rfl
                · exact haf ⟨9, .phase⟩ (by simp) rfl
                · exact haf ⟨10, .phase⟩ (by simp) rfl
                · exact haf ⟨11, .phase⟩ (by simp) rfl
                · exact haf ⟨12, .phase⟩ (by simp) rfl
                · exact haf ⟨13, .phase⟩ (by simp) rfl
                · exact haf ⟨14, .phase⟩ (by simp) rfl
              · simp [execOp, evP, valP, Act.eval, List.lookup_cons, go_sem, hcc, hfz]
          case hend6 =>
            rintro v L V hL ⟨_, _, q3, _, q5⟩
            obtain ⟨hO', hB'⟩ := q3 (by omega)
            obtain ⟨_, hr'⟩ := q5 rfl
            have HO' := Lib.hid hO'
            have HB' := Lib.hid hB'
            have HR' := Lib.hid hr'
            clear hO' hB' hr' q3 q5 hL
            simp [wrote, valP, Act.put, List.lookup_cons]
            go_wp2
            go_roundw
            case rel => exact ⟨i + 1, v, by omega, by go_num, HO', HR', HB'⟩
            case measure => simp [intOf]; omega
    · have hLT : (L : Int) < 208 := by omega
      obtain ⟨ws, hws⟩ : ∃ l, (expN 24 (key, 1) j).1 = l := ⟨_, rfl⟩
      have hwl : ws.length = L := by rw [← hws, expN_length]; show key.length + 4 * j = L; rw [HKL.out]; exact hjL
      obtain ⟨q, hq⟩ : ∃ q, L - 4 = q := ⟨_, rfl⟩
      have hqI : (L : Int) - 4 = (q : Int) := by omega
      have hq0 : (0 : Int) ≤ q := by omega
      have hqL : (q : Int) ≤ L := by omega
      have hqc : ¬ c' = q := by omega
      have hqc2 : ¬ (c' : Int) = (q : Int) := by omega
      have hLq : L - q = 4 := by omega
      rw [hws] at hsl HO
      have hdr := hsl.drop (k := q) (by omega)
      rw [← List.map_drop, Nat.zero_add, hLq] at hdr
      have hnx : expN 24 (key, 1) (j + 1) = expS 24 (expN 24 (key, 1) j) := rfl
      have hnx1 : (expN 24 (key, 1) (j + 1)).1 = ws ++ (List.range 4).map (fun t => subW 24 ws m t ^^^ ws.getD (L - 24 + t) 0) := by
        rw [hnx, expS, hws, HM.out, hwl]
      have hnx2 : (expN 24 (key, 1) (j + 1)).2 = if L % 24 = 0 then dblV m else m := by
        rw [hnx, expS, hws, HM.out, hwl]
      have HDR := Lib.hid hdr
      have HSL := Lib.hid hsl
      have HWL := Lib.hid hwl
      have HN1 := Lib.hid hnx1
      have HN2 := Lib.hid hnx2
      have hzw : zb ≤ wo.heap.size := by omega
      obtain ⟨u0, hu0⟩ : ∃ b, ws.getD q 0 = b := ⟨_, rfl⟩
      obtain ⟨u1, hu1⟩ : ∃ b, ws.getD (q + 1) 0 = b := ⟨_, rfl⟩
      obtain ⟨u2, hu2⟩ : ∃ b, ws.getD (q + 2) 0 = b := ⟨_, rfl⟩
      obtain ⟨u3, hu3⟩ : ∃ b, ws.getD (q + 3) 0 = b := ⟨_, rfl⟩
      have hdq : ws.drop q = [u0, u1, u2, u3] := by
        refine List.ext_getElem (by rw [List.length_drop, hwl, hLq]; rfl) fun i h1 h2 => ?_
        have hi : i = 0 ∨ i = 1 ∨ i = 2 ∨ i = 3 := by simp at h2; omega
        rw [List.getElem_drop]
        have hg : ∀ k (hk : k < ws.length), ws[k] = ws.getD k 0 := fun k hk => by rw [List.getD_eq_getElem?_getD, List.getElem?_eq_getElem hk]; rfl
        rw [hg]
        rcases hi with rfl | rfl | rfl | rfl
        · exact hu0
        · exact hu1
        · exact hu2
        · exact hu3
      have hsub : ∀ t, subW 24 ws m t = (if L % 24 = 0 then boxAt boxL (ws.getD (q + (t + 1) % 4) 0) ^^^ (if t = 0 then m else 0) else if L % 24 = 16 ∧ 24 = 32 then boxAt boxL (ws.getD (q + t) 0) else ws.getD (q + t) 0) := fun t => by
        unfold subW
        rw [hwl, hq]
      have HSUB := Lib.hid hsub
      have HU := Lib.hid (And.intro hu0 (And.intro hu1 (And.intro hu2 hu3)))
      have HDQ := Lib.hid hdq
      have HWS := Lib.hid hws
      clear hdr hsl hws hwl hlow hq hnx hnx1 hnx2 hsub hdq hu0 hu1 hu2 hu3
      by_cases hA : L % 24 = 0
      · have hmA : (L : Int) % 24 = 0 := by omega
        go_wp2_with (at_builtin; refine wlv_append Try.elem8 rfl _ _ rfl wo.heap.size _ 0 [] rfl (hown0 _ _) (some ⟨gb, q, none⟩) 4 (c' - q) ((ws.drop q).map W8) rfl (by intro h; cases h) wo.heap.size HDR.out (ones8 _) (by decide) (Nat.le_refl _) ?_; intro v2 w4 hown2 hgr2; rw [Nat.zero_add, List.nil_append, HDQ.out] at hown2; obtain ⟨gx, cx, rfl, hgx, hslx⟩ := own_form0 hown2 (by decide))
        have hb4 : Below wo.heap.size wo w4 := (Below.refl _ wo).grown hgr2 (Nat.le_refl _) (fun r e => by cases e)
        have hO4 := own_later HO.out hb4
        have hB4 := HB.out.trans (hb4.mono hzw)
        have hgxb : gb ≠ gx := by omega
        have hcx := hslx.cap
        have hcxM := hslx.max
        have kcx : (4 : Int) ≤ cx := by omega
        have kcxM : (cx : Int) ≤ 9223372036854775807 := by omega
        have HX4 := Lib.hid hslx
        have HO4 := Lib.hid hO4
        have HB4 := Lib.hid hB4
        have hw4s := hb4.size
        clear hown2 hgr2 hb4 hO4 hB4 hslx HDR HSL hgx HO HB
        go_wp2_with fail
        refine wp_region_still_tail 26 (by kernel_rfl) (by kernel_rfl) ?_
        simp only [List.take_succ_cons, List.take_zero, List.drop_succ_cons, List.drop_zero]
        show wpStill _ _ (World.drew _) (fun a' => wpList _ _ _ _ a' (World.drew _)) _ _
        generalize hV0 : World.drew _ = V0
        have hx0 := HX4.out
        have hO0 := HO4.out
        have hB0 : Below zb w2 V0 := by rw [← hV0]; exact HB4.out.drew
        have hbox := (HRS.out.below hB0 hg1b)
        have cell : ∀ (x : BitVec 8), V0.cell? ⟨g1, (i8 x).toNat, none⟩ = some (W8 (boxAt boxL x)) := fun x => by
          rw [i8_nat]
          exact hbox.at_ (map_at (by rw [boxL_length]; exact x.isLt))
        obtain ⟨bx', ox', e1, _, hxc⟩ := HX4.out.2.2.2 (by simp)
        injection e1 with e1
        injection e1 with e1 e2
        subst e1 e2
        have x0 : V0.cell? ⟨gx, 0, none⟩ = some (W8 u0) := by rw [← hV0]; exact hxc 0 (W8 u0) rfl
        have x1 : V0.cell? ⟨gx, 1, none⟩ = some (W8 u1) := by rw [← hV0]; exact hxc 1 (W8 u1) rfl
        have x2 : V0.cell? ⟨gx, 2, none⟩ = some (W8 u2) := by rw [← hV0]; exact hxc 2 (W8 u2) rfl
        have x3 : V0.cell? ⟨gx, 3, none⟩ = some (W8 u3) := by rw [← hV0]; exact hxc 3 (W8 u3) rfl
        obtain ⟨v0, hv0⟩ : ∃ b, boxAt boxL u0 = b := ⟨_, rfl⟩
        obtain ⟨v1, hv1⟩ : ∃ b, boxAt boxL u1 = b := ⟨_, rfl⟩
        obtain ⟨v2, hv2⟩ : ∃ b, boxAt boxL u2 = b := ⟨_, rfl⟩
        obtain ⟨v3, hv3⟩ : ∃ b, boxAt boxL u3 = b := ⟨_, rfl⟩
        have y0 := cell u0
        have y1 := cell u1
        have y2 := cell u2
        have y3 := cell u3
        rw [hv0] at y0
        rw [hv1] at y1
        rw [hv2] at y2
        rw [hv3] at y3
        have a0 := (i8_lt u0).1
        have b0 := (i8_lt u0).2
        have a1 := (i8_lt u1).1
        have b1 := (i8_lt u1).2
        have a2 := (i8_lt u2).1
        have b2 := (i8_lt u2).2
        have a3 := (i8_lt u3).1
        have b3 := (i8_lt u3).2
        have HV := Lib.hid (And.intro hv0 (And.intro hv1 (And.intro hv2 hv3)))
        have hO0' : V0.ownsRow zb 5 1 (.slice (some ⟨gb, 0, none⟩) L c') L (ws.map W8) := by rw [← hV0]; exact hO0
        have HO0 := Lib.hid hO0'
        have HB0 := Lib.hid hB0
        have hV0s : V0.heap.size = w4.heap.size := by rw [← hV0]; rfl
        have hzV0 : zb ≤ V0.heap.size := by omega
        have hgV0 : gb < V0.heap.size := by omega
        clear hx0 hO0 hO0' hB0 hbox cell hv0 hv1 hv2 hv3 hV0 hxc hV0s
        have hxo : bits .xor .u8 (i8 v1) (i8 m) = i8 (v1 ^^^ m) := b8_xor v1 m
        obtain ⟨s1, hs1⟩ : ∃ b, v1 ^^^ m = b := ⟨_, rfl⟩
        rw [hs1] at hxo
        iterate 26 (refine wpStill_step (fun K hK => ?_); go_simp; refine hK _ ?_; clear hK K)
        refine wpStill_nil ?_
        clear x0 x1 x2 x3 y0 y1 y2 y3 a0 a1 a2 a3 b0 b1 b2 b3
        obtain ⟨W5, e5, r5, b5, z5⟩ := newV V0 5 ([s1, v2, v3, v0].map W8) #[.int .u8 (i8 s1), .int .u8 (i8 v2), .int .u8 (i8 v3), .int .u8 (i8 v0)] rfl
        obtain ⟨gy, hgy⟩ : ∃ x, V0.heap.size = x := ⟨_, rfl⟩
        rw [hgy] at r5
        have hsl5 := r5.sl (by simp)
        rw [show ([s1, v2, v3, v0].map W8).length = 4 from rfl] at hsl5
        have HB5 := Lib.hid (HB0.out.trans (b5.mono hzV0))
        have HO5 := Lib.hid (own_later HO0.out b5)
        have hgyb : gb ≠ gy := by omega
        have hzw5 : zb ≤ W5.heap.size := by omega
        clear r5 b5 z5 HX4 HO4 HB4 HO0 HB0
        go_wp2_with fail
        refine (rtimes8_any W5 m 2).mono ?_
        rintro e w' ⟨rfl, rfl⟩
        rw [prod_2]
        obtain ⟨mn, hm'⟩ : ∃ b, dblV m = b := ⟨_, rfl⟩
        rw [hm']
        have HMN := Lib.hid (show (expN 24 (key, 1) (j + 1)).2 = mn by rw [HN2.out, if_pos hA, hm'])
        have hxs : [s1, v2, v3, v0] = (List.range 4).map (fun t => subW 24 ws m t) := by
          show [s1, v2, v3, v0] = [subW 24 ws m 0, subW 24 ws m 1, subW 24 ws m 2, subW 24 ws m 3]
          rw [HSUB.out, HSUB.out, HSUB.out, HSUB.out, if_pos hA, if_pos hA, if_pos hA, if_pos hA]
          rw [show (0 + 1) % 4 = 1 from rfl, show (1 + 1) % 4 = 2 from rfl, show (2 + 1) % 4 = 3 from rfl, show (3 + 1) % 4 = 0 from rfl, show q + 0 = q from rfl, HU.out.1, HU.out.2.1, HU.out.2.2.1, HU.out.2.2.2, HV.out.1, HV.out.2.1, HV.out.2.2.1, HV.out.2.2.2]
          rw [if_pos rfl, if_neg (by decide), if_neg (by decide), if_neg (by decide), hs1]
          rw [show v2 ^^^ (0 : BitVec 8) = v2 from BitVec.xor_zero, show v3 ^^^ (0 : BitVec 8) = v3 from BitVec.xor_zero, show v0 ^^^ (0 : BitVec 8) = v0 from BitVec.xor_zero]
        have HX5 := Lib.hid hsl5
        rw [hxs] at HX5
        clear hs1 hm' hxs hsl5 hgxb hgy e5 HV
        obtain ⟨xs, hxs⟩ : ∃ l, (List.range 4).map (fun t => subW 24 ws m t) = l := ⟨_, rfl⟩
        rw [hxs] at HX5
        have hxl : xs.length = 4 := by rw [← hxs]; simp
        have HN1' := Lib.hid (show (expN 24 (key, 1) (j + 1)).1 = ws ++ (List.range 4).map (fun t => xs.getD t 0 ^^^ ws.getD (L - 24 + t) 0) by
          rw [HN1.out]
          congr 1
          refine List.map_congr_left fun t ht => ?_
          have ht4 := List.mem_range.1 ht
          have hg : xs.getD t 0 = subW 24 ws m t := by
            rw [← hxs, List.getD_eq_getElem?_getD, List.getElem?_map, List.getElem?_range ht4]
            rfl
          rw [hg])
        have HXL := Lib.hid hxl
        clear hxs hxl
        go_wp2
        go_loopw [7, 11] (fun wv kv W => ∃ (k L2 c2 gb2 : Nat), k ≤ 4 ∧ L + k = L2 ∧ kv = .int .i64 (k : Int) ∧ wv = .slice (some ⟨gb2, 0, none⟩) L2 c2 ∧ gb2 ≠ gy ∧ Hid (W.ownsRow zb 5 1 (.slice (some ⟨gb2, 0, none⟩) L2 c2) L2 ((ws ++ (List.range k).map (fun t => xs.getD t 0 ^^^ ws.getD (L - 24 + t) 0)).map W8)) ∧ Hid (SlV W W.heap.size (some ⟨gy, 0, none⟩) 4 4 (xs.map W8)) ∧ Hid (Below zb w2 W)) (fun _ kv _ => 4 - (intOf kv).toNat)
        case atStart => exact ⟨0, L, c', gb, by decide, rfl, rfl, rfl, hgyb, by simpa using HO5, HX5, HB5⟩
        case round =>
          clear HO5 HX5 HB5
          obtain ⟨k, L2, c2, gb2, hk, hkL, rfl, rfl, hgb2, HO, HX, HB⟩ := hrel
          by_cases hk4 : k = 4
          · subst hk4
            have hfin := HO.out
            rw [← HN1'.out] at hfin
            have HF := Lib.hid hfin
            have hjn : j + 1 ≤ J := by omega
            have hLn : 24 + 4 * (j + 1) = L2 := by omega
            have hLt : L < L2 := by omega
            have hLT2 : L < 208 := by omega
            clear hfin
            go_wp2
            go_roundw
            case rel => exact ⟨j + 1, L2, c2, gb2, mn, hjn, hLn, rfl, rfl, HF, HMN, HB⟩
            case measure => show 208 - L2 < 208 - L; omega
          · have hki : (k : Int) < 4 := by omega
            have hk0 : (0 : Int) ≤ k := by omega
            obtain ⟨p, hp⟩ : ∃ p, L - 24 + k = p := ⟨_, rfl⟩
            have wk1 : IntKind.i64.wrap ((L : Int) + (k : Int)) = (L2 : Int) := by rw [IntKind.wrap_i64]; omega
            have wk2 : IntKind.i64.wrap ((L2 : Int) - 24) = (p : Int) := by rw [IntKind.wrap_i64]; omega
            have hp0 : (0 : Int) ≤ p := by omega
            have hpL : (p : Int) < L2 := by omega
            obtain ⟨_, _, e0, hsw, _, _⟩ := SlV.of_own' HO.out
            injection e0 with e1 e2 e3
            subst e1 e3
            obtain ⟨by_, oy, v1, e1, _, hv1, hc1⟩ := hsw.at_ (k := p) (by omega)
            have hcA := hv1
            injection e1 with e1
            injection e1 with e1 e2
            subst e1 e2
            rw [Nat.zero_add] at hc1
            have hpw : p < ws.length := by have := HWL.out; omega
            rw [List.map_append, List.getElem?_append_left (by rw [List.length_map]; exact hpw), map_at hpw] at hv1
            injection hv1 with hv1
            subst hv1
            obtain ⟨by2, oy2, v2, e1, _, hv2, hc2⟩ := HX.out.at_ (k := k) (by omega)
            injection e1 with e1
            injection e1 with e1 e2
            subst e1 e2
            rw [Nat.zero_add] at hc2
            rw [map_at (by have := HXL.out; omega)] at hv2
            injection hv2 with hv2
            subst hv2
            obtain ⟨a_, ha_⟩ : ∃ b, ws.getD p 0 = b := ⟨_, rfl⟩
            obtain ⟨b_, hb_⟩ : ∃ b, xs.getD k 0 = b := ⟨_, rfl⟩
            rw [ha_] at hc1
            rw [hb_] at hc2
            have hxo : bits .xor .u8 (i8 a_) (i8 b_) = i8 (b_ ^^^ a_) := by rw [b8_xor, BitVec.xor_comm]
            obtain ⟨d, hd⟩ : ∃ b, b_ ^^^ a_ = b := ⟨_, rfl⟩
            rw [hd] at hxo
            have hls : (ws ++ (List.range k).map (fun t => xs.getD t 0 ^^^ ws.getD (L - 24 + t) 0)).map W8 ++ [W8 d] = (ws ++ (List.range (k + 1)).map (fun t => xs.getD t 0 ^^^ ws.getD (L - 24 + t) 0)).map W8 := by
              rw [← hd, ← ha_, ← hb_, ← hp, List.range_succ]
              simp
            have HLS := Lib.hid hls
            have hcl2 := hsw.cap
            have kcl2 : (L2 : Int) ≤ c2 := by omega
            have hcells : ∀ i u, ((ws ++ (List.range k).map (fun t => xs.getD t 0 ^^^ ws.getD (L - 24 + t) 0)).map W8)[i]? = some u → wr.cell? ⟨gb2, i, none⟩ = some u := fun i u hu => by
              have h4 := HO.out.cells (g := gb2) rfl i u hu
              rw [Addr.add_lit, Nat.zero_add] at h4
              exact h4
            have HCE := Lib.hid hcells
            have HPA := Lib.hid (show ((ws ++ (List.range k).map (fun t => xs.getD t 0 ^^^ ws.getD (L - 24 + t) 0)).map W8)[p]? = some (W8 a_) by rw [hcA, ha_])
            have HKB := Lib.hid (show (xs.map W8)[k]? = some (W8 b_) by rw [map_at (by have := HXL.out; omega), hb_])
            clear hls hd ha_ hb_ hp hsw hcA hcells
            obtain ⟨gn, hgn⟩ : ∃ x, x = wr.heap.size := ⟨_, rfl⟩
            have hmx : Try.prog.follows .mixedOrders = true := by kernel_rfl
            have hzV : zb ≤ wr.heap.size := by have h1 := HB.out.size; have h2 := HZB.out; omega
            have hgyl : gy < wr.heap.size := by
              obtain ⟨b', o', _, e', hlt, _⟩ := HX.out.at_ (k := 0) (by decide)
              have e2 : gy = b' := by
                injection e' with e'
                injection e'
              rw [e2]
              exact hlt
            have hgbl : gb2 < wr.heap.size := (HO.out.lt gb2 rfl).2
            have kL6 : L2 + 1 ≤ 17592186044416 := by omega
            have HGN := Lib.hid hgn
            clear hgn
            go_wp2_with fail
            refine (wpIn_wide (n := 9)).1 (wpIn_region_chain (β := Value) rfl hmx (fun v => [(119, (.slice (some ⟨gb2, 0, none⟩) L2 c2 : Value)), (120, .slice (some ⟨gb2, 0, none⟩) L2 c2), (121, .int .i64 (L : Int)), (122, .int .i64 (k : Int)), (123, .int .i64 (L2 : Int)), (124, .int .i64 24), (125, .int .i64 (p : Int)), (126, .pointer (some ⟨gb2, p, none⟩)), (127, W8 a_), (128, .slice (some ⟨gy, 0, none⟩) 4 4), (129, .int .i64 (k : Int)), (130, .pointer (some ⟨gy, k, none⟩)), (131, W8 b_), (132, W8 d), (133, .slice (some ⟨gn, 0, none⟩) 1 1), (134, v)]) (fun v => [(7, v)]) [119, 120, 121, 122, 123, 124, 125, 126, 127, 128, 129, 130, 131, 132, 133, 134] [7] (fun _ => rfl) (fun _ => rfl) (by kernel_rfl) (by kernel_rfl) (by kernel_rfl) (by kernel_rfl) (by first | rfl | simp) 14 3 rfl (by kernel_rfl) (by kernel_rfl)
              (RN wr w2 zb (L2 + 1) d ((ws ++ (List.range k).map (fun t => xs.getD t 0 ^^^ ws.getD (L - 24 + t) 0)).map W8 ++ [W8 d]) gy 4 xs gb2 ((ws ++ (List.range k).map (fun t => xs.getD t 0 ^^^ ws.getD (L - 24 + t) 0)).map W8)) RN.drew undef ⟨0, rfl⟩ ?ops5 ?tail5 ?end5)
            case ops5 =>
              intro i o k' v W hi hk' hR ho
              have hcs : W.cell? ⟨gb2, p, none⟩ = some (W8 a_) ∧ W.cell? ⟨gy, k, none⟩ = some (W8 b_) := by
                obtain ⟨q1, q2⟩ := RN.cells HCE.out hgbl HX.out k' v W hR
                refine ⟨q1 p _ HPA.out, ?_⟩
                obtain ⟨b', o', e', _, hc'⟩ := q2.2.2.2 (by intro e; rw [e] at HKB; exact absurd HKB.out (by simp))
                injection e' with e'
                injection e' with e1 e2
                subst e1 e2
                have h4 := hc' k _ HKB.out
                rw [Nat.zero_add] at h4
                exact h4
              obtain ⟨hcW1, hcW2⟩ := hcs
              clear hR hk'
              have hi2 : i = 0 ∨ i = 1 ∨ i = 2 ∨ i = 3 ∨ i = 4 ∨ i = 5 ∨ i = 6 ∨ i = 7 ∨ i = 8 ∨ i = 9 ∨ i = 10 ∨ i = 11 ∨ i = 12 ∨ i = 13 := by omega
              rcases hi2 with rfl | rfl | rfl | rfl | rfl | rfl | rfl | rfl | rfl | rfl | rfl | rfl | rfl | rfl
              all_goals
                have ho' := ho
                simp only [List.getElem?_toArray, List.getElem?_cons_zero, List.getElem?_cons_succ, Option.some.injEq] at ho'
                subst ho'
                refine ⟨(by intro c h; cases h), fun _ _ => trivial, .inl ?_⟩
              all_goals first | (simp [execOp, evP, valP, Act.eval, List.lookup_cons]; done) | (simp [execOp, evP, valP, Act.eval, List.lookup_cons, go_sem, hcW1, hcW2, wk1, wk2, hp0, hpL, hk0, hki, hxo]; done) | skip
            case tail5 =>
              intro k' v W o hk' hR ho
              have hk2 : k' = 0 ∨ k' = 1 ∨ k' = 2 := by omega
              have ho' := ho
              rcases hk2 with rfl | rfl | rfl
              · simp only [Nat.add_zero, List.getElem?_toArray, List.getElem?_cons_zero, List.getElem?_cons_succ, Option.some.injEq] at ho'
                subst ho'
                obtain ⟨q0, rfl⟩ := hR
                refine ⟨(by intro c h; cases h), fun _ _ => trivial, v, (wr.alloc (.cells #[W8 d] 5)).drewN q0, fun _ _ => rfl, ⟨q0, rfl⟩, .inr ?_⟩
                simp [execOp, evP, valP, Act.eval, List.lookup_cons, go_sem]
                exact ⟨HGN.out.symm, rfl⟩
              · simp only [Nat.reduceAdd, List.getElem?_toArray, List.getElem?_cons_zero, List.getElem?_cons_succ, Option.some.injEq] at ho'
                obtain ⟨q0, rfl⟩ := hR
                have hrow : RowV 5 ((wr.alloc (.cells #[W8 d] 5)).drewN q0) wr.heap.size [W8 d] := RowV.new wr 5 [W8 d]
                have hgn2 := HGN.out
                have hba : Below wr.heap.size wr ((wr.alloc (.cells #[W8 d] 5)).drewN q0) := below_drewN ((Below.refl _ _).alloc (Nat.le_refl _) _) q0
                have hown : ((wr.alloc (.cells #[W8 d] 5)).drewN q0).ownsRow zb 5 1 (.slice (some ⟨gb2, 0, none⟩) L2 c2) L2 ((ws ++ (List.range k).map (fun t => xs.getD t 0 ^^^ ws.getD (L - 24 + t) 0)).map W8) := own_later HO.out hba
                refine ⟨(by intro c h; rw [← ho'] at h; cases h), fun _ _ => trivial, ?_⟩
                generalize hρ : evP _ _ = ρ
                have hs11 : ρ (.tmp 119) = .slice (some ⟨gb2, 0, none⟩) L2 c2 := by rw [← hρ]; rfl
                have hs35 : ρ (.tmp 133) = .slice (some ⟨gn, 0, none⟩) 1 1 := by rw [← hρ]; rfl
                have hn4 : ∀ (k : Nat) (u : Value), [W8 d][k]? = some u → ((wr.alloc (.cells #[W8 d] 5)).drewN q0).cell? ((⟨gn, 0, none⟩ : Addr).add k) = some u := by
                  intro k u hu
                  rw [Addr.add_lit, Nat.zero_add, hgn2]
                  exact hrow.at_ hu
                obtain ⟨g7, c7, W', hrun, hO', hG', hg7, hcs7⟩ := run_wappendP Try.elem8 (.tmp 119) (.tmp 133) (o := o) (by rw [← ho']) zb gb2 c2 L2 _ hs11 hown ⟨gn, 0, none⟩ 1 1 [W8 d] hs35 rfl hn4 (by intro u hu; simp at hu; subst hu; rfl) kL6 (Nat.le_trans hzV hba.size)
                have hsz7 : ((wr.alloc (.cells #[W8 d] 5)).drewN q0).heap.size = wr.heap.size + 1 := by simp [World.drewN]
                have hX7 := (((HX.out.below hba).more hba.size).kept_only (show OnlyV _ W' gb2 from hG') (fun b off s h e => by injection h with h; injection h with h _; omega))
                refine ⟨.slice (some ⟨g7, 0, none⟩) (L2 + 1) c7, W', ?_, ⟨g7, c7, rfl, hO', by omega, hX7, ((HB.out.trans (hba.mono hzV)).grown hG' (Nat.le_trans hzV hba.size) (fun r e => by injection e with e; rw [← e]; exact (HO.out.lt gb2 rfl).1)), hcs7⟩, .inr hrun⟩
                intro k hk
                have hk3 : k < 15 := hk
                have hk4 : k = 0 ∨ k = 1 ∨ k = 2 ∨ k = 3 ∨ k = 4 ∨ k = 5 ∨ k = 6 ∨ k = 7 ∨ k = 8 ∨ k = 9 ∨ k = 10 ∨ k = 11 ∨ k = 12 ∨ k = 13 ∨ k = 14 := by omega
                rcases hk4 with rfl | rfl | rfl | rfl | rfl | rfl | rfl | rfl | rfl | rfl | rfl | rfl | rfl | rfl | rfl <;> rfl
              · simp only [Nat.reduceAdd, List.getElem?_toArray, List.getElem?_cons_zero, List.getElem?_cons_succ, Option.some.injEq] at ho'
                subst ho'
                refine ⟨(by intro c h; cases h), fun _ _ => trivial, v, W, fun _ _ => rfl, hR, .inr ?_⟩
                simp [execOp, evP, valP, Act.eval, List.lookup_cons]
            case end5 =>
              intro v W hR
              simp [wrote, valP, Act.put, List.lookup_cons]
              obtain ⟨g7, c7, rfl, hO7, hg7y, hX7, hB7, _⟩ := hR
              have HO7 := Lib.hid hO7
              have HX7 := Lib.hid hX7
              have HB7 := Lib.hid hB7
              clear hO7 hX7 hB7
              go_wp2
              go_roundw
              case rel => exact ⟨k + 1, L2 + 1, c7, g7, by omega, by omega, by go_num, rfl, hg7y, Lib.hid (by rw [← HLS.out]; exact HO7.out), HX7, HB7⟩
              case measure => simp [intOf]; omega
      · have hmA : ¬ (L : Int) % 24 = 0 := by omega
        have hmA2 : ((L : Int) % 24 == 0) = false := by simp; omega
        go_wp2_with (at_builtin; refine wlv_append Try.elem8 rfl _ _ rfl wo.heap.size _ 0 [] rfl (hown0 _ _) (some ⟨gb, q, none⟩) 4 (c' - q) ((ws.drop q).map W8) rfl (by intro h; cases h) wo.heap.size HDR.out (ones8 _) (by decide) (Nat.le_refl _) ?_; intro v2 w4 hown2 hgr2; rw [Nat.zero_add, List.nil_append, HDQ.out] at hown2; obtain ⟨gx, cx, rfl, hgx, hslx⟩ := own_form0 hown2 (by decide))
        have hb4 : Below wo.heap.size wo w4 := (Below.refl _ wo).grown hgr2 (Nat.le_refl _) (fun r e => by cases e)
        have hO4 := own_later HO.out hb4
        have hB4 := HB.out.trans (hb4.mono hzw)
        have hgxb : gb ≠ gx := by omega
        have hcx := hslx.cap
        have hcxM := hslx.max
        have kcx : (4 : Int) ≤ cx := by omega
        have kcxM : (cx : Int) ≤ 9223372036854775807 := by omega
        have HX4 := Lib.hid hslx
        have HO4 := Lib.hid hO4
        have HB4 := Lib.hid hB4
        have hw4s := hb4.size
        clear hown2 hgr2 hb4 hO4 hB4 hslx HDR HSL hgx HO HB
        obtain ⟨mn, hm'⟩ : ∃ b, m = b := ⟨_, rfl⟩
        have HMN := Lib.hid (show (expN 24 (key, 1) (j + 1)).2 = mn by rw [HN2.out, if_neg hA, hm'])
        have hxs : [u0, u1, u2, u3] = (List.range 4).map (fun t => subW 24 ws m t) := by
          show [u0, u1, u2, u3] = [subW 24 ws m 0, subW 24 ws m 1, subW 24 ws m 2, subW 24 ws m 3]
          rw [HSUB.out, HSUB.out, HSUB.out, HSUB.out, if_neg hA, if_neg hA, if_neg hA, if_neg hA, if_neg (fun h => absurd h.2 (by decide)), if_neg (fun h => absurd h.2 (by decide)), if_neg (fun h => absurd h.2 (by decide)), if_neg (fun h => absurd h.2 (by decide))]
          rw [show q + 0 = q from rfl, HU.out.1, HU.out.2.1, HU.out.2.2.1, HU.out.2.2.2]
        have HX5 := HX4
        rw [hxs] at HX5
        have HO5 := HO4
        have HB5 := HB4
        obtain ⟨W5, rfl⟩ : ∃ V, V = w4 := ⟨_, rfl⟩
        obtain ⟨gy, rfl⟩ : ∃ x, x = gx := ⟨_, rfl⟩
        have hgyb := hgxb
        have hzw5 : zb ≤ W5.heap.size := by omega
        subst hm'
        clear hxs hgxb HX4 HO4 HB4
        obtain ⟨xs, hxs⟩ : ∃ l, (List.range 4).map (fun t => subW 24 ws m t) = l := ⟨_, rfl⟩
        rw [hxs] at HX5
        have hxl : xs.length = 4 := by rw [← hxs]; simp
        have HN1' := Lib.hid (show (expN 24 (key, 1) (j + 1)).1 = ws ++ (List.range 4).map (fun t => xs.getD t 0 ^^^ ws.getD (L - 24 + t) 0) by
          rw [HN1.out]
          congr 1
          refine List.map_congr_left fun t ht => ?_
          have ht4 := List.mem_range.1 ht
          have hg : xs.getD t 0 = subW 24 ws m t := by
            rw [← hxs, List.getD_eq_getElem?_getD, List.getElem?_map, List.getElem?_range ht4]
            rfl
          rw [hg])
        have HXL := Lib.hid hxl
        clear hxs hxl
        go_wp2
        go_loopw [7, 11] (fun wv kv W => ∃ (k L2 c2 gb2 : Nat), k ≤ 4 ∧ L + k = L2 ∧ kv = .int .i64 (k : Int) ∧ wv = .slice (some ⟨gb2, 0, none⟩) L2 c2 ∧ gb2 ≠ gy ∧ Hid (W.ownsRow zb 5 1 (.slice (some ⟨gb2, 0, none⟩) L2 c2) L2 ((ws ++ (List.range k).map (fun t => xs.getD t 0 ^^^ ws.getD (L - 24 + t) 0)).map W8)) ∧ Hid (SlV W W.heap.size (some ⟨gy, 0, none⟩) 4 cx (xs.map W8)) ∧ Hid (Below zb w2 W)) (fun _ kv _ => 4 - (intOf kv).toNat)
        case atStart => exact ⟨0, L, c', gb, by decide, rfl, rfl, rfl, hgyb, by simpa using HO5, HX5, HB5⟩
        case round =>
          clear HO5 HX5 HB5
          obtain ⟨k, L2, c2, gb2, hk, hkL, rfl, rfl, hgb2, HO, HX, HB⟩ := hrel
          by_cases hk4 : k = 4
          · subst hk4
            have hfin := HO.out
            rw [← HN1'.out] at hfin
            have HF := Lib.hid hfin
            have hjn : j + 1 ≤ J := by omega
            have hLn : 24 + 4 * (j + 1) = L2 := by omega
            have hLt : L < L2 := by omega
            have hLT2 : L < 208 := by omega
            clear hfin
            go_wp2
            go_roundw
            case rel => exact ⟨j + 1, L2, c2, gb2, m, hjn, hLn, rfl, rfl, HF, HMN, HB⟩
            case measure => show 208 - L2 < 208 - L; omega
          · have hki : (k : Int) < 4 := by omega
            have hk0 : (0 : Int) ≤ k := by omega
            obtain ⟨p, hp⟩ : ∃ p, L - 24 + k = p := ⟨_, rfl⟩
            have wk1 : IntKind.i64.wrap ((L : Int) + (k : Int)) = (L2 : Int) := by rw [IntKind.wrap_i64]; omega
            have wk2 : IntKind.i64.wrap ((L2 : Int) - 24) = (p : Int) := by rw [IntKind.wrap_i64]; omega
            have hp0 : (0 : Int) ≤ p := by omega
            have hpL : (p : Int) < L2 := by omega
            obtain ⟨_, _, e0, hsw, _, _⟩ := SlV.of_own' HO.out
            injection e0 with e1 e2 e3
            subst e1 e3
            obtain ⟨by_, oy, v1, e1, _, hv1, hc1⟩ := hsw.at_ (k := p) (by omega)
            have hcA := hv1
            injection e1 with e1
            injection e1 with e1 e2
            subst e1 e2
            rw [Nat.zero_add] at hc1
            have hpw : p < ws.length := by have := HWL.out; omega
            rw [List.map_append, List.getElem?_append_left (by rw [List.length_map]; exact hpw), map_at hpw] at hv1
            injection hv1 with hv1
            subst hv1
            obtain ⟨by2, oy2, v2, e1, _, hv2, hc2⟩ := HX.out.at_ (k := k) (by omega)
            injection e1 with e1
            injection e1 with e1 e2
            subst e1 e2
            rw [Nat.zero_add] at hc2
            rw [map_at (by have := HXL.out; omega)] at hv2
            injection hv2 with hv2
            subst hv2
            obtain ⟨a_, ha_⟩ : ∃ b, ws.getD p 0 = b := ⟨_, rfl⟩
            obtain ⟨b_, hb_⟩ : ∃ b, xs.getD k 0 = b := ⟨_, rfl⟩
            rw [ha_] at hc1
            rw [hb_] at hc2
            have hxo : bits .xor .u8 (i8 a_) (i8 b_) = i8 (b_ ^^^ a_) := by rw [b8_xor, BitVec.xor_comm]
            obtain ⟨d, hd⟩ : ∃ b, b_ ^^^ a_ = b := ⟨_, rfl⟩
            rw [hd] at hxo
            have hls : (ws ++ (List.range k).map (fun t => xs.getD t 0 ^^^ ws.getD (L - 24 + t) 0)).map W8 ++ [W8 d] = (ws ++ (List.range (k + 1)).map (fun t => xs.getD t 0 ^^^ ws.getD (L - 24 + t) 0)).map W8 := by
              rw [← hd, ← ha_, ← hb_, ← hp, List.range_succ]
              simp
            have HLS := Lib.hid hls
            have hcl2 := hsw.cap
            have kcl2 : (L2 : Int) ≤ c2 := by omega
            have hcells : ∀ i u, ((ws ++ (List.range k).map (fun t => xs.getD t 0 ^^^ ws.getD (L - 24 + t) 0)).map W8)[i]? = some u → wr.cell? ⟨gb2, i, none⟩ = some u := fun i u hu => by
              have h4 := HO.out.cells (g := gb2) rfl i u hu
              rw [Addr.add_lit, Nat.zero_add] at h4
              exact h4
            have HCE := Lib.hid hcells
            have HPA := Lib.hid (show ((ws ++ (List.range k).map (fun t => xs.getD t 0 ^^^ ws.getD (L - 24 + t) 0)).map W8)[p]? = some (W8 a_) by rw [hcA, ha_])
            have HKB := Lib.hid (show (xs.map W8)[k]? = some (W8 b_) by rw [map_at (by have := HXL.out; omega), hb_])
            clear hls hd ha_ hb_ hp hsw hcA hcells
            obtain ⟨gn, hgn⟩ : ∃ x, x = wr.heap.size := ⟨_, rfl⟩
            have hmx : Try.prog.follows .mixedOrders = true := by kernel_rfl
            have hzV : zb ≤ wr.heap.size := by have h1 := HB.out.size; have h2 := HZB.out; omega
            have hgyl : gy < wr.heap.size := by
              obtain ⟨b', o', _, e', hlt, _⟩ := HX.out.at_ (k := 0) (by decide)
              have e2 : gy = b' := by
                injection e' with e'
                injection e'
              rw [e2]
              exact hlt
            have hgbl : gb2 < wr.heap.size := (HO.out.lt gb2 rfl).2
            have kL6 : L2 + 1 ≤ 17592186044416 := by omega
            have HGN := Lib.hid hgn
            clear hgn
            go_wp2_with fail
            refine (wpIn_wide (n := 9)).1 (wpIn_region_chain (β := Value) rfl hmx (fun v => [(119, (.slice (some ⟨gb2, 0, none⟩) L2 c2 : Value)), (120, .slice (some ⟨gb2, 0, none⟩) L2 c2), (121, .int .i64 (L : Int)), (122, .int .i64 (k : Int)), (123, .int .i64 (L2 : Int)), (124, .int .i64 24), (125, .int .i64 (p : Int)), (126, .pointer (some ⟨gb2, p, none⟩)), (127, W8 a_), (128, .slice (some ⟨gy, 0, none⟩) 4 cx), (129, .int .i64 (k : Int)), (130, .pointer (some ⟨gy, k, none⟩)), (131, W8 b_), (132, W8 d), (133, .slice (some ⟨gn, 0, none⟩) 1 1), (134, v)]) (fun v => [(7, v)]) [119, 120, 121, 122, 123, 124, 125, 126, 127, 128, 129, 130, 131, 132, 133, 134] [7] (fun _ => rfl) (fun _ => rfl) (by kernel_rfl) (by kernel_rfl) (by kernel_rfl) (by kernel_rfl) (by first | rfl | simp) 14 3 rfl (by kernel_rfl) (by kernel_rfl)
              (RN wr w2 zb (L2 + 1) d ((ws ++ (List.range k).map (fun t => xs.getD t 0 ^^^ ws.getD (L - 24 + t) 0)).map W8 ++ [W8 d]) gy cx xs gb2 ((ws ++ (List.range k).map (fun t => xs.getD t 0 ^^^ ws.getD (L - 24 + t) 0)).map W8)) RN.drew undef ⟨0, rfl⟩ ?ops5 ?tail5 ?end5)
            case ops5 =>
              intro i o k' v W hi hk' hR ho
              have hcs : W.cell? ⟨gb2, p, none⟩ = some (W8 a_) ∧ W.cell? ⟨gy, k, none⟩ = some (W8 b_) := by
                obtain ⟨q1, q2⟩ := RN.cells HCE.out hgbl HX.out k' v W hR
                refine ⟨q1 p _ HPA.out, ?_⟩
                obtain ⟨b', o', e', _, hc'⟩ := q2.2.2.2 (by intro e; rw [e] at HKB; exact absurd HKB.out (by simp))
                injection e' with e'
                injection e' with e1 e2
                subst e1 e2
                have h4 := hc' k _ HKB.out
                rw [Nat.zero_add] at h4
                exact h4
              obtain ⟨hcW1, hcW2⟩ := hcs
              clear hR hk'
              have hi2 : i = 0 ∨ i = 1 ∨ i = 2 ∨ i = 3 ∨ i = 4 ∨ i = 5 ∨ i = 6 ∨ i = 7 ∨ i = 8 ∨ i = 9 ∨ i = 10 ∨ i = 11 ∨ i = 12 ∨ i = 13 := by omega
              rcases hi2 with rfl | rfl | rfl | rfl | rfl | rfl | rfl | rfl | rfl | rfl | rfl | rfl | rfl | rfl
              all_goals
                have ho' := ho
                simp only [List.getElem?_toArray, List.getElem?_cons_zero, List.getElem?_cons_succ, Option.some.injEq] at ho'
                subst ho'
                refine ⟨(by intro c h; cases h), fun _ _ => trivial, .inl ?_⟩
              all_goals first | (simp [execOp, evP, valP, Act.eval, List.lookup_cons]; done) | (simp [execOp, evP, valP, Act.eval, List.lookup_cons, go_sem, hcW1, hcW2, wk1, wk2, hp0, hpL, hk0, hki, hxo]; done) | skip
            case tail5 =>
              intro k' v W o hk' hR ho
              have hk2 : k' = 0 ∨ k' = 1 ∨ k' = 2 := by omega
              have ho' := ho
              rcases hk2 with rfl | rfl | rfl
              · simp only [Nat.add_zero, List.getElem?_toArray, List.getElem?_cons_zero, List.getElem?_cons_succ, Option.some.injEq] at ho'
                subst ho'
                obtain ⟨q0, rfl⟩ := hR
                refine ⟨(by intro c h; cases h), fun _ _ => trivial, v, (wr.alloc (.cells #[W8 d] 5)).drewN q0, fun _ _ => rfl, ⟨q0, rfl⟩, .inr ?_⟩
                simp [execOp, evP, valP, Act.eval, List.lookup_cons, go_sem]
                exact ⟨HGN.out.symm, rfl⟩
              · simp only [Nat.reduceAdd, List.getElem?_toArray, List.getElem?_cons_zero, List.getElem?_cons_succ, Option.some.injEq] at ho'
                obtain ⟨q0, rfl⟩ := hR
                have hrow : RowV 5 ((wr.alloc (.cells #[W8 d] 5)).drewN q0) wr.heap.size [W8 d] := RowV.new wr 5 [W8 d]
                have hgn2 := HGN.out
                have hba : Below wr.heap.size wr ((wr.alloc (.cells #[W8 d] 5)).drewN q0) := below_drewN ((Below.refl _ _).alloc (Nat.le_refl _) _) q0
                have hown : ((wr.alloc (.cells #[W8 d] 5)).drewN q0).ownsRow zb 5 1 (.slice (some ⟨gb2, 0, none⟩) L2 c2) L2 ((ws ++ (List.range k).map (fun t => xs.getD t 0 ^^^ ws.getD (L - 24 + t) 0)).map W8) := own_later HO.out hba
                refine ⟨(by intro c h; rw [← ho'] at h; cases h), fun _ _ => trivial, ?_⟩
                generalize hρ : evP _ _ = ρ
                have hs11 : ρ (.tmp 119) = .slice (some ⟨gb2, 0, none⟩) L2 c2 := by rw [← hρ]; rfl
                have hs35 : ρ (.tmp 133) = .slice (some ⟨gn, 0, none⟩) 1 1 := by rw [← hρ]; rfl
                have hn4 : ∀ (k : Nat) (u : Value), [W8 d][k]? = some u → ((wr.alloc (.cells #[W8 d] 5)).drewN q0).cell? ((⟨gn, 0, none⟩ : Addr).add k) = some u := by
                  intro k u hu
                  rw [Addr.add_lit, Nat.zero_add, hgn2]
                  exact hrow.at_ hu
                obtain ⟨g7, c7, W', hrun, hO', hG', hg7, hcs7⟩ := run_wappendP Try.elem8 (.tmp 119) (.tmp 133) (o := o) (by rw [← ho']) zb gb2 c2 L2 _ hs11 hown ⟨gn, 0, none⟩ 1 1 [W8 d] hs35 rfl hn4 (by intro u hu; simp at hu; subst hu; rfl) kL6 (Nat.le_trans hzV hba.size)
                have hsz7 : ((wr.alloc (.cells #[W8 d] 5)).drewN q0).heap.size = wr.heap.size + 1 := by simp [World.drewN]
                have hX7 := (((HX.out.below hba).more hba.size).kept_only (show OnlyV _ W' gb2 from hG') (fun b off s h e => by injection h with h; injection h with h _; omega))
                refine ⟨.slice (some ⟨g7, 0, none⟩) (L2 + 1) c7, W', ?_, ⟨g7, c7, rfl, hO', by omega, hX7, ((HB.out.trans (hba.mono hzV)).grown hG' (Nat.le_trans hzV hba.size) (fun r e => by injection e with e; rw [← e]; exact (HO.out.lt gb2 rfl).1)), hcs7⟩, .inr hrun⟩
                intro k hk
                have hk3 : k < 15 := hk
                have hk4 : k = 0 ∨ k = 1 ∨ k = 2 ∨ k = 3 ∨ k = 4 ∨ k = 5 ∨ k = 6 ∨ k = 7 ∨ k = 8 ∨ k = 9 ∨ k = 10 ∨ k = 11 ∨ k = 12 ∨ k = 13 ∨ k = 14 := by omega
                rcases hk4 with rfl | rfl | rfl | rfl | rfl | rfl | rfl | rfl | rfl | rfl | rfl | rfl | rfl | rfl | rfl <;> rfl
              · simp only [Nat.reduceAdd, List.getElem?_toArray, List.getElem?_cons_zero, List.getElem?_cons_succ, Option.some.injEq] at ho'
                subst ho'
                refine ⟨(by intro c h; cases h), fun _ _ => trivial, v, W, fun _ _ => rfl, hR, .inr ?_⟩
                simp [execOp, evP, valP, Act.eval, List.lookup_cons]
            case end5 =>
              intro v W hR
              simp [wrote, valP, Act.put, List.lookup_cons]
              obtain ⟨g7, c7, rfl, hO7, hg7y, hX7, hB7, _⟩ := hR
              have HO7 := Lib.hid hO7
              have HX7 := Lib.hid hX7
              have HB7 := Lib.hid hB7
              clear hO7 hX7 hB7
              go_wp2
              go_roundw
              case rel => exact ⟨k + 1, L2 + 1, c7, g7, by omega, by omega, by go_num, rfl, hg7y, Lib.hid (by rw [← HLS.out]; exact HO7.out), HX7, HB7⟩
              case measure => simp [intOf]; omega
end Go.Proofs.Ytabhdkjepbkooaa
