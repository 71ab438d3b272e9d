/- Parts of one proof, joined: Ua, Ub, Pa, RangeM, MidIn. -/
import Derived.Test.YtnpaidieijlkkaaDoorPileI9
import Derived.Test.YtnpaidieijlkkaaDoorPileI8
import Derived.Test.YtnpaidieijlkkaaDoorPileI4
import Derived.Test.YtnpaidieijlkkaaDoorRows
import Derived.OwnWalkIn
import Derived.Deep.MidRow

/- baileyref4: update. -/
set_option linter.unusedVariables false
set_option linter.unusedSimpArgs false
namespace Go.Proofs.YtnpaidieijlkkaaDoor
open Go.RowKit Go.Shelf

/-- a generator of the reference in block g -/
structure R4R (w : World) (g : Nat) (key val : List (BitVec 8)) (n : Int) (Ak Av : Option Addr) (ck cv : Nat) : Prop where
  hk : key.length = 32
  hv : val.length = 32
  row : RowV 66 w g [.slice Ak 32 ck, .slice Av 32 cv, .int .i64 n]
  ks : SlV w w.heap.size Ak 32 ck (key.map W8)
  vs : SlV w w.heap.size Av 32 cv (val.map W8)
  kg : ∀ b off s, Ak = some ⟨b, off, s⟩ → b ≠ g
  vg : ∀ b off s, Av = some ⟨b, off, s⟩ → b ≠ g
theorem SlV.onlyG {A B' : World} {g n c : Nat} {p : Option Addr} {vs : List Value} (h : SlV A A.heap.size p n c vs) (hk : OnlyV A B' g) (hp : ∀ b off s, p = some ⟨b, off, s⟩ → b ≠ g) : SlV B' B'.heap.size p n c vs :=
  ⟨h.1, h.2.1, h.2.2.1, fun hn => by
    obtain ⟨b, off, e, hlt, hc⟩ := h.2.2.2 hn
    refine ⟨b, off, e, Nat.lt_of_lt_of_le hlt hk.size, fun k v hv => ?_⟩
    have h1 := hc k v hv
    have h2 := hk.block b hlt (fun e2 => hp b off none e (by injection e2))
    unfold World.cell? at h1 ⊢
    simp only [h2]
    exact h1⟩
theorem R4R.later {w w' : World} {g : Nat} {key val : List (BitVec 8)} {n : Int} {Ak Av : Option Addr} {ck cv : Nat} (h : R4R w g key val n Ak Av ck cv) (hb : Below w.heap.size w w') : R4R w' g key val n Ak Av ck cv :=
  ⟨h.hk, h.hv, h.row.later hb, (h.ks.below hb).more hb.size, (h.vs.below hb).more hb.size, h.kg, h.vg⟩
/-- such a generator, its bytes in memory from B on -/
def R4E (B : Nat) (w : World) (g : Nat) (key val : List (BitVec 8)) (n : Int) : Prop := ∃ Ak Av ck cv, R4R w g key val n Ak Av ck cv ∧ (∀ b off s, Ak = some ⟨b, off, s⟩ → B ≤ b) ∧ ∀ b off s, Av = some ⟨b, off, s⟩ → B ≤ b
theorem R4E.mk_ {B : Nat} {w : World} {g : Nat} {key val : List (BitVec 8)} {n : Int} {Ak Av : Option Addr} {ck cv : Nat} (h : R4R w g key val n Ak Av ck cv) (hk : ∀ b off s, Ak = some ⟨b, off, s⟩ → B ≤ b) (hv : ∀ b off s, Av = some ⟨b, off, s⟩ → B ≤ b) : R4E B w g key val n := ⟨Ak, Av, ck, cv, h, hk, hv⟩
theorem R4R.nn {w : World} {g : Nat} {key val : List (BitVec 8)} {n : Int} {Ak Av : Option Addr} {ck cv : Nat} (h : R4R w g key val n Ak Av ck cv) : (Ak = none → ck = 0) ∧ (Av = none → cv = 0) := by
  obtain ⟨b, o, _, e, _⟩ := h.ks.at_ (k := 0) (by decide)
  obtain ⟨b', o', _, e', _⟩ := h.vs.at_ (k := 0) (by decide)
  exact ⟨fun x => (by rw [e] at x; cases x), fun x => (by rw [e'] at x; cases x)⟩
set_option maxRecDepth 100000 in
set_option maxHeartbeats 8000000 in
theorem r4update_any (w : World) (g : Nat) (key val : List (BitVec 8)) (N : Int) (Ak Av : Option Addr) (ck cv : Nat) (h : R4R w g key val N Ak Av ck cv) (B : Nat) (A : Option Addr) (n c : Nat) (data : List (BitVec 8)) (hs : SlV w B A n c (data.map W8)) (hz : A = none → c = 0) (hBg : B ≤ g) (hn9 : n ≤ 10000) :
    Calls Tryd.prog 38 #[.pointer (some ⟨g, 0, none⟩), .slice A n c] w fun e w' => e = .returned (.tuple #[]) ∧ R4E w.heap.size w' g (updL (key, val) data).1 (updL (key, val) data).2 N ∧ OnlyV w w' g := by
  have hl : n = data.length := by simpa using hs.len
  have HR := Lib.hid h
  have HD := Lib.hid hs
  have HO := Lib.hid (OnlyV.refl w g)
  clear h hs
  go_enter Tryd.func38, Tryd.ntmps38
  obtain ⟨gm, hgm⟩ : ∃ x, x = w.heap.size := ⟨_, rfl⟩
  obtain ⟨gq, hgq⟩ : ∃ x, x = w.heap.size + 1 := ⟨_, rfl⟩
  have HGM := Lib.hid hgm
  have HGQ := Lib.hid hgq
  clear hgm hgq
  have hmx : Tryd.prog.follows .mixedOrders = true := by kernel_rfl
  have hgl := HR.out.row.lt
  go_wp2_with fail
  refine (wpIn_wide (n := 9)).1 (wpIn_region_chainM (β := Value) rfl hmx (fun v => [(4, (.pointer (some ⟨g, 0, none⟩) : Value)), (5, (.pointer (some ⟨g, 0, none⟩))), (6, (.pointer (some ⟨g, 0, none⟩))), (7, (.pointer (some ⟨g, 0, none⟩))), (8, (.slice Ak 32 ck)), (9, (.pointer (some ⟨g, 0, none⟩))), (10, (.pointer (some ⟨g, 0, none⟩))), (11, (.pointer (some ⟨g, 1, none⟩))), (12, (.slice Av 32 cv)), (13, (.slice (some ⟨gm, 0, none⟩) 1 1)), (14, (.slice A n c)), (15, (.slice (some ⟨gq, 0, none⟩) 3 3)), (16, (v)), (17, (.pointer (some ⟨g, 0, none⟩))), (18, (.pointer (some ⟨g, 0, none⟩)))]) (fun _ => []) [4, 5, 6, 7, 8, 9, 10, 11, 12, 13, 14, 15, 16, 17, 18] [] (fun _ => rfl) (fun _ => rfl) (by kernel_rfl) (by kernel_rfl) (by kernel_rfl) (by kernel_rfl) (by first | rfl | simp) 11 5 rfl (by kernel_rfl) (by kernel_rfl)
    (fun L k v V => (k = 0 → (L.getD 9 false = false → ∃ q, V = w.drewN q) ∧ (L.getD 9 false = true → ∃ q, V = (w.alloc (.cells #[.int .u8 0] 5)).drewN q)) ∧ (k = 1 → ∃ q, V = ((w.alloc (.cells #[.int .u8 0] 5)).alloc (.cells #[.slice Av 32 cv, .slice (some ⟨gm, 0, none⟩) 1 1, .slice A n c] 22)).drewN q) ∧ (2 ≤ k ∧ k < 5 → FreshV V w.heap.size v (mixK key val 0 data) ∧ Below w.heap.size w V) ∧ (k = 5 → (∀ i, i < 11 → L.getD i false = true) ∧ FreshV V w.heap.size v (mixK key val 0 data) ∧ OnlyV w V g ∧ RowV 66 V g [v, .slice Av 32 cv, .int .i64 N]) ∧ (1 ≤ k → L.getD 9 false = true)) ?hRA undef ?h0A ?hopsA ?htailA ?hendA)
  case hRA =>
    rintro L k v V q ⟨q1, q2, q3, q5, q9⟩
    exact ⟨fun e0 => ⟨fun e => by obtain ⟨x, hx⟩ := (q1 e0).1 e; exact ⟨x + q, by rw [hx, World.drewN_drewN]⟩, fun e => by obtain ⟨x, hx⟩ := (q1 e0).2 e; exact ⟨x + q, by rw [hx, World.drewN_drewN]⟩⟩, fun e => by obtain ⟨x, hx⟩ := q2 e; exact ⟨x + q, by rw [hx, World.drewN_drewN]⟩, fun e => ⟨(q3 e).1, below_drewN (q3 e).2 q⟩, fun e => ⟨(q5 e).1, (q5 e).2.1, (q5 e).2.2.1.drewN q, (q5 e).2.2.2⟩, q9⟩
  case h0A => exact ⟨fun _ => ⟨fun _ => ⟨0, rfl⟩, fun e => absurd e (by decide)⟩, fun e => by omega, fun e => by omega, fun e => by omega, fun e => by omega⟩
  case hopsA =>
    rintro m o L k v V his hk hLi hLs ⟨q1, q2, q3, q5, q9⟩ ho
    have hk5 : k ≠ 5 := fun e => by
      have := (q5 e).1 m his
      rw [hLi] at this
      cases this
    have hB : Below w.heap.size w V := by
      have hk3 : k = 0 ∨ k = 1 ∨ (2 ≤ k ∧ k < 5) := by omega
      rcases hk3 with rfl | rfl | h2
      · cases hb : L.getD 9 false
        · obtain ⟨x, rfl⟩ := (q1 rfl).1 hb
          exact below_drewN (Below.refl _ _) x
        · obtain ⟨x, rfl⟩ := (q1 rfl).2 hb
          exact below_drewN ((Below.refl _ _).alloc (Nat.le_refl _) _) x
      · obtain ⟨x, rfl⟩ := q2 rfl
        exact below_drewN (((Below.refl _ _).alloc (Nat.le_refl _) _).alloc (by simp) _) x
      · exact (q3 h2).2
    have hrow := HR.out.row.later hB
    have hc0 := hrow.at_ (i := 0) rfl
    have hc1 := hrow.at_ (i := 1) rfl
    have hR' : ∀ L2 : Array Bool, L2.getD 9 false = L.getD 9 false → (k = 0 → (L2.getD 9 false = false → ∃ q, V = w.drewN q) ∧ (L2.getD 9 false = true → ∃ q, V = (w.alloc (.cells #[.int .u8 0] 5)).drewN q)) ∧ (k = 1 → ∃ q, V = ((w.alloc (.cells #[.int .u8 0] 5)).alloc (.cells #[.slice Av 32 cv, .slice (some ⟨gm, 0, none⟩) 1 1, .slice A n c] 22)).drewN q) ∧ (2 ≤ k ∧ k < 5 → FreshV V w.heap.size v (mixK key val 0 data) ∧ Below w.heap.size w V) ∧ (k = 5 → (∀ i, i < 11 → L2.getD i false = true) ∧ FreshV V w.heap.size v (mixK key val 0 data) ∧ OnlyV w V g ∧ RowV 66 V g [v, .slice Av 32 cv, .int .i64 N]) ∧ (1 ≤ k → L2.getD 9 false = true) := fun L2 h9 => ⟨fun e => by rw [h9]; exact q1 e, q2, q3, fun e => absurd e hk5, fun e => by rw [h9]; exact q9 e⟩
    have hi2 : m = 0 ∨ m = 1 ∨ m = 2 ∨ m = 3 ∨ m = 4 ∨ m = 5 ∨ m = 6 ∨ m = 7 ∨ m = 8 ∨ m = 9 ∨ m = 10 := by omega
    rcases hi2 with rfl | rfl | rfl | rfl | rfl | rfl | rfl | rfl | rfl | rfl | rfl
    · have ho' := ho
      simp only [List.getElem?_toArray, List.getElem?_cons_zero, List.getElem?_cons_succ, Option.some.injEq] at ho'
      subst ho'
      refine ⟨(by intro c h; cases h), fun _ _ => trivial, .inl ⟨V, ?_, hR' _ (getD_set_other _ (show (0 : Nat) ≠ 9 by decide))⟩⟩
      first | (simp [execOp, evP, valP, Act.eval, List.lookup_cons]; done) | (simp [execOp, evP, valP, Act.eval, List.lookup_cons, go_sem, hc0, hc1]; done)
    · have ho' := ho
      simp only [List.getElem?_toArray, List.getElem?_cons_zero, List.getElem?_cons_succ, Option.some.injEq] at ho'
      subst ho'
      refine ⟨(by intro c h; cases h), fun _ _ => trivial, .inl ⟨V, ?_, hR' _ (getD_set_other _ (show (1 : Nat) ≠ 9 by decide))⟩⟩
      first | (simp [execOp, evP, valP, Act.eval, List.lookup_cons]; done) | (simp [execOp, evP, valP, Act.eval, List.lookup_cons, go_sem, hc0, hc1]; done)
    · have ho' := ho
      simp only [List.getElem?_toArray, List.getElem?_cons_zero, List.getElem?_cons_succ, Option.some.injEq] at ho'
      subst ho'
      refine ⟨(by intro c h; cases h), fun _ _ => trivial, .inl ⟨V, ?_, hR' _ (getD_set_other _ (show (2 : Nat) ≠ 9 by decide))⟩⟩
      first | (simp [execOp, evP, valP, Act.eval, List.lookup_cons]; done) | (simp [execOp, evP, valP, Act.eval, List.lookup_cons, go_sem, hc0, hc1]; done)
    · have ho' := ho
      simp only [List.getElem?_toArray, List.getElem?_cons_zero, List.getElem?_cons_succ, Option.some.injEq] at ho'
      subst ho'
      refine ⟨(by intro c h; cases h), fun _ _ => trivial, .inl ⟨V, ?_, hR' _ (getD_set_other _ (show (3 : Nat) ≠ 9 by decide))⟩⟩
      first | (simp [execOp, evP, valP, Act.eval, List.lookup_cons]; done) | (simp [execOp, evP, valP, Act.eval, List.lookup_cons, go_sem, hc0, hc1]; done)
    · have ho' := ho
      simp only [List.getElem?_toArray, List.getElem?_cons_zero, List.getElem?_cons_succ, Option.some.injEq] at ho'
      subst ho'
      refine ⟨(by intro c h; cases h), fun _ _ => trivial, .inl ⟨V, ?_, hR' _ (getD_set_other _ (show (4 : Nat) ≠ 9 by decide))⟩⟩
      first | (simp [execOp, evP, valP, Act.eval, List.lookup_cons]; done) | (simp [execOp, evP, valP, Act.eval, List.lookup_cons, go_sem, hc0, hc1]; done)
    · have ho' := ho
      simp only [List.getElem?_toArray, List.getElem?_cons_zero, List.getElem?_cons_succ, Option.some.injEq] at ho'
      subst ho'
      refine ⟨(by intro c h; cases h), fun _ _ => trivial, .inl ⟨V, ?_, hR' _ (getD_set_other _ (show (5 : Nat) ≠ 9 by decide))⟩⟩
      first | (simp [execOp, evP, valP, Act.eval, List.lookup_cons]; done) | (simp [execOp, evP, valP, Act.eval, List.lookup_cons, go_sem, hc0, hc1]; done)
    · have ho' := ho
      simp only [List.getElem?_toArray, List.getElem?_cons_zero, List.getElem?_cons_succ, Option.some.injEq] at ho'
      subst ho'
      refine ⟨(by intro c h; cases h), fun _ _ => trivial, .inl ⟨V, ?_, hR' _ (getD_set_other _ (show (6 : Nat) ≠ 9 by decide))⟩⟩
      first | (simp [execOp, evP, valP, Act.eval, List.lookup_cons]; done) | (simp [execOp, evP, valP, Act.eval, List.lookup_cons, go_sem, hc0, hc1]; done)
    · have ho' := ho
      simp only [List.getElem?_toArray, List.getElem?_cons_zero, List.getElem?_cons_succ, Option.some.injEq] at ho'
      subst ho'
      refine ⟨(by intro c h; cases h), fun _ _ => trivial, .inl ⟨V, ?_, hR' _ (getD_set_other _ (show (7 : Nat) ≠ 9 by decide))⟩⟩
      first | (simp [execOp, evP, valP, Act.eval, List.lookup_cons]; done) | (simp [execOp, evP, valP, Act.eval, List.lookup_cons, go_sem, hc0, hc1]; done)
    · have ho' := ho
      simp only [List.getElem?_toArray, List.getElem?_cons_zero, List.getElem?_cons_succ, Option.some.injEq] at ho'
      subst ho'
      refine ⟨(by intro c h; cases h), fun _ _ => trivial, .inl ⟨V, ?_, hR' _ (getD_set_other _ (show (8 : Nat) ≠ 9 by decide))⟩⟩
      first | (simp [execOp, evP, valP, Act.eval, List.lookup_cons]; done) | (simp [execOp, evP, valP, Act.eval, List.lookup_cons, go_sem, hc0, hc1]; done)
    · have ho' := ho
      simp only [List.getElem?_toArray, List.getElem?_cons_zero, List.getElem?_cons_succ, Option.some.injEq] at ho'
      subst ho'
      have hk0 : k = 0 := by
        rcases Nat.eq_zero_or_pos k with h | h
        · exact h
        · have := q9 h
          rw [hLi] at this
          cases this
      subst hk0
      obtain ⟨x, rfl⟩ := (q1 rfl).1 hLi
      have h9 : (L.setIfInBounds 9 true).getD 9 false = true := getD_set_self L (by rw [hLs]; decide)
      refine ⟨(by intro c h; cases h), fun _ _ => trivial, .inl ⟨(w.alloc (.cells #[.int .u8 0] 5)).drewN x, ?_, ⟨fun _ => ⟨fun e => (by rw [h9] at e; cases e), fun _ => ⟨x, rfl⟩⟩, fun e => by omega, fun e => by omega, fun e => by omega, fun e => by omega⟩⟩⟩
      simp [execOp, evP, valP, Act.eval, List.lookup_cons, go_sem]
      exact ⟨HGM.out.symm, rfl⟩
    · have ho' := ho
      simp only [List.getElem?_toArray, List.getElem?_cons_zero, List.getElem?_cons_succ, Option.some.injEq] at ho'
      subst ho'
      refine ⟨(by intro c h; cases h), fun _ _ => trivial, .inl ⟨V, ?_, hR' _ (getD_set_other _ (show (10 : Nat) ≠ 9 by decide))⟩⟩
      first | (simp [execOp, evP, valP, Act.eval, List.lookup_cons]; done) | (simp [execOp, evP, valP, Act.eval, List.lookup_cons, go_sem, hc0, hc1]; done)
  case htailA =>
    rintro L k v V o hk hLs ⟨q1, q2, q3, q5, q9⟩ ho haf
    have hk2 : k = 0 ∨ k = 1 ∨ k = 2 ∨ k = 3 ∨ k = 4 := by omega
    have ho' := ho
    rcases hk2 with rfl | rfl | rfl | rfl | rfl
    · simp only [Nat.add_zero, List.getElem?_toArray, List.getElem?_cons_zero, List.getElem?_cons_succ, Option.some.injEq] at ho'
      subst ho'
      have h9 : L.getD 9 false = true := haf ⟨9, .data⟩ (by simp) rfl
      obtain ⟨x, rfl⟩ := (q1 rfl).2 h9
      refine ⟨(by intro c h; cases h), fun _ _ => trivial, .inl ⟨v, ((w.alloc (.cells #[.int .u8 0] 5)).alloc (.cells #[.slice Av 32 cv, .slice (some ⟨gm, 0, none⟩) 1 1, .slice A n c] 22)).drewN x, fun _ _ => rfl, ⟨fun e => by omega, fun _ => ⟨x, rfl⟩, fun e => by omega, fun e => by omega, fun _ => by rw [getD_set_other _ (show (11 : Nat) ≠ 9 by decide)]; exact h9⟩, .inr ?_⟩⟩
      simp [execOp, evP, valP, Act.eval, List.lookup_cons, go_sem]
      exact ⟨HGQ.out.symm, rfl⟩
    · simp only [Nat.reduceAdd, List.getElem?_toArray, List.getElem?_cons_zero, List.getElem?_cons_succ, Option.some.injEq] at ho'
      subst ho'
      obtain ⟨x, rfl⟩ := q2 rfl
      have hba0 : Below w.heap.size w (w.alloc (.cells #[.int .u8 0] 5)) := (Below.refl _ _).alloc (Nat.le_refl _) _
      have hba1 : Below (w.alloc (.cells #[.int .u8 0] 5)).heap.size (w.alloc (.cells #[.int .u8 0] 5)) (((w.alloc (.cells #[.int .u8 0] 5)).alloc (.cells #[.slice Av 32 cv, .slice (some ⟨gm, 0, none⟩) 1 1, .slice A n c] 22)).drewN x) := below_drewN ((Below.refl _ _).alloc (Nat.le_refl _) _) x
      have hba : Below w.heap.size w (((w.alloc (.cells #[.int .u8 0] 5)).alloc (.cells #[.slice Av 32 cv, .slice (some ⟨gm, 0, none⟩) 1 1, .slice A n c] 22)).drewN x) := hba0.trans (hba1.mono hba0.size)
      have hrow0 : RowV 5 (w.alloc (.cells #[.int .u8 0] 5)) w.heap.size ([(0 : BitVec 8)].map W8) := RowV.new w 5 ([(0 : BitVec 8)].map W8)
      have hrowm : RowV 5 (((w.alloc (.cells #[.int .u8 0] 5)).alloc (.cells #[.slice Av 32 cv, .slice (some ⟨gm, 0, none⟩) 1 1, .slice A n c] 22)).drewN x) gm ([(0 : BitVec 8)].map W8) := by have h := hrow0.later hba1; rw [← HGM.out] at h; exact h
      have hrowp : RowV 22 (((w.alloc (.cells #[.int .u8 0] 5)).alloc (.cells #[.slice Av 32 cv, .slice (some ⟨gm, 0, none⟩) 1 1, .slice A n c] 22)).drewN x) gq [.slice Av 32 cv, .slice (some ⟨gm, 0, none⟩) 1 1, .slice A n c] := by rw [HGQ.out, show w.heap.size + 1 = (w.alloc (.cells #[.int .u8 0] 5)).heap.size by simp]; exact RowV.new (w.alloc (.cells #[.int .u8 0] 5)) 22 [.slice Av 32 cv, .slice (some ⟨gm, 0, none⟩) 1 1, .slice A n c]
      have h4 := HR.out.later hba
      have hsz := hba.size
      have hgp := hrowp.lt
      have hms := hrowm.sl (by simp)
      have hcall := r4hmac_any (((w.alloc (.cells #[.int .u8 0] 5)).alloc (.cells #[.slice Av 32 cv, .slice (some ⟨gm, 0, none⟩) 1 1, .slice A n c] 22)).drewN x) _ _ 32 _ key h4.ks HR.out.nn.1 (Nat.le_refl _) (by decide) (some ⟨gq, 0, none⟩) 3 3 [val, [0], data] (PartsV.three hrowp h4.vs HR.out.nn.2 hms (by intro h; cases h) ((HD.out.below (hba.mono (show B ≤ w.heap.size by omega))).more (by omega)) hz hgp) (by decide) (by have := HR.out.hv; simp; omega)
      rw [show [val, [0], data].flatten = val ++ ([0] ++ data) by simp] at hcall
      have hcall : Calls Tryd.prog 40 #[.slice Ak 32 ck, .slice (some ⟨gq, 0, none⟩) 3 3] (((w.alloc (.cells #[.int .u8 0] 5)).alloc (.cells #[.slice Av 32 cv, .slice (some ⟨gm, 0, none⟩) 1 1, .slice A n c] 22)).drewN x) (fun e w' => ∃ v, e = .returned v ∧ FreshV w' (((w.alloc (.cells #[.int .u8 0] 5)).alloc (.cells #[.slice Av 32 cv, .slice (some ⟨gm, 0, none⟩) 1 1, .slice A n c] 22)).drewN x).heap.size v (mixK key val 0 data) ∧ Below (((w.alloc (.cells #[.int .u8 0] 5)).alloc (.cells #[.slice Av 32 cv, .slice (some ⟨gm, 0, none⟩) 1 1, .slice A n c] 22)).drewN x).heap.size (((w.alloc (.cells #[.int .u8 0] 5)).alloc (.cells #[.slice Av 32 cv, .slice (some ⟨gm, 0, none⟩) 1 1, .slice A n c] 22)).drewN x) w') := hcall
      refine ⟨(by intro c h; cases h), fun _ _ => trivial, .inr ⟨40, #[.slice Ak 32 ck, .slice (some ⟨gq, 0, none⟩) 3 3], ?_, (callsIn_wide.2 hcall).mono ?_⟩⟩
      · simp [execOp, evP, valP, Act.eval, List.lookup_cons, go_sem]
      · rintro e W' ⟨v', rfl, hf, hb⟩
        refine ⟨v', rfl, ?_, ⟨fun e => by omega, fun e => by omega, fun _ => ⟨hf.mono_ hsz, hba.trans (hb.mono hsz)⟩, fun e => by omega, fun _ => by rw [getD_set_other _ (show (12 : Nat) ≠ 9 by decide)]; exact (q9 (by omega))⟩⟩
        intro j hj
        have hj2 : j < 12 := hj
        have hj4 : j = 0 ∨ j = 1 ∨ j = 2 ∨ j = 3 ∨ j = 4 ∨ j = 5 ∨ j = 6 ∨ j = 7 ∨ j = 8 ∨ j = 9 ∨ j = 10 ∨ j = 11 := by omega
        rcases hj4 with rfl | rfl | rfl | rfl | rfl | rfl | rfl | rfl | rfl | rfl | rfl | rfl <;> rfl
    · simp only [Nat.reduceAdd, List.getElem?_toArray, List.getElem?_cons_zero, List.getElem?_cons_succ, Option.some.injEq] at ho'
      subst ho'
      refine ⟨(by intro c h; cases h), fun _ _ => trivial, .inl ⟨v, V, fun _ _ => rfl, ⟨fun e => by omega, fun e => by omega, fun _ => q3 (by omega), fun e => by omega, fun _ => by rw [getD_set_other _ (show (13 : Nat) ≠ 9 by decide)]; exact (q9 (by omega))⟩, .inr ?_⟩⟩
      simp [execOp, evP, valP, Act.eval, List.lookup_cons, go_sem]
    · simp only [Nat.reduceAdd, List.getElem?_toArray, List.getElem?_cons_zero, List.getElem?_cons_succ, Option.some.injEq] at ho'
      subst ho'
      refine ⟨(by intro c h; cases h), fun _ _ => trivial, .inl ⟨v, V, fun _ _ => rfl, ⟨fun e => by omega, fun e => by omega, fun _ => q3 (by omega), fun e => by omega, fun _ => by rw [getD_set_other _ (show (14 : Nat) ≠ 9 by decide)]; exact (q9 (by omega))⟩, .inr ?_⟩⟩
      simp [execOp, evP, valP, Act.eval, List.lookup_cons, go_sem]
    · simp only [Nat.reduceAdd, List.getElem?_toArray, List.getElem?_cons_zero, List.getElem?_cons_succ, Option.some.injEq] at ho'
      subst ho'
      obtain ⟨⟨A', c', rfl, hs', hz', hb'⟩, hB'⟩ := q3 (by omega)
      obtain ⟨lo, hlo⟩ : ∃ x, (mixK key val 0 data).length = x := ⟨_, rfl⟩
      rw [hlo] at hs' ⊢
      have hrow := HR.out.row.later hB'
      have hfz := hrow.frozen 0
      have hcc := hrow.at_ (i := 0) rfl
      have hO' : OnlyV V (V.setCell ⟨g, 0, none⟩ (.slice A' lo c')) g := (OnlyV.refl V g).set 0 _
      refine ⟨(by intro c h; cases h), fun _ _ => trivial, .inl ⟨.slice A' lo c', V.setCell ⟨g, 0, none⟩ (.slice A' lo c'), fun _ _ => rfl, ⟨fun e => by omega, fun e => by omega, fun e => by omega, fun _ => ⟨?_, ⟨A', c', by rw [hlo], ?_, hz', hb'⟩, (OnlyV.of_below hB' g).trans hO', hrow.set 0 (.slice A' lo c')⟩, fun _ => by rw [getD_set_other _ (show (15 : Nat) ≠ 9 by decide)]; exact (q9 (by omega))⟩, .inl ⟨?_, rfl⟩⟩⟩
      · intro m hm
        rw [show 11 + 4 = 15 from rfl, getD_set_other _ (show (15 : Nat) ≠ m by omega)]
        have hi2 : m = 0 ∨ m = 1 ∨ m = 2 ∨ m = 3 ∨ m = 4 ∨ m = 5 ∨ m = 6 ∨ m = 7 ∨ m = 8 ∨ m = 9 ∨ m = 10 := by omega
        rcases hi2 with rfl | rfl | rfl | rfl | rfl | rfl | rfl | rfl | rfl | rfl | rfl
        · exact haf ⟨0, .phase⟩ (by simp) rfl
        · exact haf ⟨1, .phase⟩ (by simp) rfl
        · exact haf ⟨2, .phase⟩ (by simp) rfl
        · exact haf ⟨3, .phase⟩ (by simp) rfl
        · exact haf ⟨4, .phase⟩ (by simp) rfl
        · exact haf ⟨5, .phase⟩ (by simp) rfl
        · exact haf ⟨6, .phase⟩ (by simp) rfl
        · exact haf ⟨7, .phase⟩ (by simp) rfl
        · exact haf ⟨8, .phase⟩ (by simp) rfl
        · exact haf ⟨9, .phase⟩ (by simp) rfl
        · exact haf ⟨10, .phase⟩ (by simp) rfl
      · rw [hlo]; exact hs'.onlyG hO' (fun b off s e => by have := hb' _ e; simp at this; omega)
      · simp [execOp, evP, valP, Act.eval, List.lookup_cons, go_sem, hcc, hfz]
  case hendA =>
    rintro v L V hL ⟨_, _, _, q5, _⟩
    obtain ⟨_, ⟨A', c', rfl, hs', hz', hb'⟩, hO', hr'⟩ := q5 rfl
    rw [mixK_length] at hs' hr'
    rw [mixK_length]
    simp [wrote, valP, Act.put, List.lookup_cons]
    have hR1 : R4R V g (mixK key val 0 data) val N A' Av c' cv := ⟨mixK_length _ _ _ _, HR.out.hv, hr', hs', HR.out.vs.onlyG hO' HR.out.vg, fun b off s e => by have := hb' _ e; simp at this; omega, HR.out.vg⟩
    obtain ⟨w1, rfl⟩ : ∃ X, X = V := ⟨_, rfl⟩
    obtain ⟨A1, rfl⟩ : ∃ X, X = A' := ⟨_, rfl⟩
    obtain ⟨c1, rfl⟩ : ∃ X, X = c' := ⟨_, rfl⟩
    have HD1 := Lib.hid (HD.out.below (hO'.below hBg (by omega)))
    have HO1 := Lib.hid (HO.out.trans hO')
    obtain ⟨s1, hs1⟩ : ∃ l, mixK key val 0 data = l := ⟨_, rfl⟩
    rw [hs1] at hR1
    have HR1 := Lib.hid hR1
    have HS1 := Lib.hid hs1
    have HF1 := Lib.hid (show ∀ b off s, A1 = some ⟨b, off, s⟩ → w.heap.size ≤ b from fun b off s e => by have h1 := hb' _ e; simp at h1; have h2 := HO.out.size; omega)
    clear hR1 hs1 hr' hs' hz' hb' hO' q5 hgl hL
    obtain ⟨gm, hgm⟩ : ∃ x, x = w1.heap.size := ⟨_, rfl⟩
    have HGM := Lib.hid hgm
    clear hgm
    have hmx : Tryd.prog.follows .mixedOrders = true := by kernel_rfl
    have hgl := HR1.out.row.lt
    go_wp2_with fail
    refine (wpIn_wide (n := 9)).1 (wpIn_region_chainM (β := Value) rfl hmx (fun v => [(19, (.pointer (some ⟨g, 0, none⟩) : Value)), (20, (.pointer (some ⟨g, 0, none⟩))), (21, (.pointer (some ⟨g, 0, none⟩))), (22, (.pointer (some ⟨g, 0, none⟩))), (23, (.slice A1 32 c1)), (24, (.pointer (some ⟨g, 0, none⟩))), (25, (.pointer (some ⟨g, 0, none⟩))), (26, (.pointer (some ⟨g, 1, none⟩))), (27, (.slice Av 32 cv)), (28, (.slice (some ⟨gm, 0, none⟩) 1 1)), (29, (v)), (30, (.pointer (some ⟨g, 0, none⟩))), (31, (.pointer (some ⟨g, 1, none⟩)))]) (fun _ => []) [19, 20, 21, 22, 23, 24, 25, 26, 27, 28, 29, 30, 31] [] (fun _ => rfl) (fun _ => rfl) (by kernel_rfl) (by kernel_rfl) (by kernel_rfl) (by kernel_rfl) (by first | rfl | simp) 9 5 rfl (by kernel_rfl) (by kernel_rfl)
      (fun L k v V => (k = 0 → ∃ q, V = w1.drewN q) ∧ (k = 1 → ∃ q, V = (w1.alloc (.cells #[.slice Av 32 cv] 22)).drewN q) ∧ (2 ≤ k ∧ k < 5 → FreshV V w1.heap.size v (stepL s1 val) ∧ Below w1.heap.size w1 V) ∧ (k = 5 → (∀ i, i < 9 → L.getD i false = true) ∧ FreshV V w1.heap.size v (stepL s1 val) ∧ OnlyV w1 V g ∧ RowV 66 V g [.slice A1 32 c1, v, .int .i64 N])) ?hRB undef ?h0B ?hopsB ?htailB ?hendB)
    case hRB =>
      rintro L k v V q ⟨q1, q2, q3, q5⟩
      exact ⟨fun e => by obtain ⟨x, hx⟩ := q1 e; exact ⟨x + q, by rw [hx, World.drewN_drewN]⟩, fun e => by obtain ⟨x, hx⟩ := q2 e; exact ⟨x + q, by rw [hx, World.drewN_drewN]⟩, fun e => ⟨(q3 e).1, below_drewN (q3 e).2 q⟩, fun e => ⟨(q5 e).1, (q5 e).2.1, (q5 e).2.2.1.drewN q, (q5 e).2.2.2⟩⟩
    case h0B => exact ⟨fun _ => ⟨0, rfl⟩, fun e => by omega, fun e => by omega, fun e => by omega⟩
    case hopsB =>
      rintro m o L k v V his hk hLi hLs ⟨q1, q2, q3, q5⟩ ho
      have hk5 : k ≠ 5 := fun e => by
        have := (q5 e).1 m his
        rw [hLi] at this
        cases this
      have hB : Below w1.heap.size w1 V := by
        have hk3 : k = 0 ∨ k = 1 ∨ (2 ≤ k ∧ k < 5) := by omega
        rcases hk3 with rfl | rfl | h2
        · obtain ⟨x, rfl⟩ := q1 rfl
          exact below_drewN (Below.refl _ _) x
        · obtain ⟨x, rfl⟩ := q2 rfl
          exact below_drewN ((Below.refl _ _).alloc (Nat.le_refl _) _) x
        · exact (q3 h2).2
      have hrow := HR1.out.row.later hB
      have hc0 := hrow.at_ (i := 0) rfl
      have hc1 := hrow.at_ (i := 1) rfl
      have hR' : ∀ L2 : Array Bool, (k = 0 → ∃ q, V = w1.drewN q) ∧ (k = 1 → ∃ q, V = (w1.alloc (.cells #[.slice Av 32 cv] 22)).drewN q) ∧ (2 ≤ k ∧ k < 5 → FreshV V w1.heap.size v (stepL s1 val) ∧ Below w1.heap.size w1 V) ∧ (k = 5 → (∀ i, i < 9 → L2.getD i false = true) ∧ FreshV V w1.heap.size v (stepL s1 val) ∧ OnlyV w1 V g ∧ RowV 66 V g [.slice A1 32 c1, v, .int .i64 N]) := fun L2 => ⟨q1, q2, q3, fun e => absurd e hk5⟩
      clear q1 q2 q3 q5 hrow hk5 hB
      have hi2 : m = 0 ∨ m = 1 ∨ m = 2 ∨ m = 3 ∨ m = 4 ∨ m = 5 ∨ m = 6 ∨ m = 7 ∨ m = 8 := by omega
      rcases hi2 with rfl | rfl | rfl | rfl | rfl | rfl | rfl | rfl | rfl
      · have ho' := ho
        simp only [List.getElem?_toArray, List.getElem?_cons_zero, List.getElem?_cons_succ, Option.some.injEq] at ho'
        subst ho'
        refine ⟨(by intro c h; cases h), fun _ _ => trivial, .inl ⟨V, ?_, hR' _⟩⟩
        first | (simp [execOp, evP, valP, Act.eval, List.lookup_cons]; done) | (simp [execOp, evP, valP, Act.eval, List.lookup_cons, go_sem, hc0, hc1]; done)
      · have ho' := ho
        simp only [List.getElem?_toArray, List.getElem?_cons_zero, List.getElem?_cons_succ, Option.some.injEq] at ho'
        subst ho'
        refine ⟨(by intro c h; cases h), fun _ _ => trivial, .inl ⟨V, ?_, hR' _⟩⟩
        first | (simp [execOp, evP, valP, Act.eval, List.lookup_cons]; done) | (simp [execOp, evP, valP, Act.eval, List.lookup_cons, go_sem, hc0, hc1]; done)
      · have ho' := ho
        simp only [List.getElem?_toArray, List.getElem?_cons_zero, List.getElem?_cons_succ, Option.some.injEq] at ho'
        subst ho'
        refine ⟨(by intro c h; cases h), fun _ _ => trivial, .inl ⟨V, ?_, hR' _⟩⟩
        first | (simp [execOp, evP, valP, Act.eval, List.lookup_cons]; done) | (simp [execOp, evP, valP, Act.eval, List.lookup_cons, go_sem, hc0, hc1]; done)
      · have ho' := ho
        simp only [List.getElem?_toArray, List.getElem?_cons_zero, List.getElem?_cons_succ, Option.some.injEq] at ho'
        subst ho'
        refine ⟨(by intro c h; cases h), fun _ _ => trivial, .inl ⟨V, ?_, hR' _⟩⟩
        first | (simp [execOp, evP, valP, Act.eval, List.lookup_cons]; done) | (simp [execOp, evP, valP, Act.eval, List.lookup_cons, go_sem, hc0, hc1]; done)
      · have ho' := ho
        simp only [List.getElem?_toArray, List.getElem?_cons_zero, List.getElem?_cons_succ, Option.some.injEq] at ho'
        subst ho'
        refine ⟨(by intro c h; cases h), fun _ _ => trivial, .inl ⟨V, ?_, hR' _⟩⟩
        first | (simp [execOp, evP, valP, Act.eval, List.lookup_cons]; done) | (simp [execOp, evP, valP, Act.eval, List.lookup_cons, go_sem, hc0, hc1]; done)
      · have ho' := ho
        simp only [List.getElem?_toArray, List.getElem?_cons_zero, List.getElem?_cons_succ, Option.some.injEq] at ho'
        subst ho'
        refine ⟨(by intro c h; cases h), fun _ _ => trivial, .inl ⟨V, ?_, hR' _⟩⟩
        first | (simp [execOp, evP, valP, Act.eval, List.lookup_cons]; done) | (simp [execOp, evP, valP, Act.eval, List.lookup_cons, go_sem, hc0, hc1]; done)
      · have ho' := ho
        simp only [List.getElem?_toArray, List.getElem?_cons_zero, List.getElem?_cons_succ, Option.some.injEq] at ho'
        subst ho'
        refine ⟨(by intro c h; cases h), fun _ _ => trivial, .inl ⟨V, ?_, hR' _⟩⟩
        first | (simp [execOp, evP, valP, Act.eval, List.lookup_cons]; done) | (simp [execOp, evP, valP, Act.eval, List.lookup_cons, go_sem, hc0, hc1]; done)
      · have ho' := ho
        simp only [List.getElem?_toArray, List.getElem?_cons_zero, List.getElem?_cons_succ, Option.some.injEq] at ho'
        subst ho'
        refine ⟨(by intro c h; cases h), fun _ _ => trivial, .inl ⟨V, ?_, hR' _⟩⟩
        first | (simp [execOp, evP, valP, Act.eval, List.lookup_cons]; done) | (simp [execOp, evP, valP, Act.eval, List.lookup_cons, go_sem, hc0, hc1]; done)
      · have ho' := ho
        simp only [List.getElem?_toArray, List.getElem?_cons_zero, List.getElem?_cons_succ, Option.some.injEq] at ho'
        subst ho'
        refine ⟨(by intro c h; cases h), fun _ _ => trivial, .inl ⟨V, ?_, hR' _⟩⟩
        first | (simp [execOp, evP, valP, Act.eval, List.lookup_cons]; done) | (simp [execOp, evP, valP, Act.eval, List.lookup_cons, go_sem, hc0, hc1]; done)
    case htailB =>
      rintro L k v V o hk hLs ⟨q1, q2, q3, q5⟩ ho haf
      have hk2 : k = 0 ∨ k = 1 ∨ k = 2 ∨ k = 3 ∨ k = 4 := by omega
      have ho' := ho
      rcases hk2 with rfl | rfl | rfl | rfl | rfl
      · simp only [Nat.add_zero, List.getElem?_toArray, List.getElem?_cons_zero, List.getElem?_cons_succ, Option.some.injEq] at ho'
        subst ho'
        obtain ⟨x, rfl⟩ := q1 rfl
        refine ⟨(by intro c h; cases h), fun _ _ => trivial, .inl ⟨v, (w1.alloc (.cells #[.slice Av 32 cv] 22)).drewN x, fun _ _ => rfl, ⟨fun e => by omega, fun _ => ⟨x, rfl⟩, fun e => by omega, fun e => by omega⟩, .inr ?_⟩⟩
        simp [execOp, evP, valP, Act.eval, List.lookup_cons, go_sem]
        exact ⟨HGM.out.symm, rfl⟩
      · simp only [Nat.reduceAdd, List.getElem?_toArray, List.getElem?_cons_zero, List.getElem?_cons_succ, Option.some.injEq] at ho'
        subst ho'
        obtain ⟨x, rfl⟩ := q2 rfl
        have hba : Below w1.heap.size w1 ((w1.alloc (.cells #[.slice Av 32 cv] 22)).drewN x) := below_drewN ((Below.refl _ _).alloc (Nat.le_refl _) _) x
        have hrowp : RowV 22 ((w1.alloc (.cells #[.slice Av 32 cv] 22)).drewN x) gm [.slice Av 32 cv] := by rw [HGM.out]; exact RowV.new w1 22 [.slice Av 32 cv]
        have h4 := HR1.out.later hba
        have hsz := hba.size
        have hgp := hrowp.lt
        have hcall := r4hmac_any ((w1.alloc (.cells #[.slice Av 32 cv] 22)).drewN x) _ _ 32 _ s1 h4.ks HR1.out.nn.1 (Nat.le_refl _) (by decide) (some ⟨gm, 0, none⟩) 1 1 [val] (PartsV.one hrowp h4.vs HR1.out.nn.2 hgp) (by decide) (by have := HR1.out.hv; simp; omega)
        rw [show [val].flatten = val by simp] at hcall
        have hcall : Calls Tryd.prog 40 #[.slice A1 32 c1, .slice (some ⟨gm, 0, none⟩) 1 1] ((w1.alloc (.cells #[.slice Av 32 cv] 22)).drewN x) (fun e w' => ∃ v, e = .returned v ∧ FreshV w' ((w1.alloc (.cells #[.slice Av 32 cv] 22)).drewN x).heap.size v (stepL s1 val) ∧ Below ((w1.alloc (.cells #[.slice Av 32 cv] 22)).drewN x).heap.size ((w1.alloc (.cells #[.slice Av 32 cv] 22)).drewN x) w') := hcall
        refine ⟨(by intro c h; cases h), fun _ _ => trivial, .inr ⟨40, #[.slice A1 32 c1, .slice (some ⟨gm, 0, none⟩) 1 1], ?_, (callsIn_wide.2 hcall).mono ?_⟩⟩
        · simp [execOp, evP, valP, Act.eval, List.lookup_cons, go_sem]
        · rintro e W' ⟨v', rfl, hf, hb⟩
          refine ⟨v', rfl, ?_, ⟨fun e => by omega, fun e => by omega, fun _ => ⟨hf.mono_ hsz, hba.trans (hb.mono hsz)⟩, fun e => by omega⟩⟩
          intro j hj
          have hj2 : j < 10 := hj
          have hj4 : j = 0 ∨ j = 1 ∨ j = 2 ∨ j = 3 ∨ j = 4 ∨ j = 5 ∨ j = 6 ∨ j = 7 ∨ j = 8 ∨ j = 9 := by omega
          rcases hj4 with rfl | rfl | rfl | rfl | rfl | rfl | rfl | rfl | rfl | rfl <;> rfl
      · simp only [Nat.reduceAdd, List.getElem?_toArray, List.getElem?_cons_zero, List.getElem?_cons_succ, Option.some.injEq] at ho'
        subst ho'
        refine ⟨(by intro c h; cases h), fun _ _ => trivial, .inl ⟨v, V, fun _ _ => rfl, ⟨fun e => by omega, fun e => by omega, fun _ => q3 (by omega), fun e => by omega⟩, .inr ?_⟩⟩
        simp [execOp, evP, valP, Act.eval, List.lookup_cons, go_sem]
      · simp only [Nat.reduceAdd, List.getElem?_toArray, List.getElem?_cons_zero, List.getElem?_cons_succ, Option.some.injEq] at ho'
        subst ho'
        refine ⟨(by intro c h; cases h), fun _ _ => trivial, .inl ⟨v, V, fun _ _ => rfl, ⟨fun e => by omega, fun e => by omega, fun _ => q3 (by omega), fun e => by omega⟩, .inr ?_⟩⟩
        simp [execOp, evP, valP, Act.eval, List.lookup_cons, go_sem]
      · simp only [Nat.reduceAdd, List.getElem?_toArray, List.getElem?_cons_zero, List.getElem?_cons_succ, Option.some.injEq] at ho'
        subst ho'
        obtain ⟨⟨A', c', rfl, hs', hz', hb'⟩, hB'⟩ := q3 (by omega)
        obtain ⟨lo, hlo⟩ : ∃ x, (stepL s1 val).length = x := ⟨_, rfl⟩
        rw [hlo] at hs' ⊢
        have hrow := HR1.out.row.later hB'
        have hfz := hrow.frozen 1
        have hcc := hrow.at_ (i := 1) rfl
        have hO' : OnlyV V (V.setCell ⟨g, 1, none⟩ (.slice A' lo c')) g := (OnlyV.refl V g).set 1 _
        refine ⟨(by intro c h; cases h), fun _ _ => trivial, .inl ⟨.slice A' lo c', V.setCell ⟨g, 1, none⟩ (.slice A' lo c'), fun _ _ => rfl, ⟨fun e => by omega, fun e => by omega, fun e => by omega, fun _ => ⟨?_, ⟨A', c', by rw [hlo], ?_, hz', hb'⟩, (OnlyV.of_below hB' g).trans hO', hrow.set 1 (.slice A' lo c')⟩⟩, .inl ⟨?_, rfl⟩⟩⟩
        · intro m hm
          rw [show 9 + 4 = 13 from rfl, getD_set_other _ (show (13 : Nat) ≠ m by omega)]
          have hi2 : m = 0 ∨ m = 1 ∨ m = 2 ∨ m = 3 ∨ m = 4 ∨ m = 5 ∨ m = 6 ∨ m = 7 ∨ m = 8 := by omega
          rcases hi2 with rfl | rfl | rfl | rfl | rfl | rfl | rfl | rfl | rfl
          · exact haf ⟨0, .phase⟩ (by simp) rfl
          · exact haf ⟨1, .phase⟩ (by simp) rfl
          · exact haf ⟨2, .phase⟩ (by simp) rfl
          · exact haf ⟨3, .phase⟩ (by simp) rfl
          · exact haf ⟨4, .phase⟩ (by simp) rfl
          · exact haf ⟨5, .phase⟩ (by simp) rfl
          · exact haf ⟨6, .phase⟩ (by simp) rfl
          · exact haf ⟨7, .phase⟩ (by simp) rfl
          · exact haf ⟨8, .phase⟩ (by simp) rfl
        · rw [hlo]; exact hs'.onlyG hO' (fun b off s e => by have := hb' _ e; simp at this; omega)
        · simp [execOp, evP, valP, Act.eval, List.lookup_cons, go_sem, hcc, hfz]
    case hendB =>
      rintro v L V hL ⟨_, _, _, q5⟩
      obtain ⟨_, ⟨A', c', rfl, hs', hz', hb'⟩, hO', hr'⟩ := q5 rfl
      rw [stepL_length] at hs' hr'
      rw [stepL_length]
      simp [wrote, valP, Act.put, List.lookup_cons]
      have hR2 : R4R V g s1 (stepL s1 val) N A1 A' c1 c' := ⟨HR1.out.hk, stepL_length _ _, hr', HR1.out.ks.onlyG hO' HR1.out.kg, hs', HR1.out.kg, fun b off s e => by have := hb' _ e; simp at this; omega⟩
      obtain ⟨w2, rfl⟩ : ∃ X, X = V := ⟨_, rfl⟩
      obtain ⟨A2, rfl⟩ : ∃ X, X = A' := ⟨_, rfl⟩
      obtain ⟨c2, rfl⟩ : ∃ X, X = c' := ⟨_, rfl⟩
      have HD2 := Lib.hid (HD1.out.below (hO'.below hBg (by omega)))
      have HO2 := Lib.hid (HO1.out.trans hO')
      obtain ⟨s2, hs2⟩ : ∃ l, stepL s1 val = l := ⟨_, rfl⟩
      rw [hs2] at hR2
      have HR2 := Lib.hid hR2
      have HS2 := Lib.hid hs2
      have HF2 := Lib.hid (show ∀ b off s, A2 = some ⟨b, off, s⟩ → w.heap.size ≤ b from fun b off s e => by have h1 := hb' _ e; simp at h1; have h2 := HO1.out.size; omega)
      clear hR2 hs2 hr' hs' hz' hb' hO' q5 hgl hL
      by_cases hd : data = []
      · have hn0 : n = 0 := by rw [hl, hd]; rfl
        have hn0I : ¬ (0 : Int) < (n : Int) := by omega
        have hu : updL (key, val) data = (s1, s2) := by unfold updL; rw [if_pos hd, HS1.out, HS2.out]
        have HU := Lib.hid hu
        clear hu hd hl
        go_wp2
        refine bodyPost_end (results_none rfl _ _ _) rfl ?_
        rw [HU.out]
        exact ⟨rfl, R4E.mk_ HR2.out HF1.out HF2.out, HO2.out⟩
      · have hn0 : 0 < n := by rw [hl]; exact List.length_pos_iff.2 hd
        have hn0I : (0 : Int) < (n : Int) := by omega
        obtain ⟨gm, hgm⟩ : ∃ x, x = w2.heap.size := ⟨_, rfl⟩
        obtain ⟨gq, hgq⟩ : ∃ x, x = w2.heap.size + 1 := ⟨_, rfl⟩
        have HGM := Lib.hid hgm
        have HGQ := Lib.hid hgq
        clear hgm hgq
        have hmx : Tryd.prog.follows .mixedOrders = true := by kernel_rfl
        have hgl := HR2.out.row.lt
        go_wp2_with fail
        refine (wpIn_wide (n := 9)).1 (wpIn_region_chainM (β := Value) rfl hmx (fun v => [(35, (.pointer (some ⟨g, 0, none⟩) : Value)), (36, (.pointer (some ⟨g, 0, none⟩))), (37, (.pointer (some ⟨g, 0, none⟩))), (38, (.pointer (some ⟨g, 0, none⟩))), (39, (.slice A1 32 c1)), (40, (.pointer (some ⟨g, 0, none⟩))), (41, (.pointer (some ⟨g, 0, none⟩))), (42, (.pointer (some ⟨g, 1, none⟩))), (43, (.slice A2 32 c2)), (44, (.slice (some ⟨gm, 0, none⟩) 1 1)), (45, (.slice A n c)), (46, (.slice (some ⟨gq, 0, none⟩) 3 3)), (47, (v)), (48, (.pointer (some ⟨g, 0, none⟩))), (49, (.pointer (some ⟨g, 0, none⟩)))]) (fun _ => []) [35, 36, 37, 38, 39, 40, 41, 42, 43, 44, 45, 46, 47, 48, 49] [] (fun _ => rfl) (fun _ => rfl) (by kernel_rfl) (by kernel_rfl) (by kernel_rfl) (by kernel_rfl) (by first | rfl | simp) 11 5 rfl (by kernel_rfl) (by kernel_rfl)
          (fun L k v V => (k = 0 → (L.getD 9 false = false → ∃ q, V = w2.drewN q) ∧ (L.getD 9 false = true → ∃ q, V = (w2.alloc (.cells #[.int .u8 1] 5)).drewN q)) ∧ (k = 1 → ∃ q, V = ((w2.alloc (.cells #[.int .u8 1] 5)).alloc (.cells #[.slice A2 32 c2, .slice (some ⟨gm, 0, none⟩) 1 1, .slice A n c] 22)).drewN q) ∧ (2 ≤ k ∧ k < 5 → FreshV V w2.heap.size v (mixK s1 s2 1 data) ∧ Below w2.heap.size w2 V) ∧ (k = 5 → (∀ i, i < 11 → L.getD i false = true) ∧ FreshV V w2.heap.size v (mixK s1 s2 1 data) ∧ OnlyV w2 V g ∧ RowV 66 V g [v, .slice A2 32 c2, .int .i64 N]) ∧ (1 ≤ k → L.getD 9 false = true)) ?hRC undef ?h0C ?hopsC ?htailC ?hendC)
        case hRC =>
          rintro L k v V q ⟨q1, q2, q3, q5, q9⟩
          exact ⟨fun e0 => ⟨fun e => by obtain ⟨x, hx⟩ := (q1 e0).1 e; exact ⟨x + q, by rw [hx, World.drewN_drewN]⟩, fun e => by obtain ⟨x, hx⟩ := (q1 e0).2 e; exact ⟨x + q, by rw [hx, World.drewN_drewN]⟩⟩, fun e => by obtain ⟨x, hx⟩ := q2 e; exact ⟨x + q, by rw [hx, World.drewN_drewN]⟩, fun e => ⟨(q3 e).1, below_drewN (q3 e).2 q⟩, fun e => ⟨(q5 e).1, (q5 e).2.1, (q5 e).2.2.1.drewN q, (q5 e).2.2.2⟩, q9⟩
        case h0C => exact ⟨fun _ => ⟨fun _ => ⟨0, rfl⟩, fun e => absurd e (by decide)⟩, fun e => by omega, fun e => by omega, fun e => by omega, fun e => by omega⟩
        case hopsC =>
          rintro m o L k v V his hk hLi hLs ⟨q1, q2, q3, q5, q9⟩ ho
          have hk5 : k ≠ 5 := fun e => by
            have := (q5 e).1 m his
            rw [hLi] at this
            cases this
          have hB : Below w2.heap.size w2 V := by
            have hk3 : k = 0 ∨ k = 1 ∨ (2 ≤ k ∧ k < 5) := by omega
            rcases hk3 with rfl | rfl | h2
            · cases hb : L.getD 9 false
              · obtain ⟨x, rfl⟩ := (q1 rfl).1 hb
                exact below_drewN (Below.refl _ _) x
              · obtain ⟨x, rfl⟩ := (q1 rfl).2 hb
                exact below_drewN ((Below.refl _ _).alloc (Nat.le_refl _) _) x
            · obtain ⟨x, rfl⟩ := q2 rfl
              exact below_drewN (((Below.refl _ _).alloc (Nat.le_refl _) _).alloc (by simp) _) x
            · exact (q3 h2).2
          have hrow := HR2.out.row.later hB
          have hc0 := hrow.at_ (i := 0) rfl
          have hc1 := hrow.at_ (i := 1) rfl
          have hR' : ∀ L2 : Array Bool, L2.getD 9 false = L.getD 9 false → (k = 0 → (L2.getD 9 false = false → ∃ q, V = w2.drewN q) ∧ (L2.getD 9 false = true → ∃ q, V = (w2.alloc (.cells #[.int .u8 1] 5)).drewN q)) ∧ (k = 1 → ∃ q, V = ((w2.alloc (.cells #[.int .u8 1] 5)).alloc (.cells #[.slice A2 32 c2, .slice (some ⟨gm, 0, none⟩) 1 1, .slice A n c] 22)).drewN q) ∧ (2 ≤ k ∧ k < 5 → FreshV V w2.heap.size v (mixK s1 s2 1 data) ∧ Below w2.heap.size w2 V) ∧ (k = 5 → (∀ i, i < 11 → L2.getD i false = true) ∧ FreshV V w2.heap.size v (mixK s1 s2 1 data) ∧ OnlyV w2 V g ∧ RowV 66 V g [v, .slice A2 32 c2, .int .i64 N]) ∧ (1 ≤ k → L2.getD 9 false = true) := fun L2 h9 => ⟨fun e => by rw [h9]; exact q1 e, q2, q3, fun e => absurd e hk5, fun e => by rw [h9]; exact q9 e⟩
          have hi2 : m = 0 ∨ m = 1 ∨ m = 2 ∨ m = 3 ∨ m = 4 ∨ m = 5 ∨ m = 6 ∨ m = 7 ∨ m = 8 ∨ m = 9 ∨ m = 10 := by omega
          rcases hi2 with rfl | rfl | rfl | rfl | rfl | rfl | rfl | rfl | rfl | rfl | rfl
          · have ho' := ho
            simp only [List.getElem?_toArray, List.getElem?_cons_zero, List.getElem?_cons_succ, Option.some.injEq] at ho'
            subst ho'
            refine ⟨(by intro c h; cases h), fun _ _ => trivial, .inl ⟨V, ?_, hR' _ (getD_set_other _ (show (0 : Nat) ≠ 9 by decide))⟩⟩
            first | (simp [execOp, evP, valP, Act.eval, List.lookup_cons]; done) | (simp [execOp, evP, valP, Act.eval, List.lookup_cons, go_sem, hc0, hc1]; done)
          · have ho' := ho
            simp only [List.getElem?_toArray, List.getElem?_cons_zero, List.getElem?_cons_succ, Option.some.injEq] at ho'
            subst ho'
            refine ⟨(by intro c h; cases h), fun _ _ => trivial, .inl ⟨V, ?_, hR' _ (getD_set_other _ (show (1 : Nat) ≠ 9 by decide))⟩⟩
            first | (simp [execOp, evP, valP, Act.eval, List.lookup_cons]; done) | (simp [execOp, evP, valP, Act.eval, List.lookup_cons, go_sem, hc0, hc1]; done)
          · have ho' := ho
            simp only [List.getElem?_toArray, List.getElem?_cons_zero, List.getElem?_cons_succ, Option.some.injEq] at ho'
            subst ho'
            refine ⟨(by intro c h; cases h), fun _ _ => trivial, .inl ⟨V, ?_, hR' _ (getD_set_other _ (show (2 : Nat) ≠ 9 by decide))⟩⟩
            first | (simp [execOp, evP, valP, Act.eval, List.lookup_cons]; done) | (simp [execOp, evP, valP, Act.eval, List.lookup_cons, go_sem, hc0, hc1]; done)
          · have ho' := ho
            simp only [List.getElem?_toArray, List.getElem?_cons_zero, List.getElem?_cons_succ, Option.some.injEq] at ho'
            subst ho'
            refine ⟨(by intro c h; cases h), fun _ _ => trivial, .inl ⟨V, ?_, hR' _ (getD_set_other _ (show (3 : Nat) ≠ 9 by decide))⟩⟩
            first | (simp [execOp, evP, valP, Act.eval, List.lookup_cons]; done) | (simp [execOp, evP, valP, Act.eval, List.lookup_cons, go_sem, hc0, hc1]; done)
          · have ho' := ho
            simp only [List.getElem?_toArray, List.getElem?_cons_zero, List.getElem?_cons_succ, Option.some.injEq] at ho'
            subst ho'
            refine ⟨(by intro c h; cases h), fun _ _ => trivial, .inl ⟨V, ?_, hR' _ (getD_set_other _ (show (4 : Nat) ≠ 9 by decide))⟩⟩
            first | (simp [execOp, evP, valP, Act.eval, List.lookup_cons]; done) | (simp [execOp, evP, valP, Act.eval, List.lookup_cons, go_sem, hc0, hc1]; done)
          · have ho' := ho
            simp only [List.getElem?_toArray, List.getElem?_cons_zero, List.getElem?_cons_succ, Option.some.injEq] at ho'
            subst ho'
            refine ⟨(by intro c h; cases h), fun _ _ => trivial, .inl ⟨V, ?_, hR' _ (getD_set_other _ (show (5 : Nat) ≠ 9 by decide))⟩⟩
            first | (simp [execOp, evP, valP, Act.eval, List.lookup_cons]; done) | (simp [execOp, evP, valP, Act.eval, List.lookup_cons, go_sem, hc0, hc1]; done)
          · have ho' := ho
            simp only [List.getElem?_toArray, List.getElem?_cons_zero, List.getElem?_cons_succ, Option.some.injEq] at ho'
            subst ho'
            refine ⟨(by intro c h; cases h), fun _ _ => trivial, .inl ⟨V, ?_, hR' _ (getD_set_other _ (show (6 : Nat) ≠ 9 by decide))⟩⟩
            first | (simp [execOp, evP, valP, Act.eval, List.lookup_cons]; done) | (simp [execOp, evP, valP, Act.eval, List.lookup_cons, go_sem, hc0, hc1]; done)
          · have ho' := ho
            simp only [List.getElem?_toArray, List.getElem?_cons_zero, List.getElem?_cons_succ, Option.some.injEq] at ho'
            subst ho'
            refine ⟨(by intro c h; cases h), fun _ _ => trivial, .inl ⟨V, ?_, hR' _ (getD_set_other _ (show (7 : Nat) ≠ 9 by decide))⟩⟩
            first | (simp [execOp, evP, valP, Act.eval, List.lookup_cons]; done) | (simp [execOp, evP, valP, Act.eval, List.lookup_cons, go_sem, hc0, hc1]; done)
          · have ho' := ho
            simp only [List.getElem?_toArray, List.getElem?_cons_zero, List.getElem?_cons_succ, Option.some.injEq] at ho'
            subst ho'
            refine ⟨(by intro c h; cases h), fun _ _ => trivial, .inl ⟨V, ?_, hR' _ (getD_set_other _ (show (8 : Nat) ≠ 9 by decide))⟩⟩
            first | (simp [execOp, evP, valP, Act.eval, List.lookup_cons]; done) | (simp [execOp, evP, valP, Act.eval, List.lookup_cons, go_sem, hc0, hc1]; done)
          · have ho' := ho
            simp only [List.getElem?_toArray, List.getElem?_cons_zero, List.getElem?_cons_succ, Option.some.injEq] at ho'
            subst ho'
            have hk0 : k = 0 := by
              rcases Nat.eq_zero_or_pos k with h | h
              · exact h
              · have := q9 h
                rw [hLi] at this
                cases this
            subst hk0
            obtain ⟨x, rfl⟩ := (q1 rfl).1 hLi
            have h9 : (L.setIfInBounds 9 true).getD 9 false = true := getD_set_self L (by rw [hLs]; decide)
            refine ⟨(by intro c h; cases h), fun _ _ => trivial, .inl ⟨(w2.alloc (.cells #[.int .u8 1] 5)).drewN x, ?_, ⟨fun _ => ⟨fun e => (by rw [h9] at e; cases e), fun _ => ⟨x, rfl⟩⟩, fun e => by omega, fun e => by omega, fun e => by omega, fun e => by omega⟩⟩⟩
            simp [execOp, evP, valP, Act.eval, List.lookup_cons, go_sem]
            exact ⟨HGM.out.symm, rfl⟩
          · have ho' := ho
            simp only [List.getElem?_toArray, List.getElem?_cons_zero, List.getElem?_cons_succ, Option.some.injEq] at ho'
            subst ho'
            refine ⟨(by intro c h; cases h), fun _ _ => trivial, .inl ⟨V, ?_, hR' _ (getD_set_other _ (show (10 : Nat) ≠ 9 by decide))⟩⟩
            first | (simp [execOp, evP, valP, Act.eval, List.lookup_cons]; done) | (simp [execOp, evP, valP, Act.eval, List.lookup_cons, go_sem, hc0, hc1]; done)
        case htailC =>
          rintro L k v V o hk hLs ⟨q1, q2, q3, q5, q9⟩ ho haf
          have hk2 : k = 0 ∨ k = 1 ∨ k = 2 ∨ k = 3 ∨ k = 4 := by omega
          have ho' := ho
          rcases hk2 with rfl | rfl | rfl | rfl | rfl
          · simp only [Nat.add_zero, List.getElem?_toArray, List.getElem?_cons_zero, List.getElem?_cons_succ, Option.some.injEq] at ho'
            subst ho'
            have h9 : L.getD 9 false = true := haf ⟨9, .data⟩ (by simp) rfl
            obtain ⟨x, rfl⟩ := (q1 rfl).2 h9
            refine ⟨(by intro c h; cases h), fun _ _ => trivial, .inl ⟨v, ((w2.alloc (.cells #[.int .u8 1] 5)).alloc (.cells #[.slice A2 32 c2, .slice (some ⟨gm, 0, none⟩) 1 1, .slice A n c] 22)).drewN x, fun _ _ => rfl, ⟨fun e => by omega, fun _ => ⟨x, rfl⟩, fun e => by omega, fun e => by omega, fun _ => by rw [getD_set_other _ (show (11 : Nat) ≠ 9 by decide)]; exact h9⟩, .inr ?_⟩⟩
            simp [execOp, evP, valP, Act.eval, List.lookup_cons, go_sem]
            exact ⟨HGQ.out.symm, rfl⟩
          · simp only [Nat.reduceAdd, List.getElem?_toArray, List.getElem?_cons_zero, List.getElem?_cons_succ, Option.some.injEq] at ho'
            subst ho'
            obtain ⟨x, rfl⟩ := q2 rfl
            have hba0 : Below w2.heap.size w2 (w2.alloc (.cells #[.int .u8 1] 5)) := (Below.refl _ _).alloc (Nat.le_refl _) _
            have hba1 : Below (w2.alloc (.cells #[.int .u8 1] 5)).heap.size (w2.alloc (.cells #[.int .u8 1] 5)) (((w2.alloc (.cells #[.int .u8 1] 5)).alloc (.cells #[.slice A2 32 c2, .slice (some ⟨gm, 0, none⟩) 1 1, .slice A n c] 22)).drewN x) := below_drewN ((Below.refl _ _).alloc (Nat.le_refl _) _) x
            have hba : Below w2.heap.size w2 (((w2.alloc (.cells #[.int .u8 1] 5)).alloc (.cells #[.slice A2 32 c2, .slice (some ⟨gm, 0, none⟩) 1 1, .slice A n c] 22)).drewN x) := hba0.trans (hba1.mono hba0.size)
            have hrow0 : RowV 5 (w2.alloc (.cells #[.int .u8 1] 5)) w2.heap.size ([(1 : BitVec 8)].map W8) := RowV.new w2 5 ([(1 : BitVec 8)].map W8)
            have hrowm : RowV 5 (((w2.alloc (.cells #[.int .u8 1] 5)).alloc (.cells #[.slice A2 32 c2, .slice (some ⟨gm, 0, none⟩) 1 1, .slice A n c] 22)).drewN x) gm ([(1 : BitVec 8)].map W8) := by have h := hrow0.later hba1; rw [← HGM.out] at h; exact h
            have hrowp : RowV 22 (((w2.alloc (.cells #[.int .u8 1] 5)).alloc (.cells #[.slice A2 32 c2, .slice (some ⟨gm, 0, none⟩) 1 1, .slice A n c] 22)).drewN x) gq [.slice A2 32 c2, .slice (some ⟨gm, 0, none⟩) 1 1, .slice A n c] := by rw [HGQ.out, show w2.heap.size + 1 = (w2.alloc (.cells #[.int .u8 1] 5)).heap.size by simp]; exact RowV.new (w2.alloc (.cells #[.int .u8 1] 5)) 22 [.slice A2 32 c2, .slice (some ⟨gm, 0, none⟩) 1 1, .slice A n c]
            have h4 := HR2.out.later hba
            have hsz := hba.size
            have hgp := hrowp.lt
            have hms := hrowm.sl (by simp)
            have hcall := r4hmac_any (((w2.alloc (.cells #[.int .u8 1] 5)).alloc (.cells #[.slice A2 32 c2, .slice (some ⟨gm, 0, none⟩) 1 1, .slice A n c] 22)).drewN x) _ _ 32 _ s1 h4.ks HR2.out.nn.1 (Nat.le_refl _) (by decide) (some ⟨gq, 0, none⟩) 3 3 [s2, [1], data] (PartsV.three hrowp h4.vs HR2.out.nn.2 hms (by intro h; cases h) ((HD2.out.below (hba.mono (show B ≤ w2.heap.size by omega))).more (by omega)) hz hgp) (by decide) (by have := HR2.out.hv; simp; omega)
            rw [show [s2, [1], data].flatten = s2 ++ ([1] ++ data) by simp] at hcall
            have hcall : Calls Tryd.prog 40 #[.slice A1 32 c1, .slice (some ⟨gq, 0, none⟩) 3 3] (((w2.alloc (.cells #[.int .u8 1] 5)).alloc (.cells #[.slice A2 32 c2, .slice (some ⟨gm, 0, none⟩) 1 1, .slice A n c] 22)).drewN x) (fun e w' => ∃ v, e = .returned v ∧ FreshV w' (((w2.alloc (.cells #[.int .u8 1] 5)).alloc (.cells #[.slice A2 32 c2, .slice (some ⟨gm, 0, none⟩) 1 1, .slice A n c] 22)).drewN x).heap.size v (mixK s1 s2 1 data) ∧ Below (((w2.alloc (.cells #[.int .u8 1] 5)).alloc (.cells #[.slice A2 32 c2, .slice (some ⟨gm, 0, none⟩) 1 1, .slice A n c] 22)).drewN x).heap.size (((w2.alloc (.cells #[.int .u8 1] 5)).alloc (.cells #[.slice A2 32 c2, .slice (some ⟨gm, 0, none⟩) 1 1, .slice A n c] 22)).drewN x) w') := hcall
            refine ⟨(by intro c h; cases h), fun _ _ => trivial, .inr ⟨40, #[.slice A1 32 c1, .slice (some ⟨gq, 0, none⟩) 3 3], ?_, (callsIn_wide.2 hcall).mono ?_⟩⟩
            · simp [execOp, evP, valP, Act.eval, List.lookup_cons, go_sem]
            · rintro e W' ⟨v', rfl, hf, hb⟩
              refine ⟨v', rfl, ?_, ⟨fun e => by omega, fun e => by omega, fun _ => ⟨hf.mono_ hsz, hba.trans (hb.mono hsz)⟩, fun e => by omega, fun _ => by rw [getD_set_other _ (show (12 : Nat) ≠ 9 by decide)]; exact (q9 (by omega))⟩⟩
              intro j hj
              have hj2 : j < 12 := hj
              have hj4 : j = 0 ∨ j = 1 ∨ j = 2 ∨ j = 3 ∨ j = 4 ∨ j = 5 ∨ j = 6 ∨ j = 7 ∨ j = 8 ∨ j = 9 ∨ j = 10 ∨ j = 11 := by omega
              rcases hj4 with rfl | rfl | rfl | rfl | rfl | rfl | rfl | rfl | rfl | rfl | rfl | rfl <;> rfl
          · simp only [Nat.reduceAdd, List.getElem?_toArray, List.getElem?_cons_zero, List.getElem?_cons_succ, Option.some.injEq] at ho'
            subst ho'
            refine ⟨(by intro c h; cases h), fun _ _ => trivial, .inl ⟨v, V, fun _ _ => rfl, ⟨fun e => by omega, fun e => by omega, fun _ => q3 (by omega), fun e => by omega, fun _ => by rw [getD_set_other _ (show (13 : Nat) ≠ 9 by decide)]; exact (q9 (by omega))⟩, .inr ?_⟩⟩
            simp [execOp, evP, valP, Act.eval, List.lookup_cons, go_sem]
          · simp only [Nat.reduceAdd, List.getElem?_toArray, List.getElem?_cons_zero, List.getElem?_cons_succ, Option.some.injEq] at ho'
            subst ho'
            refine ⟨(by intro c h; cases h), fun _ _ => trivial, .inl ⟨v, V, fun _ _ => rfl, ⟨fun e => by omega, fun e => by omega, fun _ => q3 (by omega), fun e => by omega, fun _ => by rw [getD_set_other _ (show (14 : Nat) ≠ 9 by decide)]; exact (q9 (by omega))⟩, .inr ?_⟩⟩
            simp [execOp, evP, valP, Act.eval, List.lookup_cons, go_sem]
          · simp only [Nat.reduceAdd, List.getElem?_toArray, List.getElem?_cons_zero, List.getElem?_cons_succ, Option.some.injEq] at ho'
            subst ho'
            obtain ⟨⟨A', c', rfl, hs', hz', hb'⟩, hB'⟩ := q3 (by omega)
            obtain ⟨lo, hlo⟩ : ∃ x, (mixK s1 s2 1 data).length = x := ⟨_, rfl⟩
            rw [hlo] at hs' ⊢
            have hrow := HR2.out.row.later hB'
            have hfz := hrow.frozen 0
            have hcc := hrow.at_ (i := 0) rfl
            have hO' : OnlyV V (V.setCell ⟨g, 0, none⟩ (.slice A' lo c')) g := (OnlyV.refl V g).set 0 _
            refine ⟨(by intro c h; cases h), fun _ _ => trivial, .inl ⟨.slice A' lo c', V.setCell ⟨g, 0, none⟩ (.slice A' lo c'), fun _ _ => rfl, ⟨fun e => by omega, fun e => by omega, fun e => by omega, fun _ => ⟨?_, ⟨A', c', by rw [hlo], ?_, hz', hb'⟩, (OnlyV.of_below hB' g).trans hO', hrow.set 0 (.slice A' lo c')⟩, fun _ => by rw [getD_set_other _ (show (15 : Nat) ≠ 9 by decide)]; exact (q9 (by omega))⟩, .inl ⟨?_, rfl⟩⟩⟩
            · intro m hm
              rw [show 11 + 4 = 15 from rfl, getD_set_other _ (show (15 : Nat) ≠ m by omega)]
              have hi2 : m = 0 ∨ m = 1 ∨ m = 2 ∨ m = 3 ∨ m = 4 ∨ m = 5 ∨ m = 6 ∨ m = 7 ∨ m = 8 ∨ m = 9 ∨ m = 10 := by omega
              rcases hi2 with rfl | rfl | rfl | rfl | rfl | rfl | rfl | rfl | rfl | rfl | rfl
              · exact haf ⟨0, .phase⟩ (by simp) rfl
              · exact haf ⟨1, .phase⟩ (by simp) rfl
              · exact haf ⟨2, .phase⟩ (by simp) rfl
              · exact haf ⟨3, .phase⟩ (by simp) rfl
              · exact haf ⟨4, .phase⟩ (by simp) rfl
              · exact haf ⟨5, .phase⟩ (by simp) rfl
              · exact haf ⟨6, .phase⟩ (by simp) rfl
              · exact haf ⟨7, .phase⟩ (by simp) rfl
              · exact haf ⟨8, .phase⟩ (by simp) rfl
              · exact haf ⟨9, .phase⟩ (by simp) rfl
              · exact haf ⟨10, .phase⟩ (by simp) rfl
            · rw [hlo]; exact hs'.onlyG hO' (fun b off s e => by have := hb' _ e; simp at this; omega)
            · simp [execOp, evP, valP, Act.eval, List.lookup_cons, go_sem, hcc, hfz]
        case hendC =>
          rintro v L V hL ⟨_, _, _, q5, _⟩
          obtain ⟨_, ⟨A', c', rfl, hs', hz', hb'⟩, hO', hr'⟩ := q5 rfl
          rw [mixK_length] at hs' hr'
          rw [mixK_length]
          simp [wrote, valP, Act.put, List.lookup_cons]
          have hR3 : R4R V g (mixK s1 s2 1 data) s2 N A' A2 c' c2 := ⟨mixK_length _ _ _ _, HR2.out.hv, hr', hs', HR2.out.vs.onlyG hO' HR2.out.vg, fun b off s e => by have := hb' _ e; simp at this; omega, HR2.out.vg⟩
          obtain ⟨w3, rfl⟩ : ∃ X, X = V := ⟨_, rfl⟩
          obtain ⟨A3, rfl⟩ : ∃ X, X = A' := ⟨_, rfl⟩
          obtain ⟨c3, rfl⟩ : ∃ X, X = c' := ⟨_, rfl⟩
          have HD3 := Lib.hid (HD2.out.below (hO'.below hBg (by omega)))
          have HO3 := Lib.hid (HO2.out.trans hO')
          obtain ⟨s3, hs3⟩ : ∃ l, mixK s1 s2 1 data = l := ⟨_, rfl⟩
          rw [hs3] at hR3
          have HR3 := Lib.hid hR3
          have HS3 := Lib.hid hs3
          have HF3 := Lib.hid (show ∀ b off s, A3 = some ⟨b, off, s⟩ → w.heap.size ≤ b from fun b off s e => by have h1 := hb' _ e; simp at h1; have h2 := HO2.out.size; omega)
          clear hR3 hs3 hr' hs' hz' hb' hO' q5 hgl hL
          obtain ⟨gm, hgm⟩ : ∃ x, x = w3.heap.size := ⟨_, rfl⟩
          have HGM := Lib.hid hgm
          clear hgm
          have hmx : Tryd.prog.follows .mixedOrders = true := by kernel_rfl
          have hgl := HR3.out.row.lt
          go_wp2_with fail
          refine (wpIn_wide (n := 9)).1 (wpIn_region_chainM (β := Value) rfl hmx (fun v => [(50, (.pointer (some ⟨g, 0, none⟩) : Value)), (51, (.pointer (some ⟨g, 0, none⟩))), (52, (.pointer (some ⟨g, 0, none⟩))), (53, (.pointer (some ⟨g, 0, none⟩))), (54, (.slice A3 32 c3)), (55, (.pointer (some ⟨g, 0, none⟩))), (56, (.pointer (some ⟨g, 0, none⟩))), (57, (.pointer (some ⟨g, 1, none⟩))), (58, (.slice A2 32 c2)), (59, (.slice (some ⟨gm, 0, none⟩) 1 1)), (60, (v)), (61, (.pointer (some ⟨g, 0, none⟩))), (62, (.pointer (some ⟨g, 1, none⟩)))]) (fun _ => []) [50, 51, 52, 53, 54, 55, 56, 57, 58, 59, 60, 61, 62] [] (fun _ => rfl) (fun _ => rfl) (by kernel_rfl) (by kernel_rfl) (by kernel_rfl) (by kernel_rfl) (by first | rfl | simp) 9 5 rfl (by kernel_rfl) (by kernel_rfl)
            (fun L k v V => (k = 0 → ∃ q, V = w3.drewN q) ∧ (k = 1 → ∃ q, V = (w3.alloc (.cells #[.slice A2 32 c2] 22)).drewN q) ∧ (2 ≤ k ∧ k < 5 → FreshV V w3.heap.size v (stepL s3 s2) ∧ Below w3.heap.size w3 V) ∧ (k = 5 → (∀ i, i < 9 → L.getD i false = true) ∧ FreshV V w3.heap.size v (stepL s3 s2) ∧ OnlyV w3 V g ∧ RowV 66 V g [.slice A3 32 c3, v, .int .i64 N])) ?hRD undef ?h0D ?hopsD ?htailD ?hendD)
          case hRD =>
            rintro L k v V q ⟨q1, q2, q3, q5⟩
            exact ⟨fun e => by obtain ⟨x, hx⟩ := q1 e; exact ⟨x + q, by rw [hx, World.drewN_drewN]⟩, fun e => by obtain ⟨x, hx⟩ := q2 e; exact ⟨x + q, by rw [hx, World.drewN_drewN]⟩, fun e => ⟨(q3 e).1, below_drewN (q3 e).2 q⟩, fun e => ⟨(q5 e).1, (q5 e).2.1, (q5 e).2.2.1.drewN q, (q5 e).2.2.2⟩⟩
          case h0D => exact ⟨fun _ => ⟨0, rfl⟩, fun e => by omega, fun e => by omega, fun e => by omega⟩
          case hopsD =>
            rintro m o L k v V his hk hLi hLs ⟨q1, q2, q3, q5⟩ ho
            have hk5 : k ≠ 5 := fun e => by
              have := (q5 e).1 m his
              rw [hLi] at this
              cases this
            have hB : Below w3.heap.size w3 V := by
              have hk3 : k = 0 ∨ k = 1 ∨ (2 ≤ k ∧ k < 5) := by omega
              rcases hk3 with rfl | rfl | h2
              · obtain ⟨x, rfl⟩ := q1 rfl
                exact below_drewN (Below.refl _ _) x
              · obtain ⟨x, rfl⟩ := q2 rfl
                exact below_drewN ((Below.refl _ _).alloc (Nat.le_refl _) _) x
              · exact (q3 h2).2
            have hrow := HR3.out.row.later hB
            have hc0 := hrow.at_ (i := 0) rfl
            have hc1 := hrow.at_ (i := 1) rfl
            have hR' : ∀ L2 : Array Bool, (k = 0 → ∃ q, V = w3.drewN q) ∧ (k = 1 → ∃ q, V = (w3.alloc (.cells #[.slice A2 32 c2] 22)).drewN q) ∧ (2 ≤ k ∧ k < 5 → FreshV V w3.heap.size v (stepL s3 s2) ∧ Below w3.heap.size w3 V) ∧ (k = 5 → (∀ i, i < 9 → L2.getD i false = true) ∧ FreshV V w3.heap.size v (stepL s3 s2) ∧ OnlyV w3 V g ∧ RowV 66 V g [.slice A3 32 c3, v, .int .i64 N]) := fun L2 => ⟨q1, q2, q3, fun e => absurd e hk5⟩
            clear q1 q2 q3 q5 hrow hk5 hB
            have hi2 : m = 0 ∨ m = 1 ∨ m = 2 ∨ m = 3 ∨ m = 4 ∨ m = 5 ∨ m = 6 ∨ m = 7 ∨ m = 8 := by omega
            rcases hi2 with rfl | rfl | rfl | rfl | rfl | rfl | rfl | rfl | rfl
            · have ho' := ho
              simp only [List.getElem?_toArray, List.getElem?_cons_zero, List.getElem?_cons_succ, Option.some.injEq] at ho'
              subst ho'
              refine ⟨(by intro c h; cases h), fun _ _ => trivial, .inl ⟨V, ?_, hR' _⟩⟩
              first | (simp [execOp, evP, valP, Act.eval, List.lookup_cons]; done) | (simp [execOp, evP, valP, Act.eval, List.lookup_cons, go_sem, hc0, hc1]; done)
            · have ho' := ho
              simp only [List.getElem?_toArray, List.getElem?_cons_zero, List.getElem?_cons_succ, Option.some.injEq] at ho'
              subst ho'
              refine ⟨(by intro c h; cases h), fun _ _ => trivial, .inl ⟨V, ?_, hR' _⟩⟩
              first | (simp [execOp, evP, valP, Act.eval, List.lookup_cons]; done) | (simp [execOp, evP, valP, Act.eval, List.lookup_cons, go_sem, hc0, hc1]; done)
            · have ho' := ho
              simp only [List.getElem?_toArray, List.getElem?_cons_zero, List.getElem?_cons_succ, Option.some.injEq] at ho'
              subst ho'
              refine ⟨(by intro c h; cases h), fun _ _ => trivial, .inl ⟨V, ?_, hR' _⟩⟩
              first | (simp [execOp, evP, valP, Act.eval, List.lookup_cons]; done) | (simp [execOp, evP, valP, Act.eval, List.lookup_cons, go_sem, hc0, hc1]; done)
            · have ho' := ho
              simp only [List.getElem?_toArray, List.getElem?_cons_zero, List.getElem?_cons_succ, Option.some.injEq] at ho'
              subst ho'
              refine ⟨(by intro c h; cases h), fun _ _ => trivial, .inl ⟨V, ?_, hR' _⟩⟩
              first | (simp [execOp, evP, valP, Act.eval, List.lookup_cons]; done) | (simp [execOp, evP, valP, Act.eval, List.lookup_cons, go_sem, hc0, hc1]; done)
            · have ho' := ho
              simp only [List.getElem?_toArray, List.getElem?_cons_zero, List.getElem?_cons_succ, Option.some.injEq] at ho'
              subst ho'
              refine ⟨(by intro c h; cases h), fun _ _ => trivial, .inl ⟨V, ?_, hR' _⟩⟩
              first | (simp [execOp, evP, valP, Act.eval, List.lookup_cons]; done) | (simp [execOp, evP, valP, Act.eval, List.lookup_cons, go_sem, hc0, hc1]; done)
            · have ho' := ho
              simp only [List.getElem?_toArray, List.getElem?_cons_zero, List.getElem?_cons_succ, Option.some.injEq] at ho'
              subst ho'
              refine ⟨(by intro c h; cases h), fun _ _ => trivial, .inl ⟨V, ?_, hR' _⟩⟩
              first | (simp [execOp, evP, valP, Act.eval, List.lookup_cons]; done) | (simp [execOp, evP, valP, Act.eval, List.lookup_cons, go_sem, hc0, hc1]; done)
            · have ho' := ho
              simp only [List.getElem?_toArray, List.getElem?_cons_zero, List.getElem?_cons_succ, Option.some.injEq] at ho'
              subst ho'
              refine ⟨(by intro c h; cases h), fun _ _ => trivial, .inl ⟨V, ?_, hR' _⟩⟩
              first | (simp [execOp, evP, valP, Act.eval, List.lookup_cons]; done) | (simp [execOp, evP, valP, Act.eval, List.lookup_cons, go_sem, hc0, hc1]; done)
            · have ho' := ho
              simp only [List.getElem?_toArray, List.getElem?_cons_zero, List.getElem?_cons_succ, Option.some.injEq] at ho'
              subst ho'
              refine ⟨(by intro c h; cases h), fun _ _ => trivial, .inl ⟨V, ?_, hR' _⟩⟩
              first | (simp [execOp, evP, valP, Act.eval, List.lookup_cons]; done) | (simp [execOp, evP, valP, Act.eval, List.lookup_cons, go_sem, hc0, hc1]; done)
            · have ho' := ho
              simp only [List.getElem?_toArray, List.getElem?_cons_zero, List.getElem?_cons_succ, Option.some.injEq] at ho'
              subst ho'
              refine ⟨(by intro c h; cases h), fun _ _ => trivial, .inl ⟨V, ?_, hR' _⟩⟩
              first | (simp [execOp, evP, valP, Act.eval, List.lookup_cons]; done) | (simp [execOp, evP, valP, Act.eval, List.lookup_cons, go_sem, hc0, hc1]; done)
          case htailD =>
            rintro L k v V o hk hLs ⟨q1, q2, q3, q5⟩ ho haf
            have hk2 : k = 0 ∨ k = 1 ∨ k = 2 ∨ k = 3 ∨ k = 4 := by omega
            have ho' := ho
            rcases hk2 with rfl | rfl | rfl | rfl | rfl
            · simp only [Nat.add_zero, List.getElem?_toArray, List.getElem?_cons_zero, List.getElem?_cons_succ, Option.some.injEq] at ho'
              subst ho'
              obtain ⟨x, rfl⟩ := q1 rfl
              refine ⟨(by intro c h; cases h), fun _ _ => trivial, .inl ⟨v, (w3.alloc (.cells #[.slice A2 32 c2] 22)).drewN x, fun _ _ => rfl, ⟨fun e => by omega, fun _ => ⟨x, rfl⟩, fun e => by omega, fun e => by omega⟩, .inr ?_⟩⟩
              simp [execOp, evP, valP, Act.eval, List.lookup_cons, go_sem]
              exact ⟨HGM.out.symm, rfl⟩
            · simp only [Nat.reduceAdd, List.getElem?_toArray, List.getElem?_cons_zero, List.getElem?_cons_succ, Option.some.injEq] at ho'
              subst ho'
              obtain ⟨x, rfl⟩ := q2 rfl
              have hba : Below w3.heap.size w3 ((w3.alloc (.cells #[.slice A2 32 c2] 22)).drewN x) := below_drewN ((Below.refl _ _).alloc (Nat.le_refl _) _) x
              have hrowp : RowV 22 ((w3.alloc (.cells #[.slice A2 32 c2] 22)).drewN x) gm [.slice A2 32 c2] := by rw [HGM.out]; exact RowV.new w3 22 [.slice A2 32 c2]
              have h4 := HR3.out.later hba
              have hsz := hba.size
              have hgp := hrowp.lt
              have hcall := r4hmac_any ((w3.alloc (.cells #[.slice A2 32 c2] 22)).drewN x) _ _ 32 _ s3 h4.ks HR3.out.nn.1 (Nat.le_refl _) (by decide) (some ⟨gm, 0, none⟩) 1 1 [s2] (PartsV.one hrowp h4.vs HR3.out.nn.2 hgp) (by decide) (by have := HR3.out.hv; simp; omega)
              rw [show [s2].flatten = s2 by simp] at hcall
              have hcall : Calls Tryd.prog 40 #[.slice A3 32 c3, .slice (some ⟨gm, 0, none⟩) 1 1] ((w3.alloc (.cells #[.slice A2 32 c2] 22)).drewN x) (fun e w' => ∃ v, e = .returned v ∧ FreshV w' ((w3.alloc (.cells #[.slice A2 32 c2] 22)).drewN x).heap.size v (stepL s3 s2) ∧ Below ((w3.alloc (.cells #[.slice A2 32 c2] 22)).drewN x).heap.size ((w3.alloc (.cells #[.slice A2 32 c2] 22)).drewN x) w') := hcall
              refine ⟨(by intro c h; cases h), fun _ _ => trivial, .inr ⟨40, #[.slice A3 32 c3, .slice (some ⟨gm, 0, none⟩) 1 1], ?_, (callsIn_wide.2 hcall).mono ?_⟩⟩
              · simp [execOp, evP, valP, Act.eval, List.lookup_cons, go_sem]
              · rintro e W' ⟨v', rfl, hf, hb⟩
                refine ⟨v', rfl, ?_, ⟨fun e => by omega, fun e => by omega, fun _ => ⟨hf.mono_ hsz, hba.trans (hb.mono hsz)⟩, fun e => by omega⟩⟩
                intro j hj
                have hj2 : j < 10 := hj
                have hj4 : j = 0 ∨ j = 1 ∨ j = 2 ∨ j = 3 ∨ j = 4 ∨ j = 5 ∨ j = 6 ∨ j = 7 ∨ j = 8 ∨ j = 9 := by omega
                rcases hj4 with rfl | rfl | rfl | rfl | rfl | rfl | rfl | rfl | rfl | rfl <;> rfl
            · simp only [Nat.reduceAdd, List.getElem?_toArray, List.getElem?_cons_zero, List.getElem?_cons_succ, Option.some.injEq] at ho'
              subst ho'
              refine ⟨(by intro c h; cases h), fun _ _ => trivial, .inl ⟨v, V, fun _ _ => rfl, ⟨fun e => by omega, fun e => by omega, fun _ => q3 (by omega), fun e => by omega⟩, .inr ?_⟩⟩
              simp [execOp, evP, valP, Act.eval, List.lookup_cons, go_sem]
            · simp only [Nat.reduceAdd, List.getElem?_toArray, List.getElem?_cons_zero, List.getElem?_cons_succ, Option.some.injEq] at ho'
              subst ho'
              refine ⟨(by intro c h; cases h), fun _ _ => trivial, .inl ⟨v, V, fun _ _ => rfl, ⟨fun e => by omega, fun e => by omega, fun _ => q3 (by omega), fun e => by omega⟩, .inr ?_⟩⟩
              simp [execOp, evP, valP, Act.eval, List.lookup_cons, go_sem]
            · simp only [Nat.reduceAdd, List.getElem?_toArray, List.getElem?_cons_zero, List.getElem?_cons_succ, Option.some.injEq] at ho'
              subst ho'
              obtain ⟨⟨A', c', rfl, hs', hz', hb'⟩, hB'⟩ := q3 (by omega)
              obtain ⟨lo, hlo⟩ : ∃ x, (stepL s3 s2).length = x := ⟨_, rfl⟩
              rw [hlo] at hs' ⊢
              have hrow := HR3.out.row.later hB'
              have hfz := hrow.frozen 1
              have hcc := hrow.at_ (i := 1) rfl
              have hO' : OnlyV V (V.setCell ⟨g, 1, none⟩ (.slice A' lo c')) g := (OnlyV.refl V g).set 1 _
              refine ⟨(by intro c h; cases h), fun _ _ => trivial, .inl ⟨.slice A' lo c', V.setCell ⟨g, 1, none⟩ (.slice A' lo c'), fun _ _ => rfl, ⟨fun e => by omega, fun e => by omega, fun e => by omega, fun _ => ⟨?_, ⟨A', c', by rw [hlo], ?_, hz', hb'⟩, (OnlyV.of_below hB' g).trans hO', hrow.set 1 (.slice A' lo c')⟩⟩, .inl ⟨?_, rfl⟩⟩⟩
              · intro m hm
                rw [show 9 + 4 = 13 from rfl, getD_set_other _ (show (13 : Nat) ≠ m by omega)]
                have hi2 : m = 0 ∨ m = 1 ∨ m = 2 ∨ m = 3 ∨ m = 4 ∨ m = 5 ∨ m = 6 ∨ m = 7 ∨ m = 8 := by omega
                rcases hi2 with rfl | rfl | rfl | rfl | rfl | rfl | rfl | rfl | rfl
                · exact haf ⟨0, .phase⟩ (by simp) rfl
                · exact haf ⟨1, .phase⟩ (by simp) rfl
                · exact haf ⟨2, .phase⟩ (by simp) rfl
                · exact haf ⟨3, .phase⟩ (by simp) rfl
                · exact haf ⟨4, .phase⟩ (by simp) rfl
                · exact haf ⟨5, .phase⟩ (by simp) rfl
                · exact haf ⟨6, .phase⟩ (by simp) rfl
                · exact haf ⟨7, .phase⟩ (by simp) rfl
                · exact haf ⟨8, .phase⟩ (by simp) rfl
              · rw [hlo]; exact hs'.onlyG hO' (fun b off s e => by have := hb' _ e; simp at this; omega)
              · simp [execOp, evP, valP, Act.eval, List.lookup_cons, go_sem, hcc, hfz]
          case hendD =>
            rintro v L V hL ⟨_, _, _, q5⟩
            obtain ⟨_, ⟨A', c', rfl, hs', hz', hb'⟩, hO', hr'⟩ := q5 rfl
            rw [stepL_length] at hs' hr'
            rw [stepL_length]
            simp [wrote, valP, Act.put, List.lookup_cons]
            have hR4 : R4R V g s3 (stepL s3 s2) N A3 A' c3 c' := ⟨HR3.out.hk, stepL_length _ _, hr', HR3.out.ks.onlyG hO' HR3.out.kg, hs', HR3.out.kg, fun b off s e => by have := hb' _ e; simp at this; omega⟩
            obtain ⟨w4, rfl⟩ : ∃ X, X = V := ⟨_, rfl⟩
            obtain ⟨A4, rfl⟩ : ∃ X, X = A' := ⟨_, rfl⟩
            obtain ⟨c4, rfl⟩ : ∃ X, X = c' := ⟨_, rfl⟩
            have HD4 := Lib.hid (HD3.out.below (hO'.below hBg (by omega)))
            have HO4 := Lib.hid (HO3.out.trans hO')
            obtain ⟨s4, hs4⟩ : ∃ l, stepL s3 s2 = l := ⟨_, rfl⟩
            rw [hs4] at hR4
            have HR4 := Lib.hid hR4
            have HS4 := Lib.hid hs4
            have HF4 := Lib.hid (show ∀ b off s, A4 = some ⟨b, off, s⟩ → w.heap.size ≤ b from fun b off s e => by have h1 := hb' _ e; simp at h1; have h2 := HO3.out.size; omega)
            clear hR4 hs4 hr' hs' hz' hb' hO' q5 hgl hL
            have hu : updL (key, val) data = (s3, s4) := by unfold updL; rw [if_neg hd, HS1.out, HS2.out, HS3.out, HS4.out]
            have HU := Lib.hid hu
            clear hu hd hl
            go_wp2
            refine bodyPost_end (results_none rfl _ _ _) rfl ?_
            rw [HU.out]
            exact ⟨rfl, R4E.mk_ HR4.out HF3.out HF4.out, HO4.out⟩
end Go.Proofs.YtnpaidieijlkkaaDoor

/- baileyref4: New. -/
set_option linter.unusedVariables false
set_option linter.unusedSimpArgs false
namespace Go.Proofs.YtnpaidieijlkkaaDoor
open Go.RowKit Go.Shelf

theorem make32 : ∃ C : Array Value, C = ((List.replicate 32 (0 : BitVec 8)).map W8).toArray ∧ ∀ w, (Instr.makeSlice 22 (.int .i64 32) (.int .i64 32)).run Tryd.prog w = .ok (.slice (some ⟨w.heap.size, 0, none⟩) 32 32) (w.alloc (.cells C 5)) := by
  obtain ⟨i0, hi, hz0, hz1, hz2⟩ := info_parts Tryd.elem8.info
  have hmc : madeCells (Value.int .u8 0).cells (Int.toNat 32 * 1) = ((List.replicate 32 (0 : BitVec 8)).map W8).toArray := by
    apply Array.ext'
    rw [Tryd.elem8.one, toList_madeCells_one, List.map_replicate]
    rfl
  refine ⟨_, rfl, fun w => ?_⟩
  have hr := run_make (P := Tryd.prog) (w := w) 22 5 i0 _ Tryd.elem8.sl hi hz0 .i64 .i64 32 32 (by decide) (by decide) (by rw [hz2]; decide) (by decide)
  rw [hr, hz1, hmc]
  rfl
theorem three_new (w : World) (C : List Value) (t : TypeId) (cs : Array Value) (u : TypeId) :
    RowV t (((w.alloc (.cells C.toArray t)).alloc (.cells C.toArray t)).alloc (.cells cs u)).drew w.heap.size C ∧ RowV t (((w.alloc (.cells C.toArray t)).alloc (.cells C.toArray t)).alloc (.cells cs u)).drew (w.heap.size + 1) C ∧
    RowV u (((w.alloc (.cells C.toArray t)).alloc (.cells C.toArray t)).alloc (.cells cs u)).drew (w.heap.size + 1 + 1) cs.toList ∧ Below w.heap.size w (((w.alloc (.cells C.toArray t)).alloc (.cells C.toArray t)).alloc (.cells cs u)).drew := by
  have r1 := RowV.new w t C
  have b1 : Below w.heap.size w (w.alloc (.cells C.toArray t)) := (Below.refl _ _).alloc (Nat.le_refl _) _
  have r2 := RowV.new (w.alloc (.cells C.toArray t)) t C
  have z1 : (w.alloc (.cells C.toArray t)).heap.size = w.heap.size + 1 := by simp
  have b2 : Below (w.heap.size + 1) (w.alloc (.cells C.toArray t)) ((w.alloc (.cells C.toArray t)).alloc (.cells C.toArray t)) := (Below.refl _ _).alloc (by rw [z1]; exact Nat.le_refl _) _
  have z2 : ((w.alloc (.cells C.toArray t)).alloc (.cells C.toArray t)).heap.size = w.heap.size + 1 + 1 := by simp
  have r3 := RowV.new ((w.alloc (.cells C.toArray t)).alloc (.cells C.toArray t)) u cs.toList
  have b3 : Below (w.heap.size + 1 + 1) ((w.alloc (.cells C.toArray t)).alloc (.cells C.toArray t)) (((w.alloc (.cells C.toArray t)).alloc (.cells C.toArray t)).alloc (.cells cs u)) := (Below.refl _ _).alloc (by rw [z2]; exact Nat.le_refl _) _
  rw [z1] at r2
  rw [z2] at r3
  have r12 : RowV t ((w.alloc (.cells C.toArray t)).alloc (.cells C.toArray t)) w.heap.size C := r1.below b2 (Nat.lt_succ_self _)
  have b2' : Below w.heap.size (w.alloc (.cells C.toArray t)) ((w.alloc (.cells C.toArray t)).alloc (.cells C.toArray t)) := b2.mono (Nat.le_succ _)
  have b3' : Below w.heap.size ((w.alloc (.cells C.toArray t)).alloc (.cells C.toArray t)) (((w.alloc (.cells C.toArray t)).alloc (.cells C.toArray t)).alloc (.cells cs u)) := b3.mono (Nat.le_trans (Nat.le_succ _) (Nat.le_succ _))
  exact ⟨r12.below b3.drew (Nat.lt_succ_of_lt (Nat.lt_succ_self _)), r2.below b3.drew (Nat.lt_succ_self _), r3, ((b1.trans b2').trans b3').drew⟩
set_option maxRecDepth 100000 in
set_option maxHeartbeats 4000000 in
theorem r4new_any (w : World) (B : Nat) (A : Option Addr) (n c : Nat) (data : List (BitVec 8)) (hs : SlV w B A n c (data.map W8)) (hz : A = none → c = 0) (hB : B ≤ w.heap.size) (hn : n ≤ 10000) :
    Calls Tryd.prog 12 #[.slice A n c] w fun e w' => ∃ g, e = .returned (.pointer (some ⟨g, 0, none⟩)) ∧ w.heap.size ≤ g ∧ R4E w.heap.size w' g (updL (List.replicate 32 0, List.replicate 32 1) data).1 (updL (List.replicate 32 0, List.replicate 32 1) data).2 0 ∧ Below w.heap.size w w' := by
  obtain ⟨C, hC, hm⟩ := make32
  obtain ⟨s, hS⟩ : ∃ s, w.heap.size = s := ⟨_, rfl⟩
  have HC := Lib.hid hC
  have HS := Lib.hid hs
  have HSZ := Lib.hid hS
  clear hs hC hS
  go_enter Tryd.func12, Tryd.ntmps12
  go_wp2_with fail
  go_region
  · go_wp2
    have hn3 := three_new w ((List.replicate 32 (0 : BitVec 8)).map W8) 5 #[.slice (some ⟨w.heap.size, 0, none⟩) 32 32, .slice (some ⟨w.heap.size + 1, 0, none⟩) 32 32, .int .i64 0] 66
    rw [← HC.out] at hn3
    obtain ⟨W0, hW0⟩ : ∃ X, (((w.alloc (.cells C 5)).alloc (.cells C 5)).alloc (.cells #[.slice (some ⟨w.heap.size, 0, none⟩) 32 32, .slice (some ⟨w.heap.size + 1, 0, none⟩) 32 32, .int .i64 0] 66)).drew = X := ⟨_, rfl⟩
    rw [hW0] at hn3 ⊢
    obtain ⟨h1, h2, h3, h4⟩ := hn3
    rw [HSZ.out] at h1 h2 h3 h4
    rw [HSZ.out]
    have hgl := h3.lt
    have HRK := Lib.hid h1
    have HRV := Lib.hid h2
    have HRG := Lib.hid h3
    have HBL := Lib.hid h4
    clear h1 h2 h3 h4 hW0
    go_loopw [4] (fun iv V => ∃ j : Nat, j ≤ 32 ∧ iv = .int .i64 (j : Int) ∧ Hid (RowV 5 V (s + 1) (((List.replicate 32 (1 : BitVec 8)).take j ++ List.replicate (32 - j) 0).map W8)) ∧ Hid (OnlyV W0 V (s + 1))) (fun iv _ => 32 - (intOf iv).toNat)
    case atStart => exact ⟨0, by decide, rfl, HRV, Lib.hid (OnlyV.refl _ _)⟩
    case round =>
      obtain ⟨j, hj, rfl, HR, HO⟩ := hrel
      have hrg := HRG.out.only HO.out (show s + 1 + 1 ≠ s + 1 by omega)
      have hrk := HRK.out.only HO.out (show s ≠ s + 1 by omega)
      by_cases hj32 : j = 32
      · subst hj32
        obtain ⟨w5, rfl⟩ : ∃ X, X = wr := ⟨_, rfl⟩
        have hrv := HR.out
        rw [show (List.replicate 32 (1 : BitVec 8)).take 32 ++ List.replicate (32 - 32) 0 = List.replicate 32 1 from rfl] at hrv
        have hsk := hrk.sl (by simp)
        have hsv := hrv.sl (by simp)
        rw [List.length_map, List.length_replicate] at hsk hsv
        have hr4 : R4R w5 (s + 1 + 1) (List.replicate 32 0) (List.replicate 32 1) 0 (some ⟨s, 0, none⟩) (some ⟨s + 1, 0, none⟩) 32 32 := ⟨by simp, by simp, hrg, hsk, hsv, fun b off s' e => by injection e with e; injection e with e1; omega, fun b off s' e => by injection e with e; injection e with e1; omega⟩
        have hsz := HO.out.size
        have hBs : B ≤ s := by rw [← HSZ.out]; exact hB
        have hbl5 : Below s w w5 := HBL.out.trans (HO.out.below (by omega) (by omega))
        have hu := r4update_any w5 (s + 1 + 1) _ _ 0 _ _ _ _ hr4 B A n c data (HS.out.below (hbl5.mono hBs)) hz (by omega) hn
        have HU := Lib.hid hu
        have HB5 := Lib.hid hbl5
        clear hu hbl5 hr4 hsk hsv hrv hrg hrk
        go_wp2_with fail
        refine HU.out.mono ?_
        rintro e w6 ⟨rfl, ⟨Ak6, Av6, ck6, cv6, hd6, hk6, hv6⟩, ho6⟩
        have HD6 := Lib.hid hd6
        have HB6 := Lib.hid (HB5.out.trans (ho6.below (by omega) (by omega)))
        have HK6 := Lib.hid (show ∀ b off s', Ak6 = some ⟨b, off, s'⟩ → s ≤ b from fun b off s' e => by have := hk6 b off s' e; have := HB5.out.size; have := HSZ.out; omega)
        have HV6 := Lib.hid (show ∀ b off s', Av6 = some ⟨b, off, s'⟩ → s ≤ b from fun b off s' e => by have := hv6 b off s' e; have := HB5.out.size; have := HSZ.out; omega)
        clear hd6 hk6 hv6 ho6 HU
        go_wp2
        go_ret
        exact ⟨s + 1 + 1, rfl, by rw [HSZ.out]; omega, by rw [HSZ.out]; exact R4E.mk_ HD6.out HK6.out HV6.out, by rw [HSZ.out]; exact HB6.out⟩
      · have hjI : (j : Int) < 32 := by omega
        have hj0 : (0 : Int) ≤ j := by omega
        have hc1 := hrg.at_ (i := 1) rfl
        have hcj : wr.cell? ⟨s + 1, j, none⟩ = some (.int .u8 0) := HR.out.at_ (by
          rw [List.getElem?_map]
          have := fill_get (List.replicate 32 (1 : BitVec 8)) 0 j (by simp; omega)
          rw [List.length_replicate] at this
          rw [this]
          rfl)
        have hf := HR.out.frozen j
        have hst := HR.out.set j (.int .u8 1)
        have hset : (((List.replicate 32 (1 : BitVec 8)).take j ++ List.replicate (32 - j) 0).map W8).set j (.int .u8 1) = ((List.replicate 32 (1 : BitVec 8)).take (j + 1) ++ List.replicate (32 - (j + 1)) 0).map W8 := by
          have h1 := fill_set (List.replicate 32 (1 : BitVec 8)) 0 j 1 (by rw [List.getElem?_replicate, if_pos (by omega)])
          rw [List.length_replicate] at h1
          rw [← h1, List.map_set]
          rfl
        rw [hset] at hst
        have HST := Lib.hid hst
        have hos := HO.out.set j (.int .u8 1)
        have HOS := Lib.hid hos
        clear hst hset hos hrg hrk
        go_wp2
        go_roundw
        case rel => exact ⟨j + 1, by omega, by go_num, HST, HOS⟩
        case measure => simp [intOf]; omega
  · go_wp2
    have hn3 := three_new w ((List.replicate 32 (0 : BitVec 8)).map W8) 5 #[.slice (some ⟨w.heap.size + 1, 0, none⟩) 32 32, .slice (some ⟨w.heap.size, 0, none⟩) 32 32, .int .i64 0] 66
    rw [← HC.out] at hn3
    obtain ⟨W0, hW0⟩ : ∃ X, (((w.alloc (.cells C 5)).alloc (.cells C 5)).alloc (.cells #[.slice (some ⟨w.heap.size + 1, 0, none⟩) 32 32, .slice (some ⟨w.heap.size, 0, none⟩) 32 32, .int .i64 0] 66)).drew = X := ⟨_, rfl⟩
    rw [hW0] at hn3 ⊢
    obtain ⟨h1, h2, h3, h4⟩ := hn3
    rw [HSZ.out] at h1 h2 h3 h4
    rw [HSZ.out]
    have hgl := h3.lt
    have HRK := Lib.hid h2
    have HRV := Lib.hid h1
    have HRG := Lib.hid h3
    have HBL := Lib.hid h4
    clear h1 h2 h3 h4 hW0
    go_loopw [4] (fun iv V => ∃ j : Nat, j ≤ 32 ∧ iv = .int .i64 (j : Int) ∧ Hid (RowV 5 V (s) (((List.replicate 32 (1 : BitVec 8)).take j ++ List.replicate (32 - j) 0).map W8)) ∧ Hid (OnlyV W0 V (s))) (fun iv _ => 32 - (intOf iv).toNat)
    case atStart => exact ⟨0, by decide, rfl, HRV, Lib.hid (OnlyV.refl _ _)⟩
    case round =>
      obtain ⟨j, hj, rfl, HR, HO⟩ := hrel
      have hrg := HRG.out.only HO.out (show s + 1 + 1 ≠ s by omega)
      have hrk := HRK.out.only HO.out (show s + 1 ≠ s by omega)
      by_cases hj32 : j = 32
      · subst hj32
        obtain ⟨w5, rfl⟩ : ∃ X, X = wr := ⟨_, rfl⟩
        have hrv := HR.out
        rw [show (List.replicate 32 (1 : BitVec 8)).take 32 ++ List.replicate (32 - 32) 0 = List.replicate 32 1 from rfl] at hrv
        have hsk := hrk.sl (by simp)
        have hsv := hrv.sl (by simp)
        rw [List.length_map, List.length_replicate] at hsk hsv
        have hr4 : R4R w5 (s + 1 + 1) (List.replicate 32 0) (List.replicate 32 1) 0 (some ⟨s + 1, 0, none⟩) (some ⟨s, 0, none⟩) 32 32 := ⟨by simp, by simp, hrg, hsk, hsv, fun b off s' e => by injection e with e; injection e with e1; omega, fun b off s' e => by injection e with e; injection e with e1; omega⟩
        have hsz := HO.out.size
        have hBs : B ≤ s := by rw [← HSZ.out]; exact hB
        have hbl5 : Below s w w5 := HBL.out.trans (HO.out.below (by omega) (by omega))
        have hu := r4update_any w5 (s + 1 + 1) _ _ 0 _ _ _ _ hr4 B A n c data (HS.out.below (hbl5.mono hBs)) hz (by omega) hn
        have HU := Lib.hid hu
        have HB5 := Lib.hid hbl5
        clear hu hbl5 hr4 hsk hsv hrv hrg hrk
        go_wp2_with fail
        refine HU.out.mono ?_
        rintro e w6 ⟨rfl, ⟨Ak6, Av6, ck6, cv6, hd6, hk6, hv6⟩, ho6⟩
        have HD6 := Lib.hid hd6
        have HB6 := Lib.hid (HB5.out.trans (ho6.below (by omega) (by omega)))
        have HK6 := Lib.hid (show ∀ b off s', Ak6 = some ⟨b, off, s'⟩ → s ≤ b from fun b off s' e => by have := hk6 b off s' e; have := HB5.out.size; have := HSZ.out; omega)
        have HV6 := Lib.hid (show ∀ b off s', Av6 = some ⟨b, off, s'⟩ → s ≤ b from fun b off s' e => by have := hv6 b off s' e; have := HB5.out.size; have := HSZ.out; omega)
        clear hd6 hk6 hv6 ho6 HU
        go_wp2
        go_ret
        exact ⟨s + 1 + 1, rfl, by rw [HSZ.out]; omega, by rw [HSZ.out]; exact R4E.mk_ HD6.out HK6.out HV6.out, by rw [HSZ.out]; exact HB6.out⟩
      · have hjI : (j : Int) < 32 := by omega
        have hj0 : (0 : Int) ≤ j := by omega
        have hc1 := hrg.at_ (i := 1) rfl
        have hcj : wr.cell? ⟨s, j, none⟩ = some (.int .u8 0) := HR.out.at_ (by
          rw [List.getElem?_map]
          have := fill_get (List.replicate 32 (1 : BitVec 8)) 0 j (by simp; omega)
          rw [List.length_replicate] at this
          rw [this]
          rfl)
        have hf := HR.out.frozen j
        have hst := HR.out.set j (.int .u8 1)
        have hset : (((List.replicate 32 (1 : BitVec 8)).take j ++ List.replicate (32 - j) 0).map W8).set j (.int .u8 1) = ((List.replicate 32 (1 : BitVec 8)).take (j + 1) ++ List.replicate (32 - (j + 1)) 0).map W8 := by
          have h1 := fill_set (List.replicate 32 (1 : BitVec 8)) 0 j 1 (by rw [List.getElem?_replicate, if_pos (by omega)])
          rw [List.length_replicate] at h1
          rw [← h1, List.map_set]
          rfl
        rw [hset] at hst
        have HST := Lib.hid hst
        have hos := HO.out.set j (.int .u8 1)
        have HOS := Lib.hid hos
        clear hst hset hos hrg hrk
        go_wp2
        go_roundw
        case rel => exact ⟨j + 1, by omega, by go_num, HST, HOS⟩
        case measure => simp [intOf]; omega
end Go.Proofs.YtnpaidieijlkkaaDoor

/- append to the call's own slice of bytes, nil or not: where the result lies. -/
set_option linter.unusedVariables false
set_option linter.unusedSimpArgs false
namespace Go.Proofs.YtnpaidieijlkkaaDoor
open Go.RowKit

section
variable {P : Program} {t e : TypeId} {z : Value} {sz : Nat} {w : World} {o : Oper} {a : Act}
theorem run_appA (E : Elem P t e z sz) (ty : TypeId) (base : Nat) (v : Value) (k : Nat) (ys : List Value) (hown : w.ownsRow base e 1 v k ys) (A : Option Addr) (m c : Nat) (xs : List Value) (hnil : A = none → c = 0) (B : Nat) (hsl : SlV w B A m c xs) (h1 : Ones xs)
    (hk : k + m ≤ 17592186044416) (hbase : base ≤ w.heap.size) :
    ∃ v' w', (Builtin.append_ #[t, t] ty #[v, .slice A m c]).run P w = .ok v' w' ∧ w'.ownsRow base e 1 v' (k + m) (ys ++ xs) ∧ w.grownBy w' v.ownBlock ∧ (∀ r, v'.ownBlock = some r → v.ownBlock = some r ∨ w.heap.size ≤ r) := by
  obtain ⟨i0, hi, hz0, hz1, hz2⟩ := info_parts E.info
  have hm : m = xs.length := hsl.len
  cases A with
  | none =>
    have hm0 : xs = [] := by
      apply Classical.byContradiction
      intro hn
      obtain ⟨b, off, e, _⟩ := hsl.2.2.2 hn
      cases e
    subst hm0
    obtain rfl : m = 0 := hm
    obtain rfl := hnil rfl
    exact ⟨v, w, run_append_owned_none (P := P) (w := w) base t ty e i0 1 E.sl hi v k ys hown, by simpa using hown, ⟨rfl, rfl, rfl, Nat.le_refl _, fun _ _ _ => rfl⟩, fun r hr => .inl hr⟩
  | some ad =>
    have hc : ∀ j u, xs[j]? = some u → w.cell? (ad.add j) = some u := fun j u hu => by
      obtain ⟨b, off, e, _, hc⟩ := hsl.2.2.2 (by intro e; subst e; simp at hu)
      injection e with e
      subst e
      rw [Addr.add_lit]
      exact hc j u hu
    have hb : (k + m) * sz ≤ 140737488355328 := Nat.le_trans (Nat.mul_le_mul hk E.b8) (by decide)
    have h63 : k + m ≤ maxLen := by simp only [maxLen]; omega
    rcases hown.2 with ⟨e0, e1⟩ | ⟨g0, cap0, cur, e0, hbg, hg, hnc, hcm, hcs, htake⟩
    · have hown' : w.ownsRow w.heap.size e 1 v k ys := ⟨hown.1, .inl ⟨e0, e1⟩⟩
      obtain ⟨v', w', hr, h2, h3, _⟩ := run_append_own (P := P) w w.heap.size t ty e i0 z 1 sz E.sl hi hz0 hz1 hz2 (by rw [E.one]; rfl) (by decide) v k ys hown' ad m c xs (by omega) hc h1 h63 hb (Nat.le_refl _)
      exact ⟨v', w', hr, ⟨h2.1, h2.2.imp id (fun ⟨g, cap, cur, h1, h2, h3⟩ => ⟨g, cap, cur, h1, Nat.le_trans hbase h2, h3⟩)⟩, h3, fun r hr => .inr (h2.lt r hr).1⟩
    · have hown2 : w.ownsRow base e i0.size v k ys := by rw [hz1]; exact hown
      obtain ⟨v', w', hr, h2, h3, _⟩ := run_append_own (P := P) w base t ty e i0 z 1 sz E.sl hi hz0 hz1 hz2 (by rw [E.one]; rfl) (by decide) v k ys hown ad m c xs (by omega) hc h1 h63 hb hbase
      refine ⟨v', w', hr, h2, h3, fun r hr' => ?_⟩
      subst e0
      by_cases hroom : k + m ≤ cap0
      · have hfit : k * i0.size + xs.length ≤ cur.size := by rw [hcs, hz1]; omega
        have hr2 := run_append_room (P := P) w t ty e i0 E.sl hi g0 k cap0 cur hg ad m c xs (by rw [hz1]; omega) hc h1 hroom hfit
        rw [hr] at hr2
        injection hr2 with hr2 _
        rw [hr2] at hr'
        exact .inl hr'
      · have holds : ∀ j u, ys[j]? = some u → w.cell? ((⟨g0, 0, none⟩ : Addr).add j) = some u := hown2.cells (g := g0) rfl
        have hr2 := run_append_grow (P := P) w t ty e i0 z E.sl hi hz0 ⟨g0, 0, none⟩ k cap0 ys hown2.1 holds ad m c xs (by rw [hz1]; omega) hc (by omega) (by omega) (growslice_fits (by omega) (by rw [hz2]; exact hb))
        rw [hr] at hr2
        injection hr2 with hr2 _
        rw [hr2] at hr'
        have hr3 : some w.heap.size = some r := hr'
        injection hr3 with hr3
        exact .inr (by omega)
theorem wp_appA {K : Act → World → Prop} {Q : Exit → Act → World → Prop} (E : Elem P t e z sz) (s x : Operand)
    (ho : o.op = .call { callee := .builtin .append, args := #[s, x], argTypes := #[t, t] })
    (base : Nat) (v : Value) (k : Nat) (ys : List Value) (hs : a.eval s = v) (hown : w.ownsRow base e 1 v k ys) (A : Option Addr) (m c : Nat) (xs : List Value) (hx : a.eval x = .slice A m c) (hnil : A = none → c = 0) (B : Nat) (hsl : SlV w B A m c xs) (h1 : Ones xs)
    (hk : k + m ≤ 17592186044416) (hbase : base ≤ w.heap.size)
    (h : ∀ v' w', w'.ownsRow base e 1 v' (k + m) (ys ++ xs) → w.grownBy w' v.ownBlock → (∀ r, v'.ownBlock = some r → v.ownBlock = some r ∨ w.heap.size ≤ r) → K (a.put o.dst v') w') : Oper.wp P o a w K Q := by
  obtain ⟨v', w', hr, h2, h3, h4⟩ := run_appA E o.type base v k ys hown A m c xs hnil B hsl h1 hk hbase
  unfold Oper.wp execOp
  simp only [ho, resolve, invoke, builtin, Sem.run_bind, Sem.run_pure, Result.andThen_ok, List.map_toArray, List.map_cons, List.map_nil, hs, hx, hr]
  exact h v' w' h2 h3 h4
theorem wlv_appA {ops : Array Oper} {rest : List Oper} {Q : Exit → Act → World → Prop} (E : Elem P t e z sz) (hgd : o.guard = none) (s x : Operand)
    (ho : o.op = .call { callee := .builtin .append, args := #[s, x], argTypes := #[t, t] })
    (base : Nat) (v : Value) (k : Nat) (ys : List Value) (hs : a.eval s = v) (hown : w.ownsRow base e 1 v k ys) (A : Option Addr) (m c : Nat) (xs : List Value) (hx : a.eval x = .slice A m c) (hnil : A = none → c = 0) (B : Nat) (hsl : SlV w B A m c xs) (h1 : Ones xs)
    (hk : k + m ≤ 17592186044416) (hbase : base ≤ w.heap.size)
    (h : ∀ v' w', w'.ownsRow base e 1 v' (k + m) (ys ++ xs) → w.grownBy w' v.ownBlock → (∀ r, v'.ownBlock = some r → v.ownBlock = some r ∨ w.heap.size ≤ r) → wpList P ops Q rest (a.put o.dst v') w') : wpList P ops Q (o :: rest) a w :=
  wpList_plain hgd fun K hK => wp_appA E s x ho base v k ys hs hown A m c xs hx hnil B hsl h1 hk hbase fun v' w' h2 h3 h4 => hK _ _ (h v' w' h2 h3 h4)
end
/-- at a step of a region that draws, under a guard that is open -/
theorem step_appA {P : Program} {t e : TypeId} {z : Value} {sz : Nat} {w : World} {o : Oper} {a : Act} {ops : Array Oper} {E0 : Prop} {K : Act → World → Prop} {Q : Exit → Act → World → Prop} (E : Elem P t e z sz) (hgd : Region.wanted o (yielded ops a.tmps) = true) (s x : Operand)
    (ho : o.op = .call { callee := .builtin .append, args := #[s, x], argTypes := #[t, t] })
    (base : Nat) (v : Value) (k : Nat) (ys : List Value) (hs : a.eval s = v) (hown : w.ownsRow base e 1 v k ys) (A : Option Addr) (m c : Nat) (xs : List Value) (hx : a.eval x = .slice A m c) (hnil : A = none → c = 0) (B : Nat) (hsl : SlV w B A m c xs) (h1 : Ones xs)
    (hk : k + m ≤ 17592186044416) (hbase : base ≤ w.heap.size)
    (h : ∀ v' w', w'.ownsRow base e 1 v' (k + m) (ys ++ xs) → w.grownBy w' v.ownBlock → (∀ r, v'.ownBlock = some r → v.ownBlock = some r ∨ w.heap.size ≤ r) → K (a.put o.dst v') w') :
    if Region.wanted o (yielded ops a.tmps) = true then Oper.wp P o a w K Q else E0 := by
  rw [if_pos hgd]
  exact wp_appA E s x ho base v k ys hs hown A m c xs hx hnil B hsl h1 hk hbase h
/-- the call's own bytes, as a block of their own -/
theorem own_rowV {w : World} {base : Nat} {e : TypeId} {v : Value} {n : Nat} {xs : List Value} (h : w.ownsRow base e 1 v n xs) (hn : 0 < n) :
    ∃ g c ys, v = .slice (some ⟨g, 0, none⟩) n c ∧ base ≤ g ∧ RowV e w g ys ∧ ys.length = c ∧ n ≤ c := by
  rcases h.2 with ⟨e0, h4⟩ | ⟨g, cap, cur, e0, h4, hg, hnc, _, hcs, _⟩
  · have := h.1; subst h4; simp at this; omega
  · exact ⟨g, cap, cur.toList, e0, h4, by unfold RowV; rw [hg], by simpa using hcs, hnc⟩
theorem own_only {w w' : World} {base g : Nat} {e : TypeId} {v : Value} {n : Nat} {xs : List Value} (h : w.ownsRow base e 1 v n xs) (ho : OnlyV w w' g) (hn : v.ownBlock ≠ some g) : w'.ownsRow base e 1 v n xs :=
  own_keep h fun q hq => ho.block q (h.lt q hq).2 (fun e => hn (by rw [hq, e]))
theorem OnlyV.setV {a w : World} {g : Nat} (h : OnlyV a w g) (i : Nat) (u : Value) : OnlyV a (w.setCell ⟨g, i, none⟩ u) g := h.set i u
theorem own_all {w : World} {base : Nat} {e : TypeId} {v : Value} {n : Nat} {xs : List Value} (h : w.ownsRow base e 1 v n xs) :
    ∃ A c, v = .slice A n c ∧ SlV w w.heap.size A n c xs ∧ (A = none → c = 0) := by
  obtain ⟨A, c, rfl, hs, h2, h3⟩ := SlV.of_own h
  refine ⟨A, c, rfl, hs, fun e => ?_⟩
  subst e
  rcases h.2 with ⟨e0, _⟩ | ⟨g, cap, cur, e0, _⟩
  · injection e0
  · injection e0 with e1 _ _
    cases e1
theorem own_sl {w : World} {base : Nat} {e : TypeId} {A : Option Addr} {n c : Nat} {xs : List Value} (h : w.ownsRow base e 1 (.slice A n c) n xs) : SlV w w.heap.size A n c xs := by
  obtain ⟨A', c', e0, hs, _⟩ := SlV.of_own h
  injection e0 with e1 e2 e3
  subst e1 e3
  exact hs
theorem own_later_ {w w' : World} {base : Nat} {e : TypeId} {v : Value} {n : Nat} {vs : List Value} (h : w.ownsRow base e 1 v n vs) (hb : Below w.heap.size w w') : w'.ownsRow base e 1 v n vs := own_keep h (fun q hq => hb.block q (h.lt q hq).2)
theorem HashIs.keep {w w' : World} {g : Nat} {k : Int} {msg : List (BitVec 8)} (h : HashIs w g k msg) (hk : w'.heap[g]? = w.heap[g]?) : HashIs w' g k msg := by
  obtain ⟨left, h1, h2⟩ := h
  exact ⟨left, ⟨hk.trans h1.row, h1.hw, h1.hl⟩, h2⟩
/-- a block of the call's own bytes, or a number that nothing bears -/
theorem own_place {w : World} {bp n c : Nat} {A : Option Addr} {e : TypeId} {xs : List Value} (h : w.ownsRow bp e 1 (.slice A n c) n xs) (lo : Nat) (hlo : lo ≤ bp) (hw : lo ≤ w.heap.size) :
    ∃ gp, lo ≤ gp ∧ (∀ r, r < w.heap.size → (Value.slice A n c).ownBlock ≠ some r → r ≠ gp) ∧ (0 < n → A = some ⟨gp, 0, none⟩ ∧ ∃ ys, RowV e w gp ys ∧ ys.length = c ∧ n ≤ c) := by
  by_cases hn : n = 0
  · exact ⟨w.heap.size, hw, fun r hr _ => by omega, fun h => by omega⟩
  · obtain ⟨g, c', ys, e0, hb, hr, hl, hle⟩ := own_rowV h (by omega)
    injection e0 with e1 e2 e3
    subst e1 e3
    exact ⟨g, by omega, fun r _ hne e => hne (by rw [e]; rfl), fun _ => ⟨rfl, ys, hr, hl, hle⟩⟩
end Go.Proofs.YtnpaidieijlkkaaDoor

/- The range law for an endless iterator that turns a block gb of its own between the rounds: the body's relation must not speak of it; of each value that comes a fact R is told, which may. -/
set_option linter.unusedVariables false
set_option linter.unusedSimpArgs false
namespace Go.Proofs.YtnpaidieijlkkaaDoor
open Go.RowKit Go.Shelf

/-- the iterator's word: ahead of a round R holds of what is handed out; the rounds end, since J bounds them -/
def SeqM {α : Type} (F : Fence) (n : Nat) (P : Program) (g : Nat) (lb : Array Value) (enc : α → Array Value) (R : List α → α → World → Prop) (Kp : World → World → Prop) (S Sp : List α → Prop) (N : Nat) (gb : Nat) (w : World) : Prop :=
  ∀ (l : Nat) (J Jx : List α → World → Prop) (W : World), Below w.heap.size w W → AbidesFrom W.heap.size J → AbidesFrom W.heap.size Jx → (∀ s A B, J s A → A.grownBy B (some gb) → J s B) → (∀ s A, J s A → s.length < N) →
    (∀ pre x V, J pre V → R pre x V → YieldAt F (n - 1) P l (enc x) V fun e V' => (e = .returned (.bool true) ∧ J (pre ++ [x]) V' ∧ Kp V V') ∨ (e = .returned (.bool false) ∧ Jx (pre ++ [x]) V')) →
    J [] W → CallsIn F n P g (#[.func (.yield l) #[] #[]] ++ lb) W fun e W' => (∃ v, e = .returned v) ∧ ((∃ xs, S xs ∧ J xs W') ∨ (∃ pre, Sp pre ∧ Jx pre W'))

variable {F : Fence} {n : Nat} {P : Program}

theorem wpIn_rangeM {α : Type} {g : Operand} {ps : Array Tmp} {assign body : Code} {Q : Exit → Act → World → Prop} {a : Act} {w : World}
    (hro : F.round = none) (h1 : 1 ≤ n) {gf : Nat} {lb : Array Value} (hg : a.eval g = .func (.func gf) #[] lb) (hFg : F.fn gf) (eg : ∀ args w, (callFunc gf args).run P w = .ok (.enter gf args) w)
    {enc : α → Array Value} {R : List α → α → World → Prop} {Kp : World → World → Prop} {S Sp : List α → Prop} {N gb : Nat} (hgb : gb < w.heap.size) (hseq : SeqM F (n - 1) P gf lb enc R Kp S Sp N gb w)
    (hKt : ∀ {A B C : World}, Kp A B → Kp B C → Kp A C) (hKb : ∀ (W : World) (l : Nat) (o o' : Obj), w.heap.size ≤ l → W.heap[l]? = some o → o.isCells = false → o.isWalk = false → Kp W (W.putObj l o')) (hps : ∀ x, (enc x).size = ps.size)
    (I : List α → World → Prop) (Ix : Code → List α → World → Prop) (hI : OwnFrom w.heap.size I) (hIg : ∀ s A B, I s A → A.grownBy B (some gb) → I s B) (hIN : ∀ s A, I s A → s.length < N) (hIx : ∀ c, OwnFrom w.heap.size (Ix c)) (hR : ∀ pre, OwnFrom w.heap.size (R pre)) (h0 : I [] w) (hKB : ∀ A B, w.heap.size ≤ A.heap.size → Below A.heap.size A B → Kp A B) (Ax : α → World → Act → World → Prop)
    (hassign : ∀ (l : Nat) (pre : List α) (x : α) (W : World) (K : Act → World → Prop), w.heap.size ≤ W.heap.size → R pre x W → (∀ a' W', Below W.heap.size W W' → Ax x W a' W' → K a' W') →
      assign.wpIn (F.inRound l) (n - 1 - 1) P (Exit.then K (fun _ _ _ => False)) { tmps := (ps.zip (enc x)).foldl (fun t (p, v) => t.setIfInBounds p v) a.tmps, defers := [] } W)
    (hAx : ∀ x W a' W' o', Ax x W a' W' → ∀ l o, w.heap.size ≤ l → l < W.heap.size → W'.heap[l]? = some o → o.isCells = false → Ax x W a' (W'.putObj l o'))
    (hbody : ∀ (l : Nat) (pre : List α) (x : α) (W0 : World) (a' : Act) (W : World), w.heap.size ≤ W0.heap.size → Ax x W0 a' W → I pre W → R pre x W → body.wpIn (F.inRound l) (n - 1 - 1) P (ownPostG w.heap.size Kp I Ix (pre ++ [x]) W) a' W)
    (hdone : ∀ (D : Nat) (xs : List α) (W : World), w.heap.size ≤ D → S xs → I xs W → W.heap[D]? = some (.deferred (some [])) → Q .normal { a with defers := { target := .collected D, args := #[] } :: a.defers } W)
    (hstop : ∀ (D : Nat) (c : Code) (pre : List α) (W : World), w.heap.size ≤ D → Sp pre → Ix c pre W → W.heap[D]? = some (.deferred (some [])) → c.wpIn F n P Q { a with defers := { target := .collected D, args := #[] } :: a.defers } W) :
    (Code.rangeFunc g ps assign body).wpIn F n P Q a w := by
  refine wpIn_rangeFunc fun fn hfn => ?_
  rw [hro]
  obtain ⟨b, hb⟩ : ∃ b, w.heap.size = b := ⟨_, rfl⟩
  let lp : LoopState → Option Code → Loop := fun st pe => { state := st, pending := pe, fn, tmps := a.tmps, params := ps, assign, body, defers := b }
  let V := (w.alloc (.deferred (some []))).alloc (.loop (lp .ready none))
  have hV : TwoBl b (lp .ready none) V := by
    refine ⟨?_, ?_⟩
    · have h := World.alloc_heap_new (w.alloc (.deferred (some []))) (.loop (lp .ready none))
      rwa [World.size_alloc, hb] at h
    · rw [← hb]
      exact (Below.heap_alloc (w.alloc (.deferred (some []))) _ _ (by simp)).trans (World.alloc_heap_new w _)
  have hIV : I [] V := hI.alloc _ (hI.alloc _ h0)
  have hbel : Below w.heap.size w V := ((Below.refl _ w).alloc (Nat.le_refl _) _).alloc (by simp) _
  have hsz : w.heap.size ≤ V.heap.size := hbel.size
  have wide : ∀ {A : World} {row : Option Nat}, (∀ r, row = some r → V.heap.size ≤ r ∧ ∃ o : Obj, A.heap[r]? = some o ∧ o.isWalk = true) → ∀ r, row = some r → w.heap.size ≤ r ∧ ∃ o : Obj, A.heap[r]? = some o ∧ o.isCells = false := fun h r e => by
    obtain ⟨h1, o, ho, hw⟩ := h r e
    exact ⟨Nat.le_trans hsz h1, o, ho, Obj.not_cells_of_walk hw⟩
  have hent := run_enterLoop_outer (P := P) (w := w) fn a.tmps ps assign body
  rw [hb] at hent
  refine ⟨b + 1, [{ target := .collected b, args := #[] }], V, { target := .fn (.func gf) lb, args := #[.func (.yield (b + 1)) #[] #[]] }, V, gf, #[.func (.yield (b + 1)) #[] #[]] ++ lb, V, hent, ?_, ?_, ?_, fun _ => h1, ?_⟩
  · simp only [resolve, hg]
    simp [go_sem]
  · intro f' hf'
    simp [Target.leads] at hf'
    exact hf' ▸ hFg
  · simp [invoke, go_sem, eg]
  have hcall := hseq (b + 1) (fun pre W => I pre W ∧ TwoBl b (lp .ready none) W) (fun pre W => ∃ c, Ix c pre W ∧ TwoBl b (lp .done (some c)) W) V hbel
    (fun s A B row hs hg' hr => ⟨hI s A B row hs.1 hg' (wide hr), hs.2.grown hg' fun k e => (hr k e).2⟩)
    (fun s A B row hs hg' hr => by
      obtain ⟨c, h1, h2⟩ := hs
      exact ⟨c, hIx c s A B row h1 hg' (wide hr), h2.grown hg' fun k e => (hr k e).2⟩)
    (fun s A B hs hg' => ⟨hIg s A B hs.1 hg', ⟨(hg'.block _ (Array.getElem?_eq_some_iff.1 hs.2.lrec).1 (by intro e; injection e; omega)).trans hs.2.lrec, (hg'.block _ (Array.getElem?_eq_some_iff.1 hs.2.dfr).1 (by intro e; injection e; omega)).trans hs.2.dfr⟩⟩)
    (fun s A hs => hIN s A hs.1)
    (by
      rintro pre x W0 ⟨hi0, ht0⟩ hx0
      have hbW : b + 1 < W0.heap.size := (Array.getElem?_eq_some_iff.1 ht0.lrec).1
      refine ⟨fn, _, assign, body, run_yield (P := P) (args := enc x) ht0.lrec (hps x), roundIn_of_wpIn hfn (hassign _ pre x W0 _ (by omega) hx0 fun a' W hbl hax => ?_)⟩
      have hgN : W0.grownBy W none := ⟨hbl.os, hbl.tape, hbl.output, hbl.size, fun i hi _ => hbl.block i hi⟩
      have ht := ht0.grown hgN (fun k e => by cases e)
      have hi := hI pre W0 W none hi0 hgN (fun r e => by cases e)
      have hx := hR pre x W0 W none hx0 hgN (fun r e => by cases e)
      have hk0 : Kp W0 W := hKB _ _ (by omega) hbl
      refine ⟨_, run_beginRound ht.lrec rfl, ?_⟩
      have hle : w.heap.size ≤ b + 1 := by omega
      have hbusy := ht.put { lp .ready none with state := .busy }
      have hkb : Kp W (W.putObj (b + 1) (.loop { lp .ready none with state := .busy })) := hKb _ _ _ _ hle ht.lrec rfl rfl
      refine wpIn_mono (hbody (b + 1) pre x W0 a' _ (by omega) (hAx _ _ _ _ _ hax _ _ hle hbW ht.lrec rfl) (hI.putObj _ hi hle ht.lrec rfl) ((hR pre).putObj _ hx hle ht.lrec rfl)) ?_
      have leave : ∀ (c : Code) (X : World), KeepsFrom w.heap.size (W.putObj (b + 1) (.loop { lp .ready none with state := .busy })) X → Ix c (pre ++ [x]) X →
          (Instr.endRound (b + 1) (some c)).run P X = .ok (.bool false) (X.putObj (b + 1) (.loop (lp .done (some c)))) ∧ ∃ c', Ix c' (pre ++ [x]) (X.putObj (b + 1) (.loop (lp .done (some c)))) ∧ TwoBl b (lp .done (some c')) (X.putObj (b + 1) (.loop (lp .done (some c)))) := fun c X hk hi3 => by
        have ht3 := hbusy.kept (hb ▸ hk)
        exact ⟨run_endRound (P := P) (some c) ht3.lrec, c, (hIx c).putObj _ hi3 hle ht3.lrec rfl, ht3.put _⟩
      rintro e a3 X hp
      cases e with
      | normal =>
        obtain ⟨hk, hkp, hi3⟩ := hp
        have ht3 := hbusy.kept (hb ▸ hk)
        exact ⟨_, _, run_endRound (P := P) none ht3.lrec, .inl ⟨rfl, ⟨hI.putObj _ hi3 hle ht3.lrec rfl, ht3.put _⟩, hKt (hKt (hKt hk0 hkb) hkp) (hKb _ _ _ _ hle ht3.lrec rfl rfl)⟩⟩
      | ret => exact ⟨_, _, (leave _ X hp.1 hp.2).1, .inr ⟨rfl, (leave _ X hp.1 hp.2).2⟩⟩
      | exit id => exact ⟨_, _, (leave _ X hp.1 hp.2).1, .inr ⟨rfl, (leave _ X hp.1 hp.2).2⟩⟩
      | goto t => exact ⟨_, _, (leave _ X hp.1 hp.2).1, .inr ⟨rfl, (leave _ X hp.1 hp.2).2⟩⟩
      | panic ch => exact hp.elim
      | outgrown => exact hp.elim) ⟨hIV, hV⟩
  refine hcall.mono ?_
  have hle : w.heap.size ≤ b + 1 := by omega
  rintro e X ⟨⟨v, rfl⟩, (⟨xs, hS, hi, ht⟩ | ⟨pre, hSp, c, hi, ht⟩)⟩
  · exact ⟨none, _, run_endLoop (P := P) ht.lrec (by intro h; cases h), hdone b xs _ (by omega) hS (hI.putObj _ hi hle ht.lrec rfl) ((World.putObj_heap_other (by omega)).trans ht.dfr)⟩
  · exact ⟨some c, _, run_endLoop (P := P) ht.lrec (by intro h; cases h), hstop b c pre _ (by omega) hSp ((hIx c).putObj _ hi hle ht.lrec rfl) ((World.putObj_heap_other (by omega)).trans ht.dfr)⟩
end Go.Proofs.YtnpaidieijlkkaaDoor

/- Single operations by a known run, and arrays in the middle of a block, inside a fence. -/
set_option linter.unusedVariables false
set_option linter.unusedSimpArgs false
namespace Go.Proofs.YtnpaidieijlkkaaDoor
open Go.RowKit

section
variable {F : Fence} {n : Nat} {P : Program} {ops : Array Oper} {Q : Exit → Act → World → Prop} {a : Act} {w w' : World} {rest : List Oper} {o : Oper}
theorem wpListIn_value {v : Value} (hg : o.guard = none) (hdf : ∀ c, o.op ≠ .defer c) (hab : ∀ f, o.about P w a.eval = some f → F.fn f) (hrun : (execOp a.eval o).run P w = .ok (.value v) w') (h : wpListIn F n P ops Q rest (a.put o.dst v) w') : wpListIn F n P ops Q (o :: rest) a w :=
  wpListIn_plain hg fun K hK => by
    unfold Oper.wpIn
    refine ⟨hab, ?_⟩
    rw [Oper.semAt_plain F _ _ hdf, hrun]
    exact hK _ _ h
theorem wpListIn_skips (hg : o.guard = none) (hdf : ∀ c, o.op ≠ .defer c) (hab : ∀ f, o.about P w a.eval = some f → F.fn f) (hrun : (execOp a.eval o).run P w = .ok .skip w') (h : wpListIn F n P ops Q rest (a.put o.dst undef) w') : wpListIn F n P ops Q (o :: rest) a w :=
  wpListIn_plain hg fun K hK => by
    unfold Oper.wpIn
    refine ⟨hab, ?_⟩
    rw [Oper.semAt_plain F _ _ hdf, hrun]
    exact hK _ _ h
theorem wpListIn_load_mid (hgd : o.guard = none) (ty : TypeId) (x : Operand) (ho : o.op = .load ty x)
    (b off : Nat) (hx : a.eval x = .pointer (some ⟨b, off, none⟩)) (cs : List Value) (d : TypeDesc) (hc : w.rangeAt b off cs)
    (hu : P.underlying ty = some d) (hd : d.isRow = true) (hi : (P.info? ty).map (·.size) = some cs.length)
    (h : wpListIn F n P ops Q rest (a.put o.dst (.agg cs.toArray)) w) : wpListIn F n P ops Q (o :: rest) a w :=
  wpListIn_value hgd (by rw [ho]; intro c hc; cases hc) (fun f hf => by simp [Oper.about, ho] at hf)
    (by unfold execOp; simp only [ho, hx, Instr.loadAt, Instr.sureAddr, Sem.run_bind, Sem.run_pure, Result.andThen_ok, run_loadVar_mid w b off ty cs d hc hu hd hi]) h
theorem wpListIn_store_mid (hgd : o.guard = none) (ty : TypeId) (x y : Operand) (ho : o.op = .store ty x y)
    (b off : Nat) (cells : Array Value) (hx : a.eval x = .pointer (some ⟨b, off, none⟩)) (hy : a.eval y = .agg cells)
    (ht : w.there b off cells.size) (hi : (P.info? ty).map (·.size) = some cells.size) (h1 : cells.all (·.oneCell') = true)
    (h : wpListIn F n P ops Q rest (a.put o.dst undef) (w.setCells b off cells.toList)) : wpListIn F n P ops Q (o :: rest) a w :=
  wpListIn_skips hgd (by rw [ho]; intro c hc; cases hc) (fun f hf => by simp [Oper.about, ho] at hf)
    (by unfold execOp; simp only [ho, hx, hy, Instr.storeAt, Instr.sureAddr, Sem.run_bind, Sem.run_pure, Result.andThen_ok, run_storeVar_mid w b off ty cells ht hi h1]) h
end
end Go.Proofs.YtnpaidieijlkkaaDoor
