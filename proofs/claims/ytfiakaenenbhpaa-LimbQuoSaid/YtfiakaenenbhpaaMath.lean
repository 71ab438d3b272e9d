/- Plain numbers: lists of digits, the lowest first. Nothing of the program. -/
namespace Go.Proofs.Ytfiakaenenbhpaa
/-- the value of digits in base B, the lowest first -/
def V (B : Nat) : List Nat → Nat
  | [] => 0
  | x :: r => x + B * V B r
/-- all below B -/
def Dg (B : Nat) (xs : List Nat) : Prop := ∀ x ∈ xs, x < B
/-- no nought at the end -/
def Nz (xs : List Nat) : Prop := ∀ x, xs.getLast? = some x → x ≠ 0
/-- the normal form of n in base B -/
def Nm (B : Nat) (xs : List Nat) (n : Nat) : Prop := Dg B xs ∧ Nz xs ∧ V B xs = n

theorem V_nil (B : Nat) : V B [] = 0 := rfl
theorem V_cons (B x : Nat) (r : List Nat) : V B (x :: r) = x + B * V B r := rfl
theorem V_append (B : Nat) (a b : List Nat) : V B (a ++ b) = V B a + B ^ a.length * V B b := by
  induction a with
  | nil => simp [V]
  | cons x r ih => simp only [List.cons_append, V, ih, List.length_cons, Nat.pow_succ]; rw [Nat.mul_add, ← Nat.mul_assoc, Nat.mul_comm B (B ^ _)]; omega
theorem V_lt {B : Nat} (xs : List Nat) (h : Dg B xs) : V B xs < B ^ xs.length := by
  induction xs with
  | nil => simp [V]
  | cons x r ih =>
    have h1 := ih fun y hy => h y (by simp [hy])
    have h2 := h x (by simp)
    simp only [V, List.length_cons, Nat.pow_succ]
    have h3 : B * (V B r + 1) ≤ B * B ^ r.length := Nat.mul_le_mul_left _ h1
    rw [Nat.mul_add, Nat.mul_one] at h3
    rw [Nat.mul_comm (B ^ _) B]
    omega
theorem Dg.append {B : Nat} {a b : List Nat} (ha : Dg B a) (hb : Dg B b) : Dg B (a ++ b) := fun x hx => by
  rcases List.mem_append.1 hx with h | h
  · exact ha x h
  · exact hb x h
theorem Dg.take {B : Nat} {a : List Nat} (ha : Dg B a) (n : Nat) : Dg B (a.take n) := fun x hx => ha x (List.mem_of_mem_take hx)
theorem Dg.drop {B : Nat} {a : List Nat} (ha : Dg B a) (n : Nat) : Dg B (a.drop n) := fun x hx => ha x (List.mem_of_mem_drop hx)
theorem Dg.get {B : Nat} {a : List Nat} (ha : Dg B a) {k x : Nat} (h : a[k]? = some x) : x < B := ha x (List.mem_of_getElem? h)
theorem Dg.set {B : Nat} {a : List Nat} (ha : Dg B a) (i : Nat) {x : Nat} (hx : x < B) : Dg B (a.set i x) := fun y hy => by
  rcases List.mem_or_eq_of_mem_set hy with h | h
  · exact ha y h
  · exact h ▸ hx
theorem V_replicate (B n : Nat) : V B (List.replicate n 0) = 0 := by
  induction n with
  | zero => rfl
  | succ n ih => simp [List.replicate_succ, V, ih]
theorem V_zeros {B : Nat} (a : List Nat) (n : Nat) : V B (a ++ List.replicate n 0) = V B a := by rw [V_append, V_replicate]; simp
theorem V_take_succ {B : Nat} {a : List Nat} {k x : Nat} (h : a[k]? = some x) : V B (a.take (k + 1)) = V B (a.take k) + B ^ k * x := by
  have hk : k < a.length := (List.getElem?_eq_some_iff.1 h).1
  rw [List.take_add_one, h, V_append]
  simp [V, Nat.min_eq_left (Nat.le_of_lt hk)]
theorem V_split {B : Nat} (a : List Nat) (k : Nat) : V B a = V B (a.take k) + B ^ (min k a.length) * V B (a.drop k) := by
  conv => lhs; rw [← List.take_append_drop k a]
  rw [V_append, List.length_take]
theorem V_eq_zero {B : Nat} {a : List Nat} (hB : 0 < B) (h : V B a = 0) : ∀ x ∈ a, x = 0 := by
  induction a with
  | nil => intro x hx; cases hx
  | cons y r ih =>
    simp only [V] at h
    have h2 : V B r = 0 := by
      rcases Nat.mul_eq_zero.1 (show B * V B r = 0 by omega) with h | h
      · omega
      · exact h
    intro x hx
    rcases List.mem_cons.1 hx with h3 | h3
    · omega
    · exact ih h2 x h3

/-- two normal forms of one number are one -/
theorem nm_unique {B : Nat} (hB : 1 < B) : ∀ {a b : List Nat} {n : Nat}, Nm B a n → Nm B b n → a = b := by
  intro a
  induction a with
  | nil =>
    intro b n ha hb
    cases b with
    | nil => rfl
    | cons y r =>
      exfalso
      have h0 : V B (y :: r) = 0 := by rw [hb.2.2, ← ha.2.2]; rfl
      have hz := V_eq_zero (by omega) h0
      obtain ⟨l, hl⟩ : ∃ l, (y :: r).getLast? = some l := ⟨_, List.getLast?_cons⟩
      exact hb.2.1 l hl (hz l (List.mem_of_getLast? hl))
  | cons x a ih =>
    intro b n ha hb
    cases b with
    | nil =>
      exfalso
      have h0 : V B (x :: a) = 0 := by rw [ha.2.2, ← hb.2.2]; rfl
      have hz := V_eq_zero (by omega) h0
      obtain ⟨l, hl⟩ : ∃ l, (x :: a).getLast? = some l := ⟨_, List.getLast?_cons⟩
      exact ha.2.1 l hl (hz l (List.mem_of_getLast? hl))
    | cons y b =>
      have hx := ha.1 x (by simp)
      have hy := hb.1 y (by simp)
      have e : x + B * V B a = y + B * V B b := by have h1 := ha.2.2; have h2 := hb.2.2; simp only [V] at h1 h2; omega
      have exy : x = y := by
        have h1 := congrArg (· % B) e
        simpa [Nat.add_mul_mod_self_left, Nat.mod_eq_of_lt hx, Nat.mod_eq_of_lt hy] using h1
      have ev : V B a = V B b := by
        have : B * V B a = B * V B b := by omega
        exact Nat.eq_of_mul_eq_mul_left (by omega) this
      have na : Nm B a (V B a) := ⟨fun z hz => ha.1 z (by simp [hz]), fun l hl => by
        cases a with
        | nil => cases hl
        | cons u a => exact ha.2.1 l (by rw [List.getLast?_cons_cons]; exact hl), rfl⟩
      have nb : Nm B b (V B a) := ⟨fun z hz => hb.1 z (by simp [hz]), fun l hl => by
        cases b with
        | nil => cases hl
        | cons u b => exact hb.2.1 l (by rw [List.getLast?_cons_cons]; exact hl), ev.symm⟩
      rw [exy, ih na nb]

/-- a number without noughts at the end is not below its highest place -/
theorem V_ge {B : Nat} {a : List Nat} (hz : Nz a) (hn : a ≠ []) : B ^ (a.length - 1) ≤ V B a := by
  induction a with
  | nil => exact absurd rfl hn
  | cons x r ih =>
    cases r with
    | nil =>
      have := hz x (by simp)
      simp [V]; omega
    | cons y r =>
      have h1 := ih (fun l hl => hz l (by rw [List.getLast?_cons_cons]; exact hl)) (by simp)
      simp only [V, List.length_cons, Nat.add_sub_cancel] at h1 ⊢
      rw [Nat.pow_succ, Nat.mul_comm]
      have := Nat.mul_le_mul_left B h1
      omega

/-- a shorter normal form is the smaller number -/
theorem lt_of_length {B : Nat} {a b : List Nat} (ha : Dg B a) (hB : 1 < B) (hz : Nz b) (h : a.length < b.length) : V B a < V B b := by
  have h1 := V_lt a ha
  have h2 := V_ge (B := B) hz (by intro e; subst e; simp at h)
  have h3 : B ^ a.length ≤ B ^ (b.length - 1) := Nat.pow_le_pow_right (by omega) (by omega)
  omega

/-- where the last nought-free prefix ends -/
def trimL (xs : List Nat) : Nat → Nat
  | 0 => 0
  | n + 1 => if xs[n]?.getD 0 = 0 then trimL xs n else n + 1
theorem trimL_le (xs : List Nat) (n : Nat) : trimL xs n ≤ n := by
  induction n with
  | zero => exact Nat.le_refl _
  | succ n ih => simp only [trimL]; split <;> omega
theorem trimL_zero {xs : List Nat} {n : Nat} (h : xs[n]? = some 0) : trimL xs (n + 1) = trimL xs n := by simp [trimL, h]
theorem trimL_pos {xs : List Nat} {n x : Nat} (h : xs[n]? = some x) (hx : x ≠ 0) : trimL xs (n + 1) = n + 1 := by simp [trimL, h, hx]
theorem V_trim (B : Nat) (xs : List Nat) : ∀ n, n ≤ xs.length → V B (xs.take (trimL xs n)) = V B (xs.take n) := by
  intro n
  induction n with
  | zero => intro _; rfl
  | succ n ih =>
    intro h
    obtain ⟨x, hx⟩ : ∃ x, xs[n]? = some x := ⟨_, List.getElem?_eq_getElem (by omega)⟩
    by_cases h0 : x = 0
    · subst h0
      rw [trimL_zero hx, ih (by omega), V_take_succ hx]; simp
    · rw [trimL_pos hx h0]
theorem Nz_trim (xs : List Nat) : ∀ n, n ≤ xs.length → Nz (xs.take (trimL xs n)) := by
  intro n
  induction n with
  | zero => intro _ x hx; simp [trimL] at hx
  | succ n ih =>
    intro h
    obtain ⟨x, hx⟩ : ∃ x, xs[n]? = some x := ⟨_, List.getElem?_eq_getElem (by omega)⟩
    by_cases h0 : x = 0
    · subst h0
      rw [trimL_zero hx]; exact ih (by omega)
    · rw [trimL_pos hx h0]
      intro y hy
      rw [List.take_add_one, hx] at hy
      simp at hy
      omega
/-- the digits without the noughts at the end -/
def trimmed (xs : List Nat) : List Nat := xs.take (trimL xs xs.length)
theorem trimmed_nm {B : Nat} {xs : List Nat} (h : Dg B xs) : Nm B (trimmed xs) (V B xs) :=
  ⟨h.take _, Nz_trim xs _ (Nat.le_refl _), by unfold trimmed; rw [V_trim B xs _ (Nat.le_refl _), List.take_length]⟩
theorem trimmed_length (xs : List Nat) : (trimmed xs).length = trimL xs xs.length := by
  unfold trimmed; rw [List.length_take]; exact Nat.min_eq_left (trimL_le _ _)
theorem trimmed_get {xs : List Nat} {k x : Nat} (h : (trimmed xs)[k]? = some x) : xs[k]? = some x := by
  unfold trimmed at h
  rw [List.getElem?_take] at h
  split at h
  · exact h
  · cases h
/-- 2^32, 2^64, behind a name -/
def b32 : Nat := 4294967296
def b64 : Nat := 18446744073709551616
theorem b32_eq : b32 = 4294967296 := rfl
theorem b64_eq : b64 = b32 * b32 := by decide
theorem b32_pos : 0 < b32 := by decide
theorem b64_pos : 0 < b64 := by decide
theorem lt32 {x : Nat} : x < b32 ↔ x < 4294967296 := Iff.rfl
theorem lt64 {x : Nat} : x < b64 ↔ x < 18446744073709551616 := Iff.rfl

theorem take_set_le {zs : List Nat} {i k : Nat} (x : Nat) (h : k ≤ i) : (zs.set i x).take k = zs.take k := by
  apply List.ext_getElem?
  intro j
  rw [List.getElem?_take, List.getElem?_take]
  split
  · rw [List.getElem?_set_ne (by omega)]
  · rfl
/-- a digit set behind the k lowest -/
theorem V_set_take {B : Nat} {zs : List Nat} {k : Nat} (x : Nat) (h : k < zs.length) : V B ((zs.set k x).take (k + 1)) = V B (zs.take k) + B ^ k * x := by
  rw [V_take_succ (x := x) (by simp [h]), take_set_le x (Nat.le_refl _)]
theorem set_get {zs : List Nat} {i : Nat} (x : Nat) (h : i < zs.length) : (zs.set i x)[i]? = some x := by simp [h]
theorem get_lt {zs : List Nat} {k : Nat} (h : k < zs.length) : ∃ x, zs[k]? = some x := ⟨_, List.getElem?_eq_getElem h⟩
/-- as many digits as the number wants, and no fewer: the last is not 0 -/
theorem Nz_of_ge {B : Nat} {a : List Nat} (hd : Dg B a) (h : B ^ (a.length - 1) ≤ V B a) : Nz a := by
  intro x hx e
  subst e
  obtain ⟨r, rfl⟩ : ∃ r, a = r ++ [0] := by
    exact List.getLast?_eq_some_iff.1 hx
  rw [V_append] at h
  simp [V] at h
  have := V_lt r (fun y hy => hd y (by simp [hy]))
  omega
theorem Nm.length_le {B : Nat} {a : List Nat} {n k : Nat} (hB : 1 < B) (h : Nm B a n) (hn : n < B ^ k) : a.length ≤ k := by
  rcases Nat.lt_or_ge k a.length with hlt | hge
  · exfalso
    have h1 := V_ge (B := B) h.2.1 (by intro e; subst e; simp at hlt)
    rw [h.2.2] at h1
    have h2 : B ^ k ≤ B ^ (a.length - 1) := Nat.pow_le_pow_right (by omega) (by omega)
    omega
  · exact hge
end Go.Proofs.Ytfiakaenenbhpaa
