/- DERIVED. Readings of a switch matrix as plain numbers: the reference's way (rows that share a column, as often as there are rows) and the program's (once, column by column) read the same; what is read of more is more; a reading is read again as it is. No condition. -/
namespace Go.Proofs.Ytoapbpkhnfbloaa

/-- The keys of row r of a mask, as a mask of columns. -/
def rowOf (C m r : Nat) : Nat := m / 2 ^ (r * C) % 2 ^ C

theorem rc_le {r C : Nat} (hC : C ≤ 6) (hr : r ≤ 4) : r * C ≤ 24 := Nat.mul_le_mul hr hC
/-- One step of the reading: rows r and s share a column, so r has what s has. -/
def mrg (C r s m : Nat) : Nat := if rowOf C m r &&& rowOf C m s = 0 then m else m ||| rowOf C m s * 2 ^ (r * C)
def readS (C r m : Nat) : Nat → Nat
  | 0 => m
  | n + 1 => mrg C r n (readS C r m n)
def readR (C R m : Nat) : Nat → Nat
  | 0 => m
  | n + 1 => readS C n (readR C R m n) R
def readN (C R m : Nat) : Nat → Nat
  | 0 => m
  | n + 1 => readR C R (readN C R m n) R
/-- What is read of a mask. -/
def readM (R C : Nat) (D : Bool) (m : Nat) : Nat := if D then m else readN C R m R

theorem rowOf_lt (C m r : Nat) : rowOf C m r < 2 ^ C := Nat.mod_lt _ (Nat.two_pow_pos _)
theorem shl_lt {R C r s m : Nat} (hr : r < R) : rowOf C m s * 2 ^ (r * C) < 2 ^ (R * C) := by
  have h1 : rowOf C m s * 2 ^ (r * C) < 2 ^ C * 2 ^ (r * C) := Nat.mul_lt_mul_of_pos_right (rowOf_lt C m s) (Nat.two_pow_pos _)
  have h2 : 2 ^ C * 2 ^ (r * C) ≤ 2 ^ (R * C) := by
    rw [← Nat.pow_add]
    exact Nat.pow_le_pow_right (by omega) (by have := Nat.mul_le_mul_right C (show r + 1 ≤ R from hr); rw [Nat.add_mul, Nat.one_mul] at this; omega)
  omega
theorem mrg_lt {R C r s m : Nat} (hr : r < R) (hm : m < 2 ^ (R * C)) : mrg C r s m < 2 ^ (R * C) := by
  unfold mrg
  split
  · exact hm
  · exact Nat.or_lt_two_pow hm (shl_lt hr)
theorem readS_lt {R C r m : Nat} (hr : r < R) (hm : m < 2 ^ (R * C)) : ∀ n, readS C r m n < 2 ^ (R * C)
  | 0 => hm
  | n + 1 => mrg_lt hr (readS_lt hr hm n)
theorem readR_lt {R C m : Nat} (hm : m < 2 ^ (R * C)) : ∀ n, n ≤ R → readR C R m n < 2 ^ (R * C)
  | 0, _ => hm
  | n + 1, h => readS_lt h (readR_lt hm n (by omega)) _
theorem readN_lt {R C m : Nat} (hm : m < 2 ^ (R * C)) : ∀ n, readN C R m n < 2 ^ (R * C)
  | 0 => hm
  | n + 1 => readR_lt (readN_lt hm n) _ (Nat.le_refl _)
theorem readM_lt {R C m : Nat} (D : Bool) (hm : m < 2 ^ (R * C)) : readM R C D m < 2 ^ (R * C) := by
  unfold readM
  split
  · exact hm
  · exact readN_lt hm _
theorem top24 {R C : Nat} (hC : C ≤ 6) (hR : R ≤ 4) : 2 ^ (R * C) ≤ 16777216 := Nat.pow_le_pow_right (n := 2) (by omega) (rc_le hC hR)


/-- Row r of m has column c. -/
def on (C m r c : Nat) : Prop := c < C ∧ m.testBit (r * C + c) = true
def touch (C m r s : Nat) : Prop := ∃ c, on C m r c ∧ on C m s c

theorem rowOf_bit {C m r c : Nat} : (rowOf C m r).testBit c = true ↔ on C m r c := by
  unfold rowOf on
  rw [Nat.testBit_mod_two_pow, Nat.testBit_div_two_pow]
  simp [Nat.add_comm]
theorem and_ne {C m r s : Nat} : rowOf C m r &&& rowOf C m s ≠ 0 ↔ touch C m r s := by
  constructor
  · intro h
    have : ∃ c, (rowOf C m r &&& rowOf C m s).testBit c = true := Nat.exists_testBit_of_ne_zero h
    obtain ⟨c, hc⟩ := this
    rw [Nat.testBit_and, Bool.and_eq_true] at hc
    exact ⟨c, rowOf_bit.mp hc.1, rowOf_bit.mp hc.2⟩
  · rintro ⟨c, h1, h2⟩ h
    have := congrArg (fun x => x.testBit c) h
    simp [Nat.testBit_and, rowOf_bit.mpr h1, rowOf_bit.mpr h2] at this
theorem place {C q r c : Nat} (hc : c < C) (h : r * C ≤ q * C + c) (h2 : q * C + c - r * C < C) : q = r := by
  rcases Nat.lt_trichotomy q r with h' | h' | h'
  · have := Nat.mul_le_mul_right C (show q + 1 ≤ r from h'); rw [Nat.add_mul] at this; omega
  · exact h'
  · have := Nat.mul_le_mul_right C (show r + 1 ≤ q from h'); rw [Nat.add_mul] at this; omega
theorem shift_on {C x r q c : Nat} (hx : x < 2 ^ C) (hc : c < C) : (x * 2 ^ (r * C)).testBit (q * C + c) = true ↔ q = r ∧ x.testBit c = true := by
  rw [Nat.testBit_mul_two_pow]
  simp only [Bool.and_eq_true, decide_eq_true_eq]
  constructor
  · rintro ⟨h1, h2⟩
    have h3 : q * C + c - r * C < C := by
      apply Decidable.byContradiction
      intro h
      have := Nat.testBit_lt_two_pow (Nat.lt_of_lt_of_le hx (Nat.pow_le_pow_right (by omega) (show C ≤ q * C + c - r * C by omega)))
      rw [this] at h2; cases h2
    have := place hc h1 h3
    subst this
    refine ⟨rfl, ?_⟩
    rwa [show q * C + c - q * C = c by omega] at h2
  · rintro ⟨rfl, h⟩
    exact ⟨by omega, by rwa [show q * C + c - q * C = c by omega]⟩
theorem mrg_on {C r s m q c : Nat} : on C (mrg C r s m) q c ↔ on C m q c ∨ (q = r ∧ touch C m r s ∧ on C m s c) := by
  unfold mrg
  split
  · rename_i h
    constructor
    · exact .inl
    · rintro (h1 | ⟨_, h2, _⟩)
      · exact h1
      · exact absurd h (and_ne.mpr h2)
  · rename_i h
    constructor
    · rintro ⟨hc, h1⟩
      rw [Nat.testBit_or, Bool.or_eq_true, shift_on (rowOf_lt _ _ _) hc] at h1
      rcases h1 with h1 | ⟨h1, h2⟩
      · exact .inl ⟨hc, h1⟩
      · exact .inr ⟨h1, and_ne.mp h, rowOf_bit.mp h2⟩
    · rintro (⟨hc, h1⟩ | ⟨h1, _, h2⟩)
      · exact ⟨hc, by rw [Nat.testBit_or, h1, Bool.true_or]⟩
      · exact ⟨h2.1, by rw [Nat.testBit_or, (shift_on (rowOf_lt _ _ _) h2.1).mpr ⟨h1, rowOf_bit.mpr h2⟩, Bool.or_true]⟩
theorem mrg_mono {C r s m q c : Nat} (h : on C m q c) : on C (mrg C r s m) q c := mrg_on.mpr (.inl h)
theorem readS_mono {C r m q c : Nat} (h : on C m q c) (n : Nat) : on C (readS C r m n) q c := by
  induction n with
  | zero => exact h
  | succ n ih => exact mrg_mono ih
theorem readS_le {C r m q c : Nat} (k : Nat) (h : on C (readS C r m k) q c) : ∀ n, k ≤ n → on C (readS C r m n) q c := by
  intro n hn
  induction n with
  | zero => obtain rfl : k = 0 := by omega
            exact h
  | succ n ih =>
    by_cases e : k = n + 1
    · subst e; exact h
    · exact mrg_mono (ih (by omega))
theorem readR_le {C R m q c : Nat} (k : Nat) (h : on C (readR C R m k) q c) : ∀ n, k ≤ n → on C (readR C R m n) q c := by
  intro n hn
  induction n with
  | zero => obtain rfl : k = 0 := by omega
            exact h
  | succ n ih =>
    by_cases e : k = n + 1
    · subst e; exact h
    · exact readS_mono (ih (by omega)) _
theorem readN_mono {C R m q c : Nat} (h : on C m q c) (n : Nat) : on C (readN C R m n) q c := by
  induction n with
  | zero => exact h
  | succ n ih => exact readR_le 0 ih _ (Nat.zero_le _)

/-- A family of sets of columns in which rows that share a column are alike. -/
def Shut (R : Nat) (G : Nat → Nat → Prop) : Prop := ∀ r s c d, r < R → s < R → G r c → G s c → G s d → G r d
theorem mrg_below {R C r s m : Nat} {G : Nat → Nat → Prop} (hG : Shut R G) (hr : r < R) (hs : s < R) (h : ∀ q c, q < R → on C m q c → G q c) : ∀ q c, q < R → on C (mrg C r s m) q c → G q c := by
  intro q c hq ho
  rcases mrg_on.mp ho with h1 | ⟨rfl, ⟨d, h2, h3⟩, h4⟩
  · exact h q c hq h1
  · exact hG q s d c hq hs (h q d hq h2) (h s d hs h3) (h s c hs h4)
theorem readS_below {R C r m : Nat} {G : Nat → Nat → Prop} (hG : Shut R G) (hr : r < R) (h : ∀ q c, q < R → on C m q c → G q c) : ∀ n, n ≤ R → ∀ q c, q < R → on C (readS C r m n) q c → G q c
  | 0, _ => h
  | n + 1, hn => mrg_below hG hr (by omega) (readS_below hG hr h n (by omega))
theorem readR_below {R C m : Nat} {G : Nat → Nat → Prop} (hG : Shut R G) (h : ∀ q c, q < R → on C m q c → G q c) : ∀ n, n ≤ R → ∀ q c, q < R → on C (readR C R m n) q c → G q c
  | 0, _ => h
  | n + 1, hn => readS_below hG (by omega) (readR_below hG h n (by omega)) _ (Nat.le_refl _)
theorem readN_below {R C m : Nat} {G : Nat → Nat → Prop} (hG : Shut R G) (h : ∀ q c, q < R → on C m q c → G q c) : ∀ n, ∀ q c, q < R → on C (readN C R m n) q c → G q c
  | 0 => h
  | n + 1 => readR_below hG (readN_below hG h n) _ (Nat.le_refl _)

def adj (C R m r s : Nat) : Prop := r < R ∧ s < R ∧ touch C m r s
def walk (C R m : Nat) : Nat → Nat → Nat → Prop
  | 0, r, s => r = s
  | n + 1, r, s => ∃ t, (adj C R m r t ∨ r = t) ∧ walk C R m n t s
theorem walk_lt {C R m : Nat} : ∀ n r s, r < R → walk C R m n r s → s < R
  | 0, r, s, hr, h => by rw [← show r = s from h]; exact hr
  | n + 1, r, s, hr, ⟨t, h1, h2⟩ => walk_lt n t s (by rcases h1 with h1 | h1; exact h1.2.1; omega) h2
theorem pass {C R m0 m n : Nat} (hm : ∀ q c, on C m0 q c → on C m q c) (h : ∀ r s c, r < R → walk C R m0 n r s → on C m0 s c → on C m r c) :
    ∀ r s c, r < R → walk C R m0 (n + 1) r s → on C m0 s c → on C (readR C R m R) r c := by
  rintro r s c hr ⟨t, ht, hw⟩ ho
  rcases ht with ⟨_, ht, htc⟩ | rfl
  · have h1 : on C (readS C r (readR C R m r) t) t c := readS_mono (readR_le 0 (h t s c ht hw ho) _ (Nat.zero_le _)) _
    have h2 : touch C (readS C r (readR C R m r) t) r t := by
      obtain ⟨d, d1, d2⟩ := htc
      exact ⟨d, readS_mono (readR_le 0 (hm _ _ d1) _ (Nat.zero_le _)) _, readS_mono (readR_le 0 (hm _ _ d2) _ (Nat.zero_le _)) _⟩
    have h3 : on C (readS C r (readR C R m r) (t + 1)) r c := mrg_on.mpr (.inr ⟨rfl, h2, h1⟩)
    exact readR_le (r + 1) (readS_le (t + 1) h3 R ht) R hr
  · exact readR_le 0 (h r s c hr hw ho) _ (Nat.zero_le _)
theorem passes {C R m : Nat} : ∀ n r s c, r < R → walk C R m n r s → on C m s c → on C (readN C R m n) r c
  | 0, r, s, c, _, h, ho => by rw [show r = s from h]; exact ho
  | n + 1, r, s, c, hr, h, ho => pass (fun q c h => readN_mono h n) (passes n) r s c hr h ho

/-- Walks over four rows as tables of Bools. -/
def wn (a f : Nat → Nat → Bool) (r s : Nat) : Bool := (a r 0 && f 0 s) || (a r 1 && f 1 s) || (a r 2 && f 2 s) || (a r 3 && f 3 s)
def tb (a01 a02 a03 a12 a13 a23 : Bool) (r s : Nat) : Bool :=
  match r, s with
  | 0, 1 => a01 | 1, 0 => a01 | 0, 2 => a02 | 2, 0 => a02 | 0, 3 => a03 | 3, 0 => a03
  | 1, 2 => a12 | 2, 1 => a12 | 1, 3 => a13 | 3, 1 => a13 | 2, 3 => a23 | 3, 2 => a23 | _, _ => r == s
def wb (a : Nat → Nat → Bool) : Nat → Nat → Nat → Bool
  | 0, r, s => r == s
  | n + 1, r, s => wn a (wb a n) r s
theorem tight4 : ∀ a01 a02 a03 a12 a13 a23 : Bool, ∀ r : Fin 4, ∀ s : Fin 4, wb (tb a01 a02 a03 a12 a13 a23) 4 r.val s.val = true → wb (tb a01 a02 a03 a12 a13 a23) 3 r.val s.val = true := by decide +kernel
theorem tight3 : ∀ a01 a02 a12 : Bool, ∀ r : Fin 3, ∀ s : Fin 3, wb (tb a01 a02 false a12 false false) 3 r.val s.val = true → wb (tb a01 a02 false a12 false false) 2 r.val s.val = true := by decide +kernel
theorem tight2 : ∀ a01 : Bool, ∀ r : Fin 2, ∀ s : Fin 2, wb (tb a01 false false false false false) 2 r.val s.val = true → wb (tb a01 false false false false false) 1 r.val s.val = true := by decide +kernel
theorem tight1 : ∀ r : Fin 1, ∀ s : Fin 1, wb (tb false false false false false false) 1 r.val s.val = true → wb (tb false false false false false false) 0 r.val s.val = true := by decide +kernel

theorem adj_symm {C R m r s : Nat} (h : adj C R m r s) : adj C R m s r := by
  obtain ⟨a, b, c, d, e⟩ := h
  exact ⟨b, a, c, e, d⟩
open Classical in
/-- The table of a mask. -/
noncomputable def tbOf (C R m : Nat) : Nat → Nat → Bool := tb (decide (adj C R m 0 1)) (decide (adj C R m 0 2)) (decide (adj C R m 0 3)) (decide (adj C R m 1 2)) (decide (adj C R m 1 3)) (decide (adj C R m 2 3))
theorem adj_comm {C R m : Nat} (r s : Nat) : adj C R m r s ↔ adj C R m s r := ⟨adj_symm, adj_symm⟩
theorem tbOf_iff {C R m r s : Nat} (hr : r < 4) (hs : s < 4) : tbOf C R m r s = true ↔ adj C R m r s ∨ r = s := by
  have h : r = 0 ∨ r = 1 ∨ r = 2 ∨ r = 3 := by omega
  have h' : s = 0 ∨ s = 1 ∨ s = 2 ∨ s = 3 := by omega
  unfold tbOf
  rcases h with rfl | rfl | rfl | rfl <;> rcases h' with rfl | rfl | rfl | rfl <;> simp [tb]
  all_goals exact adj_comm _ _
theorem wb_iff {C R m : Nat} (hR : R ≤ 4) : ∀ n r s, r < R → (wb (tbOf C R m) n r s = true ↔ walk C R m n r s)
  | 0, r, s, _ => by simp [wb, walk]
  | n + 1, r, s, hr => by
    have ih : ∀ t, t < R → (wb (tbOf C R m) n t s = true ↔ walk C R m n t s) := fun t ht => wb_iff hR n t s ht
    simp only [wb, wn, Bool.or_eq_true, Bool.and_eq_true]
    constructor
    · intro h
      have key : ∃ t, t < 4 ∧ tbOf C R m r t = true ∧ wb (tbOf C R m) n t s = true := by
        rcases h with ((h | h) | h) | h
        · exact ⟨0, by omega, h⟩
        · exact ⟨1, by omega, h⟩
        · exact ⟨2, by omega, h⟩
        · exact ⟨3, by omega, h⟩
      obtain ⟨t, ht, h1, h2⟩ := key
      have h3 := (tbOf_iff (by omega) ht).mp h1
      have ht' : t < R := by rcases h3 with h3 | h3; exact h3.2.1; omega
      exact ⟨t, h3, (ih t ht').mp h2⟩
    · rintro ⟨t, h3, h2⟩
      have ht' : t < R := by rcases h3 with h3 | h3; exact h3.2.1; omega
      have h1 := (tbOf_iff (C := C) (R := R) (m := m) (r := r) (s := t) (by omega) (by omega)).mpr h3
      have h4 := (ih t ht').mpr h2
      have h : t = 0 ∨ t = 1 ∨ t = 2 ∨ t = 3 := by omega
      rcases h with rfl | rfl | rfl | rfl
      · exact .inl (.inl (.inl ⟨h1, h4⟩))
      · exact .inl (.inl (.inr ⟨h1, h4⟩))
      · exact .inl (.inr ⟨h1, h4⟩)
      · exact .inr ⟨h1, h4⟩
open Classical in
theorem adj_none {C R m r s : Nat} (h : R ≤ s) : decide (adj C R m r s) = false := decide_eq_false fun h' => by have := h'.2.1; omega
theorem tight {C R m r s : Nat} (h1 : 1 ≤ R) (h4 : R ≤ 4) (hr : r < R) (h : walk C R m R r s) : walk C R m (R - 1) r s := by
  have hs := walk_lt R r s hr h
  rw [← wb_iff h4 _ _ _ hr] at h ⊢
  have hc : R = 1 ∨ R = 2 ∨ R = 3 ∨ R = 4 := by omega
  rcases hc with rfl | rfl | rfl | rfl
  · unfold tbOf at h ⊢
    rw [adj_none (s := 1) (by omega), adj_none (s := 2) (by omega), adj_none (s := 3) (by omega), adj_none (s := 2) (by omega), adj_none (s := 3) (by omega), adj_none (s := 3) (by omega)] at h ⊢
    exact tight1 ⟨r, hr⟩ ⟨s, hs⟩ h
  · unfold tbOf at h ⊢
    rw [adj_none (r := 0) (s := 2) (by omega), adj_none (r := 0) (s := 3) (by omega), adj_none (r := 1) (s := 2) (by omega), adj_none (r := 1) (s := 3) (by omega), adj_none (r := 2) (s := 3) (by omega)] at h ⊢
    exact tight2 _ ⟨r, hr⟩ ⟨s, hs⟩ h
  · unfold tbOf at h ⊢
    rw [adj_none (r := 0) (s := 3) (by omega), adj_none (r := 1) (s := 3) (by omega), adj_none (r := 2) (s := 3) (by omega)] at h ⊢
    exact tight3 _ _ _ ⟨r, hr⟩ ⟨s, hs⟩ h
  · exact tight4 _ _ _ _ _ _ ⟨r, hr⟩ ⟨s, hs⟩ h
theorem walk_up {C R m : Nat} {n r s : Nat} (h : walk C R m n r s) : walk C R m (n + 1) r s := ⟨r, .inr rfl, h⟩
theorem walk_all {C R m : Nat} (h1 : 1 ≤ R) (h4 : R ≤ 4) : ∀ n r s, r < R → walk C R m n r s → walk C R m R r s
  | 0, r, s, hr, h => by
    have : ∀ n, walk C R m n r s := fun n => by
      induction n with
      | zero => exact h
      | succ n ih => exact walk_up ih
    exact this R
  | n + 1, r, s, hr, ⟨t, ht, h⟩ => by
    have ht' : t < R := by rcases ht with ht | ht; exact ht.2.1; omega
    have h' := tight h1 h4 ht' (walk_all h1 h4 n t s ht' h)
    have : walk C R m (R - 1 + 1) r s := ⟨t, ht, h'⟩
    rwa [show R - 1 + 1 = R by omega] at this

/-- What is reached from row r. -/
def reach (C R m r c : Nat) : Prop := ∃ n s, walk C R m n r s ∧ on C m s c
theorem walk_snoc {C R m : Nat} : ∀ n r s t, walk C R m n r s → adj C R m s t ∨ s = t → walk C R m (n + 1) r t
  | 0, r, s, t, h, ha => ⟨t, by rw [show r = s from h]; exact ha, rfl⟩
  | n + 1, r, s, t, ⟨u, hu, h⟩, ha => ⟨u, hu, walk_snoc n u s t h ha⟩
theorem walk_trans {C R m : Nat} {r s t : Nat} : ∀ k n, walk C R m n r s → walk C R m k s t → ∃ j, walk C R m j r t
  | 0, n, h, h' => ⟨n, by rw [← show s = t from h']; exact h⟩
  | k + 1, n, h, ⟨u, hu, h'⟩ => walk_trans k (n + 1) (walk_snoc n r s u h hu) h'
theorem walk_symm {C R m : Nat} : ∀ n r s, walk C R m n r s → ∃ j, walk C R m j s r
  | 0, r, s, h => ⟨0, (show r = s from h).symm⟩
  | n + 1, r, s, ⟨t, ht, h⟩ => by
    obtain ⟨j, hj⟩ := walk_symm n t s h
    exact ⟨j + 1, walk_snoc j s t r hj (ht.imp adj_symm Eq.symm)⟩
theorem reach_shut (C R m : Nat) : Shut R (reach C R m) := by
  rintro r s c d hr hs ⟨n, a, h1, o1⟩ ⟨k, b, h2, o2⟩ ⟨j, e, h3, o3⟩
  have ha := walk_lt n r a hr h1
  have hb := walk_lt k s b hs h2
  have hab : walk C R m 1 a b := ⟨b, .inl ⟨ha, hb, c, o1, o2⟩, rfl⟩
  obtain ⟨k', h2'⟩ := walk_symm k s b h2
  obtain ⟨x, hx⟩ := walk_trans 1 n h1 hab
  obtain ⟨y, hy⟩ := walk_trans k' x hx h2'
  obtain ⟨z, hz⟩ := walk_trans j y hy h3
  exact ⟨z, e, hz, o3⟩
/-- The reference's reading has just what is reached. -/
theorem readN_reach {C R m r c : Nat} (h1 : 1 ≤ R) (h4 : R ≤ 4) (hr : r < R) : on C (readN C R m R) r c ↔ reach C R m r c := by
  constructor
  · exact readN_below (reach_shut C R m) (fun q c _ h => ⟨0, q, rfl, h⟩) R r c hr
  · rintro ⟨n, s, h, ho⟩
    exact passes R r s c hr (walk_all h1 h4 n r s hr h) ho
/-- A family that has the mask, is shut and lies within what is reached is just what is reached. -/
theorem reach_least {C R m : Nat} {G : Nat → Nat → Prop} (hG : Shut R G) (h : ∀ q c, q < R → on C m q c → G q c) : ∀ q c, q < R → reach C R m q c → G q c := by
  have hw : ∀ n q s c, q < R → walk C R m n q s → on C m s c → G q c := by
    intro n
    induction n with
    | zero => intro q s c hq hw ho; rw [show q = s from hw] at hq ⊢; exact h s c hq ho
    | succ n ih =>
      rintro q s c hq ⟨t, ht, hw⟩ ho
      rcases ht with ⟨h1, h2, d, d1, d2⟩ | rfl
      · exact hG q t d c hq h2 (h q d hq d1) (h t d h2 d2) (ih t s c h2 hw ho)
      · exact ih q s c hq hw ho
  rintro q c hq ⟨n, s, h1, h2⟩
  exact hw n q s c hq h1 h2
theorem same_of_on {C R x y : Nat} (hC : 0 < C) (hx : x < 2 ^ (R * C)) (hy : y < 2 ^ (R * C)) (h : ∀ r c, r < R → (on C x r c ↔ on C y r c)) : x = y := by
  apply Nat.eq_of_testBit_eq
  intro i
  by_cases hi : i < R * C
  · have hr : i / C < R := Nat.div_lt_of_lt_mul (by rw [Nat.mul_comm]; exact hi)
    have hc : i % C < C := Nat.mod_lt _ hC
    have e : i / C * C + i % C = i := by rw [Nat.mul_comm]; exact Nat.div_add_mod i C
    have := h (i / C) (i % C) hr
    unfold on at this
    rw [e] at this
    simp only [hc, true_and] at this
    exact Bool.eq_iff_iff.mpr this
  · rw [Nat.testBit_lt_two_pow (Nat.lt_of_lt_of_le hx (Nat.pow_le_pow_right (by omega) (by omega))), Nat.testBit_lt_two_pow (Nat.lt_of_lt_of_le hy (Nat.pow_le_pow_right (by omega) (by omega)))]

/-- The program's way: rows that have a column get each other's columns, column by column. -/
def joinAcc (col : Nat) (l : List Nat) : Nat := l.foldl (fun a s => if s.testBit col = true then a ||| s else a) 0
def joinL (col : Nat) (l : List Nat) : List Nat := l.map fun s => if s.testBit col = true then joinAcc col l else s
def passL (l : List Nat) : Nat → List Nat
  | 0 => l
  | n + 1 => joinL n (passL l n)
def rowsL (C R m : Nat) : List Nat := (List.range R).map (rowOf C m)
def accL (C : Nat) (l : List Nat) : Nat → Nat
  | 0 => 0
  | k + 1 => accL C l k ||| l.getD k 0 * 2 ^ (k * C)
def implM (R C m : Nat) : Nat := accL C (passL (rowsL C R m) C) R

theorem joinAcc_go (col c : Nat) : ∀ (l : List Nat) (a : Nat), (l.foldl (fun a s => if s.testBit col = true then a ||| s else a) a).testBit c = true ↔ a.testBit c = true ∨ ∃ s ∈ l, s.testBit col = true ∧ s.testBit c = true
  | [], a => by simp
  | x :: l, a => by
    rw [List.foldl_cons, joinAcc_go col c l]
    by_cases h : x.testBit col = true
    · rw [if_pos h, Nat.testBit_or, Bool.or_eq_true]
      simp only [List.mem_cons, exists_eq_or_imp, h, true_and]
      exact or_assoc
    · rw [if_neg h]
      simp [h]
theorem joinAcc_bit (col c : Nat) (l : List Nat) : (joinAcc col l).testBit c = true ↔ ∃ s ∈ l, s.testBit col = true ∧ s.testBit c = true := by
  unfold joinAcc
  rw [joinAcc_go]
  simp
theorem lt_two_pow_of_bits {x C : Nat} (h : ∀ c, x.testBit c = true → c < C) : x < 2 ^ C := by
  apply Nat.lt_pow_two_of_testBit
  intro i hi
  cases hx : x.testBit i
  · rfl
  · have := h i hx; omega
theorem bit_lt {x C c : Nat} (hx : x < 2 ^ C) (h : x.testBit c = true) : c < C := by
  apply Decidable.byContradiction
  intro hc
  rw [Nat.testBit_lt_two_pow (Nat.lt_of_lt_of_le hx (Nat.pow_le_pow_right (by omega) (by omega)))] at h
  cases h
theorem mem_getD {l : List Nat} {s : Nat} (h : s ∈ l) : ∃ t, t < l.length ∧ l.getD t 0 = s := by
  obtain ⟨t, ht, he⟩ := List.getElem_of_mem h
  exact ⟨t, ht, by simp [List.getElem?_eq_getElem ht, he]⟩
theorem getD_mem {l : List Nat} {t : Nat} (h : t < l.length) : l.getD t 0 ∈ l := by
  simp [List.getElem?_eq_getElem h]
theorem joinL_getD {col : Nat} {l : List Nat} {r : Nat} (h : r < l.length) : (joinL col l).getD r 0 = if (l.getD r 0).testBit col = true then joinAcc col l else l.getD r 0 := by
  unfold joinL
  simp [List.getElem?_eq_getElem h]
theorem passL_len (l : List Nat) : ∀ n, (passL l n).length = l.length
  | 0 => rfl
  | n + 1 => by rw [passL, joinL, List.length_map, passL_len l n]

structure Inv (C R m n : Nat) (l : List Nat) : Prop where
  len : l.length = R
  lt : ∀ r, r < R → l.getD r 0 < 2 ^ C
  ge : ∀ r c, r < R → on C m r c → (l.getD r 0).testBit c = true
  le : ∀ r c, r < R → (l.getD r 0).testBit c = true → reach C R m r c
  cl : ∀ r s c, r < R → s < R → c < n → (l.getD r 0).testBit c = true → (l.getD s 0).testBit c = true → l.getD r 0 = l.getD s 0
theorem inv_start (C R m : Nat) : Inv C R m 0 (rowsL C R m) := by
  have hg : ∀ r, r < R → (rowsL C R m).getD r 0 = rowOf C m r := fun r hr => by simp [rowsL, hr]
  refine ⟨by simp [rowsL], ?_, ?_, ?_, ?_⟩
  · intro r hr; rw [hg r hr]; exact rowOf_lt _ _ _
  · intro r c hr h; rw [hg r hr]; exact rowOf_bit.mpr h
  · intro r c hr h; rw [hg r hr] at h; exact ⟨0, r, rfl, rowOf_bit.mp h⟩
  · intro r s c _ _ h; omega
theorem inv_step {C R m n : Nat} {l : List Nat} (h : Inv C R m n l) : Inv C R m (n + 1) (joinL n l) := by
  have hg : ∀ r, r < R → (joinL n l).getD r 0 = if (l.getD r 0).testBit n = true then joinAcc n l else l.getD r 0 := fun r hr => joinL_getD (by rw [h.len]; exact hr)
  have hJ : ∀ c, (joinAcc n l).testBit c = true → ∃ t, t < R ∧ (l.getD t 0).testBit n = true ∧ (l.getD t 0).testBit c = true := fun c hc => by
    obtain ⟨s, hs, h1, h2⟩ := (joinAcc_bit _ _ _).mp hc
    obtain ⟨t, ht, rfl⟩ := mem_getD hs
    exact ⟨t, by rw [← h.len]; exact ht, h1, h2⟩
  have hJ' : ∀ t c, t < R → (l.getD t 0).testBit n = true → (l.getD t 0).testBit c = true → (joinAcc n l).testBit c = true := fun t c ht h1 h2 =>
    (joinAcc_bit _ _ _).mpr ⟨_, getD_mem (by rw [h.len]; exact ht), h1, h2⟩
  refine ⟨by rw [joinL, List.length_map, h.len], ?_, ?_, ?_, ?_⟩
  · intro r hr
    rw [hg r hr]
    split
    · apply lt_two_pow_of_bits
      intro c hc
      obtain ⟨t, ht, _, h2⟩ := hJ c hc
      exact bit_lt (h.lt t ht) h2
    · exact h.lt r hr
  · intro r c hr ho
    rw [hg r hr]
    split
    · rename_i hb
      exact hJ' r c hr hb (h.ge r c hr ho)
    · exact h.ge r c hr ho
  · intro r c hr hb
    rw [hg r hr] at hb
    split at hb
    · rename_i hn
      obtain ⟨t, ht, h1, h2⟩ := hJ c hb
      exact reach_shut C R m r t n c hr ht (h.le r n hr hn) (h.le t n ht h1) (h.le t c ht h2)
    · exact h.le r c hr hb
  · intro r s c hr hs hc h1 h2
    rw [hg r hr] at h1 ⊢
    rw [hg s hs] at h2 ⊢
    by_cases hrn : (l.getD r 0).testBit n = true <;> by_cases hsn : (l.getD s 0).testBit n = true
    · rw [if_pos hrn, if_pos hsn]
    · rw [if_pos hrn] at h1
      rw [if_neg hsn] at h2
      exfalso
      by_cases hcn : c = n
      · subst hcn; exact hsn h2
      · obtain ⟨t, ht, h3, h4⟩ := hJ c h1
        have := h.cl t s c ht hs (by omega) h4 h2
        rw [this] at h3
        exact hsn h3
    · rw [if_neg hrn] at h1
      rw [if_pos hsn] at h2
      exfalso
      by_cases hcn : c = n
      · subst hcn; exact hrn h1
      · obtain ⟨t, ht, h3, h4⟩ := hJ c h2
        have := h.cl t r c ht hr (by omega) h4 h1
        rw [this] at h3
        exact hrn h3
    · rw [if_neg hrn] at h1 ⊢
      rw [if_neg hsn] at h2 ⊢
      by_cases hcn : c = n
      · subst hcn; exact absurd h1 hrn
      · exact h.cl r s c hr hs (by omega) h1 h2
theorem inv_all (C R m : Nat) : ∀ n, Inv C R m n (passL (rowsL C R m) n)
  | 0 => inv_start C R m
  | n + 1 => inv_step (inv_all C R m n)
theorem accL_on {C R : Nat} {l : List Nat} (hl : ∀ r, r < R → l.getD r 0 < 2 ^ C) : ∀ k, k ≤ R → ∀ r c, c < C → ((accL C l k).testBit (r * C + c) = true ↔ r < k ∧ (l.getD r 0).testBit c = true)
  | 0, _, r, c, _ => by simp [accL]
  | k + 1, hk, r, c, hc => by
    rw [accL, Nat.testBit_or, Bool.or_eq_true, accL_on hl k (by omega) r c hc, shift_on (hl k (by omega)) hc]
    constructor
    · rintro (⟨h1, h2⟩ | ⟨rfl, h2⟩)
      · exact ⟨by omega, h2⟩
      · exact ⟨by omega, h2⟩
    · rintro ⟨h1, h2⟩
      by_cases e : r = k
      · subst e; exact .inr ⟨rfl, h2⟩
      · exact .inl ⟨by omega, h2⟩
theorem accL_lt {C R : Nat} {l : List Nat} (hl : ∀ r, r < R → l.getD r 0 < 2 ^ C) : ∀ k, k ≤ R → accL C l k < 2 ^ (R * C)
  | 0, _ => Nat.two_pow_pos _
  | k + 1, hk => by
    refine Nat.or_lt_two_pow (accL_lt hl k (by omega)) ?_
    have h1 : l.getD k 0 * 2 ^ (k * C) < 2 ^ C * 2 ^ (k * C) := Nat.mul_lt_mul_of_pos_right (hl k (by omega)) (Nat.two_pow_pos _)
    have h2 : 2 ^ C * 2 ^ (k * C) ≤ 2 ^ (R * C) := by
      rw [← Nat.pow_add]
      exact Nat.pow_le_pow_right (by omega) (by have := Nat.mul_le_mul_right C hk; rw [Nat.add_mul, Nat.one_mul] at this; omega)
    omega
/-- Both ways read the same. -/
theorem implM_eq {R C m : Nat} (h1 : 1 ≤ R) (h4 : R ≤ 4) (hC : 0 < C) (hm : m < 2 ^ (R * C)) : implM R C m = readN C R m R := by
  have I := inv_all C R m C
  apply same_of_on (R := R) (C := C) hC (accL_lt I.lt R (Nat.le_refl _)) (readN_lt hm R)
  intro r c hr
  rw [readN_reach h1 h4 hr]
  unfold on
  constructor
  · rintro ⟨hc, h⟩
    exact I.le r c hr ((accL_on I.lt R (Nat.le_refl _) r c hc).mp h).2
  · intro h
    have hG : Shut R fun r c => (((passL (rowsL C R m) C).getD r 0).testBit c = true) := by
      intro r s c d hr hs a b e
      rw [I.cl r s c hr hs (bit_lt (I.lt r hr) a) a b]
      exact e
    have hb := reach_least hG (fun q c hq ho => I.ge q c hq ho) r c hr h
    exact ⟨bit_lt (I.lt r hr) hb, (accL_on I.lt R (Nat.le_refl _) r c (bit_lt (I.lt r hr) hb)).mpr ⟨hr, hb⟩⟩


end Go.Proofs.Ytoapbpkhnfbloaa
