/- DERIVED. Valid engines stay valid: what a press settles is a valid action of the layers, and a press and a release leave a valid engine. No condition. · What follows of presses and releases: reports that are told are changes, the last one is that of what is held; the sequence of taps; modifiers that wait, and capitals. No condition. · Modifiers that wait come to the next code, and capitals to the letters of a word: what a press settles, number by number. No condition. · Valid held keys are at most 32. No condition. -/
import Derived.Test.YtjfckchoklepbaaGreatEnDef
import Derived.Test.YtjfckchoklepbaaGreatHdMath
namespace Go.Proofs.YtjfckchoklepbaaGreat
open Go.RowKit

/-- A valid engine, part by part. -/
structure EnOk (e : En) : Prop where
  km : okKm e.k e.L = true
  fl : e.F.length ≤ 4
  hd : HdOk e.H
  mc : ∀ j, j < e.F.length → okMc (lD e.F j) = true
  ft : ∀ j, j < e.H.length → (hdD e.H j).h < e.k ∧ ((hdD e.H j).k = 9 ∨ (hdD e.H j).n < e.L.length)
  fx : ∃ X : Nat, e.x = X ∧ X < 2 ^ e.L.length ∧ X % 2 = 0
  on : ∃ O : Nat, e.o = O ∧ O < 16
theorem mcsN_iff (F : List (List St)) : ∀ m, mcsN F m = true ↔ ∀ j, j < m → okMc (lD F j) = true
  | 0 => by simp [mcsN]
  | m + 1 => by
    rw [mcsN, Bool.and_eq_true, mcsN_iff F m]
    constructor
    · rintro ⟨h1, h2⟩ j hj
      rcases Nat.lt_or_ge j m with h | h
      · exact h1 j h
      · obtain rfl : j = m := by omega
        exact h2
    · exact fun h => ⟨fun j hj => h j (by omega), h m (by omega)⟩
theorem hfit_iff (keys : Int) (n : Nat) (h : Hd) : hfit keys n h = true ↔ h.h < keys ∧ (h.k = 9 ∨ h.n < n) := by
  unfold hfit
  rw [Bool.not_eq_true', Bool.or_eq_false_iff, Bool.and_eq_false_iff, decide_eq_false_iff_not, decide_eq_false_iff_not, Bool.not_eq_false', decide_eq_true_eq]
  constructor
  · rintro ⟨h1, h2⟩; exact ⟨by omega, by rcases h2 with h2 | h2; exact .inl h2; exact .inr (by omega)⟩
  · rintro ⟨h1, h2⟩; exact ⟨by omega, by rcases h2 with h2 | h2; exact .inl h2; exact .inr (by omega)⟩
theorem hfN_iff (keys : Int) (n : Nat) (H : List Hd) : ∀ m, hfN keys n H m = true ↔ ∀ j, j < m → (hdD H j).h < keys ∧ ((hdD H j).k = 9 ∨ (hdD H j).n < n)
  | 0 => by simp [hfN]
  | m + 1 => by
    rw [hfN, Bool.and_eq_true, hfN_iff keys n H m, hfit_iff]
    constructor
    · rintro ⟨h1, h2⟩ j hj
      rcases Nat.lt_or_ge j m with h | h
      · exact h1 j h
      · obtain rfl : j = m := by omega
        exact h2
    · exact fun h => ⟨fun j hj => h j (by omega), h m (by omega)⟩
theorem okEn_iff {e : En} : okEn e = true ↔ EnOk e := by
  have hp : ((2 : Int) ^ e.L.length) = ((2 ^ e.L.length : Nat) : Int) := pow_nat _
  rw [okEn]
  simp only [Bool.and_eq_true, mcsN_iff, hfN_iff, okHd_iff, decide_eq_true_eq, inB]
  rw [hp]
  constructor
  · rintro ⟨⟨h1, h2, h3⟩, ⟨h4, h5⟩, h6, h7, h8⟩
    exact ⟨h1, h2, h3, h4, h5, ⟨e.x.toNat, by omega, by omega, by omega⟩, ⟨e.o.toNat, by omega, by omega⟩⟩
  · rintro ⟨h1, h2, h3, h4, h5, ⟨X, hX, hl, he⟩, ⟨O, hO, ho⟩⟩
    exact ⟨⟨h1, h2, h3⟩, ⟨h4, h5⟩, by omega, by omega, by omega⟩

/-- A valid action that does not pass and that n layers know. -/
structure AcE (n : Nat) (a : Ac) : Prop where
  np : AcNp a
  ft : a.k = 9 ∨ a.n < n
theorem laD_np {L : List (List Ac)} {on : Int} {key : Nat} : ∀ k, 0 < laD L on key k → (acD (lD L (laD L on key k)) key).k ≠ 1
  | 0, h => absurd h (Nat.lt_irrefl _)
  | k + 1, h => by
    rw [laD] at h ⊢
    by_cases hb : (bitOn on (k + 1) && !decide ((acD (lD L (k + 1)) key).k = 1)) = true
    · rw [if_pos hb]
      rw [Bool.and_eq_true] at hb
      simpa using hb.2
    · rw [if_neg hb] at h ⊢
      exact laD_np k h
theorem okA_at {n i : Nat} {a : Ac} (h : okA n i a = true) : okAc a.k a.c a.m a.n = true ∧ ¬ (a.k = 1 ∧ i = 0) ∧ (a.k = 9 ∨ a.n < n) := by
  unfold okA at h
  simp only [Bool.and_eq_true, Bool.not_eq_true', Bool.and_eq_false_iff, decide_eq_false_iff_not, Bool.not_eq_false', decide_eq_true_eq] at h
  obtain ⟨h1, h2, h3⟩ := h
  exact ⟨h1, fun e => by rcases h2 with h2 | h2; exact h2 e.1; exact h2 e.2, by rcases h3 with h3 | h3; exact .inl h3; exact .inr (by omega)⟩
theorem atV_ok {keys : Int} {L : List (List Ac)} (on : Int) {key : Int} (h : okKm keys L = true) (hk : 0 ≤ key ∧ key < keys) : AcE L.length (atV keys L on key) := by
  obtain ⟨_, hl, hr⟩ := okKm_at h
  have hb : inB key 0 (keys - 1) = true := decide_eq_true ⟨hk.1, by omega⟩
  rw [atV, h, hb, Bool.and_self, if_pos rfl]
  have hle := laD_le L on key.toNat (L.length - 1)
  obtain ⟨hlen, hall⟩ := hr (laD L on key.toNat (L.length - 1)) (by omega)
  obtain ⟨h1, h2, h3⟩ := okA_at (hall key.toNat (by omega))
  refine ⟨⟨h1, fun e => ?_⟩, h3⟩
  rcases Nat.eq_zero_or_pos (laD L on key.toNat (L.length - 1)) with h0 | h0
  · exact h2 ⟨e, h0⟩
  · exact laD_np _ h0 e
theorem tap_ok {n : Nat} {a : Ac} (hn : 1 ≤ n) (h : AcE n a) : AcE n (tapR a) ∧ holdAc (tapR a).k (tapR a).c (tapR a).m (tapR a).n = false := by
  rw [tapR]
  by_cases hh : holdAc a.k a.c a.m a.n = true
  · obtain ⟨hc, _, _⟩ := hold_parts hh
    rw [if_pos hh]
    exact ⟨⟨⟨by simp [okAc, inB]; omega, by simp⟩, .inr (by show (0 : Int) < n; omega)⟩, by simp [holdAc]⟩
  · rw [if_neg hh]
    exact ⟨h, by simpa using hh⟩
theorem hold_ok {n : Nat} {a : Ac} (hn : 1 ≤ n) (h : AcE n a) : AcE n (holdR a) ∧ holdAc (holdR a).k (holdR a).c (holdR a).m (holdR a).n = false := by
  have h1 := np_hold h.np
  by_cases hh : holdAc a.k a.c a.m a.n = true
  · have hk := (hold_kinds hh).2
    have hft := h.ft
    rw [holdR, if_pos hh] at h1 ⊢
    by_cases h6 : a.k = 6
    · rw [if_pos h6] at h1 ⊢
      exact ⟨⟨h1, .inr (by show (0 : Int) < n; omega)⟩, by simp [holdAc]⟩
    · rw [if_neg h6] at h1 ⊢
      exact ⟨⟨h1, .inr (by show a.n < n; omega)⟩, by simp [holdAc]⟩
  · rw [holdR, if_neg hh]
    exact ⟨h, by simpa using hh⟩
/-- What an engine keeps of its numbers. -/
def NumOk (n : Nat) (x o : Int) : Prop := (∃ X : Nat, x = X ∧ X < 2 ^ n ∧ X % 2 = 0) ∧ ∃ O : Nat, o = O ∧ O < 16
theorem even_xor {X k : Nat} (h : X % 2 = 0) (hk : 1 ≤ k) : (X ^^^ 2 ^ k) % 2 = 0 := by
  have h1 : X.testBit 0 = false := by rw [Nat.testBit_zero]; simp; omega
  have h2 : (X ^^^ 2 ^ k).testBit 0 = false := by
    rw [Nat.testBit_xor, h1, Nat.testBit_two_pow]
    simp; omega
  rw [Nat.testBit_zero] at h2
  have h3 := of_decide_eq_false h2
  have := Nat.mod_two_eq_zero_or_one (X ^^^ 2 ^ k)
  omega
theorem okAc_tg {c m n : Int} (h : okAc 4 c m n = true) : 1 ≤ n ∧ n ≤ 3 := by
  simp [okAc, inB] at h; omega
theorem okAc_to {c m n : Int} (h : okAc 5 c m n = true) : 0 ≤ n ∧ n ≤ 3 := by
  simp [okAc, inB] at h; omega
theorem okAc_once {c m n : Int} (h : okAc 8 c m n = true) : 1 ≤ m ∧ m ≤ 15 := by
  simp [okAc, inB] at h; omega
theorem okAc_code {c m n : Int} (h : okAc 2 c m n = true) (hc : 0 < c) : (1 ≤ c ∧ c ≤ 56) ∧ (0 ≤ m ∧ m ≤ 15) ∧ n = 0 := by
  simp [okAc, inB] at h; omega
theorem okAc_of_code {c m : Int} (hc : 1 ≤ c ∧ c ≤ 56) (hm : 0 ≤ m ∧ m ≤ 15) : okAc 2 c m 0 = true := by
  simp [okAc, inB]; omega
theorem to_even {N : Nat} (h : N ≤ 3) : dif (2 ^ N) 1 % 2 = 0 ∧ dif (2 ^ N) 1 < 2 ^ (N + 1) := by
  rcases (show N = 0 ∨ N = 1 ∨ N = 2 ∨ N = 3 by omega) with rfl | rfl | rfl | rfl <;> decide
theorem key_ok {e : En} {c m : Int} (hm : 0 ≤ m ∧ m ≤ 15) (ho : ∃ O : Nat, e.o = O ∧ O < 16) : 0 ≤ (keyO e c m).2 ∧ (keyO e c m).2 ≤ 15 := by
  obtain ⟨O, hO, hlt⟩ := ho
  obtain ⟨M, rfl⟩ : ∃ M : Nat, m = M := ⟨m.toNat, by omega⟩
  have h1 : bits .or .i64 (M : Int) e.o = ((M ||| O : Nat) : Int) := by rw [hO]; exact or_nat M O (by omega) (by omega)
  have h2 : M ||| O < 2 ^ 4 := Nat.or_lt_two_pow (by omega) (by omega)
  unfold keyO
  simp only [h1]
  split
  · omega
  · omega
theorem set_ok {e : En} {a : Ac} (hn : 1 ≤ e.L.length ∧ e.L.length ≤ 4) (hN : NumOk e.L.length e.x e.o) (ha : AcE e.L.length a) (hh : holdAc a.k a.c a.m a.n = false) :
    AcE e.L.length (setO e a).2 ∧ holdAc (setO e a).2.k (setO e a).2.c (setO e a).2.m (setO e a).2.n = false ∧ NumOk e.L.length (setO e a).1.x (setO e a).1.o ∧
    (setO e a).1.k = e.k ∧ (setO e a).1.L = e.L ∧ (setO e a).1.F = e.F ∧ (setO e a).1.H = e.H := by
  obtain ⟨⟨X, hX, hXl, hXe⟩, ⟨O, hO, hOl⟩⟩ := hN
  have hXb : X < 2 ^ 4 := Nat.lt_of_lt_of_le hXl (Nat.pow_le_pow_right (by decide) hn.2)
  obtain ⟨⟨hok, hnp⟩, hft⟩ := ha
  unfold setO
  by_cases h2 : a.k = 2 ∧ 0 < a.c
  · rw [if_pos h2]
    have h3 := hok
    rw [h2.1] at h3
    obtain ⟨hc, hm, hn0⟩ := okAc_code h3 h2.2
    have hk := key_ok (e := e) (c := a.c) hm ⟨O, hO, hOl⟩
    refine ⟨⟨⟨?_, hnp⟩, hft⟩, ?_, ⟨⟨X, hX, hXl, hXe⟩, ⟨0, rfl, by decide⟩⟩, rfl, rfl, rfl, rfl⟩
    · show okAc a.k a.c (keyO e a.c a.m).2 a.n = true
      rw [h2.1, hn0]; exact okAc_of_code hc hk
    · show holdAc a.k a.c (keyO e a.c a.m).2 a.n = false
      rw [holdAc, h2.1]; simp
  · rw [if_neg h2]
    by_cases h4 : a.k = 4
    · rw [if_pos h4]
      rw [h4] at hok
      have hnn := okAc_tg hok
      obtain ⟨N, hNn⟩ : ∃ N : Nat, a.n = N := ⟨a.n.toNat, by omega⟩
      have hlt : N < e.L.length := by rcases hft with h | h; omega; omega
      have h5 : bits .xor .i64 e.x ((2 : Int) ^ a.n.toNat) = ((X ^^^ 2 ^ N : Nat) : Int) := by
        rw [hX, show a.n.toNat = N by omega, pow_nat]
        exact xor_nat X (2 ^ N) (by omega) (pow62 (by omega))
      exact ⟨⟨⟨by rw [h4]; exact hok, hnp⟩, hft⟩, hh, ⟨⟨_, h5, Nat.xor_lt_two_pow hXl (Nat.pow_lt_pow_right (by decide) hlt), even_xor hXe (by omega)⟩, ⟨O, hO, hOl⟩⟩, rfl, rfl, rfl, rfl⟩
    · rw [if_neg h4]
      by_cases h5 : a.k = 5
      · rw [if_pos h5]
        rw [h5] at hok
        have hnn := okAc_to hok
        obtain ⟨N, hNn⟩ : ∃ N : Nat, a.n = N := ⟨a.n.toNat, by omega⟩
        have hlt : N < e.L.length := by rcases hft with h | h; omega; omega
        obtain ⟨hev, hpl⟩ := to_even (N := N) (by omega)
        have h6 : bits .andNot .i64 ((2 : Int) ^ a.n.toNat) 1 = ((dif (2 ^ N) 1 : Nat) : Int) := by
          rw [show a.n.toNat = N by omega, pow_nat, show (1 : Int) = ((1 : Nat) : Int) from rfl]
          exact dif_nat (2 ^ N) 1 (pow62 (by omega)) (by decide)
        exact ⟨⟨⟨by rw [h5]; exact hok, hnp⟩, hft⟩, hh, ⟨⟨_, h6, Nat.lt_of_lt_of_le hpl (Nat.pow_le_pow_right (by decide) hlt), hev⟩, ⟨O, hO, hOl⟩⟩, rfl, rfl, rfl, rfl⟩
      · rw [if_neg h5]
        by_cases h8 : a.k = 8
        · rw [if_pos h8]
          rw [h8] at hok
          have hmm := okAc_once hok
          obtain ⟨M, hM⟩ : ∃ M : Nat, a.m = M := ⟨a.m.toNat, by omega⟩
          have ho : ∃ Q : Nat, (if bits .and .i64 e.o a.m = a.m then bits .andNot .i64 e.o a.m else bits .or .i64 e.o a.m) = Q ∧ Q < 16 := by
            rw [hO, hM]
            split
            · exact ⟨_, dif_nat O M (by omega) (by omega), dif_lt (n := 4) (by omega)⟩
            · exact ⟨_, or_nat O M (by omega) (by omega), Nat.or_lt_two_pow (n := 4) (by omega) (by omega)⟩
          exact ⟨⟨⟨by rw [h8]; exact hok, hnp⟩, hft⟩, hh, ⟨⟨X, hX, hXl, hXe⟩, ho⟩, rfl, rfl, rfl, rfl⟩
        · rw [if_neg h8]
          by_cases h10 : a.k = 10
          · rw [if_pos h10]; exact ⟨⟨⟨hok, hnp⟩, hft⟩, hh, ⟨⟨X, hX, hXl, hXe⟩, ⟨O, hO, hOl⟩⟩, rfl, rfl, rfl, rfl⟩
          · rw [if_neg h10]; exact ⟨⟨⟨hok, hnp⟩, hft⟩, hh, ⟨⟨X, hX, hXl, hXe⟩, ⟨O, hO, hOl⟩⟩, rfl, rfl, rfl, rfl⟩
theorem haI_none {H : List Hd} {key : Int} (h : haI H key < 0) : ∀ q, q < H.length → (hdD H q).h ≠ key := by
  intro q hq e
  have h1 : haH H key ≤ q := by
    unfold haH
    rcases Nat.lt_or_ge q (H.findIdx fun h => decide (h.h = key)) with h2 | h2
    · have := List.not_of_lt_findIdx h2
      rw [hdD, List.getD_eq_getElem?_getD, List.getElem?_eq_getElem hq] at e
      simp at this
      exact absurd e this
    · exact h2
  rw [haI, if_pos (by omega)] at h
  exact absurd h (by omega)
theorem hdOk_snoc {l : List Hd} {e : Hd} (h : HdOk l) (he : okOne e = true) (hne : ∀ i, i < l.length → (hdD l i).h ≠ e.h) : HdOk (l ++ [e]) := by
  obtain ⟨h1, h2⟩ := h
  refine ⟨fun i hi => ?_, fun i j hij hj => ?_⟩
  · rw [List.length_append, List.length_singleton] at hi
    rw [hdD_snoc l e i hi]
    split
    · exact h1 i (by assumption)
    · exact he
  · rw [List.length_append, List.length_singleton] at hj
    rw [hdD_snoc l e i (by omega), hdD_snoc l e j hj, if_pos (show i < l.length by omega)]
    split
    · exact h2 i j hij (by assumption)
    · exact hne i (by omega)
theorem hdD_erase (l : List Hd) (k i : Nat) : hdD (l.eraseIdx k) i = if i < k then hdD l i else hdD l (i + 1) := by
  rw [hdD, hdD, hdD, List.getD_eq_getElem?_getD, List.getD_eq_getElem?_getD, List.getD_eq_getElem?_getD, List.getElem?_eraseIdx]
  split <;> rfl
theorem hdOk_erase {l : List Hd} (h : HdOk l) (k : Nat) : HdOk (l.eraseIdx k) := by
  by_cases hk : k < l.length
  · have hl : (l.eraseIdx k).length = l.length - 1 := List.length_eraseIdx_of_lt hk
    obtain ⟨h1, h2⟩ := h
    refine ⟨fun i hi => ?_, fun i j hij hj => ?_⟩
    · rw [hdD_erase]; split
      · exact h1 i (by omega)
      · exact h1 (i + 1) (by omega)
    · rw [hdD_erase, hdD_erase]
      split
      · split
        · exact h2 i j hij (by omega)
        · exact h2 i (j + 1) (by omega) (by omega)
      · split
        · omega
        · exact h2 (i + 1) (j + 1) (by omega) (by omega)
  · rw [List.eraseIdx_of_length_le (by omega)]; exact h
/-- The action of a press. -/
theorem prsA_ok {e : En} {key : Int} (hold : Bool) (h : EnOk e) (hk : 0 ≤ key ∧ key < e.k) : AcE e.L.length (prsA e key hold) ∧ holdAc (prsA e key hold).k (prsA e key hold).c (prsA e key hold).m (prsA e key hold).n = false := by
  have hl := (okKm_at h.km).2.1
  have ha := atV_ok (onV e.x e.H : Nat) h.km hk
  rw [prsA]
  split
  · exact hold_ok hl.1 ha
  · exact tap_ok hl.1 ha
theorem prs_ok {e : En} {key : Int} (hold : Bool) (h : EnOk e) (hk : 0 ≤ key ∧ key < e.k) (hno : haI e.H key < 0) : EnOk (prsE e key hold) := by
  have hkm := okKm_at h.km
  obtain ⟨ha, hh⟩ := prsA_ok hold h hk
  obtain ⟨hb, hhb, ⟨hx, ho⟩, e1, e2, e3, _⟩ := set_ok hkm.2.1 ⟨h.fx, h.on⟩ ha hh
  have hone : okOne ⟨key, (setO e (prsA e key hold)).2.k, (setO e (prsA e key hold)).2.c, (setO e (prsA e key hold)).2.m, (setO e (prsA e key hold)).2.n⟩ = true := by
    have hb1 : inB key 0 31 = true := decide_eq_true ⟨hk.1, by omega⟩
    rw [okOne]
    simp only [hb1, hb.np.1, hhb, Bool.true_and, Bool.not_false, Bool.and_true, Bool.not_eq_true', decide_eq_false_iff_not]
    exact hb.np.2
  refine ⟨?_, ?_, hdOk_snoc h.hd hone (haI_none hno), ?_, ?_, ?_, ho⟩
  · show okKm (setO e (prsA e key hold)).1.k (setO e (prsA e key hold)).1.L = true
    rw [e1, e2]; exact h.km
  · show (setO e (prsA e key hold)).1.F.length ≤ 4
    rw [e3]; exact h.fl
  · show ∀ j, j < (setO e (prsA e key hold)).1.F.length → okMc (lD (setO e (prsA e key hold)).1.F j) = true
    rw [e3]; exact h.mc
  · intro j hj
    show (hdD (e.H ++ [_]) j).h < (setO e (prsA e key hold)).1.k ∧ ((hdD (e.H ++ [_]) j).k = 9 ∨ (hdD (e.H ++ [_]) j).n < (setO e (prsA e key hold)).1.L.length)
    rw [e1, e2]
    have hj2 : j < e.H.length + 1 := by simpa [prsE] using hj
    rw [hdD_snoc _ _ j hj2]
    split
    · exact h.ft j (by assumption)
    · exact ⟨hk.2, hb.ft⟩
  · show ∃ X : Nat, (setO e (prsA e key hold)).1.x = X ∧ X < 2 ^ (setO e (prsA e key hold)).1.L.length ∧ X % 2 = 0
    rw [e2]; exact hx
theorem rel_ok {e : En} (key : Int) (h : EnOk e) : EnOk (relE e key) := by
  refine ⟨h.km, h.fl, hdOk_erase h.hd _, h.mc, fun j hj => ?_, h.fx, h.on⟩
  show (hdD (e.H.eraseIdx _) j).h < e.k ∧ ((hdD (e.H.eraseIdx _) j).k = 9 ∨ (hdD (e.H.eraseIdx _) j).n < e.L.length)
  have hj2 : j < (e.H.eraseIdx (haH e.H key)).length := hj
  have hle := List.length_eraseIdx_le e.H (haH e.H key)
  rw [hdD_erase]
  split
  · exact h.ft j (by omega)
  · rename_i hjk
    have : (e.H.eraseIdx (haH e.H key)).length = e.H.length - 1 := List.length_eraseIdx_of_lt (by omega)
    exact h.ft (j + 1) (by omega)
theorem haH_snoc {H : List Hd} {n : Hd} (h : haI H n.h < 0) : haH (H ++ [n]) n.h = H.length := by
  have h1 := haI_none h
  have : haH H n.h = H.length := by
    rcases haI_cases H n.h with h2 | ⟨h2, _⟩
    · rw [haI] at h2
      split at h2
      · omega
      · have : haH H n.h ≤ H.length := List.findIdx_le_length
        omega
    · omega
  unfold haH at this ⊢
  rw [List.findIdx_append, this, if_neg (Nat.lt_irrefl _)]
  simp [List.findIdx_cons]
/-- A key that goes down and up leaves what is held as it was. -/
theorem prs_rel {e : En} {key : Int} (hold : Bool) (hno : haI e.H key < 0) : (relE (prsE e key hold) key).H = e.H := by
  show (e.H ++ [_]).eraseIdx (haH (e.H ++ [_]) key) = e.H
  have := haH_snoc (H := e.H) (n := ⟨key, (setO e (prsA e key hold)).2.k, (setO e (prsA e key hold)).2.c, (setO e (prsA e key hold)).2.m, (setO e (prsA e key hold)).2.n⟩) hno
  rw [this]
  simp [List.eraseIdx_append_of_length_le]
end Go.Proofs.YtjfckchoklepbaaGreat

namespace Go.Proofs.YtjfckchoklepbaaGreat
open Go.RowKit

/-- The last report told, or the one before all if none is. -/
theorem chg_last : ∀ (l : List Rv) (a r : Rv), (chgV a (l ++ [r])).getLast?.getD a = r
  | [], a, r => by
    rw [List.nil_append, chgV]
    by_cases h : r = a
    · rw [if_pos h, chgV]; exact h.symm
    · rw [if_neg h, chgV]; rfl
  | x :: l, a, r => by
    have ih := chg_last l x r
    rw [List.cons_append, chgV]
    by_cases h : x = a
    · rw [if_pos h, ← h]; exact ih
    · rw [if_neg h]
      rcases hc : chgV x (l ++ [r]) with _ | ⟨y, t⟩
      · rw [hc] at ih; exact ih
      · rw [hc] at ih
        rw [List.getLast?_cons_cons]
        rw [List.getLast?_eq_some_getLast (List.cons_ne_nil y t)] at ih ⊢
        exact ih
theorem chg_len : ∀ (l : List Rv) (a : Rv), (chgV a l).length ≤ l.length
  | [], _ => Nat.le_refl _
  | x :: l, a => by
    rw [chgV]
    split
    · have := chg_len l x; rw [List.length_cons]; omega
    · rw [List.length_cons, List.length_cons]; have := chg_len l x; omega
theorem chg_mem : ∀ (l : List Rv) (a : Rv), ∀ r ∈ chgV a l, r ∈ l
  | [], _, r, h => by simp [chgV] at h
  | x :: l, a, r, h => by
    rw [chgV] at h
    split at h
    · exact List.mem_cons_of_mem _ (chg_mem l x r h)
    · rcases List.mem_cons.1 h with rfl | h
      · exact List.mem_cons_self
      · exact List.mem_cons_of_mem _ (chg_mem l x r h)
/-- A release tells one report that is another one, or none. -/
theorem rel_reports (e : En) (key : Int) : (relR e key = [] ∧ repV (relE e key).H = repV e.H) ∨ (relR e key = [repV (relE e key).H] ∧ repV (relE e key).H ≠ repV e.H) := by
  rw [relR, chgV]
  by_cases h : repV (relE e key).H = repV e.H
  · rw [if_pos h, chgV]; exact .inl ⟨rfl, h⟩
  · rw [if_neg h, chgV]; exact .inr ⟨rfl, h⟩
/-- The last report of a press is that of what is held. -/
theorem prs_last (e : En) (key : Int) (hold : Bool) : (prsR e key hold).getLast?.getD (repV e.H) = repV (prsE e key hold).H := chg_last _ _ _

/-- What i keys that are tapped lead to. -/
def tapN (e : En) (ks : List Int) : Nat → Option (En × List Rv)
  | 0 => some (e, [])
  | i + 1 => (tapN e ks i).bind fun p =>
    if (prsB p.1 (ks.getD i 0) && relB (prsE p.1 (ks.getD i 0) false) (ks.getD i 0)) = true then
      some (relE (prsE p.1 (ks.getD i 0) false) (ks.getD i 0), (p.2 ++ prsR p.1 (ks.getD i 0) false) ++ relR (prsE p.1 (ks.getD i 0) false) (ks.getD i 0)) else none
def en0 : En := ⟨0, [], [], 0, [], 0, false⟩
structure Tpr where
  e : En
  l : List Rv
  b : Bool
def tapV (e : En) (ks : List Int) : Tpr :=
  match tapN e ks ks.length with
  | some (x, l) => if okEn x = true then ⟨x, l, true⟩ else ⟨en0, [], false⟩
  | none => ⟨en0, [], false⟩
theorem tapN_no {e : En} {ks : List Int} {i : Nat} (h : tapN e ks i = none) : ∀ m, i ≤ m → tapN e ks m = none
  | 0, hm => by
    have : i = 0 := by omega
    subst this; exact h
  | m + 1, hm => by
    rcases Nat.lt_or_ge i (m + 1) with h2 | h2
    · rw [tapN, tapN_no h m (by omega)]; rfl
    · obtain rfl : i = m + 1 := by omega
      exact h
theorem prsB_iff {e : En} {key : Int} : prsB e key = true ↔ EnOk e ∧ (0 ≤ key ∧ key < e.k) ∧ haI e.H key < 0 := by
  rw [prsB, Bool.and_eq_true, Bool.and_eq_true, okEn_iff, decide_eq_true_eq]
  constructor
  · rintro ⟨h1, h2, h3⟩
    have := of_decide_eq_true h2
    exact ⟨h1, by omega, h3⟩
  · rintro ⟨h1, h2, h3⟩
    exact ⟨h1, decide_eq_true (by omega), h3⟩
theorem relB_iff {e : En} {key : Int} : relB e key = true ↔ EnOk e ∧ 0 ≤ haI e.H key := by
  rw [relB, Bool.and_eq_true, okEn_iff, decide_eq_true_eq]
/-- A tap that begins well leads to a valid engine with the same held keys. -/
theorem tap_good {e : En} {key : Int} (h : prsB e key = true) : relB (prsE e key false) key = true ∧ EnOk (relE (prsE e key false) key) ∧ (relE (prsE e key false) key).H = e.H := by
  obtain ⟨h1, h2, h3⟩ := prsB_iff.1 h
  have hp := prs_ok false h1 h2 h3
  have hs := haH_snoc (H := e.H) (n := ⟨key, (setO e (prsA e key false)).2.k, (setO e (prsA e key false)).2.c, (setO e (prsA e key false)).2.m, (setO e (prsA e key false)).2.n⟩) h3
  have h4 : 0 ≤ haI (prsE e key false).H key := by
    show 0 ≤ haI (e.H ++ [_]) key
    rw [haI]
    rw [if_pos (by simp only [] at hs; rw [hs, List.length_append, List.length_singleton]; omega)]
    exact Int.natCast_nonneg _
  exact ⟨relB_iff.2 ⟨hp, h4⟩, rel_ok key hp, prs_rel false h3⟩
theorem haI_gone {H : List Hd} {key : Int} (hH : HdOk H) (h : 0 ≤ haI H key) : haI (H.eraseIdx (haH H key)) key < 0 := by
  rcases haI_cases H key with h1 | ⟨h1, hlt⟩
  · omega
  · have hkey : (hdD H (haH H key)).h = key := by
      have := List.findIdx_getElem (p := fun h : Hd => decide (h.h = key)) (xs := H) (w := hlt)
      rw [hdD, List.getD_eq_getElem?_getD, List.getElem?_eq_getElem hlt]
      exact of_decide_eq_true this
    have hl : (H.eraseIdx (haH H key)).length = H.length - 1 := List.length_eraseIdx_of_lt hlt
    have hno : ∀ q, q < (H.eraseIdx (haH H key)).length → (hdD (H.eraseIdx (haH H key)) q).h ≠ key := fun q hq => by
      obtain ⟨p, hp⟩ : ∃ p, p = haH H key := ⟨_, rfl⟩
      rw [← hp] at hkey hlt hl hq ⊢
      rw [hdD_erase, ← hkey]
      split
      · exact hH.2 q p (by omega) hlt
      · exact fun e => hH.2 p (q + 1) (by omega) (by omega) e.symm
    rw [haI_no hno]; decide
theorem repV_nil : repV [] = (0, []) := by
  rw [repV, rofM, rofK]
  have : okHd [] = true := rfl
  rw [this]
  rfl
end Go.Proofs.YtjfckchoklepbaaGreat

namespace Go.Proofs.YtjfckchoklepbaaGreat
open Go.RowKit

theorem dif2_small : ∀ m : Fin 16, dif m.val 2 = 0 → (2 &&& m.val = m.val ∧ (m.val = 0 ∨ m.val = 2)) := by decide
theorem wait_small : ∀ M O : Fin 16, M.val ≠ 0 →
    ((if O.val &&& M.val = M.val then dif O.val M.val else O.val ||| M.val) &&& M.val = 0 ∨ (if O.val &&& M.val = M.val then dif O.val M.val else O.val ||| M.val) &&& M.val = M.val) ∧
    (if O.val &&& M.val = M.val then dif O.val M.val else O.val ||| M.val) ≠ O.val ∧
    ((O.val &&& M.val = 0 ∨ O.val &&& M.val = M.val) →
      (if (if O.val &&& M.val = M.val then dif O.val M.val else O.val ||| M.val) &&& M.val = M.val then dif (if O.val &&& M.val = M.val then dif O.val M.val else O.val ||| M.val) M.val
        else (if O.val &&& M.val = M.val then dif O.val M.val else O.val ||| M.val) ||| M.val) = O.val) := by decide
/-- The modifiers that a once action leaves waiting, on numbers. -/
def onceN (O M : Nat) : Nat := if O &&& M = M then dif O M else O ||| M
theorem onceN_lt {O M : Nat} (hO : O < 16) (hM : M < 16) : onceN O M < 16 := by
  rw [onceN]; split
  · exact dif_lt (n := 4) hO
  · exact Nat.or_lt_two_pow (n := 4) hO hM
theorem onceN_all {O M : Nat} (hO : O < 16) (hM : M < 16) (h0 : M ≠ 0) : (onceN O M &&& M = 0 ∨ onceN O M &&& M = M) ∧ onceN O M ≠ O ∧ ((O &&& M = 0 ∨ O &&& M = M) → onceN (onceN O M) M = O) :=
  wait_small ⟨M, hM⟩ ⟨O, hO⟩ h0
theorem onceI {O M : Nat} (hO : O < 16) (hM : M < 16) : (if bits .and .i64 (O : Int) (M : Int) = (M : Int) then bits .andNot .i64 (O : Int) (M : Int) else bits .or .i64 (O : Int) (M : Int)) = ((onceN O M : Nat) : Int) := by
  have h1 := and_nat O M (by omega) (by omega)
  have h2 := dif_nat O M (by omega) (by omega)
  have h3 := or_nat O M (by omega) (by omega)
  rw [h1, h2, h3, onceN]
  by_cases h : O &&& M = M
  · rw [if_pos h, if_pos (by rw [h])]
  · rw [if_neg h, if_neg (by omega)]
/-- The numbers of a code with modifiers, as natural numbers. -/
theorem key_nums {e : En} {a : Ac} {n : Nat} (hN : NumOk n e.x e.o) (ha : AcNp a) (h2 : a.k = 2 ∧ 0 < a.c) : ∃ M O : Nat, a.m = M ∧ e.o = O ∧ M < 16 ∧ O < 16 ∧ (1 ≤ a.c ∧ a.c ≤ 56) ∧ bits .or .i64 a.m e.o = ((M ||| O : Nat) : Int) ∧ M ||| O < 16 := by
  obtain ⟨_, O, hO, hOl⟩ := hN
  have h3 := ha.1
  rw [h2.1] at h3
  obtain ⟨hc, hm, _⟩ := okAc_code h3 h2.2
  obtain ⟨M, hM⟩ : ∃ M : Nat, a.m = M := ⟨a.m.toNat, by omega⟩
  exact ⟨M, O, hM, hO, by omega, hOl, hc, by rw [hM, hO]; exact or_nat M O (by omega) (by omega), Nat.or_lt_two_pow (n := 4) (by omega) (by omega)⟩
theorem andNot2 {m : Nat} (h : m < 16) : bits .andNot .i64 (m : Int) 2 = ((dif m 2 : Nat) : Int) := by
  rw [show (2 : Int) = ((2 : Nat) : Int) from rfl]; exact dif_nat m 2 (by omega) (by decide)
theorem once_code {e : En} {a : Ac} {n : Nat} (hN : NumOk n e.x e.o) (ha : AcNp a) (h2 : a.k = 2 ∧ 0 < a.c) :
    (setO e a).1.o = 0 ∧ (setO e a).2.c = a.c ∧ bits .and .i64 (setO e a).2.m (bits .or .i64 a.m e.o) = bits .or .i64 a.m e.o := by
  obtain ⟨M, O, hM, hO, hMl, hOl, hc, hor, hlt⟩ := key_nums hN ha h2
  unfold setO
  rw [if_pos h2]
  refine ⟨rfl, rfl, ?_⟩
  show bits .and .i64 (keyO e a.c a.m).2 (bits .or .i64 a.m e.o) = bits .or .i64 a.m e.o
  unfold keyO
  simp only [hor]
  split
  · rename_i hcond
    simp only [Bool.and_eq_true, decide_eq_true_eq] at hcond
    have h5 := hcond.2.2
    rw [andNot2 hlt] at h5
    have h6 := (dif2_small ⟨M ||| O, hlt⟩ (by show dif (M ||| O) 2 = 0; omega)).1
    rw [show (2 : Int) = ((2 : Nat) : Int) from rfl, and_nat 2 (M ||| O) (by decide) (by omega)]
    exact congrArg _ h6
  · rw [and_nat (M ||| O) (M ||| O) (by omega) (by omega), Nat.and_self]
theorem once_other {e : En} {a : Ac} (h2 : ¬ (a.k = 2 ∧ 0 < a.c)) (h8 : a.k ≠ 8) : (setO e a).1.o = e.o ∧ (setO e a).2 = a := by
  unfold setO
  rw [if_neg h2]
  by_cases h4 : a.k = 4
  · rw [if_pos h4]; exact ⟨rfl, rfl⟩
  · rw [if_neg h4]
    by_cases h5 : a.k = 5
    · rw [if_pos h5]; exact ⟨rfl, rfl⟩
    · rw [if_neg h5, if_neg h8]
      by_cases h10 : a.k = 10
      · rw [if_pos h10]; exact ⟨rfl, rfl⟩
      · rw [if_neg h10]; exact ⟨rfl, rfl⟩
theorem once_wait {e : En} {a : Ac} {n : Nat} (hN : NumOk n e.x e.o) (ha : AcNp a) (h8 : a.k = 8) : ∃ M O : Nat, a.m = M ∧ e.o = O ∧ 0 < M ∧ M < 16 ∧ O < 16 ∧ (setO e a).1.o = (onceN O M : Nat) ∧ (setO e a).2 = a ∧ (setO e a).1.x = e.x := by
  obtain ⟨_, O, hO, hOl⟩ := hN
  have h3 := ha.1
  rw [h8] at h3
  have hm := okAc_once h3
  obtain ⟨M, hM⟩ : ∃ M : Nat, a.m = M := ⟨a.m.toNat, by omega⟩
  refine ⟨M, O, hM, hO, by omega, by omega, hOl, ?_⟩
  unfold setO
  rw [if_neg (by omega), if_neg (by omega), if_neg (by omega), if_pos h8]
  refine ⟨?_, rfl, rfl⟩
  show (if bits .and .i64 e.o a.m = a.m then bits .andNot .i64 e.o a.m else bits .or .i64 e.o a.m) = _
  rw [hM, hO]
  exact onceI hOl (by omega)
theorem caps_code {e : En} {a : Ac} {n : Nat} (hN : NumOk n e.x e.o) (ha : AcNp a) (hp : e.p = true) (h2 : a.k = 2 ∧ 0 < a.c) :
    ((a.c ≤ 26 ∧ (bits .or .i64 a.m e.o = 0 ∨ bits .or .i64 a.m e.o = 2)) → (setO e a).1.p = true ∧ (setO e a).2.m = 2) ∧
    (¬ (a.c ≤ 26 ∧ (bits .or .i64 a.m e.o = 0 ∨ bits .or .i64 a.m e.o = 2)) → (setO e a).2.m = bits .or .i64 a.m e.o ∧ (setO e a).1.p = wordC a.c) := by
  obtain ⟨M, O, hM, hO, hMl, hOl, hc, hor, hlt⟩ := key_nums hN ha h2
  unfold setO
  rw [if_pos h2]
  show (_ → (keyO e a.c a.m).1.p = true ∧ (keyO e a.c a.m).2 = 2) ∧ (_ → (keyO e a.c a.m).2 = _ ∧ (keyO e a.c a.m).1.p = wordC a.c)
  unfold keyO
  simp only [hor, hp, Bool.true_and, andNot2 hlt]
  constructor
  · rintro ⟨h26, hmods⟩
    have hw : wordC a.c = true := by rw [wordC, show inB a.c 1 36 = true from decide_eq_true (by omega), Bool.true_or]
    have hd : dif (M ||| O) 2 = 0 := by
      rcases hmods with h | h
      · rw [show M ||| O = 0 by omega]; rfl
      · rw [show M ||| O = 2 by omega]; rfl
    rw [hw, hd]
    exact ⟨rfl, by rw [if_pos (by rw [decide_eq_true h26]; rfl)]⟩
  · intro hno
    refine ⟨?_, by first | rfl | trivial⟩
    rw [if_neg]
    intro hcond
    simp only [Bool.and_eq_true, decide_eq_true_eq] at hcond
    have h6 := (dif2_small ⟨M ||| O, hlt⟩ (by show dif (M ||| O) 2 = 0; omega)).2
    exact hno ⟨hcond.2.1, by rcases h6 with h | h; exact .inl (by simp only at h; omega); exact .inr (by simp only at h; omega)⟩
theorem caps_other {e : En} {a : Ac} (h2 : ¬ (a.k = 2 ∧ 0 < a.c)) (h10 : a.k ≠ 10) : (setO e a).1.p = e.p := by
  unfold setO
  rw [if_neg h2]
  by_cases h4 : a.k = 4
  · rw [if_pos h4]
  · rw [if_neg h4]
    by_cases h5 : a.k = 5
    · rw [if_pos h5]
    · rw [if_neg h5]
      by_cases h8 : a.k = 8
      · rw [if_pos h8]
      · rw [if_neg h8, if_neg h10]
theorem caps_turn {e : En} {a : Ac} (h10 : a.k = 10) : (setO e a).1.p = !e.p := by
  unfold setO
  rw [if_neg (by omega), if_neg (by omega), if_neg (by omega), if_neg (by omega), if_pos h10]
theorem setO_2 (e : En) (a : Ac) : (setO e a).2 = ⟨a.k, a.c, (setO e a).2.m, a.n⟩ := by
  obtain ⟨k, c, m, n⟩ := a
  unfold setO
  simp only
  (repeat' split) <;> rfl
theorem setO_1 (e : En) (a : Ac) : (setO e a).1 = ⟨e.k, e.L, e.F, (setO e a).1.x, e.H, (setO e a).1.o, (setO e a).1.p⟩ := by
  obtain ⟨k, c, m, n⟩ := a
  obtain ⟨ek, eL, eF, ex, eH, eo, ep⟩ := e
  unfold setO keyO
  simp only
  (repeat' split) <;> rfl
end Go.Proofs.YtjfckchoklepbaaGreat

namespace Go.Proofs.YtjfckchoklepbaaGreat
open Go.RowKit

theorem nodup_len : ∀ (n : Nat) (l : List Nat), l.Nodup → (∀ x ∈ l, x < n) → l.length ≤ n
  | 0, l, _, h => by
    cases l with
    | nil => exact Nat.le_refl _
    | cons a l => exact absurd (h a List.mem_cons_self) (Nat.not_lt_zero _)
  | n + 1, l, hn, h => by
    by_cases hm : n ∈ l
    · have h1 := List.length_erase_of_mem hm
      have h2 := nodup_len n (l.erase n) (hn.erase n) (fun x hx => by
        have h3 := (hn.mem_erase_iff).1 hx
        have := h x h3.2
        omega)
      omega
    · exact Nat.le_succ_of_le (nodup_len n l hn fun x hx => by
        have := h x hx
        have : x ≠ n := fun e => hm (e ▸ hx)
        omega)
theorem hdOk_len {H : List Hd} (h : HdOk H) : H.length ≤ 32 := by
  have h1 : (H.map fun x => x.h.toNat).Nodup := by
    rw [List.nodup_iff_pairwise_ne]
    refine List.pairwise_iff_getElem.2 fun i j hi hj hij => ?_
    rw [List.length_map] at hi hj
    rw [List.getElem_map, List.getElem_map]
    have e1 := h.1 i hi
    have e2 := h.1 j hj
    have e3 := h.2 i j hij hj
    simp only [hdD, List.getD_eq_getElem?_getD, List.getElem?_eq_getElem hi, List.getElem?_eq_getElem hj, Option.getD_some, okOne, Bool.and_eq_true, inB, decide_eq_true_eq] at e1 e2 e3
    intro e
    exact e3 (by omega)
  have h2 : ∀ x ∈ H.map (fun x => x.h.toNat), x < 32 := by
    intro x hx
    obtain ⟨y, hy, rfl⟩ := List.mem_map.1 hx
    obtain ⟨i, hi, rfl⟩ := List.getElem_of_mem hy
    have e1 := h.1 i hi
    simp only [hdD, List.getD_eq_getElem?_getD, List.getElem?_eq_getElem hi, Option.getD_some, okOne, Bool.and_eq_true, inB, decide_eq_true_eq] at e1
    omega
  have := nodup_len 32 _ h1 h2
  simpa using this

end Go.Proofs.YtjfckchoklepbaaGreat
