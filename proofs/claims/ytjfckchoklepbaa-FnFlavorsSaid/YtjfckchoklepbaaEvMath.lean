/- DERIVED. Plain facts on valid events: one more event behind valid ones; the ups behind them; the changes of masks. · How many keys a mask has: the laws' count. -/
import Derived.Test.YtjfckchoklepbaaEvSpec3
namespace Go.Proofs.Ytjfckchoklepbaa
open Go.RowKit

theorem evD_app (l m : List Ev) (j : Nat) (h : j < l.length) : evD (l ++ m) j = evD l j := by
  unfold evD
  rw [List.getD_eq_getElem?_getD, List.getElem?_append_left h, ← List.getD_eq_getElem?_getD]
theorem evD_last (l : List Ev) (e : Ev) : evD (l ++ [e]) l.length = e := by
  unfold evD
  rw [List.getD_eq_getElem?_getD, List.getElem?_append_right (Nat.le_refl _)]
  simp
theorem heldN_app (l m : List Ev) : ∀ j, j ≤ l.length → heldN (l ++ m) j = heldN l j
  | 0, _ => rfl
  | j + 1, h => by rw [heldN, heldN, heldN_app l m j (by omega), evD_app l m j (by omega)]
theorem okAt_app (l m : List Ev) (j : Nat) (h : j < l.length) : okAt (l ++ m) j = okAt l j := by
  unfold okAt
  rw [evD_app l m j h, evD_app l m (j - 1) (by omega), heldN_app l m j (by omega)]
theorem okEvN_app (l m : List Ev) : ∀ n, n ≤ l.length → okEvN (l ++ m) n = okEvN l n
  | 0, _ => rfl
  | n + 1, h => by rw [okEvN, okEvN, okEvN_app l m n (by omega), okAt_app l m n (by omega)]
/-- Valid events, behind which the keys of h are held, the last no later than T. -/
structure Fine (l : List Ev) (h : Nat) (T : Int) : Prop where
  ok : okEvN l l.length = true
  held : heldN l l.length = h
  last : 0 < l.length → (evD l (l.length - 1)).t ≤ T
theorem Fine.nil (T : Int) : Fine [] 0 T := ⟨rfl, rfl, fun h => absurd h (Nat.lt_irrefl _)⟩
theorem Fine.mono {l : List Ev} {h : Nat} {T T' : Int} (f : Fine l h T) (hT : T ≤ T') : Fine l h T' := ⟨f.ok, f.held, fun h => Int.le_trans (f.last h) hT⟩
theorem Fine.snoc {l : List Ev} {h : Nat} {T : Int} {e : Ev} (f : Fine l h T) (he : okEv e = true) (hT : T ≤ e.t) (hd : e.d = !h.testBit e.k.toNat) : Fine (l ++ [e]) (h ^^^ 2 ^ e.k.toNat) e.t := by
  have hl : (l ++ [e]).length = l.length + 1 := by simp
  refine ⟨?_, ?_, fun _ => ?_⟩
  · rw [hl, okEvN, okEvN_app l [e] _ (Nat.le_refl _), f.ok, Bool.true_and]
    unfold okAt
    rw [evD_last, he, heldN_app l [e] _ (Nat.le_refl _), f.held, hd]
    have h1 : (decide (0 < l.length) && decide (e.t < (evD (l ++ [e]) (l.length - 1)).t)) = false := by
      rcases Nat.eq_zero_or_pos l.length with h0 | hp
      · rw [h0]; rfl
      · rw [evD_app l [e] _ (by omega)]
        have := f.last hp
        rw [decide_eq_false (p := e.t < (evD l (l.length - 1)).t) (by omega), Bool.and_false]
    rw [h1]
    cases h.testBit e.k.toNat <;> rfl
  · rw [hl, heldN, heldN_app l [e] _ (Nat.le_refl _), f.held, evD_last]
  · rw [hl, Nat.add_sub_cancel, evD_last]
    exact Int.le_refl _
theorem Fine.evs {l : List Ev} {h : Nat} {T : Int} (f : Fine l h T) (hl : l.length ≤ 64) : okEvs l = true ∧ heldV l = h := by
  have h1 : okEvs l = true := by unfold okEvs; rw [f.ok, decide_eq_true hl]; rfl
  exact ⟨h1, by rw [heldV, if_pos h1, f.held]⟩
theorem Fine.of {l : List Ev} (h : okEvs l = true) {T : Int} (hT : 0 < l.length → (evD l (l.length - 1)).t ≤ T) : Fine l (heldV l) T := by
  have h1 := h
  unfold okEvs at h1
  rw [Bool.and_eq_true] at h1
  exact ⟨h1.1, by rw [heldV, if_pos h], hT⟩
theorem bit_clear (h k i : Nat) (hb : h.testBit k = true) (hlow : ∀ i, i < k → h.testBit i = false) : (h ^^^ 2 ^ k).testBit i = (h.testBit i && decide (k + 1 ≤ i)) := by
  rw [Nat.testBit_xor, Nat.testBit_two_pow]
  rcases Nat.lt_trichotomy i k with hi | hi | hi
  · rw [hlow i hi, decide_eq_false (by omega)]; rfl
  · subst hi; rw [hb, decide_eq_true rfl, decide_eq_false (by omega)]; rfl
  · rw [decide_eq_false (p := k = i) (by omega), decide_eq_true (p := k + 1 ≤ i) (by omega)]; cases h.testBit i <;> rfl
/-- The ups of the keys that are held, behind valid events. -/
theorem ups_fine {l : List Ev} {h : Nat} {T : Int} (f : Fine l h T) (h0 : 0 ≤ T) (h1 : T ≤ 1000000) : ∀ n, n ≤ 32 → ∃ g, Fine (l ++ upsN h T n) g T ∧ ∀ i, g.testBit i = (h.testBit i && decide (n ≤ i))
  | 0, _ => ⟨h, by simpa [upsN] using f, fun i => by simp⟩
  | n + 1, hn => by
    obtain ⟨g, fg, hg⟩ := ups_fine f h0 h1 n (by omega)
    rw [upsN]
    by_cases hb : h.testBit n = true
    · rw [if_pos hb, ← List.append_assoc]
      have hgn : g.testBit n = true := by rw [hg, hb, decide_eq_true (Nat.le_refl n)]; rfl
      have hlow : ∀ i, i < n → g.testBit i = false := fun i hi => by rw [hg, decide_eq_false (by omega), Bool.and_false]
      have hk : (⟨T, (n : Int), false⟩ : Ev).k.toNat = n := rfl
      have := fg.snoc (e := ⟨T, n, false⟩) (by
        unfold okEv inB
        rw [decide_eq_true ⟨h0, h1⟩, decide_eq_true ⟨by show (0 : Int) ≤ (n : Int); omega, by show (n : Int) ≤ 31; omega⟩]; rfl) (Int.le_refl _) (by rw [hk, hgn]; rfl)
      rw [hk] at this
      refine ⟨_, this, fun i => ?_⟩
      rw [bit_clear g n i hgn hlow, hg]
      rcases Nat.lt_or_ge i (n + 1) with hi | hi
      · rw [decide_eq_false (p := n + 1 ≤ i) (by omega), Bool.and_false, Bool.and_false]
      · rw [decide_eq_true (p := n + 1 ≤ i) hi, decide_eq_true (p := n ≤ i) (by omega), Bool.and_true, Bool.and_true]
    · rw [if_neg hb]
      refine ⟨g, fg, fun i => ?_⟩
      rw [hg]
      rcases Nat.lt_trichotomy i n with hi | hi | hi
      · rw [decide_eq_false (by omega), decide_eq_false (by omega)]
      · subst hi; rw [Bool.not_eq_true] at hb; rw [hb]; rfl
      · rw [decide_eq_true (by omega), decide_eq_true (by omega)]
/-- All keys are up behind the ups that are missing. -/
theorem rel_fine {l : List Ev} (h : okEvs l = true) {T : Int} (h0 : 0 ≤ T) (h1 : T ≤ 1000000) (hT : 0 < l.length → (evD l (l.length - 1)).t ≤ T) (hn : (relEvs l T).length ≤ 64) :
    relREvs l T = (relEvs l T, true) ∧ heldV (relEvs l T) = 0 := by
  obtain ⟨g, fg, hg⟩ := ups_fine (Fine.of h hT) h0 h1 32 (Nat.le_refl _)
  have hg0 : g = 0 := by
    apply Nat.eq_of_testBit_eq
    intro i
    rw [hg, Nat.zero_testBit]
    rcases Nat.lt_or_ge i 32 with hi | hi
    · rw [decide_eq_false (by omega), Bool.and_false]
    · rw [Nat.testBit_lt_two_pow (Nat.lt_of_lt_of_le (heldV_lt l) (Nat.pow_le_pow_right (by decide) hi)), Bool.false_and]
  subst hg0
  obtain ⟨r1, r2⟩ := fg.evs hn
  have hok : relOkEvs l T = true := by
    unfold relOkEvs
    have h2 : (decide (0 < l.length) && decide (T < (evD l (l.length - 1)).t)) = false := by
      rcases Nat.eq_zero_or_pos l.length with h3 | hp
      · rw [h3]; rfl
      · have := hT hp
        rw [decide_eq_false (p := T < (evD l (l.length - 1)).t) (by omega), Bool.and_false]
    rw [h, h2]
    show (true && (okEvs (l ++ upsN (heldV l) T 32) && (inB T 0 1000000 && !false))) = true
    rw [r1]
    unfold inB
    rw [decide_eq_true ⟨h0, h1⟩]; rfl
  exact ⟨by rw [relREvs, if_pos hok], r2⟩

/-! The changes of masks are valid events, and their masks are the masks. -/
theorem bz_nat (a k : Nat) (ha : a < 2 ^ 62) : bz (a : Int) k = if a.testBit k = true then 1 else 0 := by
  have h := hz_nat a k ha
  have h2 := bz01 (a : Int) k
  unfold hz at h
  cases hb : a.testBit k
  · rw [hb] at h
    have : ¬ bz (a : Int) k = 1 := of_decide_eq_false h
    rw [if_neg (by simp)]; omega
  · rw [hb] at h
    rw [if_pos rfl]; exact of_decide_eq_true h
theorem evAt_time (last z : Int) (i : Nat) : ∀ n, ∀ e ∈ evAt last z i n, e.t = i
  | 0, e, h => by simp [evAt] at h
  | n + 1, e, h => by
    rw [evAt] at h
    split at h
    · exact evAt_time last z i n e h
    · rcases List.mem_append.1 h with h | h
      · exact evAt_time last z i n e h
      · rw [List.mem_singleton.1 h]
theorem at_fine {l : List Ev} {p z j : Nat} (f : Fine l p j) (hp : p < 2 ^ 32) (hz' : z < 2 ^ 32) (hj : j ≤ 1000000) : ∀ n, n ≤ 32 → ∃ g, Fine (l ++ evAt p z j n) g j ∧ ∀ i, g.testBit i = if i < n then z.testBit i else p.testBit i
  | 0, _ => ⟨p, by simpa [evAt] using f, fun i => by simp⟩
  | n + 1, hn => by
    obtain ⟨g, fg, hg⟩ := at_fine f hp hz' hj n (by omega)
    have hp2 : p < 2 ^ 62 := Nat.lt_of_lt_of_le hp (by decide)
    have hz2 : z < 2 ^ 62 := Nat.lt_of_lt_of_le hz' (by decide)
    have hiff : bz (z : Int) n = bz (p : Int) n ↔ z.testBit n = p.testBit n := by
      rw [bz_nat z n hz2, bz_nat p n hp2]
      cases z.testBit n <;> cases p.testBit n <;> simp
    rw [evAt]
    by_cases hb : z.testBit n = p.testBit n
    · rw [if_pos (hiff.2 hb)]
      refine ⟨g, fg, fun i => ?_⟩
      rw [hg]
      rcases Nat.lt_trichotomy i n with hi | hi | hi
      · rw [if_pos hi, if_pos (by omega)]
      · subst hi; rw [if_neg (by omega), if_pos (by omega), hb]
      · rw [if_neg (by omega), if_neg (by omega)]
    · rw [if_neg (fun h => hb (hiff.1 h)), ← List.append_assoc]
      have hgn : g.testBit n = p.testBit n := by rw [hg, if_neg (by omega)]
      have hne : z.testBit n = !p.testBit n := by revert hb; cases z.testBit n <;> cases p.testBit n <;> simp
      have := fg.snoc (e := ⟨(j : Int), (n : Int), hz (z : Int) n⟩) (by
        unfold okEv inB
        rw [decide_eq_true (p := (0 : Int) ≤ (j : Int) ∧ (j : Int) ≤ 1000000) ⟨by omega, by omega⟩, decide_eq_true (p := (0 : Int) ≤ (n : Int) ∧ (n : Int) ≤ 31) ⟨by omega, by omega⟩]; rfl) (Int.le_refl _) (by
        show hz (z : Int) n = !g.testBit (n : Int).toNat
        rw [Int.toNat_natCast, hgn, hz_nat z n hz2, hne])
      have hk : ((⟨(j : Int), (n : Int), hz (z : Int) n⟩ : Ev)).k.toNat = n := rfl
      rw [hk] at this
      refine ⟨_, this, fun i => ?_⟩
      rw [Nat.testBit_xor, Nat.testBit_two_pow, hg]
      rcases Nat.lt_trichotomy i n with hi | hi | hi
      · rw [if_pos hi, if_pos (by omega), decide_eq_false (by omega), Bool.xor_false]
      · subst hi; rw [if_neg (by omega), if_pos (by omega), decide_eq_true rfl, hne, Bool.xor_true]
      · rw [if_neg (by omega), if_neg (by omega), decide_eq_false (by omega), Bool.xor_false]
theorem evN_fine {zs : List Int} (hz : ∀ i, i < zs.length → 0 ≤ zs.getD i 0 ∧ zs.getD i 0 ≤ 4294967295) (hl : zs.length ≤ 200) : ∀ j, j ≤ zs.length → ∃ g : Nat, prevZ zs j = g ∧ g < 2 ^ 32 ∧ Fine (evN zs j) g j
  | 0, _ => ⟨0, rfl, by decide, Fine.nil _⟩
  | j + 1, hj => by
    obtain ⟨p, hp, hpl, f⟩ := evN_fine hz hl j (by omega)
    obtain ⟨h0, h1⟩ := hz j (by omega)
    obtain ⟨z, hzz⟩ := Int.eq_ofNat_of_zero_le h0
    have hzl : z < 2 ^ 32 := by
      have : (2 : Nat) ^ 32 = 4294967296 := rfl
      omega
    obtain ⟨g, fg, hg⟩ := at_fine (z := z) f hpl hzl (by omega) 32 (Nat.le_refl _)
    have hgz : g = z := by
      apply Nat.eq_of_testBit_eq
      intro i
      rw [hg]
      by_cases hi : i < 32
      · rw [if_pos hi]
      · have h2 : (2 : Nat) ^ 32 ≤ 2 ^ i := Nat.pow_le_pow_right (by decide) (by omega)
        rw [if_neg hi, Nat.testBit_lt_two_pow (Nat.lt_of_lt_of_le hpl h2), Nat.testBit_lt_two_pow (Nat.lt_of_lt_of_le hzl h2)]
    subst hgz
    refine ⟨g, hzz, hzl, ?_⟩
    rw [evN, hp, hzz]
    exact fg.mono (by omega)
theorem evN_split (zs : List Int) (m : Nat) : ∀ n, m ≤ n → ∃ r, evN zs n = evN zs m ++ r ∧ ∀ e ∈ r, (m : Int) ≤ e.t
  | 0, h => ⟨[], by obtain rfl : m = 0 := by omega
                    simp, fun e he => by simp at he⟩
  | n + 1, h => by
    by_cases hm : m = n + 1
    · subst hm; exact ⟨[], by simp, fun e he => by simp at he⟩
    · obtain ⟨r, h1, h2⟩ := evN_split zs m n (by omega)
      refine ⟨r ++ evAt (prevZ zs n) (zs.getD n 0) n 32, by rw [evN, h1, List.append_assoc], fun e he => ?_⟩
      rcases List.mem_append.1 he with he | he
      · exact h2 e he
      · rw [evAt_time _ _ _ _ e he]; omega
theorem lead_app (i : Int) (b : List Ev) : ∀ a : List Ev, (∀ e ∈ a, e.t ≤ i) → lead i (a ++ b) = a.length + lead i b
  | [], _ => by simp
  | e :: a, h => by
    rw [List.cons_append, lead, if_pos (h e (by simp)), lead_app i b a (fun x hx => h x (by simp [hx]))]
    simp; omega
theorem lead_none (i : Int) (b : List Ev) (h : ∀ e ∈ b, i < e.t) : lead i b = 0 := by
  cases b with
  | nil => rfl
  | cons e b => rw [lead, if_neg (by have := h e (by simp); omega)]
theorem atV_evN (zs : List Int) (n : Nat) : ∀ i, i ≤ n → atEv (evN zs n) i = (evN zs i).length
  | 0, _ => rfl
  | i + 1, h => by
    obtain ⟨r, h1, h2⟩ := evN_split zs (i + 1) n h
    have hA := evAt_time (prevZ zs i) (zs.getD i 0) i 32
    have hd : (evN zs n).drop (evN zs i).length = evAt (prevZ zs i) (zs.getD i 0) i 32 ++ r := by
      rw [h1, evN, List.append_assoc, List.drop_left' rfl]
    rw [atEv, atV_evN zs n i (by omega), advTo, hd, lead_app _ _ _ (fun e he => by rw [hA e he]; exact Int.le_refl _), lead_none _ _ (fun e he => by have := h2 e he; omega), evN, List.length_append]
    omega
/-- The changes of masks are valid events, behind which the last mask is held, and their masks are the masks. -/
theorem evs_masks {zs : List Int} (h : evsOk zs = true) : okEvs (evN zs zs.length) = true ∧ masksR (evN zs zs.length) zs.length = (zs, true) ∧ ((heldV (evN zs zs.length) : Nat) : Int) = prevZ zs zs.length := by
  unfold evsOk at h
  rw [Bool.and_eq_true, Bool.and_eq_true] at h
  obtain ⟨⟨h1, h2⟩, h3⟩ := h
  have hl : zs.length ≤ 200 := of_decide_eq_true h1
  have h64 : (evN zs zs.length).length ≤ 64 := of_decide_eq_true h3
  have hz : ∀ i, i < zs.length → 0 ≤ zs.getD i 0 ∧ zs.getD i 0 ≤ 4294967295 := fun i hi => by
    unfold allIn at h2
    rw [List.all_eq_true] at h2
    have := h2 (zs.getD i 0) (by rw [List.getD_eq_getElem?_getD, List.getElem?_eq_getElem hi]; exact List.getElem_mem _)
    exact of_decide_eq_true this
  obtain ⟨g, hg, _, f⟩ := evN_fine hz hl _ (Nat.le_refl _)
  obtain ⟨k1, k2⟩ := f.evs h64
  refine ⟨k1, ?_, by rw [k2, hg]⟩
  have hm : masksV (evN zs zs.length) zs.length = zs := by
    apply List.ext_getElem (by rw [masksV_len])
    intro i hi1 hi2
    have e1 : ∀ (l : List Ev) (n i : Nat) (h : i < (masksV l n).length), (masksV l n)[i] = ((heldN l (atEv l (i + 1)) : Nat) : Int) := by intro l n i h; simp [masksV]
    rw [e1, atV_evN zs zs.length (i + 1) (by omega)]
    obtain ⟨r, q1, _⟩ := evN_split zs (i + 1) zs.length (by omega)
    obtain ⟨g', hg', _, f'⟩ := evN_fine hz hl (i + 1) (by omega)
    rw [q1, heldN_app _ _ _ (Nat.le_refl _), f'.held, ← hg', prevZ, List.getD_eq_getElem?_getD, List.getElem?_eq_getElem hi2]
    rfl
  have hin : inB (zs.length : Int) 0 200 = true := by
    unfold inB
    exact decide_eq_true ⟨by omega, by omega⟩
  rw [masksR, if_pos ⟨k1, hin⟩, Int.toNat_natCast, hm]

/-! There are as many changes of masks as changes of the keys. -/
def sumTo (f : Nat → Nat) : Nat → Nat
  | 0 => 0
  | n + 1 => sumTo f n + f n
theorem sumTo_add (f g : Nat → Nat) : ∀ n, sumTo (fun k => f k + g k) n = sumTo f n + sumTo g n
  | 0 => rfl
  | n + 1 => by simp only [sumTo]; rw [sumTo_add f g n]; omega
theorem sumTo_congr {f g : Nat → Nat} : ∀ n, (∀ k, k < n → f k = g k) → sumTo f n = sumTo g n
  | 0, _ => rfl
  | n + 1, h => by simp only [sumTo]; rw [sumTo_congr n (fun k hk => h k (by omega)), h n (by omega)]
theorem evAt_count (p z : Int) (i : Nat) : ∀ n, (evAt p z i n).length = sumTo (fun k => if bz z k = bz p k then 0 else 1) n
  | 0 => rfl
  | n + 1 => by
    rw [evAt, sumTo, ← evAt_count p z i n]
    split <;> simp
theorem evN_count (zs : List Int) : ∀ j, (evN zs j).length = sumTo (fun k => (chN zs k j).length) 32
  | 0 => rfl
  | j + 1 => by
    rw [evN, List.length_append, evN_count zs j, evAt_count, ← sumTo_add]
    refine sumTo_congr 32 fun k _ => ?_
    rw [chN]
    split <;> simp
theorem bz_high {z : Int} (h0 : 0 ≤ z) (h1 : z ≤ 15) {k : Nat} (hk : 4 ≤ k) : bz z k = 0 := by
  rw [bz_mod]
  have h2 : (2 : Nat) ^ 4 ≤ 2 ^ k := Nat.pow_le_pow_right (by decide) hk
  have h3 : ((2 : Int) ^ k) = ((2 ^ k : Nat) : Int) := by simp
  rw [Int.ediv_eq_zero_of_lt h0 (by rw [h3]; have : (2 : Nat) ^ 4 = 16 := rfl; omega)]
  rfl
theorem prevZ_low {zs : List Int} (hz : ∀ i, i < zs.length → 0 ≤ zs.getD i 0 ∧ zs.getD i 0 ≤ 15) : ∀ j, j ≤ zs.length → 0 ≤ prevZ zs j ∧ prevZ zs j ≤ 15
  | 0, _ => ⟨by rw [prevZ]; omega, by rw [prevZ]; omega⟩
  | j + 1, h => by rw [prevZ]; exact hz j (by omega)
theorem chN_high {zs : List Int} (hz : ∀ i, i < zs.length → 0 ≤ zs.getD i 0 ∧ zs.getD i 0 ≤ 15) {k : Nat} (hk : 4 ≤ k) : ∀ j, j ≤ zs.length → chN zs k j = []
  | 0, _ => rfl
  | j + 1, h => by
    have h1 := hz j (by omega)
    have h2 := prevZ_low hz j (by omega)
    rw [chN, if_pos (by rw [bz_high h1.1 h1.2 hk, bz_high h2.1 h2.2 hk]), chN_high hz hk j (by omega)]
theorem sumTo_high (f : Nat → Nat) (m : Nat) (h : ∀ k, m ≤ k → f k = 0) : ∀ n, sumTo f (m + n) = sumTo f m
  | 0 => rfl
  | n + 1 => by rw [← Nat.add_assoc, sumTo, sumTo_high f m h n, h _ (by omega)]; omega
/-- Masks of four keys that are no events change too often. -/
theorem evs_many {zs : List Int} (hz : ∀ i, i < zs.length → 0 ≤ zs.getD i 0 ∧ zs.getD i 0 ≤ 15) (hl : zs.length ≤ 200) (h : evsOk zs = false) : 64 < sumTo (fun k => (ccN zs k zs.length).2) 4 := by
  have hin : allIn 0 4294967295 zs = true := allIn_of' fun i hi => by
    have := hz i hi
    unfold inB
    exact decide_eq_true ⟨by omega, by omega⟩
  have h1 : ¬ (evN zs zs.length).length ≤ 64 := fun h2 => by
    unfold evsOk at h
    rw [decide_eq_true hl, hin, decide_eq_true h2] at h
    cases h
  rw [evN_count, show (32 : Nat) = 4 + 28 from rfl, sumTo_high _ 4 (fun k hk => by rw [chN_high hz hk _ (Nat.le_refl _)]; rfl)] at h1
  rw [sumTo_congr (g := fun k => (chN zs k zs.length).length) 4 (fun k _ => (chN_len zs k _).symm)]
  omega
end Go.Proofs.Ytjfckchoklepbaa

namespace Go.Proofs.Ytjfckchoklepbaa
open Go.RowKit

/-- How many bits below n are set. -/
def cntN (h : Nat) : Nat → Nat
  | 0 => 0
  | n + 1 => cntN h n + if h.testBit n = true then 1 else 0
theorem cntN_le (h : Nat) : ∀ n, cntN h n ≤ n
  | 0 => Nat.le_refl _
  | n + 1 => by rw [cntN]; have := cntN_le h n; split <;> omega
theorem upsN_cnt (h : Nat) (t : Int) : ∀ n, (upsN h t n).length = cntN h n
  | 0 => rfl
  | n + 1 => by
    rw [upsN, cntN, ← upsN_cnt h t n]
    split <;> simp
theorem cntN_high {h m : Nat} (hh : h < 2 ^ m) : ∀ n, cntN h (m + n) = cntN h m
  | 0 => rfl
  | n + 1 => by
    rw [← Nat.add_assoc, cntN, cntN_high hh n, if_neg (by
      rw [Nat.testBit_lt_two_pow (Nat.lt_of_lt_of_le hh (Nat.pow_le_pow_right (by decide) (by omega)))]; simp)]
    rfl
theorem relV_len {l : List Ev} (T : Int) : (relEvs l T).length = l.length + cntN (heldV l) 40 := by
  rw [relEvs, List.length_append, upsN_cnt, show (40 : Nat) = 32 + 8 from rfl, cntN_high (heldV_lt l)]
end Go.Proofs.Ytjfckchoklepbaa
