/- DERIVED. The text of a keymap; the reference's FormatKeymap returns it. · What the reference reads as a keymap: ParseKeymap returns it. Called with any text of at most 1048576 bytes. · A keymap's text cut at the separators of layers, each layer cut at blanks, is read as the reference reads it. Plain mathematics. -/
import Derived.Test.YtnfnhbldphiohaaDoorKmSpec
import Derived.Test.YtnfnhbldphiohaaDoorAcTx
import Derived.Test.YtnfnhbldphiohaaDoorJoin
import Derived.Test.YtnfnhbldphiohaaDoorAcPa2
import Derived.Test.YtnfnhbldphiohaaDoorKmSpec5
import Derived.Lib.SplitLaws
namespace Go.Proofs.YtnfnhbldphiohaaDoor
open Go.RowKit

def acW (a : Ac) : ByteArray := acS a.k a.c a.m a.n
def blankS : ByteArray := ⟨#[32]⟩
def barS : ByteArray := ⟨#[32, 124, 32]⟩
def rowT (l : List Ac) : ByteArray := joined (l.map acW) blankS
def kmS (keys : Int) (L : List (List Ac)) : ByteArray := if okKm keys L = true then joined (L.map rowT) barS else ⟨#[]⟩
theorem acS_size (k c m n : Int) : (acS k c m n).size ≤ 10 := by
  unfold acS
  split
  · rename_i h
    obtain ⟨_, _, _, n0, n3⟩ := okAc_lim h
    have hT : (itoaText n).size = 1 := by rw [itoa_few n0 n3]; rfl
    have hA := mdV_size m
    have hN := nmV_size c
    have e47 : (⟨#[47]⟩ : ByteArray).size = 1 := rfl
    have e45 : (⟨#[45]⟩ : ByteArray).size = 1 := rfl
    unfold acT
    by_cases g0 : k = 0
    · rw [if_pos g0]; show 4 ≤ 10; decide
    rw [if_neg g0]
    by_cases g1 : k = 1
    · rw [if_pos g1]; show 4 ≤ 10; decide
    rw [if_neg g1]
    by_cases g2 : k = 3
    · rw [if_pos g2]; rw [ByteArray.size_append, hT]; show 3 + 1 ≤ 10; decide
    rw [if_neg g2]
    by_cases g3 : k = 4
    · rw [if_pos g3]; rw [ByteArray.size_append, hT]; show 3 + 1 ≤ 10; decide
    rw [if_neg g3]
    by_cases g4 : k = 5
    · rw [if_pos g4]; rw [ByteArray.size_append, hT]; show 3 + 1 ≤ 10; decide
    rw [if_neg g4]
    by_cases g5 : k = 6
    · rw [if_pos g5]; rw [ByteArray.size_append, ByteArray.size_append, e47]; omega
    rw [if_neg g5]
    by_cases g6 : k = 7
    · rw [if_pos g6]; rw [ByteArray.size_append, ByteArray.size_append, e47]; omega
    rw [if_neg g6]
    by_cases g7 : k = 8
    · rw [if_pos g7]; rw [ByteArray.size_append]; show 5 + (mdV m).size ≤ 10; omega
    rw [if_neg g7]
    by_cases g8 : k = 9
    · rw [if_pos g8]; rw [ByteArray.size_append, hT]; show 6 + 1 ≤ 10; decide
    rw [if_neg g8]
    by_cases g9 : k = 10
    · rw [if_pos g9]; show 4 ≤ 10; decide
    rw [if_neg g9]
    by_cases g10 : m = 0
    · rw [if_pos g10]; omega
    rw [if_neg g10]
    rw [ByteArray.size_append, ByteArray.size_append, e45]; omega
  · exact Nat.zero_le _
theorem joined_size (ss : List ByteArray) (sep : ByteArray) : (joined ss sep).size = (jn ss sep ss.length).length := rfl
theorem row_small (l : List Ac) : ∀ k, k ≤ (l.map acW).length → (jn (l.map acW) blankS k).length ≤ k * 11 := by
  intro k hk
  have := jn_le 10 (l.map acW) blankS (fun s hs => by obtain ⟨a, _, rfl⟩ := List.mem_map.1 hs; exact acS_size _ _ _ _) k hk
  have e : blankS.size = 1 := rfl
  rw [e] at this
  exact this
theorem rowT_size (l : List Ac) : (rowT l).size ≤ l.length * 11 := by
  rw [rowT, joined_size]
  have := row_small l _ (Nat.le_refl _)
  rwa [List.length_map] at this ⊢
theorem specFormatAction_q (k c m n : Int) (T : ByteArray) (hT : T = acS k c m n) (w : World) : Calls Tryd.prog 39 #[acv k c m n] w fun e w' => e = .returned (.string T) ∧ Below w.heap.size w w' := by
  rw [hT]; exact specFormatAction_any k c m n w
theorem strs_take (ss : List ByteArray) (j : Nat) (h : j < ss.length) : (ss.take (j + 1)).map Value.string = (ss.take j).map Value.string ++ [.string (ss.getD j ⟨#[]⟩)] := by
  rw [List.take_succ_eq_append_getElem h, List.map_append, List.getD_eq_getElem?_getD, List.getElem?_eq_getElem h]
  rfl

abbrev sBar : ByteArray := ⟨#[124]⟩
structure Pk where
  l : List (List Ac)
  row : List Ac
  k : Int
  ok : Bool
def pkStep (p : Pk) (s : ByteArray) : Pk := if s = sBar then ⟨p.l ++ [p.row], [], p.row.length, p.ok⟩ else ⟨p.l, p.row ++ [(acP s).1], p.k, p.ok && (acP s).2⟩
def pkN (ws : List ByteArray) : Nat → Pk
  | 0 => ⟨[], [], 0, true⟩
  | i + 1 => pkStep (pkN ws i) (ws.getD i ⟨#[]⟩)
def pkEnd (p : Pk) : Kmr := if p.ok = true ∧ okKm p.k p.l = true then ⟨p.k, p.l, true⟩ else ⟨0, [], false⟩
def wordsOf (s : ByteArray) : List ByteArray := parts s 32 ++ [sBar]
def kmP (s : ByteArray) : Kmr := pkEnd (pkN (wordsOf s) (wordsOf s).length)
theorem pkN_bad {ws : List ByteArray} {i : Nat} (h : (pkN ws i).ok = false) : ∀ m, i ≤ m → (pkN ws m).ok = false
  | 0, hm => by obtain rfl : i = 0 := by omega
                exact h
  | m + 1, hm => by
    rcases Nat.lt_or_ge i (m + 1) with h2 | h2
    · have := pkN_bad h m (by omega)
      rw [pkN, pkStep]
      split
      · exact this
      · show ((pkN ws m).ok && _) = false
        rw [this]; rfl
    · obtain rfl : i = m + 1 := by omega
      exact h
theorem pkEnd_bad {p : Pk} (h : p.ok = false) : pkEnd p = ⟨0, [], false⟩ := by
  unfold pkEnd; rw [if_neg (fun e => by rw [h] at e; exact absurd e.1 (by decide))]
theorem pkN_len (ws : List ByteArray) : ∀ i, (pkN ws i).l.length ≤ i ∧ (pkN ws i).row.length ≤ i ∧ ∀ l ∈ (pkN ws i).l, l.length ≤ i
  | 0 => ⟨Nat.le_refl _, Nat.le_refl _, fun l hl => by simp [pkN] at hl⟩
  | i + 1 => by
    obtain ⟨h1, h2, h3⟩ := pkN_len ws i
    rw [pkN, pkStep]
    split
    · refine ⟨by simp; omega, by simp, fun l hl => ?_⟩
      rcases List.mem_append.1 hl with h | h
      · exact Nat.le_succ_of_le (h3 l h)
      · rw [List.mem_singleton.1 h]; omega
    · refine ⟨by simp; omega, by simp; omega, fun l hl => Nat.le_succ_of_le (h3 l hl)⟩
theorem specParseAction_n (s : ByteArray) (r : Ac × Bool) (hr : r = acP s) (w : World) (hl : s.size ≤ 1048576) : Calls Tryd.prog 72 #[.string s] w fun e w' => e = .returned (.tuple #[acv r.1.k r.1.c r.1.m r.1.n, .bool r.2]) ∧ Below w.heap.size w w' := by
  rw [hr]; exact specParseAction_any s w hl
theorem heap_grown {w w' : World} {r : Option Nat} {b : Nat} (h : w.grownBy w' r) (hb : b < w.heap.size) (hn : r ≠ some b) : w'.heap[b]? = w.heap[b]? := h.block b hb (fun e => hn e.symm)
theorem turn_grown {w w' : World} {v : Value} (hg : w.grownBy w' v.ownBlock) : Turn w w' (ownFp v) := by
  unfold ownFp
  rcases hv : v.ownBlock with _ | q
  · rw [hv] at hg
    exact ⟨hg.os, hg.tape, hg.output, hg.size, fun k hk _ => hg.block k hk (by simp)⟩
  · rw [hv] at hg
    exact Turn.of_grown hg
theorem ownFp_some {g n c : Nat} : ownFp (.slice (some ⟨g, 0, none⟩) n c) = [g] := by simp [ownFp, Value.ownBlock]

theorem isPrefixOf_app : ∀ (a b : List UInt8), a.isPrefixOf (a ++ b) = true
  | [], _ => by simp
  | x :: a, b => by simp
/-- Where something occurs, its first place is no later. -/
theorem index_occ {sub : List UInt8} (hs : sub ≠ []) : ∀ (A B : List UInt8), 0 ≤ Lib.index (A ++ (sub ++ B)) sub ∧ Lib.index (A ++ (sub ++ B)) sub ≤ A.length
  | [], B => by
    obtain ⟨c, t, rfl⟩ := List.exists_cons_of_ne_nil hs
    have h1 : (c :: t).isPrefixOf (c :: (t ++ B)) = true := isPrefixOf_app (c :: t) B
    rw [List.nil_append]
    show 0 ≤ Lib.index (c :: (t ++ B)) (c :: t) ∧ Lib.index (c :: (t ++ B)) (c :: t) ≤ _
    rw [Lib.index, if_pos h1]
    exact ⟨Int.le_refl _, by simp⟩
  | a :: A, B => by
    obtain ⟨h1, h2⟩ := index_occ hs A B
    rw [List.cons_append, Lib.index]
    by_cases h : sub.isPrefixOf (a :: (A ++ (sub ++ B))) = true
    · rw [if_pos h]; exact ⟨Int.le_refl _, by simp; omega⟩
    · rw [if_neg h]
      have hm : ¬ (Lib.index (A ++ (sub ++ B)) sub == -1) = true := fun e => by have := beq_iff_eq.1 e; omega
      rw [if_neg hm]
      simp only [List.length_cons]
      omega
theorem prefix_split : ∀ {a l : List UInt8}, a.isPrefixOf l = true → l = a ++ l.drop a.length
  | [], l, _ => by simp
  | x :: a, [], h => by simp [List.isPrefixOf] at h
  | x :: a, y :: l, h => by
    simp only [List.isPrefixOf, Bool.and_eq_true, beq_iff_eq] at h
    obtain ⟨rfl, h2⟩ := h
    rw [List.cons_append, List.length_cons, List.drop_succ_cons, ← prefix_split h2]
/-- The first place, and what stands ahead of it and behind. -/
theorem index_at {sub : List UInt8} (hs : sub ≠ []) : ∀ {l : List UInt8} {i : Nat}, Lib.index l sub = i → l = l.take i ++ (sub ++ l.drop (i + sub.length))
  | [], i, h => by
    obtain ⟨c, t, rfl⟩ := List.exists_cons_of_ne_nil hs
    simp [Lib.index] at h
  | b :: l, i, h => by
    rw [Lib.index] at h
    by_cases hp : sub.isPrefixOf (b :: l) = true
    · rw [if_pos hp] at h
      obtain rfl : i = 0 := by omega
      rw [List.take_zero, List.nil_append, Nat.zero_add]
      exact prefix_split hp
    · rw [if_neg hp] at h
      by_cases hm : (Lib.index l sub == -1) = true
      · rw [if_pos hm] at h; omega
      · rw [if_neg hm] at h
        obtain ⟨j, rfl⟩ : ∃ j, i = j + 1 := ⟨i - 1, by have := Lib.index_ge l sub; have h2 : Lib.index l sub ≠ -1 := fun e => hm (beq_iff_eq.2 e); omega⟩
        have ih := index_at hs (l := l) (i := j) (by omega)
        rw [List.take_succ_cons, List.cons_append, show j + 1 + sub.length = (j + sub.length) + 1 by omega, List.drop_succ_cons, ← ih]

/-- sub stands nowhere in T. -/
def NoSub (sub T : ByteArray) : Prop := ∀ A B : List UInt8, T.data.toList ≠ A ++ (sub.data.toList ++ B)
/-- s is cut at sep into pieces in which sep does not stand. -/
inductive Cutd (sep : ByteArray) : ByteArray → List ByteArray → Prop
  | last (T : ByteArray) : NoSub sep T → Cutd sep T [T]
  | more (s T s' : ByteArray) (Ts : List ByteArray) : s = T ++ sep ++ s' → NoSub sep T → Cutd sep s' Ts → Cutd sep s (T :: Ts)
theorem ba_app (a b : ByteArray) : (a ++ b).data.toList = a.data.toList ++ b.data.toList := by simp
theorem ba_toNE {sep : ByteArray} (h1 : 1 ≤ sep.size) : sep.data.toList ≠ [] := fun e => by
  have : sep.data.toList.length = sep.size := size_toList sep
  rw [e] at this
  simp at this; omega
theorem noSub_of_miss {s sep : ByteArray} (h1 : 1 ≤ sep.size) (h : Lib.indexB s sep = -1) : NoSub sep s := by
  intro A B e
  have h2 := index_occ (ba_toNE h1) A B
  have h3 : Lib.index s.data.toList sep.data.toList = -1 := h
  rw [e] at h3
  omega
theorem cutd_pieces (sep : ByteArray) (h1 : 1 ≤ sep.size) : ∀ (k : Nat) (s : ByteArray), Lib.countB s sep = k → Cutd sep s (Lib.splitB sep 0 k s)
  | 0, s, hk => by
    rcases Lib.indexB_cases s sep with hix | ⟨i, hix, _⟩
    · exact .last s (noSub_of_miss h1 hix)
    · have := Lib.countB_hit s sep i h1 hix; omega
  | k + 1, s, hk => by
    rcases Lib.indexB_cases s sep with hix | ⟨i, hix, hroom⟩
    · rw [Lib.countB_miss s sep hix] at hk; omega
    · rw [Lib.splitB_hit sep 0 k s i hix]
      have hat : s.data.toList = s.data.toList.take i ++ (sep.data.toList ++ s.data.toList.drop (i + sep.data.toList.length)) := index_at (ba_toNE h1) hix
      have hsl := size_toList sep
      refine .more s _ (s.extract (i + sep.size) s.size) _ ?_ ?_ (cutd_pieces sep h1 k _ (by have := Lib.countB_hit s sep i h1 hix; omega))
      · apply ba_ext
        rw [ba_app, ba_app, ext_list, ext_list, List.drop_zero, List.append_assoc, List.take_of_length_le (l := s.data.toList.drop (i + sep.size)) (by rw [List.length_drop, size_toList]; exact Nat.le_refl _), Nat.add_zero, Nat.sub_zero, ← hsl]
        exact hat
      · intro A B e
        rw [ext_list, List.drop_zero, Nat.add_zero, Nat.sub_zero] at e
        have h3 : Lib.index s.data.toList sep.data.toList = i := hix
        rw [hat, e, List.append_assoc, List.append_assoc] at h3
        have h4 := (index_occ (ba_toNE h1) A (B ++ (sep.data.toList ++ s.data.toList.drop (i + sep.data.toList.length)))).2
        rw [h3] at h4
        have h5 := congrArg List.length e
        rw [List.length_take, List.length_append, List.length_append, hsl, size_toList] at h5
        omega

/-- Joined lists, one behind the other. -/
theorem joined_app (X Y : List ByteArray) (sep : ByteArray) (hX : 0 < X.length) (hY : 0 < Y.length) : joined (X ++ Y) sep = joined X sep ++ sep ++ joined Y sep := by
  have key : ∀ k, 0 < k → k ≤ Y.length → jn (X ++ Y) sep (X.length + k) = jn X sep X.length ++ sep.data.toList ++ jn Y sep k := by
    intro k
    induction k with
    | zero => intro h _; omega
    | succ k ih =>
      intro _ hk
      have hg : (X ++ Y).getD (X.length + k) ByteArray.empty = Y.getD k ByteArray.empty := by
        rw [List.getD_eq_getElem?_getD, List.getD_eq_getElem?_getD, List.getElem?_append_right (by omega), Nat.add_sub_cancel_left]
      rw [← Nat.add_assoc, jn_later _ _ (by omega), hg]
      rcases Nat.eq_zero_or_pos k with rfl | hp
      · rw [jn_first, Nat.add_zero]
        congr 1
        congr 1
        have hpre : ∀ j, j ≤ X.length → jn (X ++ Y) sep j = jn X sep j := by
          intro j
          induction j with
          | zero => intro _; rfl
          | succ j ihj =>
            intro hj
            have hg2 : (X ++ Y).getD j ByteArray.empty = X.getD j ByteArray.empty := by
              rw [List.getD_eq_getElem?_getD, List.getD_eq_getElem?_getD, List.getElem?_append_left (by omega)]
            rw [jn, jn, hg2, ihj (by omega)]
        exact hpre _ (Nat.le_refl _)
      · rw [ih hp (by omega), jn_later _ _ hp, List.append_assoc, List.append_assoc, List.append_assoc, List.append_assoc, List.append_assoc]
  apply ba_ext
  rw [ba_app, ba_app]
  show (jn (X ++ Y) sep (X ++ Y).length).toArray.toList = (jn X sep X.length).toArray.toList ++ sep.data.toList ++ (jn Y sep Y.length).toArray.toList
  rw [List.length_append]
  simpa using key Y.length hY (Nat.le_refl _)
theorem joined_one (x sep : ByteArray) : joined [x] sep = x := by
  apply ba_ext
  show (jn [x] sep 1).toArray.toList = _
  rw [jn_first]; simp
theorem parts_pos (s : ByteArray) (c : Int) : 0 < (parts s c).length := by simp [parts]
theorem blank_byte : blankS.data.toList = [byte8 32] := by decide
theorem without_bar : Without sBar 32 := by
  intro j hj
  have : j = 0 := by have h : sBar.size = 1 := rfl; omega
  subst this
  decide
theorem bar_three : barS = blankS ++ sBar ++ blankS := by decide
/-- The words of two texts with a separator of layers between them. -/
theorem parts_bar (A B : ByteArray) : parts (A ++ barS ++ B) 32 = parts A 32 ++ ([sBar] ++ parts B 32) := by
  have hw : ∀ p ∈ parts A 32 ++ ([sBar] ++ parts B 32), Without p 32 := by
    intro p hp
    rcases List.mem_append.1 hp with h | h
    · exact (parts_without A 32 p h).1
    · rcases List.mem_append.1 h with h | h
      · rw [List.mem_singleton.1 h]; exact without_bar
      · exact (parts_without B 32 p h).1
  have hj := parts_joined _ blankS 32 (by decide) (by decide) blank_byte (by rw [List.length_append]; have := parts_pos A 32; omega) hw
  have e : joined (parts A 32 ++ ([sBar] ++ parts B 32)) blankS = A ++ barS ++ B := by
    rw [joined_app _ _ _ (parts_pos A 32) (by simp), joined_app _ _ _ (by simp) (parts_pos B 32), joined_one, joined_parts _ _ 32 blank_byte, joined_parts _ _ 32 blank_byte, bar_three]
    apply ba_ext
    simp only [ba_app, List.append_assoc]
  rw [e] at hj
  exact hj

theorem bar_no : (acP sBar).2 = false := by decide +kernel
def goodW (ws : List ByteArray) : Bool := ws.all fun w => (acP w).2
def rowP (ws : List ByteArray) : List Ac × Bool := if goodW ws = true then (ws.map fun w => (acP w).1, true) else ([], false)
/-- What the program reads in one layer's text. -/
def lineP (T : ByteArray) : List Ac × Bool := rowP (parts T 32)
def rowsP (Ts : List ByteArray) : List (List Ac) := Ts.map fun T => (lineP T).1
def goodT (Ts : List ByteArray) : Bool := Ts.all fun T => (lineP T).2
/-- What the program reads in the texts of layers. -/
def impP (Ts : List ByteArray) : Kmr := if goodT Ts = true ∧ okKm ((lD (rowsP Ts) 0).length : Int) (rowsP Ts) = true then ⟨((lD (rowsP Ts) 0).length : Int), rowsP Ts, true⟩ else ⟨0, [], false⟩

def pkF (p : Pk) (ws : List ByteArray) : Pk := ws.foldl pkStep p
theorem pkF_app (p : Pk) (a b : List ByteArray) : pkF p (a ++ b) = pkF (pkF p a) b := by unfold pkF; rw [List.foldl_append]
theorem pkN_foldF (ws : List ByteArray) : ∀ i, i ≤ ws.length → pkN ws i = pkF ⟨[], [], 0, true⟩ (ws.take i)
  | 0, _ => by rw [List.take_zero]; rfl
  | i + 1, h => by
    rw [pkN, pkN_foldF ws i (by omega), List.take_succ_eq_append_getElem (by omega), pkF_app, List.getD_eq_getElem?_getD, List.getElem?_eq_getElem (by omega)]
    rfl
theorem kmP_fold (s : ByteArray) : kmP s = pkEnd (pkF ⟨[], [], 0, true⟩ (parts s 32 ++ [sBar])) := by
  rw [kmP, pkN_foldF _ _ (Nat.le_refl _), List.take_length]; rfl
theorem pkF_bad : ∀ (ws : List ByteArray) (p : Pk), p.ok = false → (pkF p ws).ok = false
  | [], p, h => h
  | w :: ws, p, h => by
    refine pkF_bad ws (pkStep p w) ?_
    rw [pkStep]
    split
    · exact h
    · show (p.ok && _) = false
      rw [h]; rfl
theorem pkF_mem : ∀ (ws : List ByteArray) (p : Pk) (l : List Ac), l ∈ p.l → l ∈ (pkF p ws).l
  | [], p, l, h => h
  | w :: ws, p, l, h => by
    refine pkF_mem ws (pkStep p w) l ?_
    rw [pkStep]
    split
    · exact List.mem_append_left _ h
    · exact h
/-- A state from which no keymap comes. -/
def Lost (p : Pk) : Prop := p.ok = false ∨ [] ∈ p.l
theorem Lost.on {p : Pk} (h : Lost p) (ws : List ByteArray) : Lost (pkF p ws) := by
  rcases h with h | h
  · exact .inl (pkF_bad ws p h)
  · exact .inr (pkF_mem ws p [] h)
theorem Lost.fin {p : Pk} (h : Lost p) : pkEnd p = ⟨0, [], false⟩ := by
  rcases h with h | h
  · exact pkEnd_bad h
  · unfold pkEnd
    rw [if_neg]
    rintro ⟨_, hk⟩
    obtain ⟨⟨k1, _⟩, _, hall⟩ := okKm_at hk
    obtain ⟨j, hj, he⟩ := List.getElem_of_mem h
    have h1 := (hall j hj).1
    have h2 : lD p.l j = [] := by unfold lD; rw [List.getD_eq_getElem?_getD, List.getElem?_eq_getElem hj, he]; rfl
    rw [h2] at h1
    simp at h1
    omega
/-- Words that are all read make a row. -/
theorem pkF_good : ∀ (ws : List ByteArray) (p : Pk), goodW ws = true → pkF p ws = ⟨p.l, p.row ++ (ws.map fun w => (acP w).1), p.k, p.ok⟩
  | [], p, _ => by simp [pkF]
  | w :: ws, p, h => by
    rw [goodW, List.all_cons, Bool.and_eq_true] at h
    have hb : w ≠ sBar := fun e => by rw [e, bar_no] at h; exact absurd h.1 (by decide)
    have h2 := pkF_good ws (pkStep p w) h.2
    show pkF (pkStep p w) ws = _
    rw [h2, pkStep, if_neg hb, h.1]
    simp
theorem pkF_bar (p : Pk) : pkF p [sBar] = ⟨p.l ++ [p.row], [], p.row.length, p.ok⟩ := by
  show pkStep p sBar = _
  rw [pkStep, if_pos rfl]
/-- A word that is none: nothing comes of it, or it is a bar. -/
theorem pkF_word {ws : List ByteArray} (p : Pk) {w : ByteArray} (hw : w ∈ ws) (h : (acP w).2 = false) (hb : w ≠ sBar) : (pkF p ws).ok = false := by
  obtain ⟨a, b, rfl⟩ := List.append_of_mem hw
  rw [pkF_app]
  show (pkF (pkStep (pkF p a) w) b).ok = false
  refine pkF_bad b _ ?_
  rw [pkStep, if_neg hb, h]
  show (_ && false) = false
  rw [Bool.and_false]
/-- A text without a separator whose words are not all read: nothing comes of it, with the bar that follows. -/
theorem pkF_lost (T : ByteArray) (hT : NoSub barS T) (p : Pk) (hp : p.row = []) (hg : goodW (parts T 32) = false) : Lost (pkF p (parts T 32 ++ [sBar])) := by
  obtain ⟨W, hW⟩ : ∃ W, W = parts T 32 := ⟨_, rfl⟩
  rw [← hW] at hg ⊢
  have hex : ∃ w ∈ W, (acP w).2 = false := by
    rw [goodW, List.all_eq_false] at hg
    obtain ⟨w, hw, h⟩ := hg
    exact ⟨w, hw, by simpa using h⟩
  by_cases hother : ∃ w ∈ W, (acP w).2 = false ∧ w ≠ sBar
  · obtain ⟨w, hw, h, hb⟩ := hother
    exact .inl (pkF_word p (List.mem_append_left _ hw) h hb)
  · obtain ⟨w, hw, h⟩ := hex
    have hwb : w = sBar := Decidable.byContradiction fun hb => hother ⟨w, hw, h, hb⟩
    subst hwb
    obtain ⟨X, Y, hXY⟩ := List.append_of_mem hw
    rcases Nat.eq_zero_or_pos X.length with hX | hX
    · obtain rfl := List.eq_nil_of_length_eq_zero hX
      rw [hXY, List.nil_append]
      right
      show [] ∈ (pkF (pkStep p sBar) (Y ++ [sBar])).l
      refine pkF_mem _ _ _ ?_
      rw [pkStep, if_pos rfl, hp]
      exact List.mem_append_right _ (List.mem_singleton.2 rfl)
    · rcases Nat.eq_zero_or_pos Y.length with hY | hY
      · obtain rfl := List.eq_nil_of_length_eq_zero hY
        rw [hXY, List.append_assoc, pkF_app]
        right
        show [] ∈ (pkF (pkStep (pkF p X) sBar) [sBar]).l
        rw [pkF_bar, pkStep, if_pos rfl]
        exact List.mem_append_right _ (List.mem_singleton.2 rfl)
      · exfalso
        have e : T = joined X blankS ++ barS ++ joined Y blankS := by
          have h1 := joined_parts T blankS 32 blank_byte
          rw [← hW, hXY, show X ++ sBar :: Y = X ++ ([sBar] ++ Y) from rfl, joined_app _ _ _ hX (by simp), joined_app _ _ _ (by simp) hY, joined_one] at h1
          rw [← h1, bar_three]
          apply ba_ext
          simp only [ba_app, List.append_assoc]
        refine hT (joined X blankS).data.toList (joined Y blankS).data.toList ?_
        conv => lhs; rw [e]
        rw [ba_app, ba_app, List.append_assoc]
theorem lineP_good {T : ByteArray} (h : goodW (parts T 32) = true) : lineP T = ((parts T 32).map fun w => (acP w).1, true) := by rw [lineP, rowP, if_pos h]
theorem lineP_bad {T : ByteArray} (h : goodW (parts T 32) = false) : lineP T = ([], false) := by rw [lineP, rowP, if_neg (by rw [h]; decide)]
/-- One piece of the text, with the bar behind it. -/
theorem pkF_piece (T : ByteArray) (p : Pk) (hp : p.row = []) (h : (lineP T).2 = true) : pkF p (parts T 32 ++ [sBar]) = ⟨p.l ++ [(lineP T).1], [], ((lineP T).1.length : Int), p.ok⟩ := by
  have hg : goodW (parts T 32) = true := by
    by_cases hg : goodW (parts T 32) = true
    · exact hg
    · rw [lineP_bad (by simpa using hg)] at h; exact absurd h (by decide)
  rw [pkF_app, pkF_good _ _ hg, pkF_bar, hp, lineP_good hg, List.nil_append]
theorem cut_fold {s : ByteArray} {Ts : List ByteArray} (h : Cutd barS s Ts) : ∀ p : Pk, p.row = [] →
    if goodT Ts = true then pkF p (parts s 32 ++ [sBar]) = ⟨p.l ++ rowsP Ts, [], ((rowsP Ts).getLast?.getD []).length, p.ok⟩ else Lost (pkF p (parts s 32 ++ [sBar])) := by
  induction h with
  | last T hT =>
    intro p hp
    by_cases hg : (lineP T).2 = true
    · rw [if_pos (by simp [goodT, hg])]
      rw [pkF_piece T p hp hg]
      simp [rowsP]
    · rw [if_neg (by simp [goodT, hg])]
      refine pkF_lost T hT p hp ?_
      by_cases h2 : goodW (parts T 32) = true
      · rw [lineP_good h2] at hg; exact absurd rfl hg
      · simpa using h2
  | more s T s' Ts he hT hc ih =>
    intro p hp
    have e : parts s 32 ++ [sBar] = (parts T 32 ++ [sBar]) ++ (parts s' 32 ++ [sBar]) := by
      rw [he, parts_bar]; simp
    rw [e, pkF_app]
    by_cases hg : (lineP T).2 = true
    · rw [pkF_piece T p hp hg]
      have ih2 := ih ⟨p.l ++ [(lineP T).1], [], ((lineP T).1.length : Int), p.ok⟩ rfl
      have hne : rowsP Ts ≠ [] := by
        cases hc <;> simp [rowsP]
      by_cases hr : goodT Ts = true
      · rw [if_pos hr] at ih2
        rw [if_pos (by rw [goodT, List.all_cons, hg]; exact hr), ih2]
        have hl : (rowsP (T :: Ts)).getLast? = (rowsP Ts).getLast? := by
          show ((lineP T).1 :: rowsP Ts).getLast? = _
          rw [List.getLast?_cons]
          rcases hq : (rowsP Ts).getLast? with _ | q
          · rw [List.getLast?_eq_none_iff] at hq; exact absurd hq hne
          · rfl
        rw [hl]
        simp [rowsP]
      · rw [if_neg hr] at ih2
        rw [if_neg (by rw [goodT, List.all_cons, hg]; exact hr)]
        exact ih2
    · rw [if_neg (by simp [goodT, hg])]
      refine Lost.on (pkF_lost T hT p hp ?_) _
      by_cases h2 : goodW (parts T 32) = true
      · rw [lineP_good h2] at hg; exact absurd rfl hg
      · simpa using h2
/-- The program's reading of the pieces is the reference's of the text. -/
theorem impP_kmP {s : ByteArray} {Ts : List ByteArray} (h : Cutd barS s Ts) : impP Ts = kmP s := by
  have hf := cut_fold h ⟨[], [], 0, true⟩ rfl
  rw [kmP_fold]
  by_cases hg : goodT Ts = true
  · rw [if_pos hg] at hf
    rw [hf, pkEnd, impP, List.nil_append]
    simp only [true_and, hg]
    have hne : rowsP Ts ≠ [] := by cases h <;> simp [rowsP]
    have hlast : ∃ j, j < (rowsP Ts).length ∧ (rowsP Ts).getLast?.getD [] = lD (rowsP Ts) j := by
      refine ⟨(rowsP Ts).length - 1, by have := List.length_pos_iff.2 hne; omega, ?_⟩
      rw [List.getLast?_eq_getElem?, lD, List.getD_eq_getElem?_getD]
    obtain ⟨j, hj, hjl⟩ := hlast
    rw [hjl]
    by_cases h1 : okKm ((lD (rowsP Ts) 0).length : Int) (rowsP Ts) = true
    · obtain ⟨_, _, hall⟩ := okKm_at h1
      have e := (hall j hj).1
      rw [e, if_pos h1]
    · rw [if_neg h1]
      by_cases h2 : okKm ((lD (rowsP Ts) j).length : Int) (rowsP Ts) = true
      · exfalso
        obtain ⟨_, _, hall⟩ := okKm_at h2
        have e := (hall 0 (List.length_pos_iff.2 hne)).1
        rw [← e] at h2
        exact h1 h2
      · rw [if_neg h2]
  · rw [if_neg hg] at hf
    rw [hf.fin, impP, if_neg (fun e => hg e.1)]

end Go.Proofs.YtnfnhbldphiohaaDoor
