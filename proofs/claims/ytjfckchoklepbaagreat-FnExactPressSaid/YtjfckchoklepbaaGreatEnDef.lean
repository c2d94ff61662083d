/- DERIVED. Engines as data; chapter 9's words on them as plain functions: valid engines, the place of a held key, codes of words, what an action does at once. No condition. -/
import Derived.Test.YtjfckchoklepbaaGreatMcDef
import Derived.Test.YtjfckchoklepbaaGreatSts
namespace Go.Proofs.YtjfckchoklepbaaGreat
open Go.RowKit

/-- One engine: its keymap's keys and layers, its macros, the fixed layers, what is held, the modifiers that wait, and whether a word is capitalized. -/
structure En where
  k : Int
  L : List (List Ac)
  F : List (List St)
  x : Int
  H : List Hd
  o : Int
  p : Bool
abbrev env (k : Int) (u1 u2 : Value) (x : Int) (u3 : Value) (o : Int) (p : Bool) : Value := .agg #[.int .i64 k, u1, u2, .int .i64 x, u3, .int .i64 o, .bool p]
/-- The cells of an engine whose slices are u1, u2, u3. -/
abbrev En.cells (e : En) (u1 u2 u3 : Value) : List Value := [.int .i64 e.k, u1, u2, .int .i64 e.x, u3, .int .i64 e.o, .bool e.p]
/-- The slices u1, u2, u3 read as an engine's. -/
structure RdE (w : World) (e : En) (u1 u2 u3 : Value) : Prop where
  map : LdS w u1 e.L
  mac : LdT w u2 e.F
  held : RdN w u3 e.H.length (flatHd e.H)
theorem RdE.below {w w' : World} {e : En} {u1 u2 u3 : Value} (h : RdE w e u1 u2 u3) (hb : Below w.heap.size w w') : RdE w' e u1 u2 u3 :=
  ⟨h.map.below hb, h.mac.below hb, h.held.below hb⟩
/-- The slices u1, u2, u3 own an engine's data, in the blocks fp. -/
def OwE (w : World) (B : Nat) (e : En) (u1 u2 u3 : Value) (fp : List Nat) : Prop :=
  ∃ f1 f2 f3, LoS w B u1 e.L f1 ∧ LoT w B u2 e.F f2 ∧ OwF w B 43 5 u3 e.H.length (flatHd e.H) f3 ∧ fp = f1 ++ (f2 ++ f3) ∧ fp.Nodup
theorem OwE.rd {w : World} {B : Nat} {e : En} {u1 u2 u3 : Value} {fp : List Nat} (h : OwE w B e u1 u2 u3 fp) : RdE w e u1 u2 u3 := by
  obtain ⟨f1, f2, f3, h1, h2, h3, _, _⟩ := h
  exact ⟨h1.rd, h2.rd, h3.rd⟩
theorem OwE.rng {w : World} {B : Nat} {e : En} {u1 u2 u3 : Value} {fp : List Nat} (h : OwE w B e u1 u2 u3 fp) : ∀ b ∈ fp, B ≤ b ∧ b < w.heap.size := by
  obtain ⟨f1, f2, f3, h1, h2, h3, rfl, _⟩ := h
  intro b hb
  rcases List.mem_append.1 hb with hb | hb
  · exact h1.rng b hb
  · rcases List.mem_append.1 hb with hb | hb
    · exact h2.rng b hb
    · exact h3.rng b hb
theorem OwE.turn {w w' : World} {B : Nat} {e : En} {u1 u2 u3 : Value} {fp f' : List Nat} (h : OwE w B e u1 u2 u3 fp) (ht : Turn w w' f') (hd : ∀ b ∈ fp, b ∉ f') : OwE w' B e u1 u2 u3 fp := by
  obtain ⟨f1, f2, f3, h1, h2, h3, rfl, hn⟩ := h
  exact ⟨f1, f2, f3, h1.turn ht (fun b hb => hd b (List.mem_append_left _ hb)), h2.turn ht (fun b hb => hd b (List.mem_append_right _ (List.mem_append_left _ hb))), h3.turn ht (fun b hb => hd b (List.mem_append_right _ (List.mem_append_right _ hb))), rfl, hn⟩
theorem OwE.below {w w' : World} {B : Nat} {e : En} {u1 u2 u3 : Value} {fp : List Nat} (h : OwE w B e u1 u2 u3 fp) (hb : Below w.heap.size w w') : OwE w' B e u1 u2 u3 fp :=
  h.turn (Turn.of_below hb []) (fun _ _ hm => by simp at hm)
theorem OwE.base {w : World} {B B' : Nat} {e : En} {u1 u2 u3 : Value} {fp : List Nat} (h : OwE w B' e u1 u2 u3 fp) (hB : B ≤ B') : OwE w B e u1 u2 u3 fp := by
  obtain ⟨f1, f2, f3, h1, h2, h3, rfl, hn⟩ := h
  exact ⟨f1, f2, f3, h1.base hB, h2.base hB, owF_base h3 hB, rfl, hn⟩
theorem OwE.putAt {w : World} {B y : Nat} {e : En} {u1 u2 u3 : Value} {fp : List Nat} (h : OwE w B e u1 u2 u3 fp) (vs : List Value) (hy : y ∉ fp) (i : Nat) : OwE (putW w y i vs) B e u1 u2 u3 fp :=
  h.turn (Turn.of_grown (putW_grown vs i w)) (fun x hx hm => by rw [List.mem_singleton] at hm; subst hm; exact hy hx)

/-- The first j macros are valid. -/
def mcsN (F : List (List St)) : Nat → Bool
  | 0 => true
  | j + 1 => mcsN F j && okMc (lD F j)
/-- A held key fits n layers and so many keys. -/
def hfit (keys : Int) (n : Nat) (h : Hd) : Bool := !(decide (keys ≤ h.h) || (!decide (h.k = 9) && decide ((n : Int) ≤ h.n)))
def hfN (keys : Int) (n : Nat) (H : List Hd) : Nat → Bool
  | 0 => true
  | j + 1 => hfN keys n H j && hfit keys n (hdD H j)
def okEn (e : En) : Bool := (okKm e.k e.L && (decide (e.F.length ≤ 4) && okHd e.H)) && ((mcsN e.F e.F.length && hfN e.k e.L.length e.H e.H.length) && (inB e.x 0 (2 ^ e.L.length - 1) && (decide (e.x % 2 = 0) && inB e.o 0 15)))
theorem mcsN_no {F : List (List St)} {j : Nat} (h : okMc (lD F j) = false) : ∀ m, j < m → mcsN F m = false
  | 0, hm => absurd hm (Nat.not_lt_zero _)
  | m + 1, hm => by
    rcases Nat.lt_or_ge j m with h2 | h2
    · rw [mcsN, mcsN_no h m h2, Bool.false_and]
    · obtain rfl : j = m := by omega
      rw [mcsN, h, Bool.and_false]
theorem hfN_no {keys : Int} {n : Nat} {H : List Hd} {j : Nat} (h : hfit keys n (hdD H j) = false) : ∀ m, j < m → hfN keys n H m = false
  | 0, hm => absurd hm (Nat.not_lt_zero _)
  | m + 1, hm => by
    rcases Nat.lt_or_ge j m with h2 | h2
    · rw [hfN, hfN_no h m h2, Bool.false_and]
    · obtain rfl : j = m := by omega
      rw [hfN, h, Bool.and_false]
/-- The first place of a held key, the length if there is none. -/
def haH (H : List Hd) (key : Int) : Nat := H.findIdx (fun h => decide (h.h = key))
def haI (H : List Hd) (key : Int) : Int := if haH H key < H.length then (haH H key : Int) else -1
theorem haI_no {H : List Hd} {key : Int} (h : ∀ q, q < H.length → (hdD H q).h ≠ key) : haI H key = -1 := by
  have e : haH H key = H.length := List.findIdx_eq_length.mpr fun y hy => by
    obtain ⟨q, hq, rfl⟩ := List.getElem_of_mem hy
    have := h q hq
    rw [hdD, List.getD_eq_getElem?_getD, List.getElem?_eq_getElem hq] at this
    exact decide_eq_false this
  rw [haI, e, if_neg (Nat.lt_irrefl _)]
theorem haI_at {H : List Hd} {key : Int} {j : Nat} (hj : j < H.length) (h : ∀ q, q < j → (hdD H q).h ≠ key) (hm : (hdD H j).h = key) : haI H key = (j : Int) := by
  have e : haH H key = j := (List.findIdx_eq hj).mpr ⟨by rw [hdD, List.getD_eq_getElem?_getD, List.getElem?_eq_getElem hj] at hm; exact decide_eq_true hm, fun q hq => by
    have := h q hq
    rw [hdD, List.getD_eq_getElem?_getD, List.getElem?_eq_getElem (by omega)] at this
    exact decide_eq_false this⟩
  rw [haI, e, if_pos hj]
theorem haI_cases (H : List Hd) (key : Int) : haI H key = -1 ∨ (haI H key = (haH H key : Int) ∧ haH H key < H.length) := by
  rw [haI]
  split
  · rename_i h; exact .inr ⟨rfl, h⟩
  · exact .inl rfl
/-- A code that belongs to words. -/
def wordC (c : Int) : Bool := inB c 1 36 || (decide (c = 39) || decide (c = 42))
/-- A code gets what waits for it: the engine's Once and Caps behind it, and its modifiers. -/
def keyO (e : En) (c m : Int) : En × Int :=
  let m1 := bits .or .i64 m e.o
  let p1 := e.p && wordC c
  ({ e with o := 0, p := p1 }, if (p1 && (decide (c ≤ 26) && decide (bits .andNot .i64 m1 2 = 0))) = true then 2 else m1)
/-- What an action does at once, and the action that is held. -/
def setO (e : En) (a : Ac) : En × Ac :=
  if a.k = 2 ∧ 0 < a.c then ((keyO e a.c a.m).1, ⟨a.k, a.c, (keyO e a.c a.m).2, a.n⟩)
  else if a.k = 4 then ({ e with x := bits .xor .i64 e.x (2 ^ a.n.toNat) }, a)
  else if a.k = 5 then ({ e with x := bits .andNot .i64 (2 ^ a.n.toNat) 1 }, a)
  else if a.k = 8 then ({ e with o := if bits .and .i64 e.o a.m = a.m then bits .andNot .i64 e.o a.m else bits .or .i64 e.o a.m }, a)
  else if a.k = 10 then ({ e with p := !e.p }, a) else (e, a)
/-- Reports without those that are the one before them. -/
def chgV (last : Rv) : List Rv → List Rv
  | [] => []
  | r :: l => if r = last then chgV r l else r :: chgV r l
def repV (H : List Hd) : Rv := ((rofM H : Nat), rofK H)
/-- The engine and the reports of a key that goes down, and whether it can. -/
def prsA (e : En) (key : Int) (hold : Bool) : Ac := if hold = true then holdR (atV e.k e.L (onV e.x e.H : Nat) key) else tapR (atV e.k e.L (onV e.x e.H : Nat) key)
def prsE (e : En) (key : Int) (hold : Bool) : En :=
  { (setO e (prsA e key hold)).1 with H := e.H ++ [⟨key, (setO e (prsA e key hold)).2.k, (setO e (prsA e key hold)).2.c, (setO e (prsA e key hold)).2.m, (setO e (prsA e key hold)).2.n⟩] }
def prsR (e : En) (key : Int) (hold : Bool) : List Rv :=
  chgV (repV e.H) ((if (setO e (prsA e key hold)).2.k = 9 ∧ (setO e (prsA e key hold)).2.n < e.F.length then mrP (prsE e key hold).H (lD e.F (setO e (prsA e key hold)).2.n.toNat) else []) ++ [repV (prsE e key hold).H])
def prsB (e : En) (key : Int) : Bool := okEn e && (inB key 0 (e.k - 1) && decide (haI e.H key < 0))
def relB (e : En) (key : Int) : Bool := okEn e && decide (0 ≤ haI e.H key)
def relE (e : En) (key : Int) : En := { e with H := e.H.eraseIdx (haH e.H key) }
def relR (e : En) (key : Int) : List Rv := chgV (repV e.H) [repV (relE e key).H]

end Go.Proofs.YtjfckchoklepbaaGreat
