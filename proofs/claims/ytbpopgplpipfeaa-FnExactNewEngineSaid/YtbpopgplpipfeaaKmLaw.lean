/- DERIVED. The exact laws of chapter 6 on keymaps: each, called with any arguments, returns true and changes nothing that was there, where the program's function answers as the plain function. -/
import Derived.Test.YtbpopgplpipfeaaKmSpec5
import Derived.Test.YtbpopgplpipfeaaLawBits
namespace Go.Proofs.Ytbpopgplpipfeaa
open Go.RowKit

theorem lenS_mem {L : List (List Ac)} {l : List Ac} (h : l ∈ L) : l.length ≤ lenS L L.length := by
  obtain ⟨i, hi, rfl⟩ := List.getElem_of_mem h
  have h1 := lenS_mono L (show i + 1 ≤ L.length from hi)
  have h2 : lenS L (i + 1) = lenS L i + (lD L i).length := rfl
  have h3 : lD L i = L[i] := by unfold lD; rw [List.getD_eq_getElem?_getD, List.getElem?_eq_getElem hi]; rfl
  rw [h3] at h2
  omega

theorem lenS_le {L : List (List Ac)} {m : Nat} (h : ∀ l ∈ L, l.length ≤ m) : ∀ j, lenS L j ≤ j * m
  | 0 => Nat.zero_le _
  | j + 1 => by
    have h1 := lenS_le h j
    have h2 := lD_le h j
    rw [lenS, Nat.succ_mul]
    omega
theorem setV_len (keys : Int) (L : List (List Ac)) (layer key : Int) (a : Ac) : (setV keys L layer key a).l.length ≤ 4 ∧ ∀ l ∈ (setV keys L layer key a).l, l.length ≤ 32 := by
  unfold setV
  split
  · rename_i h
    unfold setOk at h
    rw [Bool.and_eq_true, Bool.and_eq_true, Bool.and_eq_true] at h
    obtain ⟨⟨_, k32⟩, ⟨_, l4⟩, hall⟩ := okKm_at h.2.2.2
    refine ⟨l4, fun l hl => ?_⟩
    obtain ⟨i, hi, rfl⟩ := List.getElem_of_mem hl
    have h1 := (hall i hi).1
    have h3 : lD (setL L layer.toNat key.toNat a) i = (setL L layer.toNat key.toNat a)[i] := by unfold lD; rw [List.getD_eq_getElem?_getD, List.getElem?_eq_getElem hi]; rfl
    rw [h3] at h1
    show ((setL L layer.toNat key.toNat a)[i]).length ≤ 32
    omega
  · exact ⟨by simp, by simp⟩
theorem markKeymap_q (B : Nat) (k : Int) (u : Value) (L : List (List Ac)) (fp : List Nat) (q q2 : Int) (hq : q2 = q + ((lenS L L.length * 4 : Nat) : Int)) (w : World) (hn : L.length ≤ 1048576) (ht : lenS L L.length ≤ 1048576) (hk : 0 ≤ q) (hk' : q ≤ 1000000) (h : LoS w B u L fp) :
    Calls Try.prog 28 #[kmv k u, .int .i64 q] w fun e w' => e = .returned (.int .i64 q2) ∧ LoS w' B u (mkS q L) fp ∧ Turn w w' fp := by
  rw [hq]; exact markKeymap_own B k u L fp q w hn ht hk hk' h
theorem heldKeymap_q (k : Int) (u : Value) (L : List (List Ac)) (q q2 : Int) (hq : q2 = q + ((lenS L L.length * 4 : Nat) : Int)) (w : World) (hn : L.length ≤ 1048576) (ht : lenS L L.length ≤ 1048576) (hk : 0 ≤ q) (hk' : q ≤ 1000000) (h : LdS w u (mkS q L)) :
    Calls Try.prog 67 #[kmv k u, .int .i64 q] w fun e w' => e = .returned (.int .i64 q2) ∧ Below w.heap.size w w' := by
  rw [hq]; exact heldKeymap_any k u L q w hn ht hk hk' h

end Go.Proofs.Ytbpopgplpipfeaa
