/- DERIVED. The exact laws of IsEngine and HeldAt: each, called with any arguments, returns true and changes nothing that was there; what the program's function does is a premise. -/
import Derived.Test.YtbpopgplpipfeaaGreatEnSpec2
import Derived.Test.YtbpopgplpipfeaaGreatEnFn
import Derived.Test.YtbpopgplpipfeaaGreatRpLaw2
import Derived.Deep.RegionHeld3
namespace Go.Proofs.YtbpopgplpipfeaaGreat
open Go.RowKit

theorem lenS_in {L : List (List Ac)} {l : List Ac} (h : l ∈ L) : l.length ≤ lenS L L.length := by
  obtain ⟨i, hi, rfl⟩ := List.getElem_of_mem h
  have h1 := lenS_mono L (show i + 1 ≤ L.length from hi)
  have h2 : lenS L (i + 1) = lenS L i + (lD L i).length := rfl
  have h3 : lD L i = L[i] := by unfold lD; rw [List.getD_eq_getElem?_getD, List.getElem?_eq_getElem hi]; rfl
  rw [h3] at h2
  omega
theorem lenT_in {L : List (List St)} {l : List St} (h : l ∈ L) : l.length ≤ lenT L L.length := by
  obtain ⟨i, hi, rfl⟩ := List.getElem_of_mem h
  have h1 := lenT_mono L (show i + 1 ≤ L.length from hi)
  have h2 : lenT L (i + 1) = lenT L i + (lD L i).length := rfl
  have h3 : lD L i = L[i] := by unfold lD; rw [List.getD_eq_getElem?_getD, List.getElem?_eq_getElem hi]; rfl
  rw [h3] at h2
  omega
theorem enSz_of {e : En} (h : totE e ≤ 1048576) : EnSz e := by
  unfold totE at h
  exact ⟨by omega, fun l hl => by have := lenS_in hl; omega, by omega, by omega, fun l hl => by have := lenT_in hl; omega, by omega, by omega⟩

end Go.Proofs.YtbpopgplpipfeaaGreat
