/- DERIVED. The reference's ReportOf: the report of held keys. · The reference's ReadBits: the report whose bits are bytes. · The reference's BitBytes: a report's bits. -/
import Derived.Test.YteljmfdlegohbaaRpSpec
import Derived.Test.YteljmfdlegohbaaHdSpec
import Derived.Test.YteljmfdlegohbaaRp
import Derived.Deep.AppendLies
import Derived.BigRegion
namespace Go.Proofs.Yteljmfdlegohbaa
open Go.RowKit

/-- What a walk knows of one held key. -/
theorem hd_at {w : World} {ua : Option Addr} {m uc : Nat} {l : List Hd} (h : RdN w (.slice ua m uc) l.length (flatHd l)) {k : Nat} (hk : k < l.length) : ∃ b off, ua = some ⟨b, off, none⟩ ∧ b < w.heap.size ∧
    w.cell? ⟨b, off + k * 5, none⟩ = some (.int .i64 (hdD l k).h) ∧ w.cell? ⟨b, off + k * 5 + 1, none⟩ = some (.int .i64 (hdD l k).k) ∧ w.cell? ⟨b, off + k * 5 + 2, none⟩ = some (.int .i64 (hdD l k).c) ∧ w.cell? ⟨b, off + k * 5 + 3, none⟩ = some (.int .i64 (hdD l k).m) ∧ w.cell? ⟨b, off + k * 5 + 4, none⟩ = some (.int .i64 (hdD l k).n) := by
  rcases rd_hds (l := l) h with ⟨rfl, _⟩ | ⟨b, off, cap, _, hs, hlt, hc⟩
  · simp at hk
  · obtain ⟨rfl, rfl, rfl⟩ := by simpa using hs
    exact ⟨b, off, rfl, hlt, hc k hk⟩
theorem owns_putAt {w : World} {B c n y : Nat} {e : TypeId} {v : Value} {xs : List Value} (h : w.ownsRow B e c v n xs) (hy : ∀ q, v.ownBlock = some q → q ≠ y) (i : Nat) (vs : List Value) : (putW w y i vs).ownsRow B e c v n xs :=
  ((OwF.mk' h).turn (Turn.of_grown (putW_grown vs i w)) (fun b hb hb' => by
    rw [List.mem_singleton] at hb'
    unfold ownFp at hb
    rcases hq : v.ownBlock with _ | q
    · rw [hq] at hb; simp at hb
    · rw [hq] at hb
      have : b = q := by simpa using hb
      exact hy q hq (by omega))).1
theorem owns_keep {w w' : World} {B c n : Nat} {e : TypeId} {v : Value} {xs : List Value} (h : w.ownsRow B e c v n xs) (hk : ∀ q, v.ownBlock = some q → w'.heap[q]? = w.heap[q]?) : w'.ownsRow B e c v n xs := by
  obtain ⟨h1, h2⟩ := h
  refine ⟨h1, ?_⟩
  rcases h2 with h2 | ⟨g, cap, cur, rfl, hg, hh, r⟩
  · exact .inl h2
  · exact .inr ⟨g, cap, cur, rfl, hg, by rw [hk g rfl]; exact hh, r⟩
/-- What a function returns that makes a report. -/
def RpV (r : Int) (zs : List Int) (w : World) (e : Ending) (w' : World) : Prop := ∃ u, e = .returned (rpv r u) ∧ w'.ownsRow w.heap.size 3 1 u zs.length (zs.map (.int .i64)) ∧ Below w.heap.size w w'

/-- What a function returns that reads a report. -/
def RpTB (x : Rpr) (w : World) (e : Ending) (w' : World) : Prop := ∃ u, e = .returned (.tuple #[rpv x.r u, .bool x.b]) ∧ w'.ownsRow w.heap.size 3 1 u x.z.length (x.z.map (.int .i64)) ∧ Below w.heap.size w w'
theorem bytes_at {w : World} {a : Option Addr} {n cap : Nat} {zs : List Int} (h : Rd w (.slice a n cap) (zs.map (.int .u8))) {j : Nat} (hj : j < zs.length) : ∃ b off, a = some ⟨b, off, none⟩ ∧ b < w.heap.size ∧ ∀ j, j < zs.length → w.cell? ⟨b, off + j, none⟩ = some (.int .u8 (zs.getD j 0)) := by
  rcases h.cases with ⟨hx, _⟩ | ⟨_, b, off, cap', hs, hlt, hc⟩
  · rw [List.map_eq_nil_iff] at hx; rw [hx] at hj; simp at hj
  · obtain ⟨rfl, -⟩ := by simpa using hs
    refine ⟨b, off, rfl, hlt, fun j hj => ?_⟩
    rw [hc j (by rw [List.length_map]; exact hj), List.getElem_map, List.getD_eq_getElem?_getD, List.getElem?_eq_getElem hj]
    rfl
theorem byte_of {zs : List Int} (hz : ∀ z ∈ zs, 0 ≤ z ∧ z < 256) {j : Nat} (hj : j < zs.length) : 0 ≤ zs.getD j 0 ∧ zs.getD j 0 < 256 := by
  rw [List.getD_eq_getElem?_getD, List.getElem?_eq_getElem hj]
  exact hz _ (List.getElem_mem hj)
/-- A number is appended to the slice in a report's box, and the slice is stored there: what is known behind it. -/
theorem app_box {w0 w w4 : World} {B0 gw gm ga cap g2 cap2 : Nat} {X : List Int} {x r0 : Int} {T : TypeId} {R : Obj}
    (hgm : w.heap[gm]? = some (.cells #[.int .i64 r0, .slice (some ⟨ga, 0, none⟩) X.length cap] T (0, 0)))
    (ho : w.ownsRow (gw + 1) 3 1 (.slice (some ⟨ga, 0, none⟩) X.length cap) X.length (X.map (.int .i64)))
    (hga : ¬ ga = gm) (hgw : w.heap[gw]? = some R) (hlt : gw < gm) (hb : Below B0 w0 w) (hB0 : B0 ≤ gw)
    (hown2 : w4.ownsRow (gw + 1) 3 1 (.slice (some ⟨g2, 0, none⟩) (X.length + 1) cap2) (X.length + 1) (X.map (.int .i64) ++ [.int .i64 x]))
    (hgrow2 : (w.alloc (.cells #[.int .i64 x] 3)).grownBy w4 (Value.slice (some ⟨ga, 0, none⟩) X.length cap).ownBlock)
    (hat2 : (Value.slice (some ⟨ga, 0, none⟩) X.length cap).ownBlock = some g2 ∨ g2 = w.heap.size + 1) :
    w4.cell? ⟨gm, 1, none⟩ = some (.slice (some ⟨ga, 0, none⟩) X.length cap) ∧ w4.frozen? ⟨gm, 1, none⟩ = false ∧
    (w4.setCell ⟨gm, 1, none⟩ (.slice (some ⟨g2, 0, none⟩) (X.length + 1) cap2)).heap[gm]? = some (.cells #[.int .i64 r0, .slice (some ⟨g2, 0, none⟩) (X ++ [x]).length cap2] T (0, 0)) ∧
    (w4.setCell ⟨gm, 1, none⟩ (.slice (some ⟨g2, 0, none⟩) (X.length + 1) cap2)).ownsRow (gw + 1) 3 1 (.slice (some ⟨g2, 0, none⟩) (X ++ [x]).length cap2) (X ++ [x]).length ((X ++ [x]).map (.int .i64)) ∧ ¬ g2 = gm ∧
    (w4.setCell ⟨gm, 1, none⟩ (.slice (some ⟨g2, 0, none⟩) (X.length + 1) cap2)).heap[gw]? = some R ∧
    Below B0 w0 (w4.setCell ⟨gm, 1, none⟩ (.slice (some ⟨g2, 0, none⟩) (X.length + 1) cap2)) := by
  have hgs : gm < w.heap.size := (Array.getElem?_eq_some_iff.mp hgm).1
  have hlen : (X ++ [x]).length = X.length + 1 := by simp
  have hg2 : ¬ g2 = gm := by
    rcases hat2 with h1 | h1
    · have h2 : some ga = some g2 := h1
      have h3 := Option.some.inj h2
      omega
    · omega
  have hba : Below w.heap.size w (w.alloc (.cells #[.int .i64 x] 3)) := (Below.refl _ _).alloc (Nat.le_refl _) _
  have hb4 : Below (gw + 1) w w4 := (hba.mono (by omega)).grown hgrow2 (by simp; omega) (fun q hq => (ho.lt q hq).1)
  have hgm4 : w4.heap[gm]? = w.heap[gm]? := by
    rw [hgrow2.block gm (by simp; omega) (fun e => by have h2 : some ga = some gm := e.symm ▸ rfl; exact hga (Option.some.inj h2))]
    exact hba.block gm hgs
  have hgm6 := hgm4.trans hgm
  obtain ⟨o14, p14⟩ := cells_of_heap hgm6 1 (by simp)
  refine ⟨by simpa using o14, by simpa using p14, by rw [hlen]; exact heap_setCell_same w4 gm 1 _ _ _ hgm6, ?_, hg2, ?_, ?_⟩
  · rw [hlen]
    refine owns_keep (w := w4) (by simpa using hown2) (fun q hq => ?_)
    have h1 : some g2 = some q := hq
    have h2 := Option.some.inj h1
    rw [← h2]
    exact heap_setCell_other w4 ⟨gm, 1, none⟩ g2 _ hg2
  · rw [heap_setCell_other w4 ⟨gm, 1, none⟩ gw _ (by show ¬ gw = gm; omega)]
    exact (hb4.block gw (by omega)).trans hgw
  · exact (hb.trans (hb4.mono (by omega))).setCell (by show B0 ≤ gm; omega) _
theorem bitK_len (b : List Int) : ∀ k, (bitK b k).length ≤ k
  | 0 => Nat.le_refl _
  | k + 1 => by
    have := bitK_len b k
    rw [bitK]; split
    · simp; omega
    · omega

theorem wraps8 (n : Int) (h₀ : 0 ≤ n) (h₁ : n < 2 ^ 8) : IntKind.u8.wrap n = n := by rw [IntKind.wrap_u8]; omega
theorem or_nat8 (a b : Nat) (ha : a < 2 ^ 8) (hb : b < 2 ^ 8) : bits .or .u8 (a : Int) (b : Int) = ((a ||| b : Nat) : Int) := (bits_nat .u8 8 (by decide) wraps8 a b ha hb).2
theorem biN_len (r : Int) (zs : List Int) : ∀ j, (biN r zs j).length = 8
  | 0 => rfl
  | j + 1 => by rw [biN]; simp only [List.length_set]; exact biN_len r zs j
theorem biN_byte {r : Int} {zs : List Int} (h : okRp r zs = true) : ∀ j, j ≤ zs.length → ∀ i, i < 8 → 0 ≤ (biN r zs j).getD i 0 ∧ (biN r zs j).getD i 0 < 256
  | 0, _, i, hi => by
    have hr := (okRp_at h).1
    have : i = 0 ∨ i = 1 ∨ i = 2 ∨ i = 3 ∨ i = 4 ∨ i = 5 ∨ i = 6 ∨ i = 7 := by omega
    rcases this with rfl | rfl | rfl | rfl | rfl | rfl | rfl | rfl <;> simp [biN] <;> omega
  | j + 1, hj, i, hi => by
    have ih := biN_byte h j (by omega)
    have hl := biN_len r zs j
    obtain ⟨k, hk⟩ : ∃ k, k = (zs.getD j 0).toNat - 1 := ⟨_, rfl⟩
    have hbi : biN r zs (j + 1) = (biN r zs j).set (1 + k / 8) ((((biN r zs j).getD (1 + k / 8) 0).toNat ||| 2 ^ (k % 8) : Nat) : Int) := by rw [hk]; rfl
    rw [hbi, List.getD_eq_getElem?_getD, List.getElem?_set]
    by_cases e : 1 + k / 8 = i
    · rw [if_pos e]
      by_cases e2 : 1 + k / 8 < (biN r zs j).length
      · rw [if_pos e2]
        have h1 := ih (1 + k / 8) (by omega)
        have h2 : 2 ^ (k % 8) < 2 ^ 8 := Nat.pow_lt_pow_right (by omega) (Nat.mod_lt _ (by omega))
        have h3 := Nat.or_lt_two_pow (n := 8) (x := ((biN r zs j).getD (1 + k / 8) 0).toNat) (by omega) h2
        simp only [Option.getD_some]
        omega
      · rw [if_neg e2]; simp
    · rw [if_neg e, ← List.getD_eq_getElem?_getD]; exact ih i hi

end Go.Proofs.Yteljmfdlegohbaa
