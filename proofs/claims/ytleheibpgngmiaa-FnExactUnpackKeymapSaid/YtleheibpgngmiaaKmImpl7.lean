/- DERIVED. The program's unpackLayer: the actions whose bytes a list is. -/
import Derived.Test.YtleheibpgngmiaaKmSpec7
import Derived.Test.YtleheibpgngmiaaKmImpl
import Derived.Test.YtleheibpgngmiaaKmImpl5
namespace Go.Proofs.Ytleheibpgngmiaa
open Go.RowKit

/-- What unpackLayer tells of K actions' bytes. -/
def unLay (xs : List Int) (K : Nat) : List Ac × Bool := if unOkR xs 0 K = true then (unRow xs 0 K, true) else ([], false)
theorem unLay_no {xs : List Int} {K k : Nat} (hk : k < K) (h : (unA xs (0 + 3 * k)).2 = false) : unLay xs K = ([], false) := by
  rw [unLay, unOkR_no h K hk]; rfl

set_option maxRecDepth 100000 in
set_option maxHeartbeats 8000000 in
theorem unpackLayer_any (a : Option Addr) (K cap n : Nat) (xs : List Int) (w : World) (hn : n = 3 * K) (hl : xs.length = n) (hK : K ≤ 255) (hcap : n ≤ cap) (hz : ∀ z ∈ xs, 0 ≤ z ∧ z < 256) (h : Rd w (.slice a n cap) (xs.map (.int .u8))) :
    Calls Try.prog 59 #[.slice a n cap] w fun e w' => ∃ ra rc, e = .returned (.tuple #[.slice ra (unLay xs K).1.length rc, .bool (unLay xs K).2]) ∧ w'.ownsRow w.heap.size 31 4 (.slice ra (unLay xs K).1.length rc) (unLay xs K).1.length (flatAc (unLay xs K).1) ∧ Below w.heap.size w w' := by
  obtain ⟨i0, hi, hz0, hz1, hz2⟩ := info_parts info_ac
  obtain ⟨R, hR⟩ : ∃ R, R = unLay xs K := ⟨_, rfl⟩
  rw [← hR]
  have HR := Lib.hid hR
  have HN := Lib.hid hn
  have HL := Lib.hid hl
  have HZ := Lib.hid hz
  have H := Lib.hid h
  have hn3 : n ≤ 765 := by omega
  clear hR hn hl hz h
  go_enter Try.func59, Try.ntmps59
  go_wp2
  go_loopw [4, 5, 6, 7] (fun o i _ _ wr => ∃ (k : Nat) (ra : Option Addr) (rc : Nat), k ≤ K ∧ i = .int .i64 ((3 * k : Nat) : Int) ∧ o = .slice ra k rc ∧ wr.ownsRow w.heap.size 31 4 (.slice ra k rc) k (flatAc (unRow xs 0 k)) ∧ unOkR xs 0 k = true ∧ Below w.heap.size w wr) (fun _ i _ _ _ => n - (intOf i).toNat)
  case atStart => exact ⟨0, none, 0, Nat.zero_le _, rfl, rfl, World.ownsRow_nil _ _ _ _, rfl, Below.refl _ _⟩
  case round =>
    obtain ⟨k, ra, rc, hk, rfl, rfl, ho, hok, hb⟩ := hrel
    have HO := Lib.hid ho
    have HOK := Lib.hid hok
    have HB := Lib.hid hb
    clear ho hok hb
    obtain ⟨q, hq⟩ : ∃ q, q = 3 * k := ⟨_, rfl⟩
    rw [← hq]
    have HQ := Lib.hid hq
    by_cases hkl : k < K
    · have hqn : q + 3 ≤ n := by have := HN.out; omega
      have hlt' : (q : Int) < (n : Int) := by omega
      have hq1 : (q : Int) + 3 ≤ (cap : Int) := by omega
      have hq2 : (q : Int) + 3 ≤ (n : Int) := by omega
      have hcq : ¬ cap = q := by omega
      have HQN := Lib.hid hqn
      rcases H.out.cases with ⟨hx, _⟩ | ⟨hx, b, off, cap', hs, hlt, hc⟩
      · exfalso; rw [List.map_eq_nil_iff] at hx; have := HL.out; rw [hx] at this; simp at this; omega
      · obtain ⟨rfl, -, rfl⟩ := by simpa using hs
        have hbyte : ∀ j, j < n → wr.cell? ⟨b, off + j, none⟩ = some (.int .u8 (xs.getD j 0)) ∧ 0 ≤ xs.getD j 0 ∧ xs.getD j 0 < 256 := by
          intro j hj
          have hj' : j < xs.length := by have := HL.out; omega
          rw [List.getD_eq_getElem?_getD, List.getElem?_eq_getElem hj']
          refine ⟨?_, HZ.out _ (List.getElem_mem hj')⟩
          rw [HB.out.cell (p := ⟨b, off + j, none⟩) hlt, hc j (by rw [List.length_map]; exact hj'), List.getElem_map]
          rfl
        have hrd : Rd wr (.slice (some ⟨b, off + q, none⟩) 3 (cap - q)) ([xs.getD q 0, xs.getD (q + 1) 0, xs.getD (q + 2) 0].map (.int .u8)) := by
          refine ⟨_, _, rfl, .inr ⟨b, off + q, rfl, Nat.lt_of_lt_of_le hlt HB.out.size, fun x hx => ?_⟩⟩
          have hx3 : x = 0 ∨ x = 1 ∨ x = 2 := by simp at hx; omega
          rcases hx3 with rfl | rfl | rfl
          · exact (hbyte q (by omega)).1
          · exact (hbyte (q + 1) (by omega)).1
          · exact (hbyte (q + 2) (by omega)).1
        have hby3 : ∀ z ∈ [xs.getD q 0, xs.getD (q + 1) 0, xs.getD (q + 2) 0], 0 ≤ z ∧ z < 256 := by
          intro z hz
          simp only [List.mem_cons, List.not_mem_nil, or_false] at hz
          rcases hz with rfl | rfl | rfl
          · exact (hbyte q (by omega)).2
          · exact (hbyte (q + 1) (by omega)).2
          · exact (hbyte (q + 2) (by omega)).2
        obtain ⟨S, hS⟩ : ∃ S, S = unA xs q := ⟨_, rfl⟩
        have HRA := Lib.hid hS
        have HRd := Lib.hid hrd
        have HBy3 := Lib.hid hby3
        clear hS hrd hby3 hbyte hs hlt hc hx hq hqn
        go_wp2_with fail
        refine (implUnpackAction_q _ [xs.getD q 0, xs.getD (q + 1) 0, xs.getD (q + 2) 0] S HRA.out _ (by simp [maxLen]) HBy3.out HRd.out).mono ?_
        rintro e w5 ⟨rfl, hb5⟩
        obtain ⟨⟨ak, ac, am, an⟩, rb⟩ := S
        simp only
        have HB5 := Lib.hid (HB.out.trans (hb5.mono HB.out.size))
        have HO5 := Lib.hid (owns_below HO.out hb5)
        clear hb5
        go_upto_region 6 with (fail)
        obtain ⟨W6, hW6⟩ : ∃ x, x = w5.alloc (.cells #[.int .i64 ak, .int .i64 ac, .int .i64 am, .int .i64 an] 31) := ⟨_, rfl⟩
        obtain ⟨gx, hgx⟩ : ∃ g, g = w5.heap.size := ⟨_, rfl⟩
        have hb6 : Below w5.heap.size w5 W6 := by rw [hW6]; exact (Below.refl _ _).alloc (Nat.le_refl _) _
        have hx6 : Bxd W6 gx [.int .i64 ak, .int .i64 ac, .int .i64 am, .int .i64 an] := by rw [hW6, hgx]; exact Bxd.new _ _ _
        rw [← hW6, ← hgx]
        have HB6 := Lib.hid (HB5.out.trans (hb6.mono HB5.out.size))
        have HO6 := Lib.hid (owns_below HO5.out hb6)
        have HX6 := Lib.hid hx6
        clear hW6 hgx hb6 hx6
        cases rb
        · have hno : R = ([], false) := by rw [HR.out]; exact unLay_no hkl (by rw [Nat.zero_add, ← HQ.out, ← HRA.out])
          subst hno
          go_wp2
          go_ret2
          exact ⟨none, 0, rfl, World.ownsRow_nil _ _ _ _, HB6.out⟩
        · have hst : flatAc (unRow xs 0 (k + 1)) = flatAc (unRow xs 0 k) ++ [.int .i64 ak, .int .i64 ac, .int .i64 am, .int .i64 an] := by
            rw [unRow, flatAc_snoc, Nat.zero_add, ← HQ.out, ← HRA.out]
          have hok2 : unOkR xs 0 (k + 1) = true := by rw [unOkR, HOK.out, Nat.zero_add, ← HQ.out, ← HRA.out]; rfl
          have HST := Lib.hid hst
          have HOK2 := Lib.hid hok2
          have x0 := HX6.out.at 0 _ rfl
          have x1 := HX6.out.at 1 _ rfl
          have x2 := HX6.out.at 2 _ rfl
          have x3 := HX6.out.at 3 _ rfl
          have b63 : k + 1 ≤ maxLen := by unfold maxLen; omega
          have b47 : (k + 1) * 32 ≤ 140737488355328 := by omega
          have hsz1 : w.heap.size ≤ W6.heap.size + 1 := Nat.le_succ_of_le HB6.out.size
          clear hst hok2
          go_wp2_with (at_builtin; refine wpList_append_owns rfl _ _ 33 rfl w.heap.size 31 i0 (.agg #[.int .i64 0, .int .i64 0, .int .i64 0, .int .i64 0]) 4 32 Try.underlying33 hi hz0 hz1 hz2 rfl (by decide) _ _ _ rfl (HO6.out.alloc _) _ _ _ _ rfl (World.ownsRow_lit (e := 31) (size := 4) W6 #[.int .i64 ak, .int .i64 ac, .int .i64 am, .int .i64 an] 1 (Nat.le_refl _) (by simp [maxLen]) rfl) (by simp [Value.oneCell']) b63 b47 (by simp; exact hsz1) ?_)
          intro v7 w7 hown7 hgrow
          obtain ⟨a7, c7, rfl⟩ := owns_shape hown7
          have HB7 := Lib.hid ((HB6.out.alloc HB6.out.size _).grown hgrow (by simp; exact hsz1) (fun q hq => (HO6.out.lt q hq).1))
          have HO7 := Lib.hid (show w7.ownsRow w.heap.size 31 4 (.slice a7 (k + 1) c7) (k + 1) (flatAc (unRow xs 0 (k + 1))) by rw [HST.out]; exact hown7)
          have HAT := Lib.hid (show ((q : Int) + 3) = ((3 * (k + 1) : Nat) : Int) by have := HQ.out; omega)
          clear hown7 hgrow b63 b47 hsz1 x0 x1 x2 x3
          go_wp2
          go_roundw
          case rel => exact ⟨k + 1, a7, c7, by omega, by rw [HAT.out], rfl, HO7.out, HOK2.out, HB7.out⟩
          case measure => simp [intOf]; omega
    · obtain rfl : k = K := by omega
      have hqn : q = n := by have := HN.out; omega
      have hR2 : R = (unRow xs 0 k, true) := by rw [HR.out, unLay, if_pos HOK.out]
      subst hR2
      have HUL := Lib.hid (unRow_len xs 0 k)
      subst hqn
      clear hq
      go_wp2
      go_ret2
      exact ⟨ra, rc, by rw [HUL.out]; rfl, by rw [HUL.out]; exact HO.out, HB.out⟩

end Go.Proofs.Ytleheibpgngmiaa
