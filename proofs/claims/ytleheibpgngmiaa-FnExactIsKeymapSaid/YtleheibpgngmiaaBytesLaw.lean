/- DERIVED. Lists of bytes in a law, with what they own: copied, alike, marked, marks told. -/
import Derived.Test.YtleheibpgngmiaaBytes
import Derived.Test.YtleheibpgngmiaaBytesMark
namespace Go.Proofs.Ytleheibpgngmiaa
open Go.RowKit

set_option maxHeartbeats 400000 in
theorem markByteS_grown (base : Nat) (v : Value) (n : Nat) (xs : List Value) (k : Int) (w : World) (hn : n ≤ 1048576) (hk : 0 ≤ k) (hk' : k ≤ 1099511627776) (h : w.ownsRow base 5 1 v n xs) :
    Calls Try.prog 33 #[v, .int .i64 k] w fun e w' => e = .returned (.int .i64 (k + n)) ∧ w'.ownsRow base 5 1 v n (marks8 k n) ∧ w.grownBy w' v.ownBlock := by
  rcases h.2 with ⟨rfl, hn0⟩ | ⟨g, cap, cur, rfl, hg, hh, hnc, hcm, hcs, ht⟩
  · subst hn0
    clear h
    go_enter Try.func33, Try.ntmps33
    go_wp2
    refine wp_loop_rounds 1 ?_
    rw [rounds_succ]
    go_wp2
    go_ret
    exact ⟨ret_int (by simp), World.ownsRow_nil _ _ _ _, grown_refl _ _⟩
  · have HH := Lib.hid h
    clear h hh hnc hcm hcs ht
    go_enter Try.func33, Try.ntmps33
    go_wp2
    go_loopw [1, 5] (fun c i wr => ∃ (j : Nat) (ys : List Value), j ≤ n ∧ i = .int .i64 j ∧ c = .int .i64 (k + j) ∧ wr.ownsRow base 5 1 (.slice (some ⟨g, 0, none⟩) n cap) n ys ∧ (∀ l, l < j → ys[l]? = some (mark8 k l)) ∧ w.grownBy wr (some g))
      (fun _ i _ => n - (intOf i).toNat)
    case atStart => exact ⟨0, xs, Nat.zero_le _, rfl, by simp, HH.out, fun l hl => by omega, grown_refl _ _⟩
    case round =>
      obtain ⟨j, ys, hj, rfl, rfl, hown, hys, hb⟩ := hrel
      have hly : ys.length = n := by simpa using hown.1
      by_cases hlt : j < n
      · obtain ⟨y, hst⟩ : ∃ y, wr.cell? ⟨g, j, none⟩ = some y := ⟨ys[j]'(by omega), by rw [hown.cellAt j (by omega), List.getElem?_eq_getElem (show j < ys.length by omega)]⟩
        have hfr := hown.frozenAt j
        have HS := Lib.hid (hown.stored j (mark8 k j))
        have HY := Lib.hid hys
        have HB := Lib.hid hb
        have HL := Lib.hid hly
        have hwr : IntKind.u8.wrap (k + j) = (k + j) % 256 := IntKind.wrap_u8 _
        clear hown hys hb hly
        go_wp2
        go_roundw
        case rel =>
          refine ⟨j + 1, _, by omega, by go_num, by go_num, HS.out.1, fun l hl => ?_, grown_trans HB.out (grown_set _ g _ _)⟩
          by_cases hlj : l = j
          · subst hlj
            rw [List.getElem?_set]; simp [HL.out, hlt]
          · rw [List.getElem?_set, if_neg (by omega)]; exact HY.out l (by omega)
        case measure => simp [intOf]; omega
      · obtain rfl : j = n := by omega
        have HD := Lib.hid (marks8_done hly hys)
        have HO := Lib.hid hown
        have HB := Lib.hid hb
        clear hown hys hb hly
        go_wp2
        go_ret
        exact ⟨rfl, by rw [← HD.out]; exact HO.out, HB.out⟩

/-- v owns the bytes zs. -/
abbrev ByO (w : World) (B : Nat) (v : Value) (zs : List Int) (fp : List Nat) : Prop := OwF w B 5 1 v zs.length (zs.map (.int .u8)) fp
/-- v owns n marks, counted from q on. -/
abbrev ByM (w : World) (B : Nat) (v : Value) (n : Nat) (q : Int) (fp : List Nat) : Prop := OwF w B 5 1 v n (marks8 q n) fp
/-- What a call returns that makes bytes. -/
def ByOut (zs : List Int) (w : World) (e : Ending) (w' : World) : Prop := ∃ a c fp, e = .returned (.slice a zs.length c) ∧ ByO w' w.heap.size (.slice a zs.length c) zs fp ∧ Below w.heap.size w w'
theorem byOut {zs : List Int} {w w' : World} {e : Ending} (h : ∃ u, e = .returned u ∧ w'.ownsRow w.heap.size 5 1 u zs.length (zs.map (.int .u8)) ∧ Below w.heap.size w w') : ByOut zs w e w' := by
  obtain ⟨u, rfl, ho, hb⟩ := h
  obtain ⟨a, c, fp, rfl, hf⟩ := OwF.shape ho
  exact ⟨a, c, fp, rfl, hf, hb⟩
theorem OwF.rd1 {w : World} {B : Nat} {T : TypeId} {v : Value} {n : Nat} {xs : List Value} {fp : List Nat} (h : OwF w B T 1 v n xs fp) : Rd w v xs := Rd.of_owns h.1
theorem toByteS_law (v : Value) (zs : List Int) (w : World) (hl : zs.length ≤ 1048576) (h : Rd w v (zs.map (.int .u8))) : Calls Try.prog 36 #[v] w (ByOut zs w) :=
  (toByteS_any v zs w hl h).mono fun _ _ hp => byOut hp
theorem below_of_drewN {w w' : World} (h : ∃ n, w' = w.drewN n) : Below w.heap.size w w' := by obtain ⟨n, rfl⟩ := h; exact below_drewN (Below.refl _ _) n
theorem eqByteS_same (va vb : Value) (zs : List Int) (w : World) (hl : zs.length ≤ 1000000000000) (ha : Rd w va (zs.map (.int .u8))) (hb : Rd w vb (zs.map (.int .u8))) :
    Calls Try.prog 32 #[va, vb] w fun e w' => e = .returned (.bool true) ∧ Below w.heap.size w w' :=
  (eqByteS_any va vb zs zs w hl ha hb).mono fun _ _ hp => ⟨by rw [hp.1, decide_eq_true rfl], below_of_drewN hp.2⟩
theorem markByteS_law (B : Nat) (v : Value) (zs : List Int) (fp : List Nat) (q q2 : Int) (hq : q2 = q + (zs.length : Int)) (w : World) (hn : zs.length ≤ 1048576) (hk : 0 ≤ q) (hk' : q ≤ 1099511627776) (h : ByO w B v zs fp) :
    Calls Try.prog 33 #[v, .int .i64 q] w fun e w' => e = .returned (.int .i64 q2) ∧ ByM w' B v zs.length q fp ∧ Turn w w' fp := by
  rw [hq]
  refine (markByteS_grown B v zs.length _ q w hn hk hk' h.1).mono ?_
  rintro e w' ⟨rfl, ho, hg⟩
  obtain ⟨h1, h2⟩ := h.marked ho hg
  exact ⟨rfl, h1, h2⟩
theorem heldByteS_law (v : Value) (B n : Nat) (fp : List Nat) (q q2 : Int) (hq : q2 = q + (n : Int)) (w : World) (hn : n ≤ 1048576) (hk : 0 ≤ q) (hk' : q ≤ 1099511627776) (h : ByM w B v n q fp) :
    Calls Try.prog 34 #[v, .int .i64 q] w fun e w' => e = .returned (.int .i64 q2) ∧ Below w.heap.size w w' := by
  rw [hq]
  exact (heldByteS_any v n q w hn hk hk' (Rd.of_owns h.1)).mono fun _ _ hp => ⟨hp.1, by rw [← hp.2]; exact Below.refl _ _⟩

end Go.Proofs.Ytleheibpgngmiaa
