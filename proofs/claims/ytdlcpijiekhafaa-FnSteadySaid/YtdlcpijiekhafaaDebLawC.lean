/- DERIVED. Chapter 3's functions, of the reference and of the program, as the laws call them: what is returned, as data, and which memory holds it. -/
import Derived.Test.YtdlcpijiekhafaaDebNewI
import Derived.Test.YtdlcpijiekhafaaDebRunI
import Derived.Test.YtdlcpijiekhafaaSeqImpl
namespace Go.Proofs.Ytdlcpijiekhafaa
open Go.RowKit

/-- A debouncer as data. -/
structure DbR where
  k : Int
  t : Int
  n : Int
  s : Int
  l : Int
  z : List Int
def zeroR : DbR := ⟨0, 0, 0, 0, 0, []⟩
def newR (k t n : Int) : DbR × Bool := if okNew k t n = true then (⟨k, t, n, 0, 0, List.replicate n.toNat 99⟩, true) else (zeroR, false)
def stepR (k t n s l : Int) (zs : List Int) (raw : Int) : DbR × Bool :=
  if okStep k t n s l zs raw = true then (⟨k, t, n, (shownTo k t raw.toNat l.toNat s.toNat zs n.toNat : Nat), raw, agesTo k t raw.toNat l.toNat s.toNat zs n.toNat⟩, true) else (zeroR, false)
def runR (k t n s l : Int) (zs xs : List Int) : DbR × List Int × Bool :=
  if okRun k t n s l zs xs = true then (⟨k, t, n, (runN k t n s l zs xs xs.length).1, (runN k t n s l zs xs xs.length).2.1, (runN k t n s l zs xs xs.length).2.2⟩, runShown k t n s l zs xs xs.length, true) else (zeroR, [], false)

theorem newR_len (k t n : Int) : (newR k t n).1.z.length ≤ 1048576 := by
  unfold newR
  split
  · rename_i ho
    unfold okNew at ho
    simp only [Bool.and_eq_true] at ho
    have := (of_decide_eq_true (show decide (1 ≤ n ∧ n ≤ 24) = true from ho.2)).2
    simp; omega
  · simp [zeroR]
theorem stepR_len (k t n s l : Int) (zs : List Int) (raw : Int) : (stepR k t n s l zs raw).1.z.length ≤ 1048576 := by
  unfold stepR
  split
  · rename_i ho
    unfold okStep at ho
    rw [Bool.and_eq_true] at ho
    obtain ⟨N, S, L, rfl, rfl, rfl, _, _, _, _, _, hN, _⟩ := okDeb_nat ho.1
    simp [agesTo]; omega
  · simp [zeroR]
theorem runN_len {k t n s l : Int} {zs xs : List Int} (h : zs.length = n.toNat) (j : Nat) : (runN k t n s l zs xs j).2.2.length = n.toNat := by
  cases j with
  | zero => exact h
  | succ j => simp [runN, agesTo]
theorem runR_len (k t n s l : Int) (zs xs : List Int) : (runR k t n s l zs xs).1.z.length ≤ 1048576 ∧ (runR k t n s l zs xs).2.1.length ≤ 1048576 := by
  unfold runR
  split
  · rename_i ho
    unfold okRun at ho
    simp only [Bool.and_eq_true] at ho
    obtain ⟨⟨h1, h2⟩, h3⟩ := ho
    have h2 := of_decide_eq_true h2
    obtain ⟨N, S, L, rfl, rfl, rfl, _, _, _, _, _, hN, hz, _⟩ := okDeb_nat h1
    refine ⟨?_, by simp [runShown]; omega⟩
    show (runN _ _ _ _ _ _ _ _).2.2.length ≤ _
    rw [runN_len (by simpa using hz)]; simp; omega
  · simp [zeroR]

theorem owC_len {w : World} {B n : Nat} {e : TypeId} {u : Value} {zs : List Int} (h : w.ownsRow B e 1 u n (zs.map (.int .i64))) (hl : zs.length ≤ 1048576) :
    ∃ a c fp, u = .slice a zs.length c ∧ OwC w B (.row [.int .i64]) (.slice a zs.length c) (.row (ones zs)) fp := by
  have hn : zs.length = n := by simpa using h.1
  obtain ⟨fp, _, ho⟩ := owC_ints h (by unfold maxLen; omega)
  obtain ⟨a, c, rfl⟩ := owns_shape h
  exact ⟨a, c, fp, by rw [hn], by rw [hn]; exact ho⟩

/-- What a function returns that returns a debouncer and a Bool. -/
def DbOut (R : DbR) (b : Bool) (w : World) (e : Ending) (w' : World) : Prop :=
  ∃ a c fp, e = .returned (.tuple #[dbv R.k R.t R.n R.s R.l (.slice a R.z.length c), .bool b]) ∧ OwC w' w.heap.size (.row [.int .i64]) (.slice a R.z.length c) (.row (ones R.z)) fp ∧ Below w.heap.size w w'
theorem newDeb_out {k t n : Int} {w w' : World} {e : Ending} {x : DbR × Bool} (hx : newR k t n = x) (h : NewDeb k t n w e w') : DbOut x.1 x.2 w e w' := by
  subst hx
  unfold NewDeb at h
  unfold newR
  by_cases ho : okNew k t n = true
  · rw [if_pos ho] at h ⊢
    obtain ⟨u, rfl, hown, hb⟩ := h
    have hn : n ≤ 24 := by
      unfold okNew at ho
      simp only [Bool.and_eq_true] at ho
      exact (of_decide_eq_true (show decide (1 ≤ n ∧ n ≤ 24) = true from ho.2)).2
    obtain ⟨a, c, fp, rfl, ho⟩ := owC_len hown (by simp; omega)
    exact ⟨a, c, fp, rfl, ho, hb⟩
  · rw [if_neg ho] at h ⊢
    obtain ⟨rfl, hb⟩ := h
    exact ⟨none, 0, [], rfl, OwC.rowNil, hb⟩
theorem stepDeb_out {k t n s l raw : Int} {zs : List Int} {w w' : World} {e : Ending} {x : DbR × Bool} (hx : stepR k t n s l zs raw = x) (h : StepDeb k t n s l zs raw w e w') : DbOut x.1 x.2 w e w' := by
  subst hx
  unfold StepDeb at h
  unfold stepR
  by_cases ho : okStep k t n s l zs raw = true
  · rw [if_pos ho] at h ⊢
    obtain ⟨u, rfl, hown, hb⟩ := h
    have hn : n.toNat ≤ 24 := by
      unfold okStep at ho
      rw [Bool.and_eq_true] at ho
      obtain ⟨N, S, L, rfl, rfl, rfl, _, _, _, _, _, hN, _⟩ := okDeb_nat ho.1
      simpa using hN
    obtain ⟨a, c, fp, rfl, ho⟩ := owC_len hown (by simp [agesTo]; omega)
    exact ⟨a, c, fp, rfl, ho, hb⟩
  · rw [if_neg ho] at h ⊢
    obtain ⟨rfl, hb⟩ := h
    exact ⟨none, 0, [], rfl, OwC.rowNil, hb⟩
/-- What DebounceRun returns. -/
def RunOut (R : DbR) (o : List Int) (b : Bool) (w : World) (e : Ending) (w' : World) : Prop :=
  ∃ a c fp a' c' fp', e = .returned (.tuple #[dbv R.k R.t R.n R.s R.l (.slice a R.z.length c), .slice a' o.length c', .bool b]) ∧ OwC w' w.heap.size (.row [.int .i64]) (.slice a R.z.length c) (.row (ones R.z)) fp ∧
    OwC w' w.heap.size (.row [.int .i64]) (.slice a' o.length c') (.row (ones o)) fp' ∧ (∀ b ∈ fp, b ∉ fp') ∧ Below w.heap.size w w'
theorem fp_block {w : World} {B : Nat} {zs : List Int} {u : Value} {fp : List Nat} (h : OwC w B (.row [.int .i64]) u (.row (ones zs)) fp) : ∀ b ∈ fp, u.ownBlock = some b := by
  intro b hb
  obtain ⟨rs, hc, _, h⟩ := h.rowInv
  rcases h with ⟨_, _, rfl⟩ | ⟨g, cap, cur, t, fps, rfl, _, _, _, rfl, hf, hr⟩
  · simp at hb
  · rcases List.mem_cons.mp hb with rfl | hb
    · rfl
    · obtain ⟨f, hf1, hf2⟩ := List.mem_flatten.mp hb
      obtain ⟨i, hi, rfl⟩ := List.getElem_of_mem hf1
      have h1 := hr i (by omega) hi
      have : rs[i]'(by omega) = (ones zs)[i]'(by simp only [Ce.row.injEq] at hc; rw [hc]; omega) := by simp only [Ce.row.injEq] at hc; simp [hc]
      obtain ⟨_, _, _, _, f, f', _, _, e, h2, h3⟩ := h1.consInv
      rw [e, h2.intInv.1, h3.nilInv.2.2] at hf2
      simp at hf2
theorem runDeb_out {k t n s l : Int} {zs xs : List Int} {w w' : World} {e : Ending} {x : DbR × List Int × Bool} (hx : runR k t n s l zs xs = x) (h : RunDeb k t n s l zs xs w e w') : RunOut x.1 x.2.1 x.2.2 w e w' := by
  subst hx
  unfold RunDeb at h
  unfold runR
  obtain ⟨u, o, h, hb⟩ := h
  by_cases ho : okRun k t n s l zs xs = true
  · rw [if_pos ho] at h ⊢
    obtain ⟨rfl, hu, hoo, hd⟩ := h
    have h1 : n.toNat ≤ 24 ∧ xs.length ≤ 200 := by
      unfold okRun at ho
      simp only [Bool.and_eq_true] at ho
      obtain ⟨⟨h1, h2⟩, h3⟩ := ho
      obtain ⟨N, S, L, rfl, rfl, rfl, _, _, _, _, _, hN, _⟩ := okDeb_nat h1
      exact ⟨by simpa using hN, of_decide_eq_true h2⟩
    have hl1 : ((runN k t n s l zs xs xs.length).2.2).length = n.toNat := by have := hu.1; simpa using this
    obtain ⟨a, c, fp, rfl, h2⟩ := owC_len hu (by rw [hl1]; omega)
    obtain ⟨a', c', fp', rfl, h3⟩ := owC_len hoo (by simp [runShown]; omega)
    exact ⟨a, c, fp, a', c', fp', rfl, h2, h3, fun b hb hb' => hd b (fp_block h2 b hb) (fp_block h3 b hb'), hb⟩
  · rw [if_neg ho] at h ⊢
    obtain ⟨rfl, hoo⟩ := h
    obtain ⟨a', c', fp', rfl, h3⟩ := owC_len (zs := []) (by simpa using hoo) (by simp)
    exact ⟨none, 0, [], a', c', fp', rfl, OwC.rowNil, h3, by simp, hb⟩

theorem toIntS_law (v : Value) (zs : List Int) (w : World) (hl : zs.length ≤ 1048576) (h : Rd w v (zs.map (.int .i64))) :
    Calls Try.prog 32 #[v] w fun e w' => ∃ a c fp, e = .returned (.slice a zs.length c) ∧ OwC w' w.heap.size (.row [.int .i64]) (.slice a zs.length c) (.row (ones zs)) fp ∧ Below w.heap.size w w' :=
  (toIntS_any v zs w hl h).mono fun e w' ⟨u, he, ho, hb⟩ => by
    obtain ⟨a, c, fp, rfl, h⟩ := owC_len ho hl
    exact ⟨a, c, fp, he, h, hb⟩
theorem toDebouncer_law (k t n s l : Int) (u : Value) (zs : List Int) (w : World) (hl : zs.length ≤ 1048576) (h : Rd w u (zs.map (.int .i64))) :
    Calls Try.prog 24 #[dbv k t n s l u] w fun e w' => ∃ a c fp, e = .returned (dbv k t n s l (.slice a zs.length c)) ∧ OwC w' w.heap.size (.row [.int .i64]) (.slice a zs.length c) (.row (ones zs)) fp ∧ Below w.heap.size w w' :=
  (toDebouncer_any k t n s l u zs w hl h).mono fun e w' ⟨u, he, ho, hb⟩ => by
    obtain ⟨a, c, fp, rfl, h⟩ := owC_len ho hl
    exact ⟨a, c, fp, he, h, hb⟩
theorem owC_rd {w : World} {B : Nat} {u : Value} {zs : List Int} {fp : List Nat} (h : OwC w B (.row [.int .i64]) u (.row (ones zs)) fp) : Rd w u (zs.map (.int .i64)) := by
  obtain ⟨zs', hc, _, hr⟩ := h.ints
  have : zs' = zs := by
    simp only [Ce.row.injEq] at hc
    have : (ones zs).map (fun r => match r with | [.int n] => n | _ => 0) = (ones zs').map (fun r => match r with | [.int n] => n | _ => 0) := by rw [hc]
    simpa [ones, Function.comp_def] using this.symm
  rw [← this]; exact hr
theorem owC_marks {w : World} {B n : Nat} {q : Int} {u : Value} {fp : List Nat} (h : OwC w B (.row [.int .i64]) u (.row (ones (marksZ q n))) fp) : Rd w u (marks64 q n) := by
  have := owC_rd h
  rwa [marksZ_vals] at this
/-- A block that stays. -/
theorem blk_below {w w' : World} {b : Nat} {o : Obj} (h : w.heap[b]? = some o) (hb : Below w.heap.size w w') : w'.heap[b]? = some o := (hb.block b (Array.getElem?_eq_some_iff.mp h).1).trans h
theorem blk_turn {w w' : World} {b : Nat} {o : Obj} {fp : List Nat} (h : w.heap[b]? = some o) (ht : Turn w w' fp) (hn : b ∉ fp) : w'.heap[b]? = some o := (ht.block b (Array.getElem?_eq_some_iff.mp h).1 hn).trans h
theorem apart_lt {fx fy : List Nat} {n : Nat} (hx : ∀ b ∈ fx, b < n) (hy : ∀ b ∈ fy, n ≤ b) : ∀ b ∈ fy, b ∉ fx := fun b hb hb' => by have := hx b hb'; have := hy b hb; omega
theorem apart_gt {fx fy : List Nat} {n : Nat} (hx : ∀ b ∈ fx, n ≤ b) (hy : ∀ b ∈ fy, b < n) : ∀ b ∈ fy, b ∉ fx := fun b hb hb' => by have := hx b hb'; have := hy b hb; omega
theorem below_alloc1 (w : World) (o : Obj) : Below w.heap.size w (w.alloc o) := (Below.refl _ _).alloc (Nat.le_refl _) o

theorem specNew_law (k t n : Int) (R : DbR) (b : Bool) (w : World) (h : newR k t n = (R, b)) : Calls Try.prog 26 #[.int .i64 k, .int .i64 t, .int .i64 n] w (DbOut R b w) :=
  (specNewDebouncer_any k t n w).mono fun _ _ hp => newDeb_out h hp
theorem implNew_law (k t n : Int) (R : DbR) (b : Bool) (w : World) (h : newR k t n = (R, b)) : Calls Try.prog 27 #[.int .i64 k, .int .i64 t, .int .i64 n] w (DbOut R b w) :=
  (implNewDebouncer_any k t n w).mono fun _ _ hp => newDeb_out h hp
theorem specStep_law (k t n s l : Int) (u : Value) (zs : List Int) (raw : Int) (R : DbR) (b : Bool) (w : World) (h : stepR k t n s l zs raw = (R, b)) (hl : zs.length ≤ 1048576) (hr : Rd w u (zs.map (.int .i64))) :
    Calls Try.prog 30 #[dbv k t n s l u, .int .i64 raw] w (DbOut R b w) :=
  (specDebounceStep_any k t n s l u zs raw w (by unfold maxLen; omega) hr).mono fun _ _ hp => stepDeb_out h hp
theorem implStep_law (k t n s l : Int) (u : Value) (zs : List Int) (raw : Int) (R : DbR) (b : Bool) (w : World) (h : stepR k t n s l zs raw = (R, b)) (hl : zs.length ≤ 1048576) (hr : Rd w u (zs.map (.int .i64))) :
    Calls Try.prog 17 #[dbv k t n s l u, .int .i64 raw] w (DbOut R b w) :=
  (implDebounceStep_any k t n s l u zs raw w (by unfold maxLen; omega) hr).mono fun _ _ hp => stepDeb_out h hp
theorem specRun_law (k t n s l : Int) (u : Value) (zs : List Int) (ax : Option Addr) (capx : Nat) (xs : List Int) (R : DbR) (o : List Int) (b : Bool) (w : World) (h : runR k t n s l zs xs = (R, o, b)) (hl : zs.length ≤ 1048576) (hr : Rd w u (zs.map (.int .i64))) (hlx : xs.length ≤ 1048576) (hx : Rd w (.slice ax xs.length capx) (xs.map (.int .i64))) :
    Calls Try.prog 31 #[dbv k t n s l u, .slice ax xs.length capx] w (RunOut R o b w) :=
  (specDebounceRun_any k t n s l u zs ax capx xs w (by unfold maxLen; omega) hr hlx hx).mono fun _ _ hp => runDeb_out h hp
theorem implRun_law (k t n s l : Int) (u : Value) (zs : List Int) (ax : Option Addr) (capx : Nat) (xs : List Int) (R : DbR) (o : List Int) (b : Bool) (w : World) (h : runR k t n s l zs xs = (R, o, b)) (hl : zs.length ≤ 1048576) (hr : Rd w u (zs.map (.int .i64))) (hlx : xs.length ≤ 1048576) (hx : Rd w (.slice ax xs.length capx) (xs.map (.int .i64))) :
    Calls Try.prog 15 #[dbv k t n s l u, .slice ax xs.length capx] w (RunOut R o b w) :=
  (implDebounceRun_any k t n s l u zs ax capx xs w (by unfold maxLen; omega) hr hlx hx).mono fun _ _ hp => runDeb_out h hp

end Go.Proofs.Ytdlcpijiekhafaa
