/- DERIVED. FnNumbers, where the library's table of powers of ten is as its text lays it: numbers and bytes are read from their texts as they were. The program's PackKeymap as a premise. -/
import Derived.Test.YtleheibpgngmiaaDoorHexs
import Derived.Test.YtleheibpgngmiaaDoorNums
import Derived.Test.YtleheibpgngmiaaDoorKmDraw
import Derived.Test.YtleheibpgngmiaaDoorKmSpec4
import Derived.Test.YtleheibpgngmiaaDoorLawBits
namespace Go.Proofs.YtleheibpgngmiaaDoor
open Go.RowKit

theorem packV_bytes (a : Ac) : ∀ z ∈ packV a, 0 ≤ z ∧ z < 256 := by
  unfold packV
  split
  · rename_i h
    have hl := okAc_lim2 h
    intro z hz
    simp at hz
    omega
  · intro z hz; simp at hz
theorem rowB_bytes (l : List Ac) : ∀ z ∈ rowB l, 0 ≤ z ∧ z < 256 := by
  intro z hz
  obtain ⟨a, _, ha⟩ := List.mem_flatMap.1 hz
  exact packV_bytes a z ha
theorem packK_bytes {K : Int} {L : List (List Ac)} : ∀ z ∈ packK K L, 0 ≤ z ∧ z < 256 := by
  unfold packK
  split
  · rename_i h
    obtain ⟨⟨k1, k32⟩, ⟨l1, l4⟩, -⟩ := okKm_at h
    intro z hz
    rcases List.mem_append.1 hz with h1 | h1
    · simp at h1; omega
    · obtain ⟨l, _, hl⟩ := List.mem_flatMap.1 h1
      exact rowB_bytes l z hl
  · intro z hz; simp at hz
theorem rowB_len : ∀ (l : List Ac), (rowB l).length ≤ 3 * l.length
  | [] => by simp [rowB]
  | a :: l => by
    have h1 := rowB_len l
    have h2 := packV_len a
    have e : rowB (a :: l) = packV a ++ rowB l := rfl
    rw [e, List.length_append, List.length_cons]; omega
theorem rowsB_len (q : Nat) : ∀ (L : List (List Ac)), (∀ l ∈ L, l.length ≤ q) → (L.flatMap rowB).length ≤ 3 * q * L.length
  | [], _ => by simp
  | l :: L, h => by
    have h1 := rowsB_len q L (fun x hx => h x (List.mem_cons_of_mem _ hx))
    have h2 := rowB_len l
    have h3 := h l List.mem_cons_self
    rw [List.flatMap_cons, List.length_append, List.length_cons, Nat.mul_succ]
    omega
theorem okKm_rows {K : Nat} {L : List (List Ac)} (h : okKm (K : Int) L = true) : ∀ l ∈ L, l.length = K := by
  intro l hl
  obtain ⟨j, hj, rfl⟩ := List.getElem_of_mem hl
  have h1 := ((okKm_at h).2.2 j hj).1
  have h2 : lD L j = L[j] := by unfold lD; rw [List.getD_eq_getElem?_getD, List.getElem?_eq_getElem hj]; rfl
  rw [h2] at h1
  omega
theorem packK_len2 {K : Nat} {L : List (List Ac)} (h : okKm (K : Int) L = true) : (packK K L).length ≤ 2000 := by
  obtain ⟨⟨k1, k32⟩, ⟨l1, l4⟩, -⟩ := okKm_at h
  have h1 := rowsB_len K L (fun l hl => Nat.le_of_eq (okKm_rows h l hl))
  have h2 : 3 * K * L.length ≤ 3 * 32 * 4 := Nat.mul_le_mul (Nat.mul_le_mul_left 3 (by omega)) l4
  rw [packK, if_pos h, List.length_append]
  simp only [List.length_cons, List.length_nil]
  omega

theorem parse_n {s : ByteArray} {n : Int} {b : Bool} (hb : b = okI s) (hn : n = pval s) (w : World) (ht : Lib.TabIs Tryd.prog w "internal/strconv.uint64pow10" .u64 Lib.pow10Tab) : Calls Tryd.prog 10 #[.string s] w fun e w' => e = .returned (.tuple #[.int .i64 n, .bool b]) ∧ Below w.heap.size w w' := by
  rw [hn, hb]; exact implParseInt_any s w ht
theorem hK_n {w : World} {L : List (List Ac)} {zs : List Int} {u : Value} (hK : ∀ (u : Value) (L : List (List Ac)) (w' : World), Below w.heap.size w w' → L.length ≤ maxLen → (∀ l ∈ L, l.length ≤ maxLen) → LdS w' u L → Calls Tryd.prog 12 #[kmv 3 u] w' (ByOut (packK 3 L) w')) (hz : zs = packK 3 L) (w' : World) (hb : Below w.heap.size w w') (h1 : L.length ≤ maxLen) (h2 : ∀ l ∈ L, l.length ≤ maxLen) (h3 : LdS w' u L) : Calls Tryd.prog 12 #[kmv 3 u] w' (ByOut zs w') := by
  rw [hz]; exact hK u L w' hb h1 h2 h3
theorem unhex_n (s : ByteArray) (zs : List Int) (h : hexOk s = true ∧ hexList s = zs) (w : World) (hl : s.size ≤ 1048576) : Calls Tryd.prog 14 #[.string s] w fun e w' => ∃ v n, e = .returned (.tuple #[v, .bool true]) ∧ w'.ownsRow w.heap.size 5 1 v n (zs.map (.int .u8)) ∧ Below w.heap.size w w' := by
  refine (implParseHex_any s w hl).mono ?_
  rintro e w' ⟨v, n, he, ho, hb⟩
  rw [h.1] at he
  rw [h.2] at ho
  exact ⟨v, n, he, ho, hb⟩

set_option maxHeartbeats 8000000 in
set_option maxRecDepth 100000 in
theorem lawNumbers_walk (a0 : Option Addr) (len cap0 : Nat) (bs : List Int) (w : World) (hlen : bs.length = len) (hz : ∀ z ∈ bs, (Lit.int .u8 z).wf = true) (h : Rd w (.slice a0 len cap0) (bs.map (.int .u8))) (ht : Lib.TabIs Tryd.prog w "internal/strconv.uint64pow10" .u64 Lib.pow10Tab)
    (hK : ∀ (u : Value) (L : List (List Ac)) (w' : World), Below w.heap.size w w' → L.length ≤ maxLen → (∀ l ∈ L, l.length ≤ maxLen) → LdS w' u L → Calls Tryd.prog 12 #[kmv 3 u] w' (ByOut (packK 3 L) w')) : Calls Tryd.prog 3 #[.slice a0 len cap0] w fun e w' => e = .returned (.bool true) ∧ Below w.heap.size w w' := by
  by_cases hbig : (1048576 : Int) < len
  · go_enter Tryd.func3, Tryd.ntmps3
    go_wp2_with fail
    refine (big_any a0 len cap0 _).mono ?_
    rw [decide_eq_true hbig]
    rintro e w0 ⟨rfl, rfl⟩
    go_wp2
    go_ret
    exact ⟨rfl, Below.refl _ _⟩
  · have HZ := Lib.hid (fun z (m : z ∈ bs) => wf_byte (hz z m))
    have HL := Lib.hid (show bs.length ≤ 1099511627776 by omega)
    have HR := Lib.hid h
    have HBG := Lib.hid (decide_eq_false hbig)
    have HTB := Lib.hid ht
    have HK := Lib.hid hK
    clear hz hlen h hbig ht hK
    have HB0 := Lib.hid (Below.refl w.heap.size w)
    go_enter Tryd.func3, Tryd.ntmps3
    go_wp2_with fail
    refine (big_any a0 len cap0 _).mono ?_
    rw [HBG.out]
    rintro e v0 ⟨rfl, rfl⟩
    go_wp2_with fail
    refine (MakeNumber_draw _ bs 1 2000000000 _ HL.out HZ.out HR.out (by omega) (by omega)).mono ?_
    rintro e w1 ⟨x, rfl, x0, x1, hb⟩
    have HB1 := Lib.hid (HB0.out.trans (hb.mono HB0.out.size))
    have HS1 := Lib.hid hb.size
    clear hb
    by_cases hx0 : x = 0
    · skip
      subst hx0
      obtain ⟨tx, htx⟩ : ∃ t, t = itoaText (-1000000000) := ⟨_, rfl⟩
      have HTX := Lib.hid htx
      have HOKI := Lib.hid (show false = okI tx by rw [htx]; exact itoa_least.symm)
      have HPV := Lib.hid (show (0 : Int) = pval tx by rw [pval_no HOKI.out.symm])
      clear htx x0 x1
      go_wp2_with fail
      refine (implFormatInt_any (-1000000000) (by omega) (by omega) _ (tab_below HTB.out HB1.out)).mono ?_
      rw [← HTX.out]
      rintro e w2 ⟨rfl, hb⟩
      have HB2 := Lib.hid (HB1.out.trans (hb.mono HB1.out.size))
      have HS2 := Lib.hid hb.size
      clear hb
      go_wp2_with fail
      refine (parse_n HOKI.out HPV.out _ (tab_below HTB.out HB2.out)).mono ?_
      rintro e w3 ⟨rfl, hb⟩
      have HB3 := Lib.hid (HB2.out.trans (hb.mono HB2.out.size))
      have HS3 := Lib.hid hb.size
      clear hb
      go_wp2_with fail
      refine (MakeKeymap_draw _ bs 2 3 _ HL.out HZ.out (HR.out.below HB3.out) (by omega) (by omega)).mono ?_
      rintro e w4 ⟨L, ma, mc, mf, rfl, hok, hos, hb⟩
      have HB4 := Lib.hid (HB3.out.trans (hb.mono HB3.out.size))
      have HS4 := Lib.hid hb.size
      clear hb
      have HLD := Lib.hid (show LdS w4 (.slice ma L.length mc) L from OwS.rd hos)
      have HLN := Lib.hid (show L.length ≤ maxLen by have := (okKm_at hok).2.1; unfold maxLen; omega)
      have HLR := Lib.hid (show ∀ l ∈ L, l.length ≤ maxLen from fun l hl => by have := okKm_rows hok l hl; unfold maxLen; omega)
      obtain ⟨bz, hbz⟩ : ∃ z, z = packK 3 L := ⟨_, rfl⟩
      have HBZ := Lib.hid hbz
      have HBL := Lib.hid (show bz.length ≤ 2000 by rw [hbz]; exact packK_len2 hok)
      have HBB := Lib.hid (show ∀ z ∈ bz, 0 ≤ z ∧ z < 256 by rw [hbz]; exact packK_bytes)
      clear hok hos hbz
      go_wp2_with fail
      refine (hK_n HK.out HBZ.out _ HB4.out HLN.out HLR.out HLD.out).mono ?_
      rintro e w5 ⟨pa, pc, pf, rfl, hbo, hb⟩
      have HB5 := Lib.hid (HB4.out.trans (hb.mono HB4.out.size))
      have HS5 := Lib.hid hb.size
      have Rp := Lib.hid (hbo.rng)
      have Op_5 := Lib.hid hbo
      clear hb hbo
      obtain ⟨hx, hhx⟩ : ∃ x, x = hexText bz := ⟨_, rfl⟩
      have HHX := Lib.hid hhx
      have HHS := Lib.hid (show hx.size ≤ 1048576 by rw [hhx]; have := hexText_size HBL.out; have := HBL.out; omega)
      have HHR := Lib.hid (show hexOk hx = true ∧ hexList hx = bz by rw [hhx]; exact hex_reads HBL.out HBB.out)
      clear hhx
      go_wp2_with fail
      refine (implFormatHex_any _ bz _ (by have := HBL.out; omega) HBB.out (OwF.rd1 Op_5.out)).mono ?_
      rw [← HHX.out]
      rintro e w6 ⟨rfl, hb⟩
      have HB6 := Lib.hid (HB5.out.trans (hb.mono HB5.out.size))
      have HS6 := Lib.hid hb.size
      have Op_6 := Lib.hid (Op_5.out.below hb)
      clear Op_5
      clear hb
      go_wp2_with fail
      refine (unhex_n hx bz HHR.out _ HHS.out).mono ?_
      rintro e w7 ⟨xv, xn, rfl, hxo, hb⟩
      have HB7 := Lib.hid (HB6.out.trans (hb.mono HB6.out.size))
      have HS7 := Lib.hid hb.size
      have Op_7 := Lib.hid (Op_6.out.below hb)
      clear Op_6
      clear hb
      obtain ⟨T, hT⟩ : ∃ T, T = strOfNums bz := ⟨_, rfl⟩
      have hc1 := conv_owned (P := Tryd.prog) (src := 22) (dst := 9) Tryd.underlying22 Tryd.underlying5 Tryd.underlying9 hxo
      have hc2 := conv_owned (P := Tryd.prog) (src := 22) (dst := 9) Tryd.underlying22 Tryd.underlying5 Tryd.underlying9 Op_7.out.1
      rw [← hT] at hc1 hc2
      clear hT hxo
      go_wp2
      go_ret
      exact ⟨rfl, HB7.out⟩
    · skip
      obtain ⟨n, hn⟩ : ∃ n, x - 1000000000 = n := ⟨_, rfl⟩
      have n0 : -999999999 ≤ n := by omega
      have n1 : n ≤ 999999999 := by omega
      obtain ⟨tx, htx⟩ : ∃ t, t = itoaText n := ⟨_, rfl⟩
      have HTX := Lib.hid htx
      have HOKI := Lib.hid (show true = okI tx by rw [htx]; exact (itoa_reads_int n0 n1).1.symm)
      have HPV := Lib.hid (show n = pval tx by rw [htx]; exact (itoa_reads_int n0 n1).2.symm)
      clear htx x0 x1 hx0
      go_wp2_with fail
      refine (implFormatInt_any (n) (by omega) (by omega) _ (tab_below HTB.out HB1.out)).mono ?_
      rw [← HTX.out]
      rintro e w2 ⟨rfl, hb⟩
      have HB2 := Lib.hid (HB1.out.trans (hb.mono HB1.out.size))
      have HS2 := Lib.hid hb.size
      clear hb
      go_wp2_with fail
      refine (parse_n HOKI.out HPV.out _ (tab_below HTB.out HB2.out)).mono ?_
      rintro e w3 ⟨rfl, hb⟩
      have HB3 := Lib.hid (HB2.out.trans (hb.mono HB2.out.size))
      have HS3 := Lib.hid hb.size
      clear hb
      go_wp2_with fail
      refine (MakeKeymap_draw _ bs 2 3 _ HL.out HZ.out (HR.out.below HB3.out) (by omega) (by omega)).mono ?_
      rintro e w4 ⟨L, ma, mc, mf, rfl, hok, hos, hb⟩
      have HB4 := Lib.hid (HB3.out.trans (hb.mono HB3.out.size))
      have HS4 := Lib.hid hb.size
      clear hb
      have HLD := Lib.hid (show LdS w4 (.slice ma L.length mc) L from OwS.rd hos)
      have HLN := Lib.hid (show L.length ≤ maxLen by have := (okKm_at hok).2.1; unfold maxLen; omega)
      have HLR := Lib.hid (show ∀ l ∈ L, l.length ≤ maxLen from fun l hl => by have := okKm_rows hok l hl; unfold maxLen; omega)
      obtain ⟨bz, hbz⟩ : ∃ z, z = packK 3 L := ⟨_, rfl⟩
      have HBZ := Lib.hid hbz
      have HBL := Lib.hid (show bz.length ≤ 2000 by rw [hbz]; exact packK_len2 hok)
      have HBB := Lib.hid (show ∀ z ∈ bz, 0 ≤ z ∧ z < 256 by rw [hbz]; exact packK_bytes)
      clear hok hos hbz
      go_wp2_with fail
      refine (hK_n HK.out HBZ.out _ HB4.out HLN.out HLR.out HLD.out).mono ?_
      rintro e w5 ⟨pa, pc, pf, rfl, hbo, hb⟩
      have HB5 := Lib.hid (HB4.out.trans (hb.mono HB4.out.size))
      have HS5 := Lib.hid hb.size
      have Rp := Lib.hid (hbo.rng)
      have Op_5 := Lib.hid hbo
      clear hb hbo
      obtain ⟨hx, hhx⟩ : ∃ x, x = hexText bz := ⟨_, rfl⟩
      have HHX := Lib.hid hhx
      have HHS := Lib.hid (show hx.size ≤ 1048576 by rw [hhx]; have := hexText_size HBL.out; have := HBL.out; omega)
      have HHR := Lib.hid (show hexOk hx = true ∧ hexList hx = bz by rw [hhx]; exact hex_reads HBL.out HBB.out)
      clear hhx
      go_wp2_with fail
      refine (implFormatHex_any _ bz _ (by have := HBL.out; omega) HBB.out (OwF.rd1 Op_5.out)).mono ?_
      rw [← HHX.out]
      rintro e w6 ⟨rfl, hb⟩
      have HB6 := Lib.hid (HB5.out.trans (hb.mono HB5.out.size))
      have HS6 := Lib.hid hb.size
      have Op_6 := Lib.hid (Op_5.out.below hb)
      clear Op_5
      clear hb
      go_wp2_with fail
      refine (unhex_n hx bz HHR.out _ HHS.out).mono ?_
      rintro e w7 ⟨xv, xn, rfl, hxo, hb⟩
      have HB7 := Lib.hid (HB6.out.trans (hb.mono HB6.out.size))
      have HS7 := Lib.hid hb.size
      have Op_7 := Lib.hid (Op_6.out.below hb)
      clear Op_6
      clear hb
      obtain ⟨T, hT⟩ : ∃ T, T = strOfNums bz := ⟨_, rfl⟩
      have hc1 := conv_owned (P := Tryd.prog) (src := 22) (dst := 9) Tryd.underlying22 Tryd.underlying5 Tryd.underlying9 hxo
      have hc2 := conv_owned (P := Tryd.prog) (src := 22) (dst := 9) Tryd.underlying22 Tryd.underlying5 Tryd.underlying9 Op_7.out.1
      rw [← hT] at hc1 hc2
      clear hT hxo
      go_wp2
      go_ret
      exact ⟨rfl, HB7.out⟩

end Go.Proofs.YtleheibpgngmiaaDoor
