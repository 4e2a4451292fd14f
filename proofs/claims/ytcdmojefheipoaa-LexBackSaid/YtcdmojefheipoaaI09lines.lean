/-
  girdlelaw09.LexLines, as a walk: whatever the text, it returns true.
-/
import Derived.Test.YtcdmojefheipoaaI09cuts
import Derived.Outline
namespace Go.Proofs.Ytcdmojefheipoaa
open Go.RowKit

/-- How many line ends there are among some tokens. -/
def lineK (l : List Tk) : Nat := l.countP fun t => decide (t.k = 3)
theorem lineK_map (l : List Tk) : kindN (l.map kt) = lineK l := by
  unfold kindN lineK
  rw [List.countP_map]; rfl
theorem lineK_snoc (l : List Tk) (t : Tk) : lineK (l ++ [t]) = lineK l + if t.k = 3 then 1 else 0 := by
  unfold lineK
  rw [List.countP_append]; simp [List.countP_cons]
theorem lineK_le (l : List Tk) : lineK l ≤ l.length := List.countP_le_length
theorem count_bs : ∀ l : List UInt8, (l.map UInt8.toNat).count 10 = l.count 10
  | [] => rfl
  | c :: l => by
    rw [List.map_cons, List.count_cons, List.count_cons, count_bs l]
    have e : (c.toNat == 10) = (c == 10) := by
      rw [Bool.eq_iff_iff, beq_iff_eq, beq_iff_eq]
      exact ⟨fun h => UInt8.toNat_inj.1 h, fun h => by rw [h]; rfl⟩
    rw [e]
theorem count_text (s : ByteArray) : Lib.countByte s.data.toList 10 = lineN (bs s) := (count_bs _).symm
theorem chain_len (s : ByteArray) : ∀ (l : List Tk) (q : Nat), q ≤ s.size → Chain s q l → lenT l + q ≤ s.size + l.length
  | [], q, h, _ => by show 0 + q ≤ s.size + 0; omega
  | t :: l, q, h, ⟨h1, h2, _, h4, _, h6⟩ => by
    have := chain_len s l (t.a + t.t.size) h4 h6
    show t.t.size + 1 + lenT l + q ≤ s.size + (l.length + 1)
    omega
/-- A text's line ends, its tokens', and those of the tokens' own text. -/
theorem lines_all {s : ByteArray} {l : List Tk} (h : scanF (dropL (bs s)) = some (l.map kt)) : lineK (l ++ [⟨4, s.size, ⟨#[]⟩⟩]) = lineK l ∧ Lib.countByte s.data.toList 10 = lineK l ∧ Lib.countByte (joinU none (l ++ [⟨4, s.size, ⟨#[]⟩⟩])) 10 = lineK l := by
  have hk := lineK_map l
  refine ⟨by rw [lineK_snoc, if_neg (by show ¬ (4 = 3); decide)]; rfl, ?_, ?_⟩
  · rw [count_text, ← dropL_lines, ← hk]
    exact (scanF_lines _ _ (Nat.le_refl _) _ h).symm
  · have e : Lib.countByte (joinU none (l ++ [⟨4, s.size, ⟨#[]⟩⟩])) 10 = lineN ((joinU none (l ++ [⟨4, s.size, ⟨#[]⟩⟩])).map UInt8.toNat) := (count_bs _).symm
    have e2 : (joinU none (l ++ [⟨4, s.size, ⟨#[]⟩⟩])).map UInt8.toNat = joinG none (l.map kt) := by
      have := joinU_bs (l ++ [⟨4, s.size, ⟨#[]⟩⟩]) none
      rw [List.map_append] at this
      exact this.trans (joinG_end _ none)
    rw [e, e2, joinG_lines _ _ (scanF_ok _ _ (Nat.le_refl _) _ h), hk]
set_option maxRecDepth 100000 in
set_option maxHeartbeats 4000000 in
theorem lexLines_any (s : ByteArray) (w : World) (hs : s.size ≤ 9223372036854775807) :
    Calls Try.prog 7 #[.string s] w fun e w' => e = .returned (.bool true) ∧ Below w.heap.size w w' := by
  have HC := Lib.hid cuts_any
  by_cases hb : 2000 < s.size
  · have hb' : (2000 : Int) < (s.size : Int) := by omega
    go_enter Try.func7, Try.ntmps7
    go_wp2_with fail
    refine (HC.out _).mono ?_
    rintro e w1 ⟨rfl, hB⟩
    go_wp2_with fail
    go_ret
    exact ⟨rfl, hB⟩
  have hb' : ¬ (2000 : Int) < (s.size : Int) := by omega
  have HS := Lib.hid (fun w : World => scan_any s w)
  have HL := Lib.hid (scanL_is s (by omega))
  replace hb := Lib.hid hb
  go_enter Try.func7, Try.ntmps7
  go_wp2_with fail
  refine (HC.out _).mono ?_
  rintro e w1 ⟨rfl, hB⟩
  clear HC
  go_wp2_with fail
  refine (HS.out _).mono ?_
  rintro e w2 ⟨hz, hB2⟩
  unfold ScanOut at hz
  replace hB := hB.trans (hB2.mono hB.size)
  clear HS hB2
  rcases HL.out with ⟨_, q, _, hq⟩ | ⟨l, hf, hq, hch, hln⟩
  · rw [hq] at hz
    subst hz
    have hA := hB.alloc hB.size (.cells #[.int .i64 2, .int .i64 q] 26)
    clear hq hB
    go_wp2_with fail
    go_ret
    exact ⟨rfl, hA⟩
  rw [hq] at hz
  obtain ⟨v, rfl, hT⟩ := hz
  obtain ⟨g, c, rfl, hT, hg, hc, _⟩ := hT.at (by simp)
  have HT := Lib.hid (And.intro hf (And.intro hch hln))
  obtain ⟨L, hL⟩ : ∃ L, l ++ [⟨4, s.size, ⟨#[]⟩⟩] = L := ⟨_, rfl⟩
  rw [hL] at hT hc ⊢
  obtain ⟨n, hn⟩ : ∃ n, L.length = n := ⟨_, rfl⟩
  rw [hn] at hc ⊢
  have hA : Below w2.heap.size w2 (w2.alloc (.cells #[.int .i64 0, .int .i64 0] 26)) := (Below.refl _ _).alloc (Nat.le_refl _) _
  replace hT := hT.to hg hA
  replace hg := Nat.lt_of_lt_of_le hg hA.size
  replace hB := hB.trans (hA.mono hB.size)
  have hn1 : n ≤ 2001 := by rw [← hn, ← hL]; simp; have := hb.out; omega
  have HL2 := Lib.hid (And.intro hL hn)
  clear hf hq hch hln hL hn HL hA
  have d0 : (w2.alloc (.cells #[.int .i64 0, .int .i64 0] 26)).cell? ⟨w2.heap.size, 0, none⟩ = some (.int .i64 0) := by simp [go_sem]
  go_wp2_with fail
  clear d0
  obtain ⟨W0, hW0⟩ : ∃ W, w2.alloc (.cells #[.int .i64 0, .int .i64 0] 26) = W := ⟨_, rfl⟩
  rw [hW0] at hT hg hB ⊢
  have HT2 := Lib.hid (And.intro hT (And.intro hg hB))
  clear hW0 hT hg hB
  go_loopw [5, 23] (fun sn sj wr => ∃ j : Nat, j ≤ n ∧ sn = .int .i64 (lineK (L.take j)) ∧ sj = .int .i64 j ∧ Below W0.heap.size W0 wr) (fun _ sj _ => n - (intOf sj).toNat)
  case atStart => exact ⟨0, Nat.zero_le _, rfl, rfl, Below.refl _ _⟩
  case round =>
    obtain ⟨j, hj, rfl, rfl, hb0⟩ := hrel
    have hkl := lineK_le (L.take j)
    rw [List.length_take] at hkl
    by_cases hlt : j < n
    · obtain ⟨t, ht⟩ : ∃ t, L[j]? = some t := ⟨L[j]'(by rw [HL2.out.2]; exact hlt), List.getElem?_eq_getElem _⟩
      obtain ⟨c0, c1, c2⟩ := (HT2.out.1.to HT2.out.2.1 hb0) j t ht
      have hlt' : (j : Int) < (n : Int) := by omega
      have hj0 : (0 : Int) ≤ (j : Int) := by omega
      have hsn : Hid (lineK (L.take (j + 1)) = lineK (L.take j) + if t.k = 3 then 1 else 0) := by rw [List.take_add_one, ht]; exact lineK_snoc _ t
      obtain ⟨K, hK⟩ : ∃ K, lineK (L.take j) = K := ⟨_, rfl⟩
      rw [hK] at hsn hkl ⊢
      clear ht hK
      have hA := hb0.alloc hb0.size (.cells #[.int .i64 t.k, .int .i64 t.a, .string t.t] 30)
      by_cases h3 : t.k = 3
      · have h3' : ((t.k : Int) == 3) = true := by rw [h3]; rfl
        replace h3 := Lib.hid h3
        clear hb0
        go_wp2_with fail
        go_roundw
        case rel => exact ⟨j + 1, by omega, by rw [hsn.out, if_pos h3.out]; go_num, by go_num, hA⟩
        case measure => simp [intOf]; omega
      · have h3' : ((t.k : Int) == 3) = false := by rw [beq_eq_false_iff_ne]; omega
        replace h3 := Lib.hid h3
        clear hb0
        go_wp2_with fail
        go_roundw
        case rel => exact ⟨j + 1, by omega, by rw [hsn.out, if_neg h3.out]; go_num, by go_num, hA⟩
        case measure => simp [intOf]; omega
    · obtain rfl : j = n := by omega
      have hfull : L.take j = L := List.take_of_length_le (by rw [HL2.out.2]; exact Nat.le_refl _)
      have hall := lines_all HT.out.1
      rw [HL2.out.1] at hall
      obtain ⟨K, hK⟩ : ∃ K, lineK l = K := ⟨_, rfl⟩
      rw [hfull, hall.1, hK] at hkl ⊢
      have HN := Lib.hid (fun (w : World) => Try.strings_Count_one s 10 w)
      have hcn := hall.2.1
      rw [hK] at hcn
      rw [hcn] at HN
      have hlen := chain_len s l 0 (Nat.zero_le _) HT.out.2.1
      have hlt2 : lenT L ≤ 100000 := by rw [← HL2.out.1, lenT_snoc]; have := hb.out; have := HT.out.2.2; show lenT l + (0 + 1) ≤ 100000; omega
      have HJ := Lib.hid (join_any L g c wr (HT2.out.1.to HT2.out.2.1 hb0) (Nat.lt_of_lt_of_le HT2.out.2.1 hb0.size) hlt2 (by rw [HL2.out.2]; omega))
      rw [HL2.out.2] at HJ
      have HN2 := Lib.hid (fun (w : World) => Try.strings_Count_one ⟨(joinU none L).toArray⟩ 10 w)
      have hcn2 := hall.2.2
      rw [hK] at hcn2
      replace hcn2 : Lib.countByte (⟨(joinU none L).toArray⟩ : ByteArray).data.toList 10 = K := by simpa using hcn2
      rw [hcn2] at HN2
      clear hcn hcn2 hlen hlt2 hall hK hfull
      go_wp2_with fail
      refine (HN.out _).mono ?_
      rintro e w3 ⟨rfl, rfl⟩
      go_wp2_with fail
      refine HJ.out.mono ?_
      rintro e w4 ⟨rfl, hB4⟩
      go_wp2_with fail
      refine (HN2.out _).mono ?_
      rintro e w5 ⟨rfl, rfl⟩
      go_wp2_with fail
      go_ret
      exact ⟨rfl, (HT2.out.2.2.trans (hb0.mono HT2.out.2.2.size)).trans (hB4.mono (Nat.le_trans HT2.out.2.2.size hb0.size))⟩

end Go.Proofs.Ytcdmojefheipoaa
