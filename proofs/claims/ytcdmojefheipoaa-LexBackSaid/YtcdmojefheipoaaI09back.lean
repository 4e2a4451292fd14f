/-
  girdlelaw09.LexBack, as a walk: whatever the text, it returns true.
-/
import Derived.Test.YtcdmojefheipoaaI09lines
import Derived.Deep.QuietTactic
import Derived.BigQuiet
namespace Go.Proofs.Ytcdmojefheipoaa
open Go.RowKit

/-- Tokens of a text, written again: what Scan answers. -/
theorem back_all {s : ByteArray} {l : List Tk} (hs : s.size ≤ 2000) (h : scanF (dropL (bs s)) = some (l.map kt)) (hc : Chain s 0 l) (hl : l.length ≤ s.size) :
    ∃ m : List Tk, scanL ⟨(joinU none (l ++ [⟨4, s.size, ⟨#[]⟩⟩])).toArray⟩ = .ok m ∧ m.length = l.length + 1 ∧ ∀ (j : Nat) (t : Tk), (l ++ [(⟨4, s.size, ⟨#[]⟩⟩ : Tk)])[j]? = some t → ∃ u : Tk, m[j]? = some u ∧ u.k = t.k ∧ u.t = t.t := by
  have hok := scanF_ok _ _ (Nat.le_refl _) _ h
  have hlen := chain_len s l 0 (Nat.zero_le _) hc
  have hJ : bs ⟨(joinU none (l ++ [⟨4, s.size, ⟨#[]⟩⟩])).toArray⟩ = joinG none (l.map kt) := by
    have := joinU_bs (l ++ [⟨4, s.size, ⟨#[]⟩⟩]) none
    rw [List.map_append] at this
    exact this.trans (joinG_end _ none)
  have hsz : (⟨(joinU none (l ++ [⟨4, s.size, ⟨#[]⟩⟩])).toArray⟩ : ByteArray).size ≤ 16000 := by
    have h1 := joinU_len (l ++ [⟨4, s.size, ⟨#[]⟩⟩]) none
    rw [lenT_snoc] at h1
    show (joinU none (l ++ [⟨4, s.size, ⟨#[]⟩⟩])).length ≤ 16000
    have : (⟨#[]⟩ : ByteArray).size = 0 := rfl
    simp only [this] at h1
    omega
  rcases scanL_is _ hsz with ⟨h1, _⟩ | ⟨m, h1, h2, _⟩
  · rw [hJ, joinG_drop _ _ hok, scanF_join _ hok] at h1
    cases h1
  · rw [hJ, joinG_drop _ _ hok, scanF_join _ hok] at h1
    have hm : l.map kt = m.map kt := Option.some.inj h1
    have hml : m.length = l.length := by have := congrArg List.length hm; simpa using this.symm
    refine ⟨_, h2, by simp [hml], fun j t ht => ?_⟩
    by_cases hj : j < l.length
    · rw [List.getElem?_append_left hj] at ht
      have hu : m[j]? = some (m[j]'(by omega)) := List.getElem?_eq_getElem (by omega)
      refine ⟨m[j]'(by omega), by rw [List.getElem?_append_left (by omega)]; exact hu, ?_⟩
      have e1 : (l.map kt)[j]? = some (kt t) := by rw [List.getElem?_map, ht]; rfl
      rw [hm, List.getElem?_map, hu] at e1
      have e2 := Option.some.inj e1
      exact ⟨congrArg Prod.fst e2, bs_inj (congrArg Prod.snd e2)⟩
    · rw [List.getElem?_append_right (by omega)] at ht
      have h0 : j - l.length = 0 := by have := (List.getElem?_eq_some_iff.1 ht).1; simpa using this
      rw [h0] at ht
      cases ht
      refine ⟨⟨4, (⟨(joinU none (l ++ [⟨4, s.size, ⟨#[]⟩⟩])).toArray⟩ : ByteArray).size, ⟨#[]⟩⟩, ?_, rfl, rfl⟩
      rw [List.getElem?_append_right (by omega), hml, h0]; rfl

set_option maxRecDepth 100000 in
set_option maxHeartbeats 4000000 in
theorem lexBack_any (s : ByteArray) (w : World) (hs : s.size ≤ 9223372036854775807) :
    Calls Try.prog 4 #[.string s] w fun e w' => e = .returned (.bool true) ∧ Below w.heap.size w w' := by
  have HC := Lib.hid cuts_any
  by_cases hb : 2000 < s.size
  · have hb' : (2000 : Int) < (s.size : Int) := by omega
    go_enter Try.func4, Try.ntmps4
    go_wp2_with fail
    refine (HC.out _).mono ?_
    rintro e w1 ⟨rfl, hB⟩
    go_wp2_with fail
    go_ret
    exact ⟨rfl, hB⟩
  have hb' : ¬ (2000 : Int) < (s.size : Int) := by omega
  have HS := Lib.hid (fun w : World => scan_any s w)
  have HL := Lib.hid (scanL_is s (by omega))
  replace hb := Lib.hid hb
  go_enter Try.func4, Try.ntmps4
  go_wp2_with fail
  refine (HC.out _).mono ?_
  rintro e w1 ⟨rfl, hB⟩
  clear HC
  go_wp2_with fail
  refine (HS.out _).mono ?_
  rintro e w2 ⟨hz, hB2⟩
  unfold ScanOut at hz
  replace hB := hB.trans (hB2.mono hB.size)
  clear HS hB2
  rcases HL.out with ⟨_, q, _, hq⟩ | ⟨l, hf, hq, hch, hln⟩
  · rw [hq] at hz
    subst hz
    have hA := hB.alloc hB.size (.cells #[.int .i64 2, .int .i64 q] 26)
    clear hq hB
    go_wp2_with fail
    go_ret
    exact ⟨rfl, hA⟩
  rw [hq] at hz
  obtain ⟨v, rfl, hT⟩ := hz
  obtain ⟨g, c, rfl, hT, hg, hc, _⟩ := hT.at (by simp)
  obtain ⟨M, hM, hML, hMt⟩ := back_all (by have := hb.out; omega) hf hch hln
  have hlt2 : lenT (l ++ [⟨4, s.size, ⟨#[]⟩⟩]) ≤ 100000 := by
    have h1 := chain_len s l 0 (Nat.zero_le _) hch
    rw [lenT_snoc]; have := hb.out; show lenT l + (0 + 1) ≤ 100000; omega
  have hn1 : (l ++ [(⟨4, s.size, ⟨#[]⟩⟩ : Tk)]).length ≤ 2001 := by simp; have := hb.out; omega
  obtain ⟨L, hL⟩ : ∃ L, l ++ [⟨4, s.size, ⟨#[]⟩⟩] = L := ⟨_, rfl⟩
  rw [hL] at hT hc hM hMt hlt2 hn1 ⊢
  rw [show l.length + 1 = L.length by rw [← hL]; simp] at hML
  obtain ⟨n, hn⟩ : ∃ n, L.length = n := ⟨_, rfl⟩
  rw [hn] at hc hML hn1 ⊢
  have hA : Below w2.heap.size w2 (w2.alloc (.cells #[.int .i64 0, .int .i64 0] 26)) := (Below.refl _ _).alloc (Nat.le_refl _) _
  replace hT := hT.to hg hA
  replace hg := Nat.lt_of_lt_of_le hg hA.size
  replace hB := hB.trans (hA.mono hB.size)
  have hMne : M ≠ [] := fun e => by rw [e] at hML; rw [← hn, ← hL] at hML; simp at hML
  have HM := Lib.hid (And.intro hM (And.intro hML (And.intro hMt (And.intro hn hMne))))
  have d0 : (w2.alloc (.cells #[.int .i64 0, .int .i64 0] 26)).cell? ⟨w2.heap.size, 0, none⟩ = some (.int .i64 0) := by simp [go_sem]
  have HJ := Lib.hid (join_any L g c _ hT hg hlt2 (by omega))
  rw [hn] at HJ
  clear hf hq hch hln hL hn HL hA hM hML hMt hMne hlt2
  go_wp2_with fail
  clear d0
  obtain ⟨W0, hW0⟩ : ∃ W, w2.alloc (.cells #[.int .i64 0, .int .i64 0] 26) = W := ⟨_, rfl⟩
  rw [hW0] at hT hg hB HJ ⊢
  refine HJ.out.mono ?_
  rintro e w3 ⟨rfl, hB3⟩
  replace hT := hT.to hg hB3
  replace hg := Nat.lt_of_lt_of_le hg hB3.size
  replace hB := hB.trans (hB3.mono hB.size)
  clear HJ hB3 hW0 W0
  have HS := Lib.hid (scan_any ⟨(joinU none L).toArray⟩ w3)
  generalize (⟨(joinU none L).toArray⟩ : ByteArray) = J at HM HS ⊢
  go_wp2_with fail
  refine HS.out.mono ?_
  rintro e w4 ⟨hz, hB4⟩
  unfold ScanOut at hz
  rw [HM.out.1] at hz
  obtain ⟨v, rfl, hT2⟩ := hz
  obtain ⟨g2, c2, rfl, hT2, hg2, hc2, _⟩ := hT2.at HM.out.2.2.2.2
  rw [HM.out.2.1] at hc2 ⊢
  replace hT := hT.to hg hB4
  replace hg := Nat.lt_of_lt_of_le hg hB4.size
  replace hB := hB.trans (hB4.mono hB.size)
  have hA : Below w4.heap.size w4 (w4.alloc (.cells #[.int .i64 0, .int .i64 0] 26)) := (Below.refl _ _).alloc (Nat.le_refl _) _
  replace hT := hT.to hg hA
  replace hT2 := hT2.to hg2 hA
  replace hg := Nat.lt_of_lt_of_le hg hA.size
  replace hg2 := Nat.lt_of_lt_of_le hg2 hA.size
  replace hB := hB.trans (hA.mono hB.size)
  have d0 : (w4.alloc (.cells #[.int .i64 0, .int .i64 0] 26)).cell? ⟨w4.heap.size, 0, none⟩ = some (.int .i64 0) := by simp [go_sem]
  have hnn : ((n : Int) != (n : Int)) = false := by simp
  clear HS hB4 hA
  go_wp2_with fail
  clear d0
  obtain ⟨W0, hW0⟩ : ∃ W, w4.alloc (.cells #[.int .i64 0, .int .i64 0] 26) = W := ⟨_, rfl⟩
  rw [hW0] at hT hT2 hg hg2 hB ⊢
  have HT := Lib.hid (And.intro hT (And.intro hg (And.intro hT2 (And.intro hg2 hB))))
  clear hW0 hT hg hB hT2 hg2
  go_loopw [39] (fun sj wr => ∃ j : Nat, j ≤ n ∧ sj = .int .i64 j ∧ Below W0.heap.size W0 wr) (fun sj _ => n - (intOf sj).toNat)
  case atStart => exact ⟨0, Nat.zero_le _, rfl, Below.refl _ _⟩
  case round =>
    obtain ⟨j, hj, rfl, hb0⟩ := hrel
    by_cases hlt : j < n
    · obtain ⟨t, ht⟩ : ∃ t, L[j]? = some t := ⟨L[j]'(by rw [HM.out.2.2.2.1]; exact hlt), List.getElem?_eq_getElem _⟩
      obtain ⟨u, hu, huk, hut⟩ := HM.out.2.2.1 j t ht
      obtain ⟨c0, _, c1⟩ := (HT.out.1.to HT.out.2.1 hb0) j t ht
      obtain ⟨e0, _, e1⟩ := (HT.out.2.2.1.to HT.out.2.2.2.1 hb0) j u hu
      rw [huk] at e0
      rw [hut] at e1
      have hlt' : (j : Int) < (n : Int) := by omega
      have hj0 : (0 : Int) ≤ (j : Int) := by omega
      have q1 : ((t.k : Int) != (t.k : Int)) = false := by simp
      clear ht hu huk hut
      have HB0 := Lib.hid hb0
      clear hb0
      go_upto_region 14 with fail
      go_quiet (fail)
      go_wp2_with fail
      go_roundw
      case rel => exact ⟨j + 1, by omega, by go_num, HB0.out.drewN' _⟩
      case measure => simp [intOf]; omega
    · obtain rfl : j = n := by omega
      go_wp2_with fail
      go_ret
      exact ⟨rfl, HT.out.2.2.2.2.trans (hb0.mono HT.out.2.2.2.2.size)⟩

end Go.Proofs.Ytcdmojefheipoaa
