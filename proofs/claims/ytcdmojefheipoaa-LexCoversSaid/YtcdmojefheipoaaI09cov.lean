/-
  girdlelaw09.LexCovers, as a walk: whatever the text, it returns true.
-/
import Derived.Test.YtcdmojefheipoaaI09lines
import Derived.Deep.QuietTactic
import Derived.BigQuiet
namespace Go.Proofs.Ytcdmojefheipoaa
open Go.RowKit

/-- Where the tokens ahead of the j-th one end. -/
def atOf : Nat → List Tk → Nat → Nat
  | q, [], _ => q
  | q, _ :: _, 0 => q
  | _, t :: r, j + 1 => atOf (t.a + t.t.size) r j
theorem atOf_zero (q : Nat) (l : List Tk) : atOf q l 0 = q := by cases l <;> rfl
theorem atOf_succ : ∀ (l : List Tk) (q j : Nat) (t : Tk), l[j]? = some t → atOf q l (j + 1) = t.a + t.t.size
  | [], _, _, _, h => by simp at h
  | x :: l, q, 0, t, h => by cases h; exact atOf_zero _ l
  | x :: l, q, j + 1, t, h => atOf_succ l _ j t (by simpa using h)
theorem nonempty_text {x : Nat × List Nat} (h : TokOk x) : 0 < x.2.length := List.length_pos_iff.2 h.1
theorem kind_lt (l : List Nat) : (beginL l).1 ≠ 4 := by
  unfold beginL; repeat (split; · simp)
  simp
/-- What is told of each token of a text. -/
def CovT (s : ByteArray) (q : Nat) (t : Tk) (last : Bool) : Prop := t.a = q + leftL ((bs s).drop q) ∧ q ≤ s.size ∧ t.a ≤ s.size ∧ t.t = s.extract t.a (t.a + t.t.size) ∧ t.a + t.t.size ≤ s.size ∧ (last = true ↔ t.k = 4) ∧ (t.k ≠ 4 → 0 < t.t.size) ∧ (t.k = 3 → t.t = ⟨#[10]⟩)
theorem cov_all (s : ByteArray) : ∀ (l : List Tk) (q : Nat), q ≤ s.size → Chain s q l → (∀ j t, (l ++ [(⟨4, s.size, ⟨#[]⟩⟩ : Tk)])[j]? = some t → CovT s (atOf q (l ++ [⟨4, s.size, ⟨#[]⟩⟩]) j) t (decide (j = l.length))) ∧ atOf q (l ++ [⟨4, s.size, ⟨#[]⟩⟩]) (l.length + 1) = s.size
  | [], q, hq, h => by
    refine ⟨fun j t ht => ?_, rfl⟩
    match j with
    | 0 =>
      cases ht
      refine ⟨h.symm, hq, Nat.le_refl _, ?_, Nat.le_refl _, by simp, fun h => absurd rfl h, fun h => by cases h⟩
      show (⟨#[]⟩ : ByteArray) = s.extract s.size (s.size + 0)
      apply bs_inj
      rw [bs_cut, List.drop_of_length_le (by rw [bs_len]; exact Nat.le_refl _), List.take_nil]; rfl
    | j + 1 => simp at ht
  | x :: l, q, hq, ⟨h1, h2, h3, h4, h5, h6⟩ => by
    obtain ⟨ih, ih2⟩ := cov_all s l (x.a + x.t.size) h4 h6
    refine ⟨fun j t ht => ?_, ih2⟩
    match j with
    | 0 =>
      cases ht
      have hk4 : x.k ≠ 4 := fun e => by
        have := h5.2
        have := congrArg Prod.fst this
        exact kind_lt _ (this.trans e)
      refine ⟨h1, hq, Nat.le_of_lt h2, h3, h4, ?_, fun _ => ?_, fun e => ?_⟩
      · simp [hk4]
      · have := nonempty_text h5
        rw [show (kt x).2 = bs x.t from rfl, bs_len] at this
        exact this
      · have := (TokOk.line (k := x.k) (x := bs x.t) h5).1 e
        exact bs_inj (this.trans rfl)
    | j + 1 =>
      have := ih j t (by simpa using ht)
      have e : decide (j + 1 = (x :: l).length) = decide (j = l.length) := by simp
      rw [e]; exact this
/-- What stands in a gap: blanks, then a remark perhaps. -/
theorem gap_all {l : List Nat} {k : Nat} (hk : k < leftL l) : dg l k ≠ 10 ∧ (dg l k = 35 ∨ 35 ∈ l.take k ∨ (dg l k = 32 ∨ dg l k = 9 ∨ dg l k = 13)) := by
  obtain ⟨b, r, e, hb, hr⟩ := left_form l
  have hle := leftL_le l
  have hl : (l.take (leftL l)).length = leftL l := by rw [List.length_take]; omega
  have hd : dg l k = dg (b ++ r) k := by
    rw [← e]; unfold dg; rw [List.getElem?_take, if_pos hk]
  have ht : l.take k = (b ++ r).take k := by rw [← e, List.take_take, Nat.min_eq_left (by omega)]
  rw [e, List.length_append] at hl
  rw [hd, ht]
  by_cases hkb : k < b.length
  · have hm : dg (b ++ r) k ∈ b := by
      rw [dg_left hkb]; unfold dg; rw [List.getElem?_eq_getElem hkb]; exact List.getElem_mem hkb
    have := blank_is (hb _ hm)
    exact ⟨by omega, .inr (.inr this)⟩
  · rcases hr with rfl | ⟨t, rfl, htn⟩
    · simp at hl; omega
    · obtain ⟨i, rfl⟩ : ∃ i, k = b.length + i := ⟨k - b.length, by omega⟩
      have hd2 : dg (b ++ 35 :: t) (b.length + i) = dg (35 :: t) i := by
        unfold dg; rw [List.getElem?_append_right (by omega)]; simp
      rw [hd2]
      match i with
      | 0 => exact ⟨by show 35 ≠ 10; decide, .inl rfl⟩
      | i + 1 =>
        have hi : i < t.length := by simp at hl; omega
        have hm : dg (35 :: t) (i + 1) ∈ t := by
          show dg t i ∈ t
          unfold dg; rw [List.getElem?_eq_getElem hi]; exact List.getElem_mem hi
        refine ⟨htn _ hm, .inr (.inl ?_)⟩
        rw [List.take_append]
        refine List.mem_append_right _ ?_
        rw [show b.length + (i + 1) - b.length = i + 1 by omega]; simp
/-- Is there a remark's beginning among a text's first bytes? -/
def remB (G : ByteArray) (k : Nat) : Bool := decide (35 ∈ (bs G).take k)
theorem remB_succ (G : ByteArray) (k : Nat) (hk : k < G.size) : remB G (k + 1) = (remB G k || decide (dg (bs G) k = 35)) := by
  unfold remB
  rw [Bool.eq_iff_iff, Bool.or_eq_true, decide_eq_true_eq, decide_eq_true_eq, decide_eq_true_eq, List.take_add_one]
  have : (bs G)[k]? = some (dg (bs G) k) := by
    unfold dg; rw [List.getElem?_eq_getElem (by rw [bs_len]; exact hk)]; rfl
  rw [this]
  simp [eq_comm]

theorem gapG {s : ByteArray} {q a : Nat} (ha : a = q + leftL ((bs s).drop q)) {k : Nat} (hk : k < a - q) : dg (bs (s.extract q a)) k ≠ 10 ∧ (dg (bs (s.extract q a)) k = 35 ∨ remB (s.extract q a) k = true ∨ (dg (bs (s.extract q a)) k = 32 ∨ dg (bs (s.extract q a)) k = 9 ∨ dg (bs (s.extract q a)) k = 13)) := by
  have h := gap_all (l := (bs s).drop q) (k := k) (by omega)
  unfold remB
  rw [bs_cut, decide_eq_true_eq, List.take_take, Nat.min_eq_left (by omega)]
  have e : dg (((bs s).drop q).take (a - q)) k = dg ((bs s).drop q) k := by
    unfold dg; rw [List.getElem?_take, if_pos hk]
  rw [e]; exact h

set_option maxRecDepth 100000 in
set_option maxHeartbeats 8000000 in
theorem lexCovers_any (s : ByteArray) (w : World) (hs : s.size ≤ 9223372036854775807) :
    Calls Try.prog 3 #[.string s] w fun e w' => e = .returned (.bool true) ∧ Below w.heap.size w w' := by
  have HC := Lib.hid cuts_any
  by_cases hb : 2000 < s.size
  · have hb' : (2000 : Int) < (s.size : Int) := by omega
    go_enter Try.func3, Try.ntmps3
    go_wp2_with fail
    refine (HC.out _).mono ?_
    rintro e w1 ⟨rfl, hB⟩
    go_wp2_with fail
    go_ret
    exact ⟨rfl, hB⟩
  have hb' : ¬ (2000 : Int) < (s.size : Int) := by omega
  have HS := Lib.hid (fun w : World => scan_any s w)
  have HL := Lib.hid (scanL_is s (by omega))
  replace hb := Lib.hid hb
  go_enter Try.func3, Try.ntmps3
  go_wp2_with fail
  refine (HC.out _).mono ?_
  rintro e w1 ⟨rfl, hB⟩
  clear HC
  go_wp2_with fail
  refine (HS.out _).mono ?_
  rintro e w2 ⟨hz, hB2⟩
  unfold ScanOut at hz
  replace hB := hB.trans (hB2.mono hB.size)
  clear HS hB2
  rcases HL.out with ⟨_, q, hqs, hq⟩ | ⟨l, hf, hq, hch, hln⟩
  · rw [hq] at hz
    subst hz
    have hA := hB.alloc hB.size (.cells #[.int .i64 2, .int .i64 q] 26)
    have q0 : (0 : Int) ≤ (q : Int) := by omega
    have q1 : (q : Int) < (s.size : Int) := by omega
    clear hq hB
    go_wp2_with fail
    go_ret
    exact ⟨rfl, hA⟩
  rw [hq] at hz
  obtain ⟨v, rfl, hT⟩ := hz
  obtain ⟨g, c, rfl, hT, hg, hc, _⟩ := hT.at (by simp)
  obtain ⟨hcov, hend⟩ := cov_all s l 0 (Nat.zero_le _) hch
  obtain ⟨L, hL⟩ : ∃ L, l ++ [⟨4, s.size, ⟨#[]⟩⟩] = L := ⟨_, rfl⟩
  have hn : L.length = l.length + 1 := by rw [← hL]; simp
  rw [hL] at hT hc hcov hend ⊢
  obtain ⟨m, hm⟩ : ∃ m, l.length = m := ⟨_, rfl⟩
  rw [hm] at hn hcov hend
  rw [hn] at hc ⊢
  have hA : Below w2.heap.size w2 (w2.alloc (.cells #[.int .i64 0, .int .i64 0] 26)) := (Below.refl _ _).alloc (Nat.le_refl _) _
  replace hT := hT.to hg hA
  replace hg := Nat.lt_of_lt_of_le hg hA.size
  replace hB := hB.trans (hA.mono hB.size)
  have hn1 : m ≤ 2000 := by have := hb.out; omega
  have HCV := Lib.hid (And.intro hcov (And.intro hend hn))
  have hat0 := atOf_zero 0 L
  clear hf hq hch hln hL hn HL hA hcov hend hm
  have d0 : (w2.alloc (.cells #[.int .i64 0, .int .i64 0] 26)).cell? ⟨w2.heap.size, 0, none⟩ = some (.int .i64 0) := by simp [go_sem]
  replace hat0 := Lib.hid hat0
  go_wp2_with fail
  clear d0
  obtain ⟨W0, hW0⟩ : ∃ W, w2.alloc (.cells #[.int .i64 0, .int .i64 0] 26) = W := ⟨_, rfl⟩
  rw [hW0] at hT hg hB ⊢
  have HT := Lib.hid (And.intro hT (And.intro hg hB))
  clear hW0 hT hg hB
  go_loopw [5, 46] (fun sa sj wr => ∃ j : Nat, j ≤ m + 1 ∧ sa = .int .i64 (atOf 0 L j) ∧ sj = .int .i64 j ∧ Below W0.heap.size W0 wr) (fun _ sj _ => m + 1 - (intOf sj).toNat)
  case atStart => exact ⟨0, Nat.zero_le _, by rw [hat0.out]; rfl, rfl, Below.refl _ _⟩
  case round =>
    obtain ⟨wo, rfl⟩ : ∃ wo : World, wo = wr := ⟨_, rfl⟩
    obtain ⟨j, hj, rfl, rfl, hb0⟩ := hrel
    by_cases hlt : j < m + 1
    · obtain ⟨t, ht⟩ : ∃ t, L[j]? = some t := ⟨L[j]'(by rw [HCV.out.2.2]; exact hlt), List.getElem?_eq_getElem _⟩
      obtain ⟨tk, ta, tt⟩ := t
      obtain ⟨c0, c1, c2⟩ := (HT.out.1.to HT.out.2.1 hb0) j _ ht
      obtain ⟨v1, v2, v3, v4, v5, v6, v7, v8⟩ := HCV.out.1 j _ ht
      have hst := atOf_succ L 0 j _ ht
      dsimp only at c0 c1 c2 v1 v2 v3 v4 v5 v6 v7 v8 hst
      have hlt' : (j : Int) < (m : Int) + 1 := by omega
      have hj0 : (0 : Int) ≤ (j : Int) := by omega
      obtain ⟨q, hq⟩ : ∃ q, atOf 0 L j = q := ⟨_, rfl⟩
      rw [hq] at v1 v2 ⊢
      have g1 : (q : Int) ≤ (ta : Int) := by omega
      have g2 : (ta : Int) ≤ (s.size : Int) := by omega
      have g0 : (0 : Int) ≤ (q : Int) := by omega
      have g3 : (0 : Int) ≤ (ta : Int) := by omega
      have k1 : IntKind.i64.wrap ((m : Int) + 1 - 1) = (m : Int) := by rw [show (m : Int) + 1 - 1 = m by omega]; exact wrap_num (by omega) (by omega)
      have k2 : IntKind.i64.wrap (m : Int) = (m : Int) := wrap_num (by omega) (by omega)
      have HV := Lib.hid (And.intro v1 (And.intro v4 (And.intro v5 (And.intro hst v8))))
      have HB0 := Lib.hid hb0
      by_cases hk : tk = 4
      case' pos =>
        have hjm : j = m := by simpa using v6.2 hk
        have e1 : ((tk : Int) == 4) = true := by rw [hk]; rfl
        have e2 : ((tk : Int) != 4) = false := by rw [hk]; rfl
        have e3 : ((j : Int) == (m : Int)) = true := by rw [hjm]; simp
        clear v1 v2 v3 v4 v5 v6 v7 v8 hst ht hjm hb0 hq hk
        go_wp2_with fail
        clear e1 e2 e3
      case' neg =>
        have hjm : j ≠ m := fun e => hk (v6.1 (by simpa using e))
        have e1 : ((tk : Int) == 4) = false := by rw [beq_eq_false_iff_ne]; omega
        have e2 : ((tk : Int) != 4) = true := by rw [bne_iff_ne]; omega
        have e3 : ((j : Int) == (m : Int)) = false := by rw [beq_eq_false_iff_ne]; omega
        have hsz := v7 hk
        have e5 : tt.toList ≠ [] := by
          intro e
          have h1 := list_bs tt ⟨#[]⟩
          rw [e, show (([] : List UInt8) == (⟨#[]⟩ : ByteArray).toList) = true by decide +kernel] at h1
          have h2 : bs tt = [] := of_decide_eq_true h1.symm
          have h3 := bs_len tt
          rw [h2] at h3
          have h4 : 0 = tt.size := h3
          omega
        have e4 : tt.toList.isEmpty = false := by rw [List.isEmpty_eq_false_iff]; exact e5
        clear v1 v2 v3 v4 v5 v6 v7 v8 hst ht hjm hb0 hq hk hsz
        go_wp2_with fail
        clear e1 e2 e3 e4 e5
      all_goals
        have hA : Below wo.heap.size wo (wo.alloc (.cells #[.int .i64 tk, .int .i64 ta, .string tt] 30)) := (Below.refl _ _).alloc (Nat.le_refl _) _
        have d0 : (wo.alloc (.cells #[.int .i64 tk, .int .i64 ta, .string tt] 30)).cell? ⟨wo.heap.size, 0, none⟩ = some (.int .i64 tk) := by simp [go_sem]
        have d1 : (wo.alloc (.cells #[.int .i64 tk, .int .i64 ta, .string tt] 30)).cell? ⟨wo.heap.size, 1, none⟩ = some (.int .i64 ta) := by simp [go_sem]
        have d2 : (wo.alloc (.cells #[.int .i64 tk, .int .i64 ta, .string tt] 30)).cell? ⟨wo.heap.size, 2, none⟩ = some (.string tt) := by simp [go_sem]
        have HB1 := Lib.hid (HB0.out.trans (hA.mono HB0.out.size))
        generalize (wo.alloc (.cells #[.int .i64 tk, .int .i64 ta, .string tt] 30)) = W1 at d0 d1 d2 HB1 ⊢
        have HG := fun (k : Nat) (hk : k < ta - q) => gapG HV.out.1 hk
        have hGs : (s.extract q ta).size = ta - q := by rw [ByteArray.size_extract]; omega
        obtain ⟨z, hz⟩ : ∃ z, ta - q = z := ⟨_, rfl⟩
        rw [hz] at HG hGs
        obtain ⟨G, hG⟩ : ∃ G, s.extract q ta = G := ⟨_, rfl⟩
        rw [hG] at HG hGs ⊢
        rw [hz]
        replace HG := Lib.hid HG
        have HGs := Lib.hid hGs
        have hz1 : z ≤ 9223372036854775807 := by omega
        clear hA hG hz c0 c1 c2 g1 hGs HB0
        go_loop [90, 9] (fun sk sb => ∃ k : Nat, k ≤ z ∧ sk = .int .i64 k ∧ sb = .bool (remB G k)) (fun sk _ => z - (intOf sk).toNat)
        case atStart => exact ⟨0, Nat.zero_le _, rfl, by simp [remB]⟩
        case round =>
          obtain ⟨k, hk, rfl, rfl⟩ := hrel
          by_cases hkz : k < z
          · have hkz' : (k : Int) < (z : Int) := by omega
            have hk0 : (0 : Int) ≤ (k : Int) := by omega
            have hkG : k < G.size := by rw [HGs.out]; exact hkz
            have hkG' : (k : Int) < (G.size : Int) := by omega
            obtain ⟨a1, a2⟩ := HG.out k hkz
            have HR := Lib.hid (remB_succ G k hkG)
            rw [bs_get G k hkG] at a1 a2 HR
            have r10 : (((G[k]'hkG).toNat : Int) == 10) = false := by rw [beq_eq_false_iff_ne]; omega
            obtain ⟨b, hb⟩ : ∃ b, remB G k = b := ⟨_, rfl⟩
            rw [hb] at a2 HR ⊢
            by_cases h35 : (G[k]'hkG).toNat = 35
            · have r35 : (((G[k]'hkG).toNat : Int) == 35) = true := by rw [beq_iff_eq]; omega
              replace h35 := Lib.hid h35
              clear a1 a2 hb
              go_wp2_with fail
              go_round
              case rel => exact ⟨k + 1, by omega, by go_num, by rw [HR.out, h35.out]; simp⟩
              case measure => simp [intOf]; omega
            have r35 : (((G[k]'hkG).toNat : Int) == 35) = false := by rw [beq_eq_false_iff_ne]; omega
            have HR2 := Lib.hid (show remB G (k + 1) = b by rw [HR.out, decide_eq_false h35, Bool.or_false])
            cases b with
            | true =>
              clear a1 a2 hb h35
              go_wp2_with fail
              go_round
              case rel => exact ⟨k + 1, by omega, by go_num, by rw [HR2.out]⟩
              case measure => simp [intOf]; omega
            | false =>
              have a3 : (G[k]'hkG).toNat = 32 ∨ (G[k]'hkG).toNat = 9 ∨ (G[k]'hkG).toNat = 13 := by
                rcases a2 with h | h | h
                · exact absurd h h35
                · cases h
                · exact h
              rcases a3 with h | h | h
              · have n1 : (((G[k]'hkG).toNat : Int) != 32) = false := by rw [h]; rfl
                clear a1 a2 hb h35 h
                go_wp2_with fail
                go_round
                case rel => exact ⟨k + 1, by omega, by go_num, by rw [HR2.out]⟩
                case measure => simp [intOf]; omega
              · have n1 : (((G[k]'hkG).toNat : Int) != 32) = true := by rw [h]; rfl
                have n2 : (((G[k]'hkG).toNat : Int) != 9) = false := by rw [h]; rfl
                clear a1 a2 hb h35 h
                go_wp2_with fail
                go_round
                case rel => exact ⟨k + 1, by omega, by go_num, by rw [HR2.out]⟩
                case measure => simp [intOf]; omega
              · have n1 : (((G[k]'hkG).toNat : Int) != 32) = true := by rw [h]; rfl
                have n2 : (((G[k]'hkG).toNat : Int) != 9) = true := by rw [h]; rfl
                have n3 : (((G[k]'hkG).toNat : Int) != 13) = false := by rw [h]; rfl
                clear a1 a2 hb h35 h
                go_wp2_with fail
                go_round
                case rel => exact ⟨k + 1, by omega, by go_num, by rw [HR2.out]⟩
                case measure => simp [intOf]; omega
          · obtain rfl : k = z := by omega
            have HPF := Lib.hid (fun (W : World) => hasPre_any (s.extract ta s.size) tt W true (decide_eq_true (by
              rw [bs_drop]
              have h1 := congrArg bs HV.out.2.1
              rw [bs_cut, show ta + tt.size - ta = tt.size by omega] at h1
              exact h1.symm)))
            have w1 : IntKind.i64.wrap ((ta : Int) + (tt.size : Int)) = ((ta + tt.size : Nat) : Int) := by
              have := HV.out.2.2.1
              rw [← Int.natCast_add]; exact wrap_num (by omega) (by omega)
            replace w1 := Lib.hid w1
            go_upto_region 26 with fail
            by_cases h3 : tk = 3
            · have hnl := HV.out.2.2.2.2 h3
              subst hnl
              have e3 : ((tk : Int) == 3) = true := by rw [h3]; rfl
              clear h3
              go_quiet ((go_at_call 10; exact Calls.quiet_of_same (HPF.out _)))
              have w2 := w1.out
              go_wp2_with fail
              go_roundw
              case rel => exact ⟨j + 1, by omega, by rw [HV.out.2.2.2.1]; show Value.int .i64 ((ta : Int) + 1) = .int .i64 ((ta + 1 : Nat) : Int); go_num, by go_num, HB1.out.drewN' _⟩
              case measure => simp [intOf]; omega
            · have e3 : ((tk : Int) == 3) = false := by rw [beq_eq_false_iff_ne]; omega
              clear h3
              go_quiet ((go_at_call 10; exact Calls.quiet_of_same (HPF.out _)))
              have w2 := w1.out
              go_wp2_with fail
              go_roundw
              case rel => exact ⟨j + 1, by omega, by rw [HV.out.2.2.2.1]; go_num, by go_num, HB1.out.drewN' _⟩
              case measure => simp [intOf]; omega
    · obtain rfl : j = m + 1 := by omega
      have he := HCV.out.2.1
      rw [he]
      go_wp2_with fail
      go_ret
      exact ⟨rfl, HT.out.2.2.trans (hb0.mono HT.out.2.2.size)⟩

end Go.Proofs.Ytcdmojefheipoaa
