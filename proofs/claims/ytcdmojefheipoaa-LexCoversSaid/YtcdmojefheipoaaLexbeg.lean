/-
  lex.sign, begin.
-/
import Derived.Test.YtcdmojefheipoaaLexnum
namespace Go.Proofs.Ytcdmojefheipoaa
open Go.RowKit

/-- The size of a sign; 0: it is none. -/
def signL (l : List Nat) : Nat := if l.take 2 = [62, 61] ∨ l.take 2 = [60, 61] then 2 else if inB signsT (dg l 0) = true then 1 else 0
/-- What a token is that begins here, and its size; 0: none can begin. -/
def beginL (l : List Nat) : Nat × Nat :=
  if inB lettersT (dg l 0) = true then (0, cnt (inB lettersT) l) else
  if dg l 0 = 45 then (1, numL l 1) else
  if inB digitsT (dg l 0) = true then (1, numL l 0) else
  if dg l 0 = 10 then (3, 1) else (2, signL l)

set_option maxRecDepth 100000 in
set_option maxHeartbeats 4000000 in
theorem sign_any (s : ByteArray) (w : World) (hs : 0 < s.size) :
    Calls Try.prog 32 #[.string s] w fun e w' => e = .returned (.int .i64 (signL (bs s) : Nat)) ∧ Below w.heap.size w w' := by
  have S := (St.start w).alloc 9 [.string signsT] (w.heap.size)
  have HA := Lib.hid (among_any signsT w)
  have k0 : (0 : Int) < (s.size : Int) := by omega
  have hlt : 0 < s.size := hs
  obtain ⟨n, hn⟩ : ∃ n, signL (bs s) = n := ⟨_, rfl⟩
  rw [hn]
  unfold signL at hn
  have H1 : ∀ (w : World), _ := fun w => Lib.hid (hasPre_any s ⟨#[62, 61]⟩ w _ rfl)
  have H2 : ∀ (w : World), _ := fun w => Lib.hid (hasPre_any s ⟨#[60, 61]⟩ w _ rfl)
  rw [show (ByteArray.mk #[62, 61]).size = 2 from rfl, show bs ⟨#[62, 61]⟩ = [62, 61] from rfl] at H1
  rw [show (ByteArray.mk #[60, 61]).size = 2 from rfl, show bs ⟨#[60, 61]⟩ = [60, 61] from rfl] at H2
  by_cases h1 : (bs s).take 2 = [62, 61]
  · rw [if_pos (.inl h1)] at hn
    subst hn
    rw [decide_eq_true h1] at H1
    clear h1 H2
    go_enter Try.func32, Try.ntmps32
    go_wp2_with fail
    refine HA.out.mono ?_
    rintro e w1 ⟨rfl, rfl⟩
    go_wp2_with fail
    refine (H1 _).out.mono ?_
    rintro e w2 ⟨rfl, rfl⟩
    go_wp2
    go_ret
    exact ⟨rfl, S.below⟩
  rw [decide_eq_false h1] at H1
  by_cases h2 : (bs s).take 2 = [60, 61]
  · rw [if_pos (.inr h2)] at hn
    subst hn
    rw [decide_eq_true h2] at H2
    clear h1 h2
    go_enter Try.func32, Try.ntmps32
    go_wp2_with fail
    refine HA.out.mono ?_
    rintro e w1 ⟨rfl, rfl⟩
    go_wp2_with fail
    refine (H1 _).out.mono ?_
    rintro e w2 ⟨rfl, rfl⟩
    go_wp2_with fail
    refine (H2 _).out.mono ?_
    rintro e w3 ⟨rfl, rfl⟩
    go_wp2
    go_ret
    exact ⟨rfl, S.below⟩
  rw [decide_eq_false h2] at H2
  rw [if_neg (by rintro (h | h); exact h1 h; exact h2 h), bs_get s 0 hs] at hn
  clear h1 h2
  obtain ⟨b, hb⟩ : ∃ b, inB signsT (s[0]'hs).toNat = b := ⟨_, rfl⟩
  rw [hb] at hn
  have HB := Lib.hid (among_fn w.heap.size signsT (s[0]'hs) _ (S.c 0 0 rfl rfl) b hb)
  clear hb
  cases b with
  | true =>
    rw [if_pos rfl] at hn
    subst hn
    go_enter Try.func32, Try.ntmps32
    go_wp2_with fail
    refine HA.out.mono ?_
    rintro e w1 ⟨rfl, rfl⟩
    go_wp2_with fail
    refine (H1 _).out.mono ?_
    rintro e w2 ⟨rfl, rfl⟩
    go_wp2_with fail
    refine (H2 _).out.mono ?_
    rintro e w3 ⟨rfl, rfl⟩
    go_wp2_with fail
    refine HB.out.mono ?_
    rintro e w4 ⟨rfl, rfl⟩
    go_wp2
    go_ret
    exact ⟨rfl, S.below⟩
  | false =>
    rw [if_neg (by decide)] at hn
    subst hn
    go_enter Try.func32, Try.ntmps32
    go_wp2_with fail
    refine HA.out.mono ?_
    rintro e w1 ⟨rfl, rfl⟩
    go_wp2_with fail
    refine (H1 _).out.mono ?_
    rintro e w2 ⟨rfl, rfl⟩
    go_wp2_with fail
    refine (H2 _).out.mono ?_
    rintro e w3 ⟨rfl, rfl⟩
    go_wp2_with fail
    refine HB.out.mono ?_
    rintro e w4 ⟨rfl, rfl⟩
    go_wp2
    go_ret
    exact ⟨rfl, S.below⟩

set_option maxRecDepth 100000 in
set_option maxHeartbeats 4000000 in
theorem begin_any (s : ByteArray) (w : World) (hs : 0 < s.size) (hl : s.size ≤ 100000) :
    Calls Try.prog 17 #[.string s] w fun e w' => e = .returned (.tuple #[.int .i64 ((beginL (bs s)).1 : Nat), .int .i64 ((beginL (bs s)).2 : Nat)]) ∧ Below w.heap.size w w' := by
  have S0 := (St.start w).alloc 9 [.string lettersT] (w.heap.size)
  have S := S0.alloc 9 [.string digitsT] (w.heap.size + 1)
  try simp only [List.cons_append, List.nil_append] at S
  have HA := Lib.hid (among_any lettersT w)
  have HA2 := Lib.hid (among_any digitsT (w.alloc (.cells #[.string lettersT] 9)))
  rw [show (w.alloc (.cells #[.string lettersT] 9)).heap.size = w.heap.size + 1 by simp] at HA2
  have k0 : (0 : Int) < (s.size : Int) := by omega
  have hlt : 0 < s.size := hs
  obtain ⟨n, hn⟩ : ∃ n, beginL (bs s) = n := ⟨_, rfl⟩
  rw [hn]
  unfold beginL at hn
  rw [bs_get s 0 hs] at hn
  obtain ⟨b, hb⟩ : ∃ b, inB lettersT (s[0]'hs).toNat = b := ⟨_, rfl⟩
  obtain ⟨d, hd⟩ : ∃ b, inB digitsT (s[0]'hs).toNat = b := ⟨_, rfl⟩
  rw [hb, hd] at hn
  have HB := Lib.hid (among_fn w.heap.size lettersT (s[0]'hs) _ (S.c 0 0 rfl rfl) b hb)
  have HD := Lib.hid (among_fn (w.heap.size + 1) digitsT (s[0]'hs) _ (S.c 1 0 rfl rfl) d hd)
  obtain ⟨c, hc⟩ : ∃ c, (s[0]'hs).toNat = c := ⟨_, rfl⟩
  rw [hc] at hn
  clear hb hd S0
  cases b with
  | true =>
    rw [if_pos rfl] at hn
    subst hn
    have HR := Lib.hid (run_among s _ w.heap.size lettersT (S.c 0 0 rfl rfl) hl)
    clear hc
    go_enter Try.func17, Try.ntmps17
    go_wp2_with fail
    refine HA.out.mono ?_
    rintro e w1 ⟨rfl, rfl⟩
    go_wp2_with fail
    refine HA2.out.mono ?_
    rintro e w2 ⟨rfl, rfl⟩
    go_wp2_with fail
    refine HB.out.mono ?_
    rintro e w3 ⟨rfl, rfl⟩
    go_wp2_with fail
    refine (HR.out).mono ?_
    rintro e w4 ⟨rfl, hB⟩
    replace S := S.to hB
    go_wp2
    go_ret2
    first | exact ⟨rfl, S.below⟩ | skip
  | false =>
    rw [if_neg (by decide)] at hn
    by_cases h1 : c = 45
    · rw [if_pos h1] at hn
      subst hn
      have z1 : (((s[0]'hs).toNat : Int) == 45) = true := by rw [hc, h1]; rfl
      have HR := fun w => Lib.hid (number_any s 1 w hl (by omega))
      clear h1 hc
      go_enter Try.func17, Try.ntmps17
      go_wp2_with fail
      refine HA.out.mono ?_
      rintro e w1 ⟨rfl, rfl⟩
      go_wp2_with fail
      refine HA2.out.mono ?_
      rintro e w2 ⟨rfl, rfl⟩
      go_wp2_with fail
      refine HB.out.mono ?_
      rintro e w3 ⟨rfl, rfl⟩
      go_wp2_with fail
      refine ((HR _).out).mono ?_
      rintro e w4 ⟨rfl, hB⟩
      replace S := S.to hB
      go_wp2
      go_ret2
      first | exact ⟨rfl, S.below⟩ | skip
    rw [if_neg h1] at hn
    have z1 : (((s[0]'hs).toNat : Int) == 45) = false := by rw [hc, beq_eq_false_iff_ne]; omega
    clear h1
    cases d with
    | true =>
      rw [if_pos rfl] at hn
      subst hn
      have HR := fun w => Lib.hid (number_any s 0 w hl (by omega))
      clear hc
      go_enter Try.func17, Try.ntmps17
      go_wp2_with fail
      refine HA.out.mono ?_
      rintro e w1 ⟨rfl, rfl⟩
      go_wp2_with fail
      refine HA2.out.mono ?_
      rintro e w2 ⟨rfl, rfl⟩
      go_wp2_with fail
      refine HB.out.mono ?_
      rintro e w3 ⟨rfl, rfl⟩
      go_wp2_with fail
      refine HD.out.mono ?_
      rintro e w5 ⟨rfl, rfl⟩
      go_wp2_with fail
      refine ((HR _).out).mono ?_
      rintro e w4 ⟨rfl, hB⟩
      replace S := S.to hB
      go_wp2
      go_ret2
      first | exact ⟨rfl, S.below⟩ | skip
    | false =>
      rw [if_neg (by decide)] at hn
      by_cases h2 : c = 10
      · rw [if_pos h2] at hn
        subst hn
        have z2 : (((s[0]'hs).toNat : Int) == 10) = true := by rw [hc, h2]; rfl
        clear h2 hc
        go_enter Try.func17, Try.ntmps17
        go_wp2_with fail
        refine HA.out.mono ?_
        rintro e w1 ⟨rfl, rfl⟩
        go_wp2_with fail
        refine HA2.out.mono ?_
        rintro e w2 ⟨rfl, rfl⟩
        go_wp2_with fail
        refine HB.out.mono ?_
        rintro e w3 ⟨rfl, rfl⟩
        go_wp2_with fail
        refine HD.out.mono ?_
        rintro e w5 ⟨rfl, rfl⟩
        go_wp2
        go_ret2
        first | exact ⟨rfl, S.below⟩ | skip
      · rw [if_neg h2] at hn
        subst hn
        have z2 : (((s[0]'hs).toNat : Int) == 10) = false := by rw [hc, beq_eq_false_iff_ne]; omega
        have HR := fun w => Lib.hid (sign_any s w hs)
        clear h2 hc
        go_enter Try.func17, Try.ntmps17
        go_wp2_with fail
        refine HA.out.mono ?_
        rintro e w1 ⟨rfl, rfl⟩
        go_wp2_with fail
        refine HA2.out.mono ?_
        rintro e w2 ⟨rfl, rfl⟩
        go_wp2_with fail
        refine HB.out.mono ?_
        rintro e w3 ⟨rfl, rfl⟩
        go_wp2_with fail
        refine HD.out.mono ?_
        rintro e w5 ⟨rfl, rfl⟩
        go_wp2_with fail
        refine ((HR _).out).mono ?_
        rintro e w4 ⟨rfl, hB⟩
        replace S := S.to hB
        go_wp2
        go_ret2
        first | exact ⟨rfl, S.below⟩ | skip

end Go.Proofs.Ytcdmojefheipoaa
