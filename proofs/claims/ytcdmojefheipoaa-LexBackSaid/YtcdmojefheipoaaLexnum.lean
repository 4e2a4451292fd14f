/-
  lex.number.
-/
import Derived.Test.YtcdmojefheipoaaLexleft
namespace Go.Proofs.Ytcdmojefheipoaa
open Go.RowKit

/-- The size of a number whose digits begin at a place; 0: it is none. -/
def numL (l : List Nat) (f : Nat) : Nat :=
  if cnt (inB digitsT) (l.drop f) = 0 then 0 else
  if f + cnt (inB digitsT) (l.drop f) = l.length then f + cnt (inB digitsT) (l.drop f) else
  if dg l (f + cnt (inB digitsT) (l.drop f)) ≠ 46 ∧ dg l (f + cnt (inB digitsT) (l.drop f)) ≠ 47 then f + cnt (inB digitsT) (l.drop f) else
  if cnt (inB digitsT) (l.drop (f + cnt (inB digitsT) (l.drop f) + 1)) = 0 then 0 else f + cnt (inB digitsT) (l.drop f) + 1 + cnt (inB digitsT) (l.drop (f + cnt (inB digitsT) (l.drop f) + 1))

set_option maxRecDepth 100000 in
set_option maxHeartbeats 4000000 in
theorem number_any (s : ByteArray) (f : Nat) (w : World) (hs : s.size ≤ 100000) (hf : f ≤ s.size) :
    Calls Try.prog 31 #[.string s, .int .i64 f] w fun e w' => e = .returned (.int .i64 (numL (bs s) f : Nat)) ∧ Below w.heap.size w w' := by
  have S := (St.start w).alloc 9 [.string digitsT] (w.heap.size)
  have hg := S.c 0 0 rfl rfl
  obtain ⟨a, ha⟩ : ∃ a, cnt (inB digitsT) ((bs s).drop f) = a := ⟨_, rfl⟩
  obtain ⟨n, hn⟩ : ∃ n, numL (bs s) f = n := ⟨_, rfl⟩
  obtain ⟨m, hm⟩ : ∃ m, f + a = m := ⟨_, rfl⟩
  have hms : m ≤ s.size := by
    have := cnt_le (inB digitsT) ((bs s).drop f)
    rw [List.length_drop, bs_len, ha] at this
    omega
  unfold numL at hn
  rw [ha, hm, bs_len] at hn
  rw [show numL (bs s) f = n by unfold numL; rw [ha, hm, bs_len]; exact hn]
  have hsl : (s.extract f s.size).size ≤ 100000 := by simp; omega
  have HA := Lib.hid (among_any digitsT w)
  have HR := Lib.hid (run_among (s.extract f s.size) _ w.heap.size digitsT hg hsl)
  rw [bs_drop, ha] at HR
  have c1 : (0 : Int) ≤ (f : Int) := by omega
  have c2 : (f : Int) ≤ (s.size : Int) := by omega
  have hadd : IntKind.i64.wrap ((f : Int) + (a : Int)) = (m : Int) := by
    have : (f : Int) + (a : Int) = (m : Int) := by omega
    rw [this]
    exact wrap_num (by omega) (by omega)
  by_cases h0 : a = 0
  · rw [if_pos h0] at hn
    subst hn
    have HZ := Lib.hid (And.intro hm h0)
    have hz : ((a : Int) == 0) = true := by rw [h0]; rfl
    clear h0 hm ha hms
    go_enter Try.func31, Try.ntmps31
    go_wp2_with fail
    refine HA.out.mono ?_
    rintro e w1 ⟨rfl, rfl⟩
    go_wp2_with fail
    refine HR.out.mono ?_
    rintro e w2 ⟨rfl, hB⟩
    replace S := S.to hB
    go_wp2
    go_ret
    exact ⟨rfl, S.below⟩
  rw [if_neg h0] at hn
  have hz : ((a : Int) == 0) = false := by
    rw [beq_eq_false_iff_ne]; omega
  clear h0
  by_cases h1 : m = s.size
  · rw [if_pos h1] at hn
    subst hn
    have hz1 : ((m : Int) == (s.size : Int)) = true := by rw [h1]; simp
    clear h1 hm ha hms
    go_enter Try.func31, Try.ntmps31
    go_wp2_with fail
    refine HA.out.mono ?_
    rintro e w1 ⟨rfl, rfl⟩
    go_wp2_with fail
    refine HR.out.mono ?_
    rintro e w2 ⟨rfl, hB⟩
    replace S := S.to hB
    go_wp2
    go_ret
    exact ⟨rfl, S.below⟩
  rw [if_neg h1] at hn
  have hlt : m < s.size := by omega
  have hz1 : ((m : Int) == (s.size : Int)) = false := by
    rw [beq_eq_false_iff_ne]; omega
  have k0 : (0 : Int) ≤ (m : Int) := by omega
  have k1 : (m : Int) < (s.size : Int) := by omega
  rw [bs_get s m hlt] at hn
  clear h1 hm ha hms
  obtain ⟨c, hc⟩ : ∃ c, (s[m]'hlt).toNat = c := ⟨_, rfl⟩
  rw [hc] at hn
  by_cases h2 : c ≠ 46 ∧ c ≠ 47
  · rw [if_pos h2] at hn
    subst hn
    have z1 : (((s[m]'hlt).toNat : Int) != 46) = true := by rw [hc]; simp; omega
    have z2 : (((s[m]'hlt).toNat : Int) != 47) = true := by rw [hc]; simp; omega
    clear h2 hc
    go_enter Try.func31, Try.ntmps31
    go_wp2_with fail
    refine HA.out.mono ?_
    rintro e w1 ⟨rfl, rfl⟩
    go_wp2_with fail
    refine HR.out.mono ?_
    rintro e w2 ⟨rfl, hB⟩
    replace S := S.to hB
    go_wp2
    go_ret
    exact ⟨rfl, S.below⟩
  rw [if_neg h2] at hn
  obtain ⟨b, hb⟩ : ∃ b, cnt (inB digitsT) ((bs s).drop (m + 1)) = b := ⟨_, rfl⟩
  rw [hb] at hn
  have hbl : b ≤ 100000 := by
    have := cnt_le (inB digitsT) ((bs s).drop (m + 1))
    rw [hb, List.length_drop, bs_len] at this
    omega
  have hsl2 : (s.extract (m + 1) s.size).size ≤ 100000 := by simp; omega
  have HS : ∀ w2 : World, w2.cell? ⟨w.heap.size, 0, none⟩ = some (.string digitsT) → _ := fun w2 hg2 => Lib.hid (run_among (s.extract (m + 1) s.size) w2 w.heap.size digitsT hg2 hsl2)
  rw [bs_drop, hb] at HS
  have hadd1 : IntKind.i64.wrap ((m : Int) + 1) = ((m + 1 : Nat) : Int) := by
    have : (m : Int) + 1 = ((m + 1 : Nat) : Int) := by omega
    rw [this]
    exact wrap_num (by omega) (by omega)
  have k2 : (0 : Int) ≤ ((m + 1 : Nat) : Int) := by omega
  have k3 : ((m + 1 : Nat) : Int) ≤ (s.size : Int) := by omega
  have hadd2 : IntKind.i64.wrap (((m + 1 : Nat) : Int) + (b : Int)) = ((m + 1 + b : Nat) : Int) := by
    have : ((m + 1 : Nat) : Int) + (b : Int) = ((m + 1 + b : Nat) : Int) := by omega
    rw [this]
    exact wrap_num (by omega) (by omega)
  have h3 : c = 46 ∨ c = 47 := by omega
  clear h2 hb hsl2
  rcases h3 with h3 | h3
  ·
    have z1 : (((s[m]'hlt).toNat : Int) != 46) = false := by rw [hc, h3]; rfl
    have z2 : (((s[m]'hlt).toNat : Int) != 47) = true := by rw [hc, h3]; rfl
    clear hc h3
    by_cases h4 : b = 0
    · rw [if_pos h4] at hn
      subst hn
      have z4 : ((b : Int) == 0) = true := by rw [h4]; rfl
      clear h4
      go_enter Try.func31, Try.ntmps31
      go_wp2_with fail
      refine HA.out.mono ?_
      rintro e w1 ⟨rfl, rfl⟩
      go_wp2_with fail
      refine HR.out.mono ?_
      rintro e w2 ⟨rfl, hB⟩
      replace S := S.to hB
      go_wp2_with fail
      refine (HS _ (S.c 0 0 rfl rfl)).out.mono ?_
      rintro e w3 ⟨rfl, hB2⟩
      replace S := S.to hB2
      go_wp2
      go_ret
      exact ⟨rfl, S.below⟩
    · rw [if_neg h4] at hn
      subst hn
      have z4 : ((b : Int) == 0) = false := by
        rw [beq_eq_false_iff_ne]; omega
      clear h4
      go_enter Try.func31, Try.ntmps31
      go_wp2_with fail
      refine HA.out.mono ?_
      rintro e w1 ⟨rfl, rfl⟩
      go_wp2_with fail
      refine HR.out.mono ?_
      rintro e w2 ⟨rfl, hB⟩
      replace S := S.to hB
      go_wp2_with fail
      refine (HS _ (S.c 0 0 rfl rfl)).out.mono ?_
      rintro e w3 ⟨rfl, hB2⟩
      replace S := S.to hB2
      go_wp2
      go_ret
      exact ⟨rfl, S.below⟩
  ·
    have z1 : (((s[m]'hlt).toNat : Int) != 46) = true := by rw [hc, h3]; rfl
    have z2 : (((s[m]'hlt).toNat : Int) != 47) = false := by rw [hc, h3]; rfl
    clear hc h3
    by_cases h4 : b = 0
    · rw [if_pos h4] at hn
      subst hn
      have z4 : ((b : Int) == 0) = true := by rw [h4]; rfl
      clear h4
      go_enter Try.func31, Try.ntmps31
      go_wp2_with fail
      refine HA.out.mono ?_
      rintro e w1 ⟨rfl, rfl⟩
      go_wp2_with fail
      refine HR.out.mono ?_
      rintro e w2 ⟨rfl, hB⟩
      replace S := S.to hB
      go_wp2_with fail
      refine (HS _ (S.c 0 0 rfl rfl)).out.mono ?_
      rintro e w3 ⟨rfl, hB2⟩
      replace S := S.to hB2
      go_wp2
      go_ret
      exact ⟨rfl, S.below⟩
    · rw [if_neg h4] at hn
      subst hn
      have z4 : ((b : Int) == 0) = false := by
        rw [beq_eq_false_iff_ne]; omega
      clear h4
      go_enter Try.func31, Try.ntmps31
      go_wp2_with fail
      refine HA.out.mono ?_
      rintro e w1 ⟨rfl, rfl⟩
      go_wp2_with fail
      refine HR.out.mono ?_
      rintro e w2 ⟨rfl, hB⟩
      replace S := S.to hB
      go_wp2_with fail
      refine (HS _ (S.c 0 0 rfl rfl)).out.mono ?_
      rintro e w3 ⟨rfl, hB2⟩
      replace S := S.to hB2
      go_wp2
      go_ret
      exact ⟨rfl, S.below⟩

end Go.Proofs.Ytcdmojefheipoaa
