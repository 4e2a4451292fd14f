/-
  girdlelaw02.DigitsTens, as a walk: whatever the number, it returns true.
-/
import Derived.Test.YtphhaaofkckobaaDlaw
import Derived.Test.YtphhaaofkckobaaShelf
namespace Go.Proofs.Ytphhaaofkckobaa
open Go.RowKit

theorem ten_limit : 10 ^ 4932 < maxN := by
  unfold maxN
  decide +kernel
theorem ten_beyond : maxN ≤ 10 ^ 4933 := by
  unfold maxN
  decide +kernel
theorem ten_in {n : Nat} (h : n ≤ 4932) : 10 ^ n < maxN := Nat.lt_of_le_of_lt (Nat.pow_le_pow_right (by decide) h) ten_limit
theorem ten_beyond' (a : Nat) (ha : a = 4933) : maxN ≤ 10 ^ a := by subst ha; exact ten_beyond
theorem ten_out' (a : Nat) (ha : a = 4933) {n : Nat} (h : a ≤ n) : maxN ≤ 10 ^ n := Nat.le_trans (ten_beyond' a ha) (Nat.pow_le_pow_right (by decide) h)
theorem ten_out {n : Nat} (h : 4932 < n) : maxN ≤ 10 ^ n := ten_out' 4933 rfl h

theorem repeatL_noughts : ∀ (n : Nat), (Lib.repeatL [48] n).map UInt8.toNat = List.replicate n 48
  | 0 => rfl
  | n + 1 => by
    rw [Lib.repeatL, List.map_append, repeatL_noughts n, List.replicate_succ]
    rfl
theorem bs_append (s t : ByteArray) : bs (s ++ t) = bs s ++ bs t := by
  unfold bs
  rw [ByteArray.data_append, Array.toList_append, List.map_append]
theorem bs_noughts (n : Nat) : bs ⟨(Lib.repeatL [48] n).toArray⟩ = List.replicate n 48 := by
  unfold bs
  exact repeatL_noughts n
theorem text_tens (n : Nat) : IsText (bs (⟨#[49]⟩ ++ ⟨(Lib.repeatL [48] n).toArray⟩)) (10 ^ n) := by
  rw [bs_append, bs_noughts]
  have h : IsText [49] 1 := ⟨by decide, by decide, by decide, by decide⟩
  have := h.tens (by decide) n
  rwa [Nat.one_mul] at this
theorem noughts_any (n : Nat) (w : World) (hn : n ≤ 100000) : Calls Try.prog 16 #[.string ⟨#[48]⟩, .int .i64 n] w fun e w' => e = .returned (.string ⟨(Lib.repeatL [48] n).toArray⟩) ∧ Below w.heap.size w w' :=
  Try.strings_Repeat ⟨#[48]⟩ n w (by omega) (by show 1 * n ≤ _; omega)

set_option maxRecDepth 100000 in
set_option maxHeartbeats 2000000 in
theorem digitsTens_any (w : World) (n : Int) (hn0 : -9223372036854775808 ≤ n) (hn1 : n ≤ 9223372036854775807) :
    Calls Try.prog 7 #[.int .i64 n] w fun e w' => e = .returned (.bool true) ∧ Below w.heap.size w w' := by
  have WR := Lib.hid (writes_any w)
  by_cases hneg : n < 0
  · have TN := Lib.hid (fun W => ten_neg n W hneg)
    clear hn0 hn1
    go_enter Try.func7, Try.ntmps7
    have C := Lib.hid (WR.out)
    go_wp2_with fail
    refine C.out.mono ?_
    clear C
    rintro e w1 ⟨rfl, hB⟩
    have hb1 := hB
    clear hB
    go_wp2_with fail
    refine (TN.out _).mono ?_
    rintro e w2 ⟨rfl, hB⟩
    have hb2 := hb1.trans (hB.mono hb1.size)
    clear hB hb1
    go_wp2
    go_ret
    exact ⟨rfl, hb2⟩
  · obtain ⟨k, rfl⟩ : ∃ k : Nat, n = (k : Int) := ⟨n.toNat, by omega⟩
    have hk : k ≤ 9223372036854775807 := by omega
    by_cases hbig : 4932 < k
    · have TO := Lib.hid (fun W => ten_over k W hk (ten_out hbig))
      have hkI : (4932 : Int) < (k : Int) := by omega
      clear hn0 hn1 hk hbig
      go_enter Try.func7, Try.ntmps7
      have C := Lib.hid (WR.out)
      go_wp2_with fail
      refine C.out.mono ?_
      clear C
      rintro e w1 ⟨rfl, hB⟩
      have hb1 := hB
      clear hB
      go_wp2_with fail
      refine (TO.out _).mono ?_
      rintro e w2 ⟨rfl, hB⟩
      have hb2 := hb1.trans (hB.mono hb1.size)
      clear hB hb1
      go_wp2
      go_ret
      exact ⟨rfl, hb2⟩
    · have hmax : 10 ^ k < maxN := ten_in (by omega)
      have TK := Lib.hid (fun W => ten_ok k W hk hmax)
      have hkI : ¬ (4932 : Int) < (k : Int) := by omega
      by_cases h400 : 400 < k
      · have h4I : (400 : Int) < (k : Int) := by omega
        clear hn0 hn1 hk hbig hmax h400
        go_enter Try.func7, Try.ntmps7
        have C := Lib.hid (WR.out)
        go_wp2_with fail
        refine C.out.mono ?_
        clear C
        rintro e w1 ⟨rfl, hB⟩
        have hb1 := hB
        clear hB
        go_wp2_with fail
        refine (TK.out _).mono ?_
        rintro e w2 ⟨⟨va, rfl, NA⟩, hB⟩
        have hb2 := hb1.trans (hB.mono hb1.size)
        clear hB hb1
        go_wp2
        go_ret
        exact ⟨rfl, hb2⟩
      · have h4I : ¬ (400 : Int) < (k : Int) := by omega
        have TX : ∀ W (v : Value), IsNat W v (10 ^ k) → Calls Try.prog 12 #[v] W fun e w' => e = .returned (.string (⟨#[49]⟩ ++ ⟨(Lib.repeatL [48] k).toArray⟩)) ∧ Below W.heap.size W w' := fun W v h => text_lit h hmax _ (text_tens k)
        have HTX := Lib.hid TX
        have RP := Lib.hid (fun W => noughts_any k W (by omega))
        have hkl : (k : Int) ≤ 400 := by omega
        have hsz : (Lib.repeatL [48] k).length ≤ 400 := by rw [Lib.repeatL_length]; simp; omega
        clear hn0 hn1 hk hbig hmax h400 TX
        go_enter Try.func7, Try.ntmps7
        have C := Lib.hid (WR.out)
        go_wp2_with fail
        refine C.out.mono ?_
        clear C
        rintro e w1 ⟨rfl, hB⟩
        have hb1 := hB
        clear hB
        go_wp2_with fail
        refine (TK.out _).mono ?_
        rintro e w2 ⟨⟨va, rfl, NA⟩, hB⟩
        have hb2 := hb1.trans (hB.mono hb1.size)
        clear hB hb1
        go_wp2_with fail
        refine (HTX.out _ _ NA).mono ?_
        rintro e w3 ⟨rfl, hB⟩
        replace NA := NA.below hB (Nat.le_refl _)
        have hb3 := hb2.trans (hB.mono hb2.size)
        clear hB hb2
        go_wp2_with fail
        refine (RP.out _).mono ?_
        rintro e w4 ⟨rfl, hB⟩
        replace NA := NA.below hB (Nat.le_refl _)
        have hb4 := hb3.trans (hB.mono hb3.size)
        clear hB hb3
        go_wp2
        go_ret
        exact ⟨rfl, hb4⟩

end Go.Proofs.Ytphhaaofkckobaa
