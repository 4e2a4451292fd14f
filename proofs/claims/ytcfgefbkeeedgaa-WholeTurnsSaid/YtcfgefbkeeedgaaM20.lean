/-
  What the statement stands on.
-/
import Derived.Test.YtcfgefbkeeedgaaM15
import Derived.Deep.LoopGhost
namespace Go.Proofs.Ytcfgefbkeeedgaa
open Go.RowKit
set_option maxRecDepth 100000 in
set_option maxHeartbeats 1000000 in
theorem gcdSmall_any (x y : Nat) (w : World) (hx : x < 18446744073709551616) (hy : y < 18446744073709551616) :
    Calls Try.prog 36 #[.int .u64 x, .int .u64 y] w fun e w' => e = .returned (.int .u64 (Nat.gcd x y : Nat)) ∧ Below w.heap.size w w' := by
  go_enter Try.func36, Try.ntmps36
  go_wp2_with fail
  go_loopw [0, 1] (fun sx sy wr => ∃ a b : Nat, a < 18446744073709551616 ∧ b < 18446744073709551616 ∧ sx = .int .u64 a ∧ sy = .int .u64 b ∧ Hid (Nat.gcd a b = Nat.gcd x y) ∧ Below w.heap.size w wr) (fun _ sy _ => (intOf sy).toNat)
  case atStart => exact ⟨x, y, hx, hy, rfl, rfl, rfl, Below.refl _ _⟩
  case round =>
    obtain ⟨a, b, ha, hb, rfl, rfl, hg, hB⟩ := hrel
    by_cases h0 : 0 < b
    · have hbI : (0 : Int) < (b : Int) := by omega
      have hbne : ((b : Int) == 0) = false := by simp; omega
      have HM := Lib.hid (Nat.mod_lt a h0)
      have HG := Lib.hid (show Nat.gcd b (a % b) = Nat.gcd x y by rw [Nat.gcd_comm, ← Nat.gcd_rec, Nat.gcd_comm]; exact hg.out)
      have HA := Lib.hid (And.intro ha hb)
      have HB := Lib.hid hB
      clear h0 ha hb hg hB hx hy; go_wp2_with fail
      go_quiet (fail)
      have eq2 : ((a : Int) % (b : Int)) = ((a % b : Nat) : Int) := by rw [← Int.natCast_emod]
      rw [eq2]
      clear eq2; go_wp2_with fail
      go_roundw
      case rel => exact ⟨b, a % b, HA.out.2, by have := HA.out.2; have := HM.out; omega, rfl, rfl, HG.out, below_drewN HB.out _⟩
      case measure => have := HM.out; simp [intOf]; omega
    · have hb0 : b = 0 := by omega
      subst hb0
      have HG := Lib.hid (show a = Nat.gcd x y by rw [← hg.out, Nat.gcd_zero_right])
      go_wp2
      go_ret
      exact ⟨ret_one (by rw [← HG.out]; rfl), hB⟩
set_option maxRecDepth 100000 in
set_option maxHeartbeats 1000000 in
theorem both_yes {va vb : Value} {m n : Nat} {w : World} (ha : IsNat w va m) (hb : IsNat w vb n) (hm : m < 18446744073709551616) (hn : n < 18446744073709551616) :
    Calls Try.prog 34 #[va, vb] w fun e w' => e = .returned (.tuple #[.int .u64 m, .int .u64 n, .bool true]) ∧ Below w.heap.size w w' := by
  have C1 := Lib.hid (small_fit ha hm)
  have HN := Lib.hid hn
  clear ha hm hn
  go_enter Try.func34, Try.ntmps34
  go_wp2_with fail
  refine C1.out.mono ?_
  rintro e w1 ⟨rfl, hB⟩
  have hb := hb.below hB (Nat.le_refl _)
  have C2 := Lib.hid (small_fit hb HN.out)
  go_wp2_with fail
  refine C2.out.mono ?_
  rintro e w2 ⟨rfl, hB2⟩
  go_wp2
  go_ret3
  exact ⟨rfl, hB.trans (hB2.mono hB.size)⟩
set_option maxRecDepth 100000 in
set_option maxHeartbeats 1000000 in
theorem both_no {va vb : Value} {m n : Nat} {w : World} (ha : IsNat w va m) (hb : IsNat w vb n) (hm : m < maxN) (hn : n < maxN) (hno : 18446744073709551616 ≤ m ∨ 18446744073709551616 ≤ n) :
    Calls Try.prog 34 #[va, vb] w fun e w' => (∃ x y, e = .returned (.tuple #[x, y, .bool false])) ∧ Below w.heap.size w w' := by
  have HN := Lib.hid hn
  by_cases h1 : 18446744073709551616 ≤ m
  · have C1 := Lib.hid (small_over ha hm h1)
    by_cases h2 : 18446744073709551616 ≤ n
    · have H2 := Lib.hid h2
      clear ha hm hn hno h1 h2
      go_enter Try.func34, Try.ntmps34
      go_wp2_with fail
      refine C1.out.mono ?_
      rintro e w1 ⟨rfl, hB⟩
      have hb := hb.below hB (Nat.le_refl _)
      have C2 := Lib.hid (small_over hb HN.out H2.out)
      go_wp2_with fail
      refine C2.out.mono ?_
      rintro e w2 ⟨rfl, hB2⟩
      go_wp2
      go_ret3
      exact ⟨⟨_, _, rfl⟩, hB.trans (hB2.mono hB.size)⟩
    · have H2 := Lib.hid (Nat.lt_of_not_le h2)
      clear ha hm hn hno h1 h2
      go_enter Try.func34, Try.ntmps34
      go_wp2_with fail
      refine C1.out.mono ?_
      rintro e w1 ⟨rfl, hB⟩
      have hb := hb.below hB (Nat.le_refl _)
      have C2 := Lib.hid (small_fit hb H2.out)
      go_wp2_with fail
      refine C2.out.mono ?_
      rintro e w2 ⟨rfl, hB2⟩
      go_wp2
      go_ret3
      exact ⟨⟨_, _, rfl⟩, hB.trans (hB2.mono hB.size)⟩
  · have C1 := Lib.hid (small_fit ha (Nat.lt_of_not_le h1))
    have H2 := Lib.hid (hno.resolve_left h1)
    clear ha hm hn hno h1
    go_enter Try.func34, Try.ntmps34
    go_wp2_with fail
    refine C1.out.mono ?_
    rintro e w1 ⟨rfl, hB⟩
    have hb := hb.below hB (Nat.le_refl _)
    have C2 := Lib.hid (small_over hb HN.out H2.out)
    go_wp2_with fail
    refine C2.out.mono ?_
    rintro e w2 ⟨rfl, hB2⟩
    go_wp2
    go_ret3
    exact ⟨⟨_, _, rfl⟩, hB.trans (hB2.mono hB.size)⟩
theorem nbits_pos {n : Nat} (h : n ≠ 0) : 0 < nbits n := (nbits_spec h).1
set_option maxRecDepth 100000 in
set_option maxHeartbeats 2000000 in
theorem gcd_any {va vb : Value} {m n : Nat} {w : World} (ha : IsNat w va m) (hb : IsNat w vb n) (hm : m < maxN) (hn : n < maxN) :
    Calls Try.prog 19 #[va, vb] w fun e w' => (∃ v, e = .returned v ∧ IsNat w' v (Nat.gcd m n)) ∧ Below w.heap.size w w' := by
  have HM := Lib.hid hm; have HN := Lib.hid hn
  clear hm hn
  go_enter Try.func19, Try.ntmps19
  go_wp2_with fail
  go_loopg [0, 1] n (fun k sa sb wr => ∃ j : Nat, IsNat wr sa j ∧ IsNat wr sb k ∧ Hid (j < maxN) ∧ Hid (k < maxN) ∧ Hid (Nat.gcd j k = Nat.gcd m n) ∧ Below w.heap.size w wr)
  case atStart => exact ⟨m, ha, hb, HM.out, HN.out, rfl, Below.refl _ _⟩
  case round =>
    clear ha hb
    obtain ⟨j, hj, hk, hjm, hkm, hg, hB⟩ := hrel
    by_cases h0 : gk = 0
    · subst h0
      have C := Lib.hid (bits_nat hk hkm.out (t := 0) rfl)
      have HG := Lib.hid (show j = Nat.gcd m n by rw [← hg.out, Nat.gcd_zero_right])
      go_wp2_with fail
      refine C.out.mono ?_
      clear C
      rintro e w1 ⟨rfl, hB1⟩
      have hj := hj.below hB1 (Nat.le_refl _)
      have hb1 := hB.trans (hB1.mono hB.size)
      have C := Lib.hid (right_any hj hjm.out 0 (by omega))
      clear hk hB hB1; go_wp2_with fail
      refine C.out.mono ?_
      clear C
      rintro e w2 ⟨⟨v, rfl, hv⟩, hB2⟩
      go_wp2
      go_ret
      exact ⟨⟨_, rfl, hv.eq (by rw [Nat.pow_zero, Nat.div_one, HG.out])⟩, hb1.trans (hB2.mono hb1.size)⟩
    · obtain ⟨t, ht⟩ : ∃ t, nbits gk = t := ⟨_, rfl⟩
      have htp : 0 < t := by rw [← ht]; exact nbits_pos h0
      have htI : (0 : Int) < (t : Int) := by omega
      have HT := Lib.hid ht
      have H0 := Lib.hid h0
      have C := Lib.hid (bits_nat hk hkm.out HT.out)
      clear h0 ht htp; go_wp2_with fail
      refine C.out.mono ?_
      clear C
      rintro e w1 ⟨rfl, hB1⟩
      have hj := hj.below hB1 (Nat.le_refl _)
      have hk := hk.below hB1 (Nat.le_refl _)
      have hb1 := hB.trans (hB1.mono hB.size)
      clear hB hB1
      by_cases hs : j < 18446744073709551616 ∧ gk < 18446744073709551616
      · have HS := Lib.hid hs
        have C := Lib.hid (both_yes hj hk HS.out.1 HS.out.2)
        clear hs; go_wp2_with fail
        refine C.out.mono ?_
        clear C
        rintro e w2 ⟨rfl, hB2⟩
        have hb2 := hb1.trans (hB2.mono hb1.size)
        have C := Lib.hid (fun W => gcdSmall_any j gk W HS.out.1 HS.out.2)
        clear hb1 hB2; go_wp2_with fail
        refine (C.out _).mono ?_
        clear C
        rintro e w3 ⟨rfl, hB3⟩
        have hb3 := hb2.trans (hB3.mono hb2.size)
        have hgl : Nat.gcd j gk < 18446744073709551616 := Nat.lt_of_le_of_lt (Nat.le_of_dvd (by have := H0.out; omega) (Nat.gcd_dvd_right _ _)) HS.out.2
        have HGL := Lib.hid hgl
        obtain ⟨g, hgg⟩ : ∃ g, Nat.gcd j gk = g := ⟨_, rfl⟩
        rw [hgg] at HGL hg ⊢
        have C := Lib.hid (fun W => of_any g W HGL.out)
        clear hgl hgg hb2 hB3; go_wp2_with fail
        refine (C.out _).mono ?_
        clear C
        rintro e w4 ⟨⟨v, rfl, hv⟩, hB4⟩
        go_wp2
        go_ret
        exact ⟨⟨_, rfl, hv.eq hg.out⟩, hb3.trans (hB4.mono hb3.size)⟩
      · have HS := Lib.hid (show 18446744073709551616 ≤ j ∨ 18446744073709551616 ≤ gk by omega)
        have C := Lib.hid (both_no hj hk hjm.out hkm.out HS.out)
        clear hs; go_wp2_with fail
        refine C.out.mono ?_
        clear C
        rintro e w2 ⟨⟨x, y, rfl⟩, hB2⟩
        have hj := hj.below hB2 (Nat.le_refl _)
        have hk := hk.below hB2 (Nat.le_refl _)
        have hb2 := hb1.trans (hB2.mono hb1.size)
        have HP := Lib.hid (Nat.pos_of_ne_zero H0.out)
        have C := Lib.hid (div_nat hj hk hjm.out hkm.out HP.out)
        clear hb1 hB2; go_wp2_with fail
        refine C.out.mono ?_
        clear C
        rintro e w3 ⟨⟨v1, v2, rfl, h1, h2⟩, hB3⟩
        have hk := hk.below hB3 (Nat.le_refl _)
        have hb3 := hb2.trans (hB3.mono hb2.size)
        clear hb2 hB3 hj h1
        have HL := Lib.hid (Nat.mod_lt j HP.out)
        go_wp2_with fail
        go_roundg (j % gk)
        case measure => exact HL.out
        case rel => exact ⟨gk, hk, h2, hkm.out, Nat.lt_trans HL.out hkm.out, by show _ = _; rw [Nat.gcd_comm, ← Nat.gcd_rec, Nat.gcd_comm]; exact hg.out, hb3⟩
end Go.Proofs.Ytcfgefbkeeedgaa
