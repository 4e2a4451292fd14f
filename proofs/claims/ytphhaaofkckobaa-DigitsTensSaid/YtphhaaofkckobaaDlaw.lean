/-
  girdlelaw02.writes: a number in words, reckoned through; and what the calls of digits answer at known texts.
-/
import Derived.Test.YtphhaaofkckobaaDtext
import Derived.Test.YtphhaaofkckobaaDparse
import Derived.Test.YtphhaaofkckobaaEqual
namespace Go.Proofs.Ytphhaaofkckobaa
open Go.RowKit

theorem parse_lit (s : ByteArray) (n : Nat) (w : World) (h : onlyB (bs s) = true) (hl : s.size ≤ 4900) (hv : dv (bs s) = n) :
    Calls Try.prog 15 #[.string s] w fun e w' => (∃ v, e = .returned (.tuple #[v, .int .i64 0]) ∧ IsNat w' v n) ∧ Below w.heap.size w w' := by
  have := parse_ok s w h hl
  rwa [hv] at this
theorem text_lit {va : Value} {m : Nat} {w : World} (ha : IsNat w va m) (hm : m < maxN) (s : ByteArray) (hs : IsText (bs s) m) :
    Calls Try.prog 12 #[va] w fun e w' => e = .returned (.string s) ∧ Below w.heap.size w w' :=
  (text_any ha hm).mono fun e w' ⟨⟨t, he, ht⟩, hB⟩ => ⟨by rw [he, bs_inj (ht.uniq hs)], hB⟩
theorem ten_ok (n : Nat) (w : World) (hn : n ≤ 9223372036854775807) (h : 10 ^ n < maxN) :
    Calls Try.prog 26 #[.int .i64 n] w fun e w' => (∃ v, e = .returned (.tuple #[v, .int .i64 0]) ∧ IsNat w' v (10 ^ n)) ∧ Below w.heap.size w w' :=
  (ten_any n w hn).mono fun e w' ⟨h1, hB⟩ => by
    rcases h1 with ⟨_, h2⟩ | ⟨h2, _⟩
    · exact ⟨h2, hB⟩
    · omega
theorem ten_over (n : Nat) (w : World) (hn : n ≤ 9223372036854775807) (h : maxN ≤ 10 ^ n) :
    Calls Try.prog 26 #[.int .i64 n] w fun e w' => e = .returned (.tuple #[.slice none 0 0, .int .i64 11]) ∧ Below w.heap.size w w' :=
  (ten_any n w hn).mono fun e w' ⟨h1, hB⟩ => by
    rcases h1 with ⟨h2, _⟩ | ⟨_, h2⟩
    · omega
    · exact ⟨h2, hB⟩
theorem can001' : Can 4294967296 [0, 0, 1] := ⟨fun x hx => by simp at hx; omega, rfl⟩
theorem zero_nat (w : World) : IsNat w (.slice none 0 0) 0 := IsNat.zero w
theorem zero_max : 0 < maxN := lt_maxN (by decide)
theorem equal_yes {va vb : Value} {m : Nat} {w : World} (ha : IsNat w va m) (hb : IsNat w vb m) (hm : m < maxN) :
    Calls Try.prog 17 #[va, vb] w fun e w' => e = .returned (.bool true) ∧ Below w.heap.size w w' := by
  obtain ⟨ds, ⟨p1, K1, rfl, at1⟩, c1, v1⟩ := ha
  obtain ⟨es, ⟨p2, K2, rfl, at2⟩, c2, v2⟩ := hb
  have e := Can.uniq (by decide) c1 c2 (v1.trans v2.symm)
  subst e
  have hl : ds.length ≤ 512 := c1.len_max.2 (by omega)
  have := equal_nat p1 p2 K1 K2 ds ds w at1 at2 (by omega)
  rwa [decide_eq_true rfl] at this

set_option maxRecDepth 100000 in
set_option maxHeartbeats 4000000 in
theorem writes_any (w : World) : Calls Try.prog 10 #[] w fun e w' => e = .returned (.bool true) ∧ Below w.heap.size w w' := by
  have P1 : ∀ W, Calls Try.prog 15 #[.string ⟨#[49, 56, 52, 52, 54, 55, 52, 52, 48, 55, 51, 55, 48, 57, 53, 53, 49, 54, 49, 54]⟩] W fun e w' => (∃ v, e = .returned (.tuple #[v, .int .i64 0]) ∧ IsNat w' v 18446744073709551616) ∧ Below W.heap.size W w' := fun W => parse_lit _ _ W (by decide) (by decide) (by decide)
  have P2 : ∀ W, Calls Try.prog 15 #[.string ⟨#[49, 50, 97]⟩] W fun e w' => e = .returned (.tuple #[.slice none 0 0, .int .i64 2]) ∧ Below W.heap.size W w' := fun W => parse_bad _ W (by decide)
  have T20 : ∀ W, Calls Try.prog 26 #[.int .i64 20] W fun e w' => (∃ v, e = .returned (.tuple #[v, .int .i64 0]) ∧ IsNat w' v 100000000000000000000) ∧ Below W.heap.size W w' := fun W => ten_ok 20 W (by decide) (lt_maxN (by decide))
  have X1 : ∀ W (v : Value), IsNat W v 18446744073709551616 → Calls Try.prog 12 #[v] W fun e w' => e = .returned (.string ⟨#[49, 56, 52, 52, 54, 55, 52, 52, 48, 55, 51, 55, 48, 57, 53, 53, 49, 54, 49, 54]⟩) ∧ Below W.heap.size W w' := fun W v h => text_lit h (lt_maxN (by decide)) _ ⟨by decide, by decide, by decide, by decide⟩
  have X2 : ∀ W (v : Value), IsNat W v 100000000000000000000 → Calls Try.prog 12 #[v] W fun e w' => e = .returned (.string ⟨#[49, 48, 48, 48, 48, 48, 48, 48, 48, 48, 48, 48, 48, 48, 48, 48, 48, 48, 48, 48, 48]⟩) ∧ Below W.heap.size W w' := fun W v h => text_lit h (lt_maxN (by decide)) _ ⟨by decide, by decide, by decide, by decide⟩
  have X0 : ∀ W, Calls Try.prog 12 #[.slice none 0 0] W fun e w' => e = .returned (.string ⟨#[48]⟩) ∧ Below W.heap.size W w' := fun W => text_lit (zero_nat W) zero_max _ ⟨by decide, by decide, by decide, by decide⟩
  have O12 : ∀ W, Calls Try.prog 25 #[.int .u64 12] W fun e w' => (∃ v, e = .returned v ∧ IsNat w' v 12) ∧ Below W.heap.size W w' := fun W => of_any 12 W (by decide)
  have O18 : ∀ W, Calls Try.prog 25 #[.int .u64 18] W fun e w' => (∃ v, e = .returned v ∧ IsNat w' v 18) ∧ Below W.heap.size W w' := fun W => of_any 18 W (by decide)
  have O6 : ∀ W, Calls Try.prog 25 #[.int .u64 6] W fun e w' => (∃ v, e = .returned v ∧ IsNat w' v 6) ∧ Below W.heap.size W w' := fun W => of_any 6 W (by decide)
  have G : ∀ W (v u : Value), IsNat W v 12 → IsNat W u 18 → Calls Try.prog 23 #[v, u] W fun e w' => (∃ v, e = .returned v ∧ IsNat w' v 6) ∧ Below W.heap.size W w' := fun W v u h k => gcd_any h k (lt_maxN (by decide)) (lt_maxN (by decide))
  replace P1 := Lib.hid P1; replace P2 := Lib.hid P2; replace T20 := Lib.hid T20; replace X1 := Lib.hid X1; replace X2 := Lib.hid X2; replace X0 := Lib.hid X0
  replace O12 := Lib.hid O12; replace O18 := Lib.hid O18; replace O6 := Lib.hid O6; replace G := Lib.hid G
  go_enter Try.func10, Try.ntmps10
  go_wp2_with fail
  refine (P1.out w).mono ?_
  rintro e w1 ⟨⟨va, rfl, NA⟩, hB⟩
  have hb1 := hB
  clear hB
  go_wp2_with fail
  refine (T20.out _).mono ?_
  rintro e w2 ⟨⟨vt, rfl, NT⟩, hB⟩
  replace NA := NA.below hB (Nat.le_refl _)
  have hb2 := hb1.trans (hB.mono hb1.size)
  clear hB hb1
  go_wp2_with fail
  refine (P2.out _).mono ?_
  rintro e w3 ⟨rfl, hB⟩
  replace NA := NA.below hB (Nat.le_refl _)
  replace NT := NT.below hB (Nat.le_refl _)
  have hb3 := hb2.trans (hB.mono hb2.size)
  clear hB hb2
  obtain ⟨pa, Ka, rfl, ata⟩ : ∃ p K, va = .slice p 3 K ∧ At .u32 w3 p K [0, 0, 1] := NA.digs [0, 0, 1] can001' (by decide)
  obtain ⟨ba, oa, rfl, -, -, hcx⟩ := ata.pos (by decide)
  have hc2 : w3.cell? ⟨ba, oa + 2, none⟩ = some (.int .u32 1) := hcx 2 (by decide)
  clear hcx ata
  go_wp2_with fail
  refine (X1.out _ _ NA).mono ?_
  rintro e w4 ⟨rfl, hB⟩
  replace NA := NA.below hB (Nat.le_refl _)
  replace NT := NT.below hB (Nat.le_refl _)
  have hb4 := hb3.trans (hB.mono hb3.size)
  clear hB hb3
  clear hc2
  clear NA
  go_wp2_with fail
  refine (X2.out _ _ NT).mono ?_
  rintro e w5 ⟨rfl, hB⟩
  replace NT := NT.below hB (Nat.le_refl _)
  have hb5 := hb4.trans (hB.mono hb4.size)
  clear hB hb4
  clear NT
  go_wp2_with fail
  refine (X0.out _).mono ?_
  rintro e w6 ⟨rfl, hB⟩
  have hb6 := hb5.trans (hB.mono hb5.size)
  clear hB hb5
  go_wp2_with fail
  refine (O12.out _).mono ?_
  rintro e w7 ⟨⟨v12, rfl, N12⟩, hB⟩
  have hb7 := hb6.trans (hB.mono hb6.size)
  clear hB hb6
  go_wp2_with fail
  refine (O18.out _).mono ?_
  rintro e w8 ⟨⟨v18, rfl, N18⟩, hB⟩
  replace N12 := N12.below hB (Nat.le_refl _)
  have hb8 := hb7.trans (hB.mono hb7.size)
  clear hB hb7
  go_wp2_with fail
  refine (G.out _ _ _ N12 N18).mono ?_
  rintro e w9 ⟨⟨vg, rfl, NG⟩, hB⟩
  replace N12 := N12.below hB (Nat.le_refl _)
  replace N18 := N18.below hB (Nat.le_refl _)
  have hb9 := hb8.trans (hB.mono hb8.size)
  clear hB hb8
  go_wp2_with fail
  refine (O6.out _).mono ?_
  rintro e w10 ⟨⟨v6, rfl, N6⟩, hB⟩
  replace N12 := N12.below hB (Nat.le_refl _)
  replace N18 := N18.below hB (Nat.le_refl _)
  replace NG := NG.below hB (Nat.le_refl _)
  have hb10 := hb9.trans (hB.mono hb9.size)
  clear hB hb9
  have C := Lib.hid (equal_yes NG N6 (lt_maxN (by decide)))
  go_wp2_with fail
  refine C.out.mono ?_
  clear C
  rintro e w11 ⟨rfl, hB⟩
  replace N12 := N12.below hB (Nat.le_refl _)
  replace N18 := N18.below hB (Nat.le_refl _)
  replace NG := NG.below hB (Nat.le_refl _)
  replace N6 := N6.below hB (Nat.le_refl _)
  have hb11 := hb10.trans (hB.mono hb10.size)
  clear hB hb10
  go_wp2
  go_ret
  exact ⟨rfl, hb11⟩

end Go.Proofs.Ytphhaaofkckobaa
