/-
  girdlelaw01.LimbsRings, as a walk: whatever the three lists, it returns true.
-/
import Derived.Test.YtphhaaofkckobaaDoorLsmall
namespace Go.Proofs.YtphhaaofkckobaaDoor
open Go.RowKit

/-- What a number of 40 digits is below. -/
@[irreducible] def N40 : Nat := 4294967296 ^ 40
theorem Tried.lt {ds : List Nat} (h : Tried ds) (hd : Dig 4294967296 ds) : val 4294967296 ds < N40 := by
  unfold N40
  exact ((tried_can h hd).len_le (by decide) 40).1 h.1
theorem n40_max : 4 * (N40 * N40) < maxN := by
  have h1 := Nat.pow_le_pow_right (n := 4294967296) (show 0 < 4294967296 by decide) (show 81 ≤ 512 by decide)
  have h2 : (4294967296 : Nat) ^ 81 = 4294967296 * (4294967296 ^ 40 * 4294967296 ^ 40) := by rw [← Nat.pow_add, ← Nat.pow_succ']
  have h3 := Nat.pow_pos (n := 40) (show 0 < 4294967296 by decide)
  unfold maxN N40
  rw [h2] at h1
  have h4 := Nat.mul_pos h3 h3
  omega
theorem n40_pos : 0 < N40 := by unfold N40; exact Nat.pow_pos (by decide)
theorem n40_lt {m : Nat} (h : m < N40) : m < maxN := by
  have h1 := n40_max
  have h2 := Nat.mul_le_mul_left N40 (show 1 ≤ N40 from n40_pos)
  omega
theorem n40_add {m n : Nat} (h : m < N40) (k : n < N40) : m + n < maxN := by
  have h1 := n40_max
  have h2 := Nat.mul_le_mul_left N40 (show 1 ≤ N40 from n40_pos)
  omega
theorem n40_mul {m n : Nat} (h : m < N40) (k : n < N40) : m * n < maxN := by
  have h1 := n40_max
  have h2 := Nat.mul_le_mul (Nat.le_of_lt h) (Nat.le_of_lt k)
  omega
theorem n40_ring {m n k : Nat} (h : m < N40) (h2 : n < N40) (h3 : k < N40) : m * (n + k) < maxN := by
  have h1 := n40_max
  have h4 := Nat.mul_le_mul (Nat.le_of_lt h) (show n + k ≤ 2 * N40 by omega)
  rw [Nat.mul_left_comm] at h4
  omega

/-- The same number twice is the same digits twice. -/
theorem equal_same {va vb : Value} {m : Nat} {w : World} (ha : IsNat w va m) (hb : IsNat w vb m) (hm : m < maxN) :
    Calls Tryd.prog 22 #[va, vb] w fun e w' => e = .returned (.bool true) ∧ Below w.heap.size w w' := by
  obtain ⟨ds, ⟨p1, K1, rfl, at1⟩, c1, v1⟩ := ha
  obtain ⟨es, ⟨p2, K2, rfl, at2⟩, c2, v2⟩ := hb
  have e := Can.uniq (by decide) c1 c2 (v1.trans v2.symm)
  subst e
  have hl : ds.length ≤ 512 := c1.len_max.2 (by omega)
  have := equal_nat p1 p2 K1 K2 ds ds w at1 at2 (by omega)
  rwa [decide_eq_true rfl] at this

/-- Three numbers, in the list that 'fit' is given. -/
theorem fit_three (p1 p2 p3 : Option Addr) (K1 K2 K3 : Nat) (ds1 ds2 ds3 : List Nat) (w : World) (h1 : At .u32 w p1 K1 ds1) (h2 : At .u32 w p2 K2 ds2) (h3 : At .u32 w p3 K3 ds3) (l1 l2 l3 : Nat) (e1 : ds1.length = l1) (e2 : ds2.length = l2) (e3 : ds3.length = l3) :
    Calls Tryd.prog 12 #[.slice (some ⟨w.heap.size, 0, none⟩) 3 3] (w.alloc (.cells #[.slice p1 l1 K1, .slice p2 l2 K2, .slice p3 l3 K3] 23)) fun e w' => (∃ b, e = .returned (.bool b) ∧ Hid (b = true → Tried ds1 ∧ Tried ds2 ∧ Tried ds3)) ∧ Below w.heap.size w w' := by
  subst e1; subst e2; subst e3
  have hB := (Below.refl w.heap.size w).alloc (Nat.le_refl _) (.cells #[.slice p1 ds1.length K1, .slice p2 ds2.length K2, .slice p3 ds3.length K3] 23)
  refine (fit_any w.heap.size 3 (fun j => match j with | 0 => p1 | 1 => p2 | _ => p3) (fun j => match j with | 0 => K1 | 1 => K2 | _ => K3) (fun j => match j with | 0 => ds1 | 1 => ds2 | _ => ds3) _ (by simp) (by decide) fun j hj => ?_).mono
    fun e w' h => ⟨⟨_, h.1, fun hb => ⟨triedAll_out hb 0 (by decide), triedAll_out hb 1 (by decide), triedAll_out hb 2 (by decide)⟩⟩, hB.trans (h.2.mono (by simp))⟩
  match j, hj with
  | 0, _ => exact ⟨by simp [go_sem], h1.below hB (Nat.le_refl _)⟩
  | 1, _ => exact ⟨by simp [go_sem], h2.below hB (Nat.le_refl _)⟩
  | 2, _ => exact ⟨by simp [go_sem], h3.below hB (Nat.le_refl _)⟩

set_option maxRecDepth 100000 in
set_option maxHeartbeats 2000000 in
theorem limbsRings_any (p1 p2 p3 : Option Addr) (K1 K2 K3 : Nat) (ds1 ds2 ds3 : List Nat) (w : World) (hT : Tab w) (at1 : At .u32 w p1 K1 ds1) (at2 : At .u32 w p2 K2 ds2) (at3 : At .u32 w p3 K3 ds3) (d1 : Dig 4294967296 ds1) (d2 : Dig 4294967296 ds2) (d3 : Dig 4294967296 ds3) :
    Calls Tryd.prog 10 #[.slice p1 ds1.length K1, .slice p2 ds2.length K2, .slice p3 ds3.length K3] w fun e w' => e = .returned (.bool true) ∧ Below w.heap.size w w' := by
  have R := Lib.hid (reckons_any w hT)
  have HD := Lib.hid (And.intro d1 (And.intro d2 d3))
  obtain ⟨l1, hl1⟩ : ∃ l, ds1.length = l := ⟨_, rfl⟩
  obtain ⟨l2, hl2⟩ : ∃ l, ds2.length = l := ⟨_, rfl⟩
  obtain ⟨l3, hl3⟩ : ∃ l, ds3.length = l := ⟨_, rfl⟩
  have HL := Lib.hid (And.intro hl1 (And.intro hl2 hl3))
  rw [hl1, hl2, hl3]
  clear hT d1 d2 d3 hl1 hl2 hl3
  go_enter Tryd.func10, Tryd.ntmps10
  go_wp2_with fail
  refine R.out.mono ?_
  clear R
  rintro e w1 ⟨rfl, hb1⟩
  have at1 := at1.below hb1 (Nat.le_refl _)
  have at2 := at2.below hb1 (Nat.le_refl _)
  have at3 := at3.below hb1 (Nat.le_refl _)
  have C := Lib.hid (fit_three p1 p2 p3 K1 K2 K3 ds1 ds2 ds3 w1 at1 at2 at3 l1 l2 l3 HL.out.1 HL.out.2.1 HL.out.2.2)
  go_wp2_with fail
  refine C.out.mono ?_
  clear C
  rintro e w2 ⟨⟨b, rfl, hb⟩, hB⟩
  have hb2 := hb1.trans (hB.mono hb1.size)
  have at1 := at1.below hB (Nat.le_refl _)
  have at2 := at2.below hB (Nat.le_refl _)
  have at3 := at3.below hB (Nat.le_refl _)
  clear hB hb1
  cases b with
  | false =>
    go_wp2
    go_ret
    exact ⟨rfl, hb2⟩
  | true =>
    obtain ⟨t1, t2, t3⟩ := hb.out rfl
    clear hb
    have N1 : IsNat w2 (.slice p1 l1 K1) (val 4294967296 ds1) := by rw [← HL.out.1]; exact ⟨ds1, ⟨p1, K1, rfl, at1⟩, tried_can t1 HD.out.1, rfl⟩
    have N2 : IsNat w2 (.slice p2 l2 K2) (val 4294967296 ds2) := by rw [← HL.out.2.1]; exact ⟨ds2, ⟨p2, K2, rfl, at2⟩, tried_can t2 HD.out.2.1, rfl⟩
    have N3 : IsNat w2 (.slice p3 l3 K3) (val 4294967296 ds3) := by rw [← HL.out.2.2]; exact ⟨ds3, ⟨p3, K3, rfl, at3⟩, tried_can t3 HD.out.2.2, rfl⟩
    have M1 := t1.lt HD.out.1
    have M2 := t2.lt HD.out.2.1
    have M3 := t3.lt HD.out.2.2
    generalize val 4294967296 ds1 = m at *
    generalize val 4294967296 ds2 = n at *
    generalize val 4294967296 ds3 = k at *
    have HM := Lib.hid (And.intro M1 (And.intro M2 M3))
    clear M1 M2 M3 t1 t2 t3 at1 at2 at3 HD
    have C := Lib.hid (add_fit N2 N3 (n40_add HM.out.2.1 HM.out.2.2))
    go_wp2_with fail
    refine C.out.mono ?_
    clear C
    rintro e w3 ⟨⟨vs, rfl, NS⟩, hB⟩
    have N1 := N1.below hB (Nat.le_refl _)
    have N2 := N2.below hB (Nat.le_refl _)
    have N3 := N3.below hB (Nat.le_refl _)
    have hb3 := hb2.trans (hB.mono hb2.size)
    clear hB hb2
    have C := Lib.hid (mul_fit N1 NS (n40_lt HM.out.1) (n40_add HM.out.2.1 HM.out.2.2) (n40_ring HM.out.1 HM.out.2.1 HM.out.2.2))
    go_wp2_with fail
    refine C.out.mono ?_
    clear C
    rintro e w4 ⟨⟨vp, rfl, NP⟩, hB⟩
    have N1 := N1.below hB (Nat.le_refl _)
    have N2 := N2.below hB (Nat.le_refl _)
    have N3 := N3.below hB (Nat.le_refl _)
    have NS := NS.below hB (Nat.le_refl _)
    have hb4 := hb3.trans (hB.mono hb3.size)
    clear hB hb3
    have C := Lib.hid (mul_fit N1 N2 (n40_lt HM.out.1) (n40_lt HM.out.2.1) (n40_mul HM.out.1 HM.out.2.1))
    go_wp2_with fail
    refine C.out.mono ?_
    clear C
    rintro e w5 ⟨⟨vx, rfl, NX⟩, hB⟩
    have N1 := N1.below hB (Nat.le_refl _)
    have N2 := N2.below hB (Nat.le_refl _)
    have N3 := N3.below hB (Nat.le_refl _)
    have NS := NS.below hB (Nat.le_refl _)
    have NP := NP.below hB (Nat.le_refl _)
    have hb5 := hb4.trans (hB.mono hb4.size)
    clear hB hb4
    have C := Lib.hid (mul_fit N1 N3 (n40_lt HM.out.1) (n40_lt HM.out.2.2) (n40_mul HM.out.1 HM.out.2.2))
    go_wp2_with fail
    refine C.out.mono ?_
    clear C
    rintro e w6 ⟨⟨vy, rfl, NY⟩, hB⟩
    have N2 := N2.below hB (Nat.le_refl _)
    have N3 := N3.below hB (Nat.le_refl _)
    have NS := NS.below hB (Nat.le_refl _)
    have NP := NP.below hB (Nat.le_refl _)
    have NX := NX.below hB (Nat.le_refl _)
    have hb6 := hb5.trans (hB.mono hb5.size)
    clear hB hb5
    have C := Lib.hid (add_fit NX NY (by have := n40_ring HM.out.1 HM.out.2.1 HM.out.2.2; rwa [Nat.mul_add] at this))
    go_wp2_with fail
    refine C.out.mono ?_
    clear C
    rintro e w7 ⟨⟨vq, rfl, NQ⟩, hB⟩
    have N2 := N2.below hB (Nat.le_refl _)
    have N3 := N3.below hB (Nat.le_refl _)
    have NS := NS.below hB (Nat.le_refl _)
    have NP := NP.below hB (Nat.le_refl _)
    have hb7 := hb6.trans (hB.mono hb6.size)
    clear hB hb6
    have C := Lib.hid (sub_fit NS N3 (n40_add HM.out.2.1 HM.out.2.2) (Nat.le_add_left _ _))
    go_wp2_with fail
    refine C.out.mono ?_
    clear C
    rintro e w8 ⟨⟨vd, rfl, ND⟩, hB⟩
    have N2 := N2.below hB (Nat.le_refl _)
    have NP := NP.below hB (Nat.le_refl _)
    have NQ := NQ.below hB (Nat.le_refl _)
    have hb8 := hb7.trans (hB.mono hb7.size)
    clear hB hb7
    have C := Lib.hid (equal_same NP (NQ.eq (Nat.mul_add _ _ _).symm) (n40_ring HM.out.1 HM.out.2.1 HM.out.2.2))
    go_wp2_with fail
    refine C.out.mono ?_
    clear C
    rintro e w9 ⟨rfl, hB⟩
    have N2 := N2.below hB (Nat.le_refl _)
    have ND := ND.below hB (Nat.le_refl _)
    have hb9 := hb8.trans (hB.mono hb8.size)
    clear hB hb8
    have C := Lib.hid (equal_same (ND.eq (Nat.add_sub_cancel _ _)) N2 (n40_lt HM.out.2.1))
    go_wp2_with fail
    refine C.out.mono ?_
    clear C
    rintro e w10 ⟨rfl, hB⟩
    have hb10 := hb9.trans (hB.mono hb9.size)
    clear hB hb9
    go_wp2
    go_ret
    exact ⟨rfl, hb10⟩

end Go.Proofs.YtphhaaofkckobaaDoor
