/-
  girdlelaw01.LimbsMuls, as a walk: whatever the two lists, it returns true.
-/
import Derived.Test.YtphhaaofkckobaaDoorLadds
namespace Go.Proofs.YtphhaaofkckobaaDoor
open Go.RowKit

set_option maxRecDepth 100000 in
set_option maxHeartbeats 4000000 in
theorem limbsMuls_any (p1 p2 : Option Addr) (K1 K2 : Nat) (ds1 ds2 : List Nat) (w : World) (hT : Tab w) (at1 : At .u32 w p1 K1 ds1) (at2 : At .u32 w p2 K2 ds2) (d1 : Dig 4294967296 ds1) (d2 : Dig 4294967296 ds2) :
    Calls Tryd.prog 4 #[.slice p1 ds1.length K1, .slice p2 ds2.length K2] w fun e w' => e = .returned (.bool true) ∧ Below w.heap.size w w' := by
  have R := Lib.hid (reckons_any w hT)
  have HT := Lib.hid hT
  have HD1 := Lib.hid d1
  have HD2 := Lib.hid d2
  obtain ⟨l1, hl1⟩ : ∃ l, ds1.length = l := ⟨_, rfl⟩
  obtain ⟨l2, hl2⟩ : ∃ l, ds2.length = l := ⟨_, rfl⟩
  have HL1 := Lib.hid hl1
  have HL2 := Lib.hid hl2
  rw [hl1, hl2]
  clear hT d1 d2 hl1 hl2
  go_enter Tryd.func4, Tryd.ntmps4
  have C := Lib.hid (R.out)
  go_wp2_with fail
  refine C.out.mono ?_
  clear C
  rintro e w1 ⟨rfl, hB⟩
  replace at1 := at1.below hB (Nat.le_refl _)
  replace at2 := at2.below hB (Nat.le_refl _)
  have hb1 := hB
  clear hB
  have C := Lib.hid (fit_two p1 p2 K1 K2 ds1 ds2 w1 at1 at2 l1 l2 HL1.out HL2.out)
  go_wp2_with fail
  refine C.out.mono ?_
  clear C
  rintro e w2 ⟨⟨b, rfl, hb⟩, hB⟩
  replace at1 := at1.below hB (Nat.le_refl _)
  replace at2 := at2.below hB (Nat.le_refl _)
  have hb2 := hb1.trans (hB.mono hb1.size)
  clear hB hb1
  cases b with
  | false =>
    go_wp2
    go_ret
    exact ⟨rfl, hb2⟩
  | true =>
    obtain ⟨t1, t2⟩ := hb.out rfl
    clear hb
    have N1 : IsNat w2 (.slice p1 l1 K1) (val 4294967296 ds1) := by rw [← HL1.out]; exact ⟨ds1, ⟨p1, K1, rfl, at1⟩, tried_can t1 HD1.out, rfl⟩
    have N2 : IsNat w2 (.slice p2 l2 K2) (val 4294967296 ds2) := by rw [← HL2.out]; exact ⟨ds2, ⟨p2, K2, rfl, at2⟩, tried_can t2 HD2.out, rfl⟩
    have M1 := t1.lt HD1.out
    have M2 := t2.lt HD2.out
    have T1 := Lib.hid t1
    have T2 := Lib.hid t2
    obtain ⟨n1, hn1⟩ : ∃ n, val 4294967296 ds1 = n := ⟨_, rfl⟩
    obtain ⟨n2, hn2⟩ : ∃ n, val 4294967296 ds2 = n := ⟨_, rfl⟩
    rw [hn1] at N1 M1
    rw [hn2] at N2 M2
    have V1 := Lib.hid hn1
    have V2 := Lib.hid hn2
    have HM1 := Lib.hid M1
    have HM2 := Lib.hid M2
    have HN1 := Lib.hid (n40_lt M1)
    have HN2 := Lib.hid (n40_lt M2)
    clear M1 M2 t1 t2 hn1 hn2
    clear at1 at2
    have HP := Lib.hid (n40_mul HM1.out HM2.out)
    have HP2 := Lib.hid (n40_mul HM2.out HM1.out)
    have C := Lib.hid (mul_fit N1 N2 HN1.out HN2.out HP.out)
    go_wp2_with fail
    refine C.out.mono ?_
    clear C
    rintro e w3 ⟨⟨vp, rfl, NP⟩, hB⟩
    replace N1 := N1.below hB (Nat.le_refl _)
    replace N2 := N2.below hB (Nat.le_refl _)
    have hb3 := hb2.trans (hB.mono hb2.size)
    clear hB hb2
    have C := Lib.hid (mul_fit N2 N1 HN2.out HN1.out HP2.out)
    go_wp2_with fail
    refine C.out.mono ?_
    clear C
    rintro e w4 ⟨⟨vq, rfl, NQ⟩, hB⟩
    replace N1 := N1.below hB (Nat.le_refl _)
    replace N2 := N2.below hB (Nat.le_refl _)
    replace NP := NP.below hB (Nat.le_refl _)
    have hb4 := hb3.trans (hB.mono hb3.size)
    clear hB hb3
    have C := Lib.hid (refOf_any N1 HN1.out)
    go_wp2_with fail
    refine C.out.mono ?_
    clear C
    rintro e w5 ⟨⟨vx, rfl, X1⟩, hB⟩
    replace N1 := N1.below hB (Nat.le_refl _)
    replace N2 := N2.below hB (Nat.le_refl _)
    replace NP := NP.below hB (Nat.le_refl _)
    replace NQ := NQ.below hB (Nat.le_refl _)
    have hb5 := hb4.trans (hB.mono hb4.size)
    clear hB hb4
    have C := Lib.hid (refOf_any N2 HN2.out)
    go_wp2_with fail
    refine C.out.mono ?_
    clear C
    rintro e w6 ⟨⟨vy, rfl, X2⟩, hB⟩
    replace N1 := N1.below hB (Nat.le_refl _)
    replace N2 := N2.below hB (Nat.le_refl _)
    replace NP := NP.below hB (Nat.le_refl _)
    replace NQ := NQ.below hB (Nat.le_refl _)
    replace X1 := X1.below hB (Nat.le_refl _)
    have hb6 := hb5.trans (hB.mono hb5.size)
    clear hB hb5
    have C := Lib.hid (refMul_any X1 X2 HN1.out HN2.out)
    go_wp2_with fail
    refine C.out.mono ?_
    clear C
    rintro e w7 ⟨⟨vt, rfl, XP⟩, hB⟩
    replace N1 := N1.below hB (Nat.le_refl _)
    replace N2 := N2.below hB (Nat.le_refl _)
    replace NP := NP.below hB (Nat.le_refl _)
    replace NQ := NQ.below hB (Nat.le_refl _)
    replace X1 := X1.below hB (Nat.le_refl _)
    replace X2 := X2.below hB (Nat.le_refl _)
    have hb7 := hb6.trans (hB.mono hb6.size)
    clear hB hb6
    have C := Lib.hid (is_same NP XP HP.out)
    go_wp2_with fail
    refine C.out.mono ?_
    clear C
    rintro e w8 ⟨rfl, hB⟩
    replace N1 := N1.below hB (Nat.le_refl _)
    replace N2 := N2.below hB (Nat.le_refl _)
    replace NP := NP.below hB (Nat.le_refl _)
    replace NQ := NQ.below hB (Nat.le_refl _)
    replace X1 := X1.below hB (Nat.le_refl _)
    replace X2 := X2.below hB (Nat.le_refl _)
    replace XP := XP.below hB (Nat.le_refl _)
    have hb8 := hb7.trans (hB.mono hb7.size)
    clear hB hb7
    have C := Lib.hid (equal_same NP (NQ.eq (Nat.mul_comm _ _)) HP.out)
    go_wp2_with fail
    refine C.out.mono ?_
    clear C
    rintro e w9 ⟨rfl, hB⟩
    replace N1 := N1.below hB (Nat.le_refl _)
    replace N2 := N2.below hB (Nat.le_refl _)
    replace NP := NP.below hB (Nat.le_refl _)
    replace NQ := NQ.below hB (Nat.le_refl _)
    replace X1 := X1.below hB (Nat.le_refl _)
    replace X2 := X2.below hB (Nat.le_refl _)
    replace XP := XP.below hB (Nat.le_refl _)
    have hb9 := hb8.trans (hB.mono hb8.size)
    clear hB hb8
    go_wp2
    go_ret
    exact ⟨rfl, hb9⟩

end Go.Proofs.YtphhaaofkckobaaDoor
