/-
  girdlelaw01.LimbsAdds, as a walk: whatever the two lists, it returns true.
-/
import Derived.Test.YtphhaaofkckobaaDoorRdiv
import Derived.Test.YtphhaaofkckobaaDoorRis
import Derived.Test.YtphhaaofkckobaaDoorLrings
namespace Go.Proofs.YtphhaaofkckobaaDoor
open Go.RowKit

theorem is_same {va vd : Value} {m : Nat} {w : World} (ha : IsNat w va m) (hd : IsRef w vd m) (hm : m < maxN) :
    Calls Tryd.prog 15 #[va, vd] w fun e w' => e = .returned (.bool true) ∧ Below w.heap.size w w' := by
  have := is_any ha hd hm hm
  rwa [sameB_pos rfl] at this
theorem refCmp_b {va vb : Value} {m n : Nat} {w : World} (ha : IsRef w va m) (hb : IsRef w vb n) (hm : m < maxN) (hn : n < maxN) {c : Int} (hc : cmpI m n = c) :
    Calls Tryd.prog 18 #[va, vb] w fun e w' => e = .returned (.int .i64 c) ∧ Below w.heap.size w w' :=
  (refCmp_ref ha hb (by omega) (by omega)).mono fun e w' h => ⟨by rw [← hc]; exact h.1, h.2 ▸ Below.refl _ _⟩

set_option maxRecDepth 100000 in
set_option maxHeartbeats 4000000 in
theorem limbsAdds_any (p1 p2 : Option Addr) (K1 K2 : Nat) (ds1 ds2 : List Nat) (w : World) (hT : Tab w) (at1 : At .u32 w p1 K1 ds1) (at2 : At .u32 w p2 K2 ds2) (d1 : Dig 4294967296 ds1) (d2 : Dig 4294967296 ds2) :
    Calls Tryd.prog 3 #[.slice p1 ds1.length K1, .slice p2 ds2.length K2] w fun e w' => e = .returned (.bool true) ∧ Below w.heap.size w w' := by
  have R := Lib.hid (reckons_any w hT)
  have HT := Lib.hid hT
  have HD1 := Lib.hid d1
  have HD2 := Lib.hid d2
  obtain ⟨l1, hl1⟩ : ∃ l, ds1.length = l := ⟨_, rfl⟩
  obtain ⟨l2, hl2⟩ : ∃ l, ds2.length = l := ⟨_, rfl⟩
  have HL1 := Lib.hid hl1
  have HL2 := Lib.hid hl2
  rw [hl1, hl2]
  clear hT d1 d2 hl1 hl2
  go_enter Tryd.func3, Tryd.ntmps3
  have C := Lib.hid (R.out)
  go_wp2_with fail
  refine C.out.mono ?_
  clear C
  rintro e w1 ⟨rfl, hB⟩
  replace at1 := at1.below hB (Nat.le_refl _)
  replace at2 := at2.below hB (Nat.le_refl _)
  have hb1 := hB
  clear hB
  have C := Lib.hid (fit_two p1 p2 K1 K2 ds1 ds2 w1 at1 at2 l1 l2 HL1.out HL2.out)
  go_wp2_with fail
  refine C.out.mono ?_
  clear C
  rintro e w2 ⟨⟨b, rfl, hb⟩, hB⟩
  replace at1 := at1.below hB (Nat.le_refl _)
  replace at2 := at2.below hB (Nat.le_refl _)
  have hb2 := hb1.trans (hB.mono hb1.size)
  clear hB hb1
  cases b with
  | false =>
    go_wp2
    go_ret
    exact ⟨rfl, hb2⟩
  | true =>
    obtain ⟨t1, t2⟩ := hb.out rfl
    clear hb
    have N1 : IsNat w2 (.slice p1 l1 K1) (val 4294967296 ds1) := by rw [← HL1.out]; exact ⟨ds1, ⟨p1, K1, rfl, at1⟩, tried_can t1 HD1.out, rfl⟩
    have N2 : IsNat w2 (.slice p2 l2 K2) (val 4294967296 ds2) := by rw [← HL2.out]; exact ⟨ds2, ⟨p2, K2, rfl, at2⟩, tried_can t2 HD2.out, rfl⟩
    have M1 := t1.lt HD1.out
    have M2 := t2.lt HD2.out
    have T1 := Lib.hid t1
    have T2 := Lib.hid t2
    obtain ⟨n1, hn1⟩ : ∃ n, val 4294967296 ds1 = n := ⟨_, rfl⟩
    obtain ⟨n2, hn2⟩ : ∃ n, val 4294967296 ds2 = n := ⟨_, rfl⟩
    rw [hn1] at N1 M1
    rw [hn2] at N2 M2
    have V1 := Lib.hid hn1
    have V2 := Lib.hid hn2
    have HM1 := Lib.hid M1
    have HM2 := Lib.hid M2
    have HN1 := Lib.hid (n40_lt M1)
    have HN2 := Lib.hid (n40_lt M2)
    clear M1 M2 t1 t2 hn1 hn2
    clear at1 at2
    have C := Lib.hid (refOf_any N1 HN1.out)
    go_wp2_with fail
    refine C.out.mono ?_
    clear C
    rintro e w3 ⟨⟨vx, rfl, X1⟩, hB⟩
    replace N1 := N1.below hB (Nat.le_refl _)
    replace N2 := N2.below hB (Nat.le_refl _)
    have hb3 := hb2.trans (hB.mono hb2.size)
    clear hB hb2
    have C := Lib.hid (refOf_any N2 HN2.out)
    go_wp2_with fail
    refine C.out.mono ?_
    clear C
    rintro e w4 ⟨⟨vy, rfl, X2⟩, hB⟩
    replace N1 := N1.below hB (Nat.le_refl _)
    replace N2 := N2.below hB (Nat.le_refl _)
    replace X1 := X1.below hB (Nat.le_refl _)
    have hb4 := hb3.trans (hB.mono hb3.size)
    clear hB hb3
    have C := Lib.hid (add_fit N1 N2 (n40_add HM1.out HM2.out))
    go_wp2_with fail
    refine C.out.mono ?_
    clear C
    rintro e w5 ⟨⟨vs, rfl, NS⟩, hB⟩
    replace N1 := N1.below hB (Nat.le_refl _)
    replace N2 := N2.below hB (Nat.le_refl _)
    replace X1 := X1.below hB (Nat.le_refl _)
    replace X2 := X2.below hB (Nat.le_refl _)
    have hb5 := hb4.trans (hB.mono hb4.size)
    clear hB hb4
    have C := Lib.hid (refAdd_any X1 X2 HN1.out HN2.out)
    go_wp2_with fail
    refine C.out.mono ?_
    clear C
    rintro e w6 ⟨⟨vt, rfl, XS⟩, hB⟩
    replace N1 := N1.below hB (Nat.le_refl _)
    replace N2 := N2.below hB (Nat.le_refl _)
    replace X1 := X1.below hB (Nat.le_refl _)
    replace X2 := X2.below hB (Nat.le_refl _)
    replace NS := NS.below hB (Nat.le_refl _)
    have hb6 := hb5.trans (hB.mono hb5.size)
    clear hB hb5
    have C := Lib.hid (is_same NS XS (n40_add HM1.out HM2.out))
    go_wp2_with fail
    refine C.out.mono ?_
    clear C
    rintro e w7 ⟨rfl, hB⟩
    replace N1 := N1.below hB (Nat.le_refl _)
    replace N2 := N2.below hB (Nat.le_refl _)
    replace X1 := X1.below hB (Nat.le_refl _)
    replace X2 := X2.below hB (Nat.le_refl _)
    replace NS := NS.below hB (Nat.le_refl _)
    replace XS := XS.below hB (Nat.le_refl _)
    have hb7 := hb6.trans (hB.mono hb6.size)
    clear hB hb6
    clear NS XS
    by_cases hlt : n1 < n2
    · have hc := cmpI_lt (a := (n1 : Int)) (b := (n2 : Int)) (by omega)
      have HLT := Lib.hid hlt; have HC := Lib.hid hc
      clear hlt hc
      have C := Lib.hid (sub_less N1 N2 HN2.out HLT.out)
      go_wp2_with fail
      refine C.out.mono ?_
      clear C
      rintro e w8 ⟨rfl, hB⟩
      replace N1 := N1.below hB (Nat.le_refl _)
      replace N2 := N2.below hB (Nat.le_refl _)
      replace X1 := X1.below hB (Nat.le_refl _)
      replace X2 := X2.below hB (Nat.le_refl _)
      have hb8 := hb7.trans (hB.mono hb7.size)
      clear hB hb7
      have C := Lib.hid (refCmp_b X1 X2 HN1.out HN2.out HC.out)
      go_wp2_with fail
      refine C.out.mono ?_
      clear C
      rintro e w9 ⟨rfl, hB⟩
      replace N1 := N1.below hB (Nat.le_refl _)
      replace N2 := N2.below hB (Nat.le_refl _)
      replace X1 := X1.below hB (Nat.le_refl _)
      replace X2 := X2.below hB (Nat.le_refl _)
      have hb9 := hb8.trans (hB.mono hb8.size)
      clear hB hb8
      go_wp2
      go_ret
      exact ⟨rfl, hb9⟩
    · have hc := cmpI_ge (a := (n1 : Int)) (b := (n2 : Int)) (by omega)
      have HLT := Lib.hid (Nat.le_of_not_lt hlt)
      clear hlt
      obtain ⟨c, hcc⟩ : ∃ c, cmpI (n1 : Int) (n2 : Int) = c := ⟨_, rfl⟩
      rw [hcc] at hc
      have HC := Lib.hid hcc
      have hcl : ¬ c < 0 := by omega
      clear hcc
      have C := Lib.hid (sub_fit N1 N2 HN1.out HLT.out)
      go_wp2_with fail
      refine C.out.mono ?_
      clear C
      rintro e w8 ⟨⟨vd, rfl, ND⟩, hB⟩
      replace N1 := N1.below hB (Nat.le_refl _)
      replace N2 := N2.below hB (Nat.le_refl _)
      replace X1 := X1.below hB (Nat.le_refl _)
      replace X2 := X2.below hB (Nat.le_refl _)
      have hb8 := hb7.trans (hB.mono hb7.size)
      clear hB hb7
      have C := Lib.hid (refCmp_b X1 X2 HN1.out HN2.out HC.out)
      go_wp2_with fail
      refine C.out.mono ?_
      clear C
      rintro e w9 ⟨rfl, hB⟩
      replace N1 := N1.below hB (Nat.le_refl _)
      replace N2 := N2.below hB (Nat.le_refl _)
      replace X1 := X1.below hB (Nat.le_refl _)
      replace X2 := X2.below hB (Nat.le_refl _)
      replace ND := ND.below hB (Nat.le_refl _)
      have hb9 := hb8.trans (hB.mono hb8.size)
      clear hB hb8
      have C := Lib.hid (refSub_any X1 X2 HN1.out HLT.out)
      go_wp2_with fail
      refine C.out.mono ?_
      clear C
      rintro e w10 ⟨⟨vu, rfl, XD⟩, hB⟩
      replace N1 := N1.below hB (Nat.le_refl _)
      replace N2 := N2.below hB (Nat.le_refl _)
      replace X1 := X1.below hB (Nat.le_refl _)
      replace X2 := X2.below hB (Nat.le_refl _)
      replace ND := ND.below hB (Nat.le_refl _)
      have hb10 := hb9.trans (hB.mono hb9.size)
      clear hB hb9
      have C := Lib.hid (is_same ND XD (Nat.lt_of_le_of_lt (Nat.sub_le _ _) HN1.out))
      go_wp2_with fail
      refine C.out.mono ?_
      clear C
      rintro e w11 ⟨rfl, hB⟩
      replace N1 := N1.below hB (Nat.le_refl _)
      replace N2 := N2.below hB (Nat.le_refl _)
      replace X1 := X1.below hB (Nat.le_refl _)
      replace X2 := X2.below hB (Nat.le_refl _)
      replace ND := ND.below hB (Nat.le_refl _)
      replace XD := XD.below hB (Nat.le_refl _)
      have hb11 := hb10.trans (hB.mono hb10.size)
      clear hB hb10
      go_wp2
      go_ret
      exact ⟨rfl, hb11⟩

end Go.Proofs.YtphhaaofkckobaaDoor
