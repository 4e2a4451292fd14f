/-
  girdlelaw05.DyadRounds, as a walk: whatever the number, the bits and the way, it returns true.
-/
import Derived.Test.YtkokimlgofimmaaDoorM21
import Derived.Test.YtkokimlgofimmaaDoorM25
import Derived.Test.YtkokimlgofimmaaDoorM36

namespace Go.Proofs.YtkokimlgofimmaaDoor
open Go.RowKit

set_option maxRecDepth 100000 in
set_option maxHeartbeats 16000000 in
theorem dyadRounds_any (bA : Bool) (pA : Option Addr) (KA : Nat) (dsA : List Nat) (eA : Int) (n : Int) (up : Bool) (w : World) (hT : Tab w) (atA : At .u32 w pA KA dsA) (ddA : Dig 4294967296 dsA) (hn0 : -9223372036854775808 ≤ n) (hn1 : n ≤ 9223372036854775807) :
    Calls Tryd.prog 5 #[.agg #[.bool bA, .slice pA dsA.length KA, .int .i64 eA], .int .i64 n, .bool up] w fun e w' => e = .returned (.bool true) ∧ Below w.heap.size w w' := by
  have HT := Lib.hid hT
  have HDA := Lib.hid ddA
  obtain ⟨lA, hlA⟩ : ∃ l, dsA.length = l := ⟨_, rfl⟩
  have HLA := Lib.hid hlA
  rw [hlA]
  clear hT ddA hlA
  have S := (St.start w).alloc 30 [.bool bA, .slice pA lA KA, .int .i64 eA] (w.heap.size)
  try simp only [List.cons_append, List.nil_append] at S
  replace atA := atA.hold S.hold
  have c0_0 := S.c 0 0 rfl rfl
  have c0_1 := S.c 0 1 rfl rfl
  have c0_2 := S.c 0 2 rfl rfl
  go_enter Tryd.func5, Tryd.ntmps5
  go_wp2_with fail
  clear c0_0 c0_1 c0_2
  refine (S.call (halves_any _ (HT.out.below S.below))).mono ?_
  clear S
  rintro e w1 ⟨rfl, S, H⟩
  replace atA := atA.hold H
  clear H
  have c0_0 := S.c 0 0 rfl rfl
  have c0_1 := S.c 0 1 rfl rfl
  have c0_2 := S.c 0 2 rfl rfl
  have H := S.hnew 30 [.bool bA, .slice pA lA KA, .int .i64 eA]
  replace S := S.alloc 30 [.bool bA, .slice pA lA KA, .int .i64 eA] (w1.heap.size)
  try simp only [List.cons_append, List.nil_append] at S
  replace atA := atA.hold H
  clear H
  go_wp2_with fail
  clear c0_0 c0_1 c0_2
  refine (S.call (dfit_any _ 1 _ _ _ _ _ _ (HT.out.below S.below) (S.lt 1 rfl) (by decide) (draws1 S 1 rfl HLA.out atA HDA.out))).mono ?_
  clear S
  rintro e w2 ⟨⟨ok, rfl, hok⟩, S, H⟩
  replace atA := atA.hold H
  clear H
  have c0_0 := S.c 0 0 rfl rfl
  have c0_1 := S.c 0 1 rfl rfl
  have c0_2 := S.c 0 2 rfl rfl
  cases ok with
  | false =>
    go_wp2_with fail
    exact bodyPost_ret (v := .bool true) (by simp [results, Tryd.f5, go_sem]) rfl (⟨rfl, S.below⟩)
  | true =>
    have t := hok.out rfl
    obtain ⟨mA, zA, hA, nA, dA⟩ := tried_dy (b := bA) (e := eA) (t 0 (by decide)) HDA.out HLA.out atA (by decide)
    clear atA
    clear t hok
    by_cases hb1 : n < 2
    ·
      clear c0_0 c0_1 c0_2
      have c0_0 := S.c 0 0 rfl rfl
      have c0_1 := S.c 0 1 rfl rfl
      have c0_2 := S.c 0 2 rfl rfl
      go_wp2_with fail
      clear c0_0 c0_1 c0_2
      refine (S.call (dround_bad (b := bA) (p := pA) (l := lA) (K := KA) (e := eA) n (.inl hb1) up)).mono ?_
      clear S
      rintro e w3 ⟨rfl, S, H⟩
      replace nA := nA.hold H
      clear H
      have c0_0 := S.c 0 0 rfl rfl
      have c0_1 := S.c 0 1 rfl rfl
      have c0_2 := S.c 0 2 rfl rfl
      have H := S.hnew 30 [.bool false, .slice none 0 0, .int .i64 0]
      replace S := S.alloc 30 [.bool false, .slice none 0 0, .int .i64 0] (w3.heap.size)
      try simp only [List.cons_append, List.nil_append] at S
      replace nA := nA.hold H
      clear H
      clear c0_0 c0_1 c0_2
      have c0_0 := S.c 0 0 rfl rfl
      have c0_1 := S.c 0 1 rfl rfl
      have c0_2 := S.c 0 2 rfl rfl
      go_wp2_with fail
      exact bodyPost_ret (v := .bool true) (by simp [results, Tryd.f5, go_sem]) rfl (⟨rfl, S.below⟩)
    · by_cases hb2 : 4096 < n
      ·
        clear c0_0 c0_1 c0_2
        have c0_0 := S.c 0 0 rfl rfl
        have c0_1 := S.c 0 1 rfl rfl
        have c0_2 := S.c 0 2 rfl rfl
        go_wp2_with fail
        clear c0_0 c0_1 c0_2
        refine (S.call (dround_bad (b := bA) (p := pA) (l := lA) (K := KA) (e := eA) n (.inr hb2) up)).mono ?_
        clear S
        rintro e w3 ⟨rfl, S, H⟩
        replace nA := nA.hold H
        clear H
        have c0_0 := S.c 0 0 rfl rfl
        have c0_1 := S.c 0 1 rfl rfl
        have c0_2 := S.c 0 2 rfl rfl
        have H := S.hnew 30 [.bool false, .slice none 0 0, .int .i64 0]
        replace S := S.alloc 30 [.bool false, .slice none 0 0, .int .i64 0] (w3.heap.size)
        try simp only [List.cons_append, List.nil_append] at S
        replace nA := nA.hold H
        clear H
        clear c0_0 c0_1 c0_2
        have c0_0 := S.c 0 0 rfl rfl
        have c0_1 := S.c 0 1 rfl rfl
        have c0_2 := S.c 0 2 rfl rfl
        go_wp2_with fail
        exact bodyPost_ret (v := .bool true) (by simp [results, Tryd.f5, go_sem]) rfl (⟨rfl, S.below⟩)
      · obtain ⟨k, hk⟩ : ∃ k : Nat, (k : Int) = n := ⟨n.toNat, by omega⟩
        subst hk
        have hk2 : 2 ≤ k ∧ k ≤ 4096 := by omega
        have HK := Lib.hid hk2
        obtain ⟨y, hy⟩ : ∃ y, rnd mA eA k up = y := ⟨_, rfl⟩
        have HY := Lib.hid hy
        clear hk2 hy hn0 hn1
        clear c0_0 c0_1 c0_2
        have c0_0 := S.c 0 0 rfl rfl
        have c0_1 := S.c 0 1 rfl rfl
        have c0_2 := S.c 0 2 rfl rfl
        go_wp2_with fail
        clear c0_0 c0_1 c0_2
        refine (S.call (dround_any (HT.out.below S.below) hA nA dA (by decide) k HK.out.1 HK.out.2 up y HY.out)).mono ?_
        clear S
        rintro e w3 ⟨⟨_, rfl, bR, pR, lR, KR, mR, eR, rfl, hR, nR, dR⟩, S, H⟩
        replace nA := nA.hold H
        clear H
        have c0_0 := S.c 0 0 rfl rfl
        have c0_1 := S.c 0 1 rfl rfl
        have c0_2 := S.c 0 2 rfl rfl
        have H := S.hnew 30 [.bool bR, .slice pR lR KR, .int .i64 eR]
        replace S := S.alloc 30 [.bool bR, .slice pR lR KR, .int .i64 eR] (w3.heap.size)
        try simp only [List.cons_append, List.nil_append] at S
        replace nA := nA.hold H
        replace nR := nR.hold H
        clear H
        have hfr : decide ((nbits mR.natAbs : Int) ≤ (k : Int)) = true := decide_eq_true (by have := rnd_few HK.out.1 dA.out.1 dR.out.1 (dR.out.2.2.trans HY.out.symm); omega)
        have HR := Lib.hid hfr
        clear hfr
        clear c0_0 c0_1 c0_2
        have c2_0 := S.c 2 0 rfl rfl
        have c2_1 := S.c 2 1 rfl rfl
        have c2_2 := S.c 2 2 rfl rfl
        go_wp2_with fail
        generalize (.tuple #[.agg #[.bool bR, .slice pR lR KR, .int .i64 eR], .int .i64 0] : Value) = g1
        clear c2_0 c2_1 c2_2
        refine (S.call (dfew_any nR (dR.out.max (by decide)) (k : Int) true HR.out)).mono ?_
        clear S
        rintro e w4 ⟨rfl, S, H⟩
        replace nA := nA.hold H
        replace nR := nR.hold H
        clear H
        have c2_0 := S.c 2 0 rfl rfl
        have c2_1 := S.c 2 1 rfl rfl
        have c2_2 := S.c 2 2 rfl rfl
        clear c2_0 c2_1 c2_2
        have c2_0 := S.c 2 0 rfl rfl
        have c2_1 := S.c 2 1 rfl rfl
        have c2_2 := S.c 2 2 rfl rfl
        go_wp2_with fail
        clear c2_0 c2_1 c2_2
        refine (S.call (dcheck_any (HT.out.below S.below) ⟨bR, pR, lR, KR, mR, eR, rfl, hR, nR, dR⟩ (by decide))).mono ?_
        clear S
        rintro e w5 ⟨rfl, S, H⟩
        replace nA := nA.hold H
        replace nR := nR.hold H
        clear H
        have c2_0 := S.c 2 0 rfl rfl
        have c2_1 := S.c 2 1 rfl rfl
        have c2_2 := S.c 2 2 rfl rfl
        obtain ⟨c, hc⟩ : ∃ c, cmpR y zA = c := ⟨_, rfl⟩
        have HC := Lib.hid hc
        clear c2_0 c2_1 c2_2
        have c0_0 := S.c 0 0 rfl rfl
        have c0_1 := S.c 0 1 rfl rfl
        have c0_2 := S.c 0 2 rfl rfl
        have c2_0 := S.c 2 0 rfl rfl
        have c2_1 := S.c 2 1 rfl rfl
        have c2_2 := S.c 2 2 rfl rfl
        go_wp2_with fail
        clear c0_0 c0_1 c0_2 c2_0 c2_1 c2_2
        refine (S.call (dcompare_any (L := 300) (H := 781) ⟨bR, pR, lR, KR, mR, eR, rfl, hR, nR, dR⟩ (IsD.mono ⟨bA, pA, lA, KA, mA, eA, rfl, hA, nA, dA⟩ (L := 300) (H := 780) (L' := 300) (H' := 781) (by decide) (by decide)) (by decide) c HC.out)).mono ?_
        clear S
        rintro e w6 ⟨rfl, S, H⟩
        replace nA := nA.hold H
        replace nR := nR.hold H
        clear H
        have c0_0 := S.c 0 0 rfl rfl
        have c0_1 := S.c 0 1 rfl rfl
        have c0_2 := S.c 0 2 rfl rfl
        have c2_0 := S.c 2 0 rfl rfl
        have c2_1 := S.c 2 1 rfl rfl
        have c2_2 := S.c 2 2 rfl rfl
        by_cases hfew : nbits mA.natAbs ≤ k
        · have hc0 : c = 0 := by rw [← hc, ← HY.out, rnd_same hfew, dA.out.2.2]; exact cmpR_eq _
          subst hc0
          have HF := Lib.hid (show decide ((nbits mA.natAbs : Int) ≤ (k : Int)) = true from decide_eq_true (by omega))
          clear hc hfew
          clear c0_0 c0_1 c0_2 c2_0 c2_1 c2_2
          have c0_0 := S.c 0 0 rfl rfl
          have c0_1 := S.c 0 1 rfl rfl
          have c0_2 := S.c 0 2 rfl rfl
          go_wp2_with fail
          clear c0_0 c0_1 c0_2
          refine (S.call (dfew_any nA (dA.out.max (by decide)) (k : Int) true HF.out)).mono ?_
          clear S
          rintro e w7 ⟨rfl, S, H⟩
          replace nA := nA.hold H
          replace nR := nR.hold H
          clear H
          have c0_0 := S.c 0 0 rfl rfl
          have c0_1 := S.c 0 1 rfl rfl
          have c0_2 := S.c 0 2 rfl rfl
          go_wp2_with fail
          exact bodyPost_ret (v := .bool true) (by simp [results, Tryd.f5, go_sem]) rfl (⟨rfl, S.below⟩)
        · have HF := Lib.hid (show decide ((nbits mA.natAbs : Int) ≤ (k : Int)) = false from decide_eq_false (by omega))
          obtain ⟨t, ht⟩ : ∃ t, nbits mA.natAbs = t := ⟨_, rfl⟩
          have hm0 : mA ≠ 0 := by intro e0; rw [e0] at hfew; simp [nbits] at hfew
          have htop := dyf_top dA.out hm0
          have hoff := rnd_off dA.out.1 (n := k) (by omega) up
          have hex := dA.out.exp
          have htl := nbits_pb (n := mA.natAbs) (by omega) dA.out.2.1.size
          rw [ht] at htop htl
          rw [ht, HY.out, dA.out.2.2] at hoff
          obtain ⟨f, hf⟩ : ∃ f, eA + ((t - k : Nat) : Int) = f := ⟨_, rfl⟩
          rw [hf] at hoff
          have hw1 : IntKind.i64.wrap (eA + (t : Int)) = eA + (t : Int) := wrap_int (by omega) (by omega)
          have hw2 : IntKind.i64.wrap (eA + (t : Int) - (k : Int)) = f := by rw [wrap_int (by omega) (by omega)]; omega
          have HZ := Lib.hid (show ZF 1 f 300 781 from ZF.of (n := 1) (by rw [PB_is]; decide) (by omega) (by omega))
          have HT2 := Lib.hid ht
          clear hm0 htop hex htl hf ht hfew
          cases up with
          | false =>
            have h9 := hoff.1 rfl
            have hc1 : c = -1 := by rw [← hc]; exact cmpR_lt h9.1
            have HO := Lib.hid (decide_eq_true h9.2)
            subst hc1
            clear h9 hoff hc
            clear c0_0 c0_1 c0_2 c2_0 c2_1 c2_2
            have c0_0 := S.c 0 0 rfl rfl
            have c0_1 := S.c 0 1 rfl rfl
            have c0_2 := S.c 0 2 rfl rfl
            go_wp2_with fail
            clear c0_0 c0_1 c0_2
            refine (S.call (dfew_any nA (dA.out.max (by decide)) (k : Int) false HF.out)).mono ?_
            clear S
            rintro e w7 ⟨rfl, S, H⟩
            replace nA := nA.hold H
            replace nR := nR.hold H
            clear H
            have c0_0 := S.c 0 0 rfl rfl
            have c0_1 := S.c 0 1 rfl rfl
            have c0_2 := S.c 0 2 rfl rfl
            clear c0_0 c0_1 c0_2
            have c0_0 := S.c 0 0 rfl rfl
            have c0_1 := S.c 0 1 rfl rfl
            have c0_2 := S.c 0 2 rfl rfl
            go_upto_region 15 with fail
            clear c0_0 c0_1 c0_2
            go_cut [10, 11] (fun s10 s11 wx => ∃ g10 bl pl ll Kl ml el, s10 = .pointer (some ⟨g10, 0, none⟩) ∧ s11 = .int .i64 0 ∧ St w wx [(w.heap.size, 30, [.bool bA, .slice pA lA KA, .int .i64 eA]), (w1.heap.size, 30, [.bool bA, .slice pA lA KA, .int .i64 eA]), (w3.heap.size, 30, [.bool bR, .slice pR lR KR, .int .i64 eR]), (g10, 30, [.bool bl, .slice pl ll Kl, .int .i64 el])] ∧ Hid (negB ml = bl) ∧ IsNat wx (.slice pl ll Kl) ml.natAbs ∧ Hid (DyF ml el (dq 1 f) 300 781) ∧ Hold32 w7 wx)
            case first =>
              have HH := (Hold.drew w7).to32
              replace nA := nA.hold32 HH
              replace nR := nR.hold32 HH
              replace S := S.drew
              refine wp_region_held_drew (S := fun W => W.cell? ⟨w.heap.size, 0, none⟩ = some (.bool bA) ∧ W.cell? ⟨w.heap.size, 1, none⟩ = some (.slice pA lA KA) ∧ W.cell? ⟨w.heap.size, 2, none⟩ = some (.int .i64 eA)) (by kernel_rfl) ⟨S.c 0 0 rfl rfl, S.c 0 1 rfl rfl, S.c 0 2 rfl rfl⟩ (fun hS => ?_)
              generalize w7.drew = w8 at S nA nR HH hS ⊢
              refine wpAnyH_take (i := 1) (v := ?_) ((List.getElem?_toArray ..).trans rfl) (by kernel_rfl) (by kernel_rfl) (by kernel_rfl) (fun _ _ _ h => h) (Or.inl ⟨rfl, fun W hW => ?_⟩) hS ?_
              rotate_left
              · obtain ⟨hW0, hW1, hW2⟩ := hW; go_simp; try first | rfl | (rw [if_neg (by first | omega | (simp only [ByteArray.size_append]; first | omega | (have h1 : (ByteArray.mk #[47]).size = 1 := rfl; omega)))]; try rfl) | kernel_rfl
              try simp only [Act.put, List.setIfInBounds_toArray, List.set_cons_zero, List.set_cons_succ]
              refine wpAnyH_take (i := 2) (v := ?_) ((List.getElem?_toArray ..).trans rfl) (by kernel_rfl) (by kernel_rfl) (by kernel_rfl) (fun _ _ _ h => h) (Or.inl ⟨rfl, fun W hW => ?_⟩) hS ?_
              rotate_left
              · obtain ⟨hW0, hW1, hW2⟩ := hW; go_simp; try first | rfl | (rw [if_neg (by first | omega | (simp only [ByteArray.size_append]; first | omega | (have h1 : (ByteArray.mk #[47]).size = 1 := rfl; omega)))]; try rfl) | kernel_rfl
              try simp only [Act.put, List.setIfInBounds_toArray, List.set_cons_zero, List.set_cons_succ]
              refine wpAnyH_take (i := 3) (v := ?_) ((List.getElem?_toArray ..).trans rfl) (by kernel_rfl) (by kernel_rfl) (by kernel_rfl) (fun _ _ _ h => h) (Or.inl ⟨rfl, fun W hW => ?_⟩) hS ?_
              rotate_left
              · obtain ⟨hW0, hW1, hW2⟩ := hW; go_simp; try first | rfl | (rw [if_neg (by first | omega | (simp only [ByteArray.size_append]; first | omega | (have h1 : (ByteArray.mk #[47]).size = 1 := rfl; omega)))]; try rfl) | kernel_rfl
              try simp only [Act.put, List.setIfInBounds_toArray, List.set_cons_zero, List.set_cons_succ]
              refine wpAnyH_take (i := 4) (v := ?_) ((List.getElem?_toArray ..).trans rfl) (by kernel_rfl) (by kernel_rfl) (by kernel_rfl) (fun _ _ _ h => h) (Or.inl ⟨rfl, fun W hW => ?_⟩) hS ?_
              rotate_left
              · obtain ⟨hW0, hW1, hW2⟩ := hW; go_simp; try first | rfl | (rw [if_neg (by first | omega | (simp only [ByteArray.size_append]; first | omega | (have h1 : (ByteArray.mk #[47]).size = 1 := rfl; omega)))]; try rfl) | kernel_rfl
              try simp only [Act.put, List.setIfInBounds_toArray, List.set_cons_zero, List.set_cons_succ]
              refine wpAnyH_take (i := 5) (v := ?_) ((List.getElem?_toArray ..).trans rfl) (by kernel_rfl) (by kernel_rfl) (by kernel_rfl) (fun _ _ _ h => h) (Or.inl ⟨rfl, fun W hW => ?_⟩) hS ?_
              rotate_left
              · obtain ⟨hW0, hW1, hW2⟩ := hW; go_simp; try first | rfl | (rw [if_neg (by first | omega | (simp only [ByteArray.size_append]; first | omega | (have h1 : (ByteArray.mk #[47]).size = 1 := rfl; omega)))]; try rfl) | kernel_rfl
              try simp only [Act.put, List.setIfInBounds_toArray, List.set_cons_zero, List.set_cons_succ]
              refine wpAnyH_take (i := 8) (v := ?_) ((List.getElem?_toArray ..).trans rfl) (by kernel_rfl) (by kernel_rfl) (by kernel_rfl) (fun _ _ _ h => h) (Or.inl ⟨rfl, fun W hW => ?_⟩) hS ?_
              rotate_left
              · obtain ⟨hW0, hW1, hW2⟩ := hW; go_simp; try first | rfl | (rw [if_neg (by first | omega | (simp only [ByteArray.size_append]; first | omega | (have h1 : (ByteArray.mk #[47]).size = 1 := rfl; omega)))]; try rfl) | kernel_rfl
              try simp only [Act.put, List.setIfInBounds_toArray, List.set_cons_zero, List.set_cons_succ]
              refine wpAnyH_ready (rs := [0, 14]) (by kernel_rfl) (by simp) (AllReadyH.cons ((List.getElem?_toArray ..).trans rfl) (fun KK hKK => ?_) (AllReadyH.cons ((List.getElem?_toArray ..).trans rfl) (fun KK hKK => ?_) AllReadyH.nil))
              ·
                go_simp
                clear hS
                refine (S.call (wof_any 1 _ (by decide) (by decide))).mono ?_
                clear S
                rintro e w9 ⟨⟨_, rfl, po, lo, Ko, rfl, no⟩, S, H⟩
                replace nA := nA.hold H
                replace nR := nR.hold H
                replace HH := HH.trans H.to32
                clear H
                go_wp2_with fail
                refine hKK.out _ _ ⟨S.c 0 0 rfl rfl, S.c 0 1 rfl rfl, S.c 0 2 rfl rfl⟩ (fun hS => ?_)
                clear hKK KK
                try simp only [Act.put, List.setIfInBounds_toArray, List.set_cons_zero, List.set_cons_succ]
                refine wpAnyH_ready (rs := [6, 14]) (by kernel_rfl) (by simp) (AllReadyH.cons ((List.getElem?_toArray ..).trans rfl) (fun KK hKK => ?_) (AllReadyH.cons ((List.getElem?_toArray ..).trans rfl) (fun KK hKK => ?_) AllReadyH.nil))
                ·
                  go_simp
                  clear hS
                  refine (S.call (bits_nat nA (dA.out.max (by decide)) HT2.out)).mono ?_
                  clear S
                  rintro e w10 ⟨rfl, S, H⟩
                  replace nA := nA.hold H
                  replace nR := nR.hold H
                  replace no := no.hold H
                  replace HH := HH.trans H.to32
                  clear H
                  go_wp2_with fail
                  refine hKK.out _ _ ⟨S.c 0 0 rfl rfl, S.c 0 1 rfl rfl, S.c 0 2 rfl rfl⟩ (fun hS => ?_)
                  clear hKK KK
                  try simp only [Act.put, List.setIfInBounds_toArray, List.set_cons_zero, List.set_cons_succ]
                  refine wpAnyH_take (i := 7) (v := ?_) ((List.getElem?_toArray ..).trans rfl) (by kernel_rfl) (by kernel_rfl) (by kernel_rfl) (fun _ _ _ h => h) (Or.inl ⟨rfl, fun W hW => ?_⟩) hS ?_
                  rotate_left
                  · obtain ⟨hW0, hW1, hW2⟩ := hW; go_simp; try first | rfl | (rw [if_neg (by first | omega | (simp only [ByteArray.size_append]; first | omega | (have h1 : (ByteArray.mk #[47]).size = 1 := rfl; omega)))]; try rfl) | kernel_rfl
                  try simp only [Act.put, List.setIfInBounds_toArray, List.set_cons_zero, List.set_cons_succ]
                  refine wpAnyH_take (i := 9) (v := ?_) ((List.getElem?_toArray ..).trans rfl) (by kernel_rfl) (by kernel_rfl) (by kernel_rfl) (fun _ _ _ h => h) (Or.inl ⟨rfl, fun W hW => ?_⟩) hS ?_
                  rotate_left
                  · obtain ⟨hW0, hW1, hW2⟩ := hW; go_simp; try first | rfl | (rw [if_neg (by first | omega | (simp only [ByteArray.size_append]; first | omega | (have h1 : (ByteArray.mk #[47]).size = 1 := rfl; omega)))]; try rfl) | kernel_rfl
                  try simp only [Act.put, List.setIfInBounds_toArray, List.set_cons_zero, List.set_cons_succ]
                  refine wpAnyH_ready (rs := [10, 14]) (by kernel_rfl) (by simp) (AllReadyH.cons ((List.getElem?_toArray ..).trans rfl) (fun KK hKK => ?_) (AllReadyH.cons ((List.getElem?_toArray ..).trans rfl) (fun KK hKK => ?_) AllReadyH.nil))
                  ·
                    go_simp
                    clear hS
                    refine (S.call (dmake_any (HT.out.below S.below) ⟨_, _, _, rfl, no⟩ HZ.out (by decide) (dq 1 f) rfl)).mono ?_
                    clear S
                    rintro e w11 ⟨⟨_, rfl, bl, pl, ll, Kl, ml, el, rfl, hl, nl, dl⟩, S, H⟩
                    replace nA := nA.hold H
                    replace nR := nR.hold H
                    replace no := no.hold H
                    replace HH := HH.trans H.to32
                    clear H
                    go_wp2_with fail
                    refine hKK.out _ _ ⟨S.c 0 0 rfl rfl, S.c 0 1 rfl rfl, S.c 0 2 rfl rfl⟩ (fun hS => ?_)
                    clear hKK KK
                    try simp only [Act.put, List.setIfInBounds_toArray, List.set_cons_zero, List.set_cons_succ]
                    refine wpAnyH_take (i := 11) (v := ?_) ((List.getElem?_toArray ..).trans rfl) (by kernel_rfl) (by kernel_rfl) (by kernel_rfl) (fun _ _ _ h => h) (Or.inl ⟨rfl, fun W hW => ?_⟩) hS ?_
                    rotate_left
                    · obtain ⟨hW0, hW1, hW2⟩ := hW; go_simp; try first | rfl | (rw [if_neg (by first | omega | (simp only [ByteArray.size_append]; first | omega | (have h1 : (ByteArray.mk #[47]).size = 1 := rfl; omega)))]; try rfl) | kernel_rfl
                    try simp only [Act.put, List.setIfInBounds_toArray, List.set_cons_zero, List.set_cons_succ]
                    refine wpAnyH_take (i := 12) (v := ?_) ((List.getElem?_toArray ..).trans rfl) (by kernel_rfl) (by kernel_rfl) (by kernel_rfl) (fun _ _ _ h => h) (Or.inl ⟨rfl, fun W hW => ?_⟩) hS ?_
                    rotate_left
                    · obtain ⟨hW0, hW1, hW2⟩ := hW; go_simp; try first | rfl | (rw [if_neg (by first | omega | (simp only [ByteArray.size_append]; first | omega | (have h1 : (ByteArray.mk #[47]).size = 1 := rfl; omega)))]; try rfl) | kernel_rfl
                    try simp only [Act.put, List.setIfInBounds_toArray, List.set_cons_zero, List.set_cons_succ]
                    refine wpAnyH_take (i := 13) (v := ?_) ((List.getElem?_toArray ..).trans rfl) (by kernel_rfl) (by kernel_rfl) (by kernel_rfl) (fun _ _ _ h => h) (Or.inl ⟨rfl, fun W hW => ?_⟩) hS ?_
                    rotate_left
                    · obtain ⟨hW0, hW1, hW2⟩ := hW; go_simp; try first | rfl | (rw [if_neg (by first | omega | (simp only [ByteArray.size_append]; first | omega | (have h1 : (ByteArray.mk #[47]).size = 1 := rfl; omega)))]; try rfl) | kernel_rfl
                    try simp only [Act.put, List.setIfInBounds_toArray, List.set_cons_zero, List.set_cons_succ]
                    refine wpAnyH_ready (rs := [14]) (by kernel_rfl) (by simp) (AllReadyH.cons ((List.getElem?_toArray ..).trans rfl) (fun KK hKK => ?_) AllReadyH.nil)
                    go_simp
                    clear hS
                    have H := S.hnew 30 [.bool false, .slice none 0 0, .int .i64 0]
                    replace S := S.alloc 30 [.bool false, .slice none 0 0, .int .i64 0] (w11.heap.size)
                    try simp only [List.cons_append, List.nil_append] at S
                    replace nA := nA.hold H
                    replace nR := nR.hold H
                    replace no := no.hold H
                    replace nl := nl.hold H
                    replace HH := HH.trans H.to32
                    clear H
                    refine hKK.out _ _ ⟨S.c 0 0 rfl rfl, S.c 0 1 rfl rfl, S.c 0 2 rfl rfl⟩ (fun hS => ?_)
                    generalize (w11.alloc (.cells #[.bool false, .slice none 0 0, .int .i64 0] 30)) = w12 at S nA nR no nl HH hS ⊢
                    clear hKK KK
                    try simp only [Act.put, List.setIfInBounds_toArray, List.set_cons_zero, List.set_cons_succ]
                    refine wpAnyH_ready (rs := [15]) (by kernel_rfl) (by simp) (AllReadyH.cons ((List.getElem?_toArray ..).trans rfl) (fun KK hKK => ?_) AllReadyH.nil)
                    have c0 := S.c 3 0 rfl rfl
                    have f0 := S.f 3 0 rfl
                    have c1 := S.c 3 1 rfl rfl
                    have f1 := S.f 3 1 rfl
                    have c2 := S.c 3 2 rfl rfl
                    have f2 := S.f 3 2 rfl
                    go_simp
                    clear hS c0 f0 c1 f1 c2 f2
                    have H := S.hset 3 0 (.bool bl) rfl rfl (by intro q n e; cases e)
                    replace S := S.set 3 0 (.bool bl) rfl
                    replace nA := nA.hold H
                    replace nR := nR.hold H
                    replace no := no.hold H
                    replace nl := nl.hold H
                    replace HH := HH.trans H.to32
                    clear H
                    have H := S.hset 3 1 (.slice pl ll Kl) rfl rfl (by intro q n e; cases e)
                    replace S := S.set 3 1 (.slice pl ll Kl) rfl
                    replace nA := nA.hold H
                    replace nR := nR.hold H
                    replace no := no.hold H
                    replace nl := nl.hold H
                    replace HH := HH.trans H.to32
                    clear H
                    have H := S.hset32 3 2 (.int .i64 el) rfl rfl (by intro n e; cases e)
                    replace S := S.set 3 2 (.int .i64 el) rfl
                    replace nA := nA.hold32 H
                    replace nR := nR.hold32 H
                    replace no := no.hold32 H
                    replace nl := nl.hold32 H
                    replace HH := HH.trans H
                    clear H
                    refine hKK.out _ _ ⟨S.c 0 0 rfl rfl, S.c 0 1 rfl rfl, S.c 0 2 rfl rfl⟩ (fun hS => ?_)
                    generalize (((w12.setCell ⟨w11.heap.size, 0, none⟩ (.bool bl)).setCell ⟨w11.heap.size, 1, none⟩ (.slice pl ll Kl)).setCell ⟨w11.heap.size, 2, none⟩ (.int .i64 el)) = w13 at S nA nR no nl HH hS ⊢
                    clear hKK KK
                    try simp only [Act.put, List.setIfInBounds_toArray, List.set_cons_zero, List.set_cons_succ]
                    refine wpAnyH_ready (rs := [16]) (by kernel_rfl) (by simp) (AllReadyH.cons ((List.getElem?_toArray ..).trans rfl) (fun KK hKK => ?_) AllReadyH.nil)
                    go_simp
                    refine hKK.out _ _ hS (fun hS => ?_)
                    clear hKK KK
                    try simp only [Act.put, List.setIfInBounds_toArray, List.set_cons_zero, List.set_cons_succ]
                    refine wpAnyH_done (by kernel_rfl) ?_ _
                    go_wp2_with fail
                    go_meet
                    case rel => exact ⟨w11.heap.size, bl, pl, ll, Kl, ml, el, rfl, rfl, S, hl, nl, dl, HH⟩
                  ·
                    go_simp
                    clear hS
                    have H := S.hnew 30 [.bool false, .slice none 0 0, .int .i64 0]
                    replace S := S.alloc 30 [.bool false, .slice none 0 0, .int .i64 0] (w10.heap.size)
                    try simp only [List.cons_append, List.nil_append] at S
                    replace nA := nA.hold H
                    replace nR := nR.hold H
                    replace no := no.hold H
                    replace HH := HH.trans H.to32
                    clear H
                    refine hKK.out _ _ ⟨S.c 0 0 rfl rfl, S.c 0 1 rfl rfl, S.c 0 2 rfl rfl⟩ (fun hS => ?_)
                    generalize (w10.alloc (.cells #[.bool false, .slice none 0 0, .int .i64 0] 30)) = w14 at S nA nR no HH hS ⊢
                    clear hKK KK
                    try simp only [Act.put, List.setIfInBounds_toArray, List.set_cons_zero, List.set_cons_succ]
                    refine wpAnyH_ready (rs := [10]) (by kernel_rfl) (by simp) (AllReadyH.cons ((List.getElem?_toArray ..).trans rfl) (fun KK hKK => ?_) AllReadyH.nil)
                    go_simp
                    clear hS
                    refine (S.call (dmake_any (HT.out.below S.below) ⟨_, _, _, rfl, no⟩ HZ.out (by decide) (dq 1 f) rfl)).mono ?_
                    clear S
                    rintro e w15 ⟨⟨_, rfl, bl, pl, ll, Kl, ml, el, rfl, hl, nl, dl⟩, S, H⟩
                    replace nA := nA.hold H
                    replace nR := nR.hold H
                    replace no := no.hold H
                    replace HH := HH.trans H.to32
                    clear H
                    go_wp2_with fail
                    refine hKK.out _ _ ⟨S.c 0 0 rfl rfl, S.c 0 1 rfl rfl, S.c 0 2 rfl rfl⟩ (fun hS => ?_)
                    clear hKK KK
                    try simp only [Act.put, List.setIfInBounds_toArray, List.set_cons_zero, List.set_cons_succ]
                    refine wpAnyH_take (i := 11) (v := ?_) ((List.getElem?_toArray ..).trans rfl) (by kernel_rfl) (by kernel_rfl) (by kernel_rfl) (fun _ _ _ h => h) (Or.inl ⟨rfl, fun W hW => ?_⟩) hS ?_
                    rotate_left
                    · obtain ⟨hW0, hW1, hW2⟩ := hW; go_simp; try first | rfl | (rw [if_neg (by first | omega | (simp only [ByteArray.size_append]; first | omega | (have h1 : (ByteArray.mk #[47]).size = 1 := rfl; omega)))]; try rfl) | kernel_rfl
                    try simp only [Act.put, List.setIfInBounds_toArray, List.set_cons_zero, List.set_cons_succ]
                    refine wpAnyH_take (i := 12) (v := ?_) ((List.getElem?_toArray ..).trans rfl) (by kernel_rfl) (by kernel_rfl) (by kernel_rfl) (fun _ _ _ h => h) (Or.inl ⟨rfl, fun W hW => ?_⟩) hS ?_
                    rotate_left
                    · obtain ⟨hW0, hW1, hW2⟩ := hW; go_simp; try first | rfl | (rw [if_neg (by first | omega | (simp only [ByteArray.size_append]; first | omega | (have h1 : (ByteArray.mk #[47]).size = 1 := rfl; omega)))]; try rfl) | kernel_rfl
                    try simp only [Act.put, List.setIfInBounds_toArray, List.set_cons_zero, List.set_cons_succ]
                    refine wpAnyH_take (i := 13) (v := ?_) ((List.getElem?_toArray ..).trans rfl) (by kernel_rfl) (by kernel_rfl) (by kernel_rfl) (fun _ _ _ h => h) (Or.inl ⟨rfl, fun W hW => ?_⟩) hS ?_
                    rotate_left
                    · obtain ⟨hW0, hW1, hW2⟩ := hW; go_simp; try first | rfl | (rw [if_neg (by first | omega | (simp only [ByteArray.size_append]; first | omega | (have h1 : (ByteArray.mk #[47]).size = 1 := rfl; omega)))]; try rfl) | kernel_rfl
                    try simp only [Act.put, List.setIfInBounds_toArray, List.set_cons_zero, List.set_cons_succ]
                    refine wpAnyH_ready (rs := [15]) (by kernel_rfl) (by simp) (AllReadyH.cons ((List.getElem?_toArray ..).trans rfl) (fun KK hKK => ?_) AllReadyH.nil)
                    have c0 := S.c 3 0 rfl rfl
                    have f0 := S.f 3 0 rfl
                    have c1 := S.c 3 1 rfl rfl
                    have f1 := S.f 3 1 rfl
                    have c2 := S.c 3 2 rfl rfl
                    have f2 := S.f 3 2 rfl
                    go_simp
                    clear hS c0 f0 c1 f1 c2 f2
                    have H := S.hset 3 0 (.bool bl) rfl rfl (by intro q n e; cases e)
                    replace S := S.set 3 0 (.bool bl) rfl
                    replace nA := nA.hold H
                    replace nR := nR.hold H
                    replace no := no.hold H
                    replace nl := nl.hold H
                    replace HH := HH.trans H.to32
                    clear H
                    have H := S.hset 3 1 (.slice pl ll Kl) rfl rfl (by intro q n e; cases e)
                    replace S := S.set 3 1 (.slice pl ll Kl) rfl
                    replace nA := nA.hold H
                    replace nR := nR.hold H
                    replace no := no.hold H
                    replace nl := nl.hold H
                    replace HH := HH.trans H.to32
                    clear H
                    have H := S.hset32 3 2 (.int .i64 el) rfl rfl (by intro n e; cases e)
                    replace S := S.set 3 2 (.int .i64 el) rfl
                    replace nA := nA.hold32 H
                    replace nR := nR.hold32 H
                    replace no := no.hold32 H
                    replace nl := nl.hold32 H
                    replace HH := HH.trans H
                    clear H
                    refine hKK.out _ _ ⟨S.c 0 0 rfl rfl, S.c 0 1 rfl rfl, S.c 0 2 rfl rfl⟩ (fun hS => ?_)
                    generalize (((w15.setCell ⟨w10.heap.size, 0, none⟩ (.bool bl)).setCell ⟨w10.heap.size, 1, none⟩ (.slice pl ll Kl)).setCell ⟨w10.heap.size, 2, none⟩ (.int .i64 el)) = w16 at S nA nR no nl HH hS ⊢
                    clear hKK KK
                    try simp only [Act.put, List.setIfInBounds_toArray, List.set_cons_zero, List.set_cons_succ]
                    refine wpAnyH_ready (rs := [16]) (by kernel_rfl) (by simp) (AllReadyH.cons ((List.getElem?_toArray ..).trans rfl) (fun KK hKK => ?_) AllReadyH.nil)
                    go_simp
                    refine hKK.out _ _ hS (fun hS => ?_)
                    clear hKK KK
                    try simp only [Act.put, List.setIfInBounds_toArray, List.set_cons_zero, List.set_cons_succ]
                    refine wpAnyH_done (by kernel_rfl) ?_ _
                    go_wp2_with fail
                    go_meet
                    case rel => exact ⟨w10.heap.size, bl, pl, ll, Kl, ml, el, rfl, rfl, S, hl, nl, dl, HH⟩
                ·
                  go_simp
                  clear hS
                  have H := S.hnew 30 [.bool false, .slice none 0 0, .int .i64 0]
                  replace S := S.alloc 30 [.bool false, .slice none 0 0, .int .i64 0] (w9.heap.size)
                  try simp only [List.cons_append, List.nil_append] at S
                  replace nA := nA.hold H
                  replace nR := nR.hold H
                  replace no := no.hold H
                  replace HH := HH.trans H.to32
                  clear H
                  refine hKK.out _ _ ⟨S.c 0 0 rfl rfl, S.c 0 1 rfl rfl, S.c 0 2 rfl rfl⟩ (fun hS => ?_)
                  generalize (w9.alloc (.cells #[.bool false, .slice none 0 0, .int .i64 0] 30)) = w17 at S nA nR no HH hS ⊢
                  clear hKK KK
                  try simp only [Act.put, List.setIfInBounds_toArray, List.set_cons_zero, List.set_cons_succ]
                  refine wpAnyH_ready (rs := [6]) (by kernel_rfl) (by simp) (AllReadyH.cons ((List.getElem?_toArray ..).trans rfl) (fun KK hKK => ?_) AllReadyH.nil)
                  go_simp
                  clear hS
                  refine (S.call (bits_nat nA (dA.out.max (by decide)) HT2.out)).mono ?_
                  clear S
                  rintro e w18 ⟨rfl, S, H⟩
                  replace nA := nA.hold H
                  replace nR := nR.hold H
                  replace no := no.hold H
                  replace HH := HH.trans H.to32
                  clear H
                  go_wp2_with fail
                  refine hKK.out _ _ ⟨S.c 0 0 rfl rfl, S.c 0 1 rfl rfl, S.c 0 2 rfl rfl⟩ (fun hS => ?_)
                  clear hKK KK
                  try simp only [Act.put, List.setIfInBounds_toArray, List.set_cons_zero, List.set_cons_succ]
                  refine wpAnyH_take (i := 7) (v := ?_) ((List.getElem?_toArray ..).trans rfl) (by kernel_rfl) (by kernel_rfl) (by kernel_rfl) (fun _ _ _ h => h) (Or.inl ⟨rfl, fun W hW => ?_⟩) hS ?_
                  rotate_left
                  · obtain ⟨hW0, hW1, hW2⟩ := hW; go_simp; try first | rfl | (rw [if_neg (by first | omega | (simp only [ByteArray.size_append]; first | omega | (have h1 : (ByteArray.mk #[47]).size = 1 := rfl; omega)))]; try rfl) | kernel_rfl
                  try simp only [Act.put, List.setIfInBounds_toArray, List.set_cons_zero, List.set_cons_succ]
                  refine wpAnyH_take (i := 9) (v := ?_) ((List.getElem?_toArray ..).trans rfl) (by kernel_rfl) (by kernel_rfl) (by kernel_rfl) (fun _ _ _ h => h) (Or.inl ⟨rfl, fun W hW => ?_⟩) hS ?_
                  rotate_left
                  · obtain ⟨hW0, hW1, hW2⟩ := hW; go_simp; try first | rfl | (rw [if_neg (by first | omega | (simp only [ByteArray.size_append]; first | omega | (have h1 : (ByteArray.mk #[47]).size = 1 := rfl; omega)))]; try rfl) | kernel_rfl
                  try simp only [Act.put, List.setIfInBounds_toArray, List.set_cons_zero, List.set_cons_succ]
                  refine wpAnyH_ready (rs := [10]) (by kernel_rfl) (by simp) (AllReadyH.cons ((List.getElem?_toArray ..).trans rfl) (fun KK hKK => ?_) AllReadyH.nil)
                  go_simp
                  clear hS
                  refine (S.call (dmake_any (HT.out.below S.below) ⟨_, _, _, rfl, no⟩ HZ.out (by decide) (dq 1 f) rfl)).mono ?_
                  clear S
                  rintro e w19 ⟨⟨_, rfl, bl, pl, ll, Kl, ml, el, rfl, hl, nl, dl⟩, S, H⟩
                  replace nA := nA.hold H
                  replace nR := nR.hold H
                  replace no := no.hold H
                  replace HH := HH.trans H.to32
                  clear H
                  go_wp2_with fail
                  refine hKK.out _ _ ⟨S.c 0 0 rfl rfl, S.c 0 1 rfl rfl, S.c 0 2 rfl rfl⟩ (fun hS => ?_)
                  clear hKK KK
                  try simp only [Act.put, List.setIfInBounds_toArray, List.set_cons_zero, List.set_cons_succ]
                  refine wpAnyH_take (i := 11) (v := ?_) ((List.getElem?_toArray ..).trans rfl) (by kernel_rfl) (by kernel_rfl) (by kernel_rfl) (fun _ _ _ h => h) (Or.inl ⟨rfl, fun W hW => ?_⟩) hS ?_
                  rotate_left
                  · obtain ⟨hW0, hW1, hW2⟩ := hW; go_simp; try first | rfl | (rw [if_neg (by first | omega | (simp only [ByteArray.size_append]; first | omega | (have h1 : (ByteArray.mk #[47]).size = 1 := rfl; omega)))]; try rfl) | kernel_rfl
                  try simp only [Act.put, List.setIfInBounds_toArray, List.set_cons_zero, List.set_cons_succ]
                  refine wpAnyH_take (i := 12) (v := ?_) ((List.getElem?_toArray ..).trans rfl) (by kernel_rfl) (by kernel_rfl) (by kernel_rfl) (fun _ _ _ h => h) (Or.inl ⟨rfl, fun W hW => ?_⟩) hS ?_
                  rotate_left
                  · obtain ⟨hW0, hW1, hW2⟩ := hW; go_simp; try first | rfl | (rw [if_neg (by first | omega | (simp only [ByteArray.size_append]; first | omega | (have h1 : (ByteArray.mk #[47]).size = 1 := rfl; omega)))]; try rfl) | kernel_rfl
                  try simp only [Act.put, List.setIfInBounds_toArray, List.set_cons_zero, List.set_cons_succ]
                  refine wpAnyH_take (i := 13) (v := ?_) ((List.getElem?_toArray ..).trans rfl) (by kernel_rfl) (by kernel_rfl) (by kernel_rfl) (fun _ _ _ h => h) (Or.inl ⟨rfl, fun W hW => ?_⟩) hS ?_
                  rotate_left
                  · obtain ⟨hW0, hW1, hW2⟩ := hW; go_simp; try first | rfl | (rw [if_neg (by first | omega | (simp only [ByteArray.size_append]; first | omega | (have h1 : (ByteArray.mk #[47]).size = 1 := rfl; omega)))]; try rfl) | kernel_rfl
                  try simp only [Act.put, List.setIfInBounds_toArray, List.set_cons_zero, List.set_cons_succ]
                  refine wpAnyH_ready (rs := [15]) (by kernel_rfl) (by simp) (AllReadyH.cons ((List.getElem?_toArray ..).trans rfl) (fun KK hKK => ?_) AllReadyH.nil)
                  have c0 := S.c 3 0 rfl rfl
                  have f0 := S.f 3 0 rfl
                  have c1 := S.c 3 1 rfl rfl
                  have f1 := S.f 3 1 rfl
                  have c2 := S.c 3 2 rfl rfl
                  have f2 := S.f 3 2 rfl
                  go_simp
                  clear hS c0 f0 c1 f1 c2 f2
                  have H := S.hset 3 0 (.bool bl) rfl rfl (by intro q n e; cases e)
                  replace S := S.set 3 0 (.bool bl) rfl
                  replace nA := nA.hold H
                  replace nR := nR.hold H
                  replace no := no.hold H
                  replace nl := nl.hold H
                  replace HH := HH.trans H.to32
                  clear H
                  have H := S.hset 3 1 (.slice pl ll Kl) rfl rfl (by intro q n e; cases e)
                  replace S := S.set 3 1 (.slice pl ll Kl) rfl
                  replace nA := nA.hold H
                  replace nR := nR.hold H
                  replace no := no.hold H
                  replace nl := nl.hold H
                  replace HH := HH.trans H.to32
                  clear H
                  have H := S.hset32 3 2 (.int .i64 el) rfl rfl (by intro n e; cases e)
                  replace S := S.set 3 2 (.int .i64 el) rfl
                  replace nA := nA.hold32 H
                  replace nR := nR.hold32 H
                  replace no := no.hold32 H
                  replace nl := nl.hold32 H
                  replace HH := HH.trans H
                  clear H
                  refine hKK.out _ _ ⟨S.c 0 0 rfl rfl, S.c 0 1 rfl rfl, S.c 0 2 rfl rfl⟩ (fun hS => ?_)
                  generalize (((w19.setCell ⟨w9.heap.size, 0, none⟩ (.bool bl)).setCell ⟨w9.heap.size, 1, none⟩ (.slice pl ll Kl)).setCell ⟨w9.heap.size, 2, none⟩ (.int .i64 el)) = w20 at S nA nR no nl HH hS ⊢
                  clear hKK KK
                  try simp only [Act.put, List.setIfInBounds_toArray, List.set_cons_zero, List.set_cons_succ]
                  refine wpAnyH_ready (rs := [16]) (by kernel_rfl) (by simp) (AllReadyH.cons ((List.getElem?_toArray ..).trans rfl) (fun KK hKK => ?_) AllReadyH.nil)
                  go_simp
                  refine hKK.out _ _ hS (fun hS => ?_)
                  clear hKK KK
                  try simp only [Act.put, List.setIfInBounds_toArray, List.set_cons_zero, List.set_cons_succ]
                  refine wpAnyH_done (by kernel_rfl) ?_ _
                  go_wp2_with fail
                  go_meet
                  case rel => exact ⟨w9.heap.size, bl, pl, ll, Kl, ml, el, rfl, rfl, S, hl, nl, dl, HH⟩
              ·
                go_simp
                clear hS
                have H := S.hnew 30 [.bool false, .slice none 0 0, .int .i64 0]
                replace S := S.alloc 30 [.bool false, .slice none 0 0, .int .i64 0] (w8.heap.size)
                try simp only [List.cons_append, List.nil_append] at S
                replace nA := nA.hold H
                replace nR := nR.hold H
                replace HH := HH.trans H.to32
                clear H
                refine hKK.out _ _ ⟨S.c 0 0 rfl rfl, S.c 0 1 rfl rfl, S.c 0 2 rfl rfl⟩ (fun hS => ?_)
                generalize (w8.alloc (.cells #[.bool false, .slice none 0 0, .int .i64 0] 30)) = w21 at S nA nR HH hS ⊢
                clear hKK KK
                try simp only [Act.put, List.setIfInBounds_toArray, List.set_cons_zero, List.set_cons_succ]
                refine wpAnyH_ready (rs := [0]) (by kernel_rfl) (by simp) (AllReadyH.cons ((List.getElem?_toArray ..).trans rfl) (fun KK hKK => ?_) AllReadyH.nil)
                go_simp
                clear hS
                refine (S.call (wof_any 1 _ (by decide) (by decide))).mono ?_
                clear S
                rintro e w22 ⟨⟨_, rfl, po, lo, Ko, rfl, no⟩, S, H⟩
                replace nA := nA.hold H
                replace nR := nR.hold H
                replace HH := HH.trans H.to32
                clear H
                go_wp2_with fail
                refine hKK.out _ _ ⟨S.c 0 0 rfl rfl, S.c 0 1 rfl rfl, S.c 0 2 rfl rfl⟩ (fun hS => ?_)
                clear hKK KK
                try simp only [Act.put, List.setIfInBounds_toArray, List.set_cons_zero, List.set_cons_succ]
                refine wpAnyH_ready (rs := [6]) (by kernel_rfl) (by simp) (AllReadyH.cons ((List.getElem?_toArray ..).trans rfl) (fun KK hKK => ?_) AllReadyH.nil)
                go_simp
                clear hS
                refine (S.call (bits_nat nA (dA.out.max (by decide)) HT2.out)).mono ?_
                clear S
                rintro e w23 ⟨rfl, S, H⟩
                replace nA := nA.hold H
                replace nR := nR.hold H
                replace no := no.hold H
                replace HH := HH.trans H.to32
                clear H
                go_wp2_with fail
                refine hKK.out _ _ ⟨S.c 0 0 rfl rfl, S.c 0 1 rfl rfl, S.c 0 2 rfl rfl⟩ (fun hS => ?_)
                clear hKK KK
                try simp only [Act.put, List.setIfInBounds_toArray, List.set_cons_zero, List.set_cons_succ]
                refine wpAnyH_take (i := 7) (v := ?_) ((List.getElem?_toArray ..).trans rfl) (by kernel_rfl) (by kernel_rfl) (by kernel_rfl) (fun _ _ _ h => h) (Or.inl ⟨rfl, fun W hW => ?_⟩) hS ?_
                rotate_left
                · obtain ⟨hW0, hW1, hW2⟩ := hW; go_simp; try first | rfl | (rw [if_neg (by first | omega | (simp only [ByteArray.size_append]; first | omega | (have h1 : (ByteArray.mk #[47]).size = 1 := rfl; omega)))]; try rfl) | kernel_rfl
                try simp only [Act.put, List.setIfInBounds_toArray, List.set_cons_zero, List.set_cons_succ]
                refine wpAnyH_take (i := 9) (v := ?_) ((List.getElem?_toArray ..).trans rfl) (by kernel_rfl) (by kernel_rfl) (by kernel_rfl) (fun _ _ _ h => h) (Or.inl ⟨rfl, fun W hW => ?_⟩) hS ?_
                rotate_left
                · obtain ⟨hW0, hW1, hW2⟩ := hW; go_simp; try first | rfl | (rw [if_neg (by first | omega | (simp only [ByteArray.size_append]; first | omega | (have h1 : (ByteArray.mk #[47]).size = 1 := rfl; omega)))]; try rfl) | kernel_rfl
                try simp only [Act.put, List.setIfInBounds_toArray, List.set_cons_zero, List.set_cons_succ]
                refine wpAnyH_ready (rs := [10]) (by kernel_rfl) (by simp) (AllReadyH.cons ((List.getElem?_toArray ..).trans rfl) (fun KK hKK => ?_) AllReadyH.nil)
                go_simp
                clear hS
                refine (S.call (dmake_any (HT.out.below S.below) ⟨_, _, _, rfl, no⟩ HZ.out (by decide) (dq 1 f) rfl)).mono ?_
                clear S
                rintro e w24 ⟨⟨_, rfl, bl, pl, ll, Kl, ml, el, rfl, hl, nl, dl⟩, S, H⟩
                replace nA := nA.hold H
                replace nR := nR.hold H
                replace no := no.hold H
                replace HH := HH.trans H.to32
                clear H
                go_wp2_with fail
                refine hKK.out _ _ ⟨S.c 0 0 rfl rfl, S.c 0 1 rfl rfl, S.c 0 2 rfl rfl⟩ (fun hS => ?_)
                clear hKK KK
                try simp only [Act.put, List.setIfInBounds_toArray, List.set_cons_zero, List.set_cons_succ]
                refine wpAnyH_take (i := 11) (v := ?_) ((List.getElem?_toArray ..).trans rfl) (by kernel_rfl) (by kernel_rfl) (by kernel_rfl) (fun _ _ _ h => h) (Or.inl ⟨rfl, fun W hW => ?_⟩) hS ?_
                rotate_left
                · obtain ⟨hW0, hW1, hW2⟩ := hW; go_simp; try first | rfl | (rw [if_neg (by first | omega | (simp only [ByteArray.size_append]; first | omega | (have h1 : (ByteArray.mk #[47]).size = 1 := rfl; omega)))]; try rfl) | kernel_rfl
                try simp only [Act.put, List.setIfInBounds_toArray, List.set_cons_zero, List.set_cons_succ]
                refine wpAnyH_take (i := 12) (v := ?_) ((List.getElem?_toArray ..).trans rfl) (by kernel_rfl) (by kernel_rfl) (by kernel_rfl) (fun _ _ _ h => h) (Or.inl ⟨rfl, fun W hW => ?_⟩) hS ?_
                rotate_left
                · obtain ⟨hW0, hW1, hW2⟩ := hW; go_simp; try first | rfl | (rw [if_neg (by first | omega | (simp only [ByteArray.size_append]; first | omega | (have h1 : (ByteArray.mk #[47]).size = 1 := rfl; omega)))]; try rfl) | kernel_rfl
                try simp only [Act.put, List.setIfInBounds_toArray, List.set_cons_zero, List.set_cons_succ]
                refine wpAnyH_take (i := 13) (v := ?_) ((List.getElem?_toArray ..).trans rfl) (by kernel_rfl) (by kernel_rfl) (by kernel_rfl) (fun _ _ _ h => h) (Or.inl ⟨rfl, fun W hW => ?_⟩) hS ?_
                rotate_left
                · obtain ⟨hW0, hW1, hW2⟩ := hW; go_simp; try first | rfl | (rw [if_neg (by first | omega | (simp only [ByteArray.size_append]; first | omega | (have h1 : (ByteArray.mk #[47]).size = 1 := rfl; omega)))]; try rfl) | kernel_rfl
                try simp only [Act.put, List.setIfInBounds_toArray, List.set_cons_zero, List.set_cons_succ]
                refine wpAnyH_ready (rs := [15]) (by kernel_rfl) (by simp) (AllReadyH.cons ((List.getElem?_toArray ..).trans rfl) (fun KK hKK => ?_) AllReadyH.nil)
                have c0 := S.c 3 0 rfl rfl
                have f0 := S.f 3 0 rfl
                have c1 := S.c 3 1 rfl rfl
                have f1 := S.f 3 1 rfl
                have c2 := S.c 3 2 rfl rfl
                have f2 := S.f 3 2 rfl
                go_simp
                clear hS c0 f0 c1 f1 c2 f2
                have H := S.hset 3 0 (.bool bl) rfl rfl (by intro q n e; cases e)
                replace S := S.set 3 0 (.bool bl) rfl
                replace nA := nA.hold H
                replace nR := nR.hold H
                replace no := no.hold H
                replace nl := nl.hold H
                replace HH := HH.trans H.to32
                clear H
                have H := S.hset 3 1 (.slice pl ll Kl) rfl rfl (by intro q n e; cases e)
                replace S := S.set 3 1 (.slice pl ll Kl) rfl
                replace nA := nA.hold H
                replace nR := nR.hold H
                replace no := no.hold H
                replace nl := nl.hold H
                replace HH := HH.trans H.to32
                clear H
                have H := S.hset32 3 2 (.int .i64 el) rfl rfl (by intro n e; cases e)
                replace S := S.set 3 2 (.int .i64 el) rfl
                replace nA := nA.hold32 H
                replace nR := nR.hold32 H
                replace no := no.hold32 H
                replace nl := nl.hold32 H
                replace HH := HH.trans H
                clear H
                refine hKK.out _ _ ⟨S.c 0 0 rfl rfl, S.c 0 1 rfl rfl, S.c 0 2 rfl rfl⟩ (fun hS => ?_)
                generalize (((w24.setCell ⟨w8.heap.size, 0, none⟩ (.bool bl)).setCell ⟨w8.heap.size, 1, none⟩ (.slice pl ll Kl)).setCell ⟨w8.heap.size, 2, none⟩ (.int .i64 el)) = w25 at S nA nR no nl HH hS ⊢
                clear hKK KK
                try simp only [Act.put, List.setIfInBounds_toArray, List.set_cons_zero, List.set_cons_succ]
                refine wpAnyH_ready (rs := [16]) (by kernel_rfl) (by simp) (AllReadyH.cons ((List.getElem?_toArray ..).trans rfl) (fun KK hKK => ?_) AllReadyH.nil)
                go_simp
                refine hKK.out _ _ hS (fun hS => ?_)
                clear hKK KK
                try simp only [Act.put, List.setIfInBounds_toArray, List.set_cons_zero, List.set_cons_succ]
                refine wpAnyH_done (by kernel_rfl) ?_ _
                go_wp2_with fail
                go_meet
                case rel => exact ⟨w8.heap.size, bl, pl, ll, Kl, ml, el, rfl, rfl, S, hl, nl, dl, HH⟩
            case rest =>
              obtain ⟨g10, bl, pl, ll, Kl, ml, el, rfl, rfl, S, hl, nl, dl, HH⟩ := hcut
              obtain ⟨w26, rfl⟩ : ∃ W : World, W = wc := ⟨_, rfl⟩
              replace nA := nA.hold32 HH
              replace nR := nR.hold32 HH
              clear HH
              have c2_0 := S.c 2 0 rfl rfl
              have c2_1 := S.c 2 1 rfl rfl
              have c2_2 := S.c 2 2 rfl rfl
              have c3_0 := S.c 3 0 rfl rfl
              have c3_1 := S.c 3 1 rfl rfl
              have c3_2 := S.c 3 2 rfl rfl
              go_wp2_with fail
              clear c2_0 c2_1 c2_2 c3_0 c3_1 c3_2
              refine (S.call (dadd_any (L := 300) (H := 781) (HT.out.below S.below) ⟨bR, pR, lR, KR, mR, eR, rfl, hR, nR, dR⟩ ⟨bl, pl, ll, Kl, ml, el, rfl, hl, nl, dl⟩ (by decide) (y + dq 1 f) rfl)).mono ?_
              clear S
              rintro e w27 ⟨⟨_, rfl, bN, pN, lN, KN, mN, eN, rfl, hN, nN, dN⟩, S, H⟩
              replace nA := nA.hold H
              replace nR := nR.hold H
              replace nl := nl.hold H
              clear H
              have c2_0 := S.c 2 0 rfl rfl
              have c2_1 := S.c 2 1 rfl rfl
              have c2_2 := S.c 2 2 rfl rfl
              have c3_0 := S.c 3 0 rfl rfl
              have c3_1 := S.c 3 1 rfl rfl
              have c3_2 := S.c 3 2 rfl rfl
              have H := S.hnew 30 [.bool bN, .slice pN lN KN, .int .i64 eN]
              replace S := S.alloc 30 [.bool bN, .slice pN lN KN, .int .i64 eN] (w27.heap.size)
              try simp only [List.cons_append, List.nil_append] at S
              replace nA := nA.hold H
              replace nR := nR.hold H
              replace nl := nl.hold H
              replace nN := nN.hold H
              clear H
              clear c2_0 c2_1 c2_2 c3_0 c3_1 c3_2
              have c0_0 := S.c 0 0 rfl rfl
              have c0_1 := S.c 0 1 rfl rfl
              have c0_2 := S.c 0 2 rfl rfl
              have c4_0 := S.c 4 0 rfl rfl
              have c4_1 := S.c 4 1 rfl rfl
              have c4_2 := S.c 4 2 rfl rfl
              go_wp2_with fail
              generalize (.tuple #[.agg #[.bool bN, .slice pN lN KN, .int .i64 eN], .int .i64 0] : Value) = g2
              clear c0_0 c0_1 c0_2 c4_0 c4_1 c4_2
              refine (S.call (dless_any (L := 300) (H := 782) (IsD.mono ⟨bA, pA, lA, KA, mA, eA, rfl, hA, nA, dA⟩ (L := 300) (H := 780) (L' := 300) (H' := 782) (by decide) (by decide)) ⟨bN, pN, lN, KN, mN, eN, rfl, hN, nN, dN⟩ (by decide) true HO.out)).mono ?_
              clear S
              rintro e w28 ⟨rfl, S, H⟩
              replace nA := nA.hold H
              replace nR := nR.hold H
              replace nl := nl.hold H
              replace nN := nN.hold H
              clear H
              have c0_0 := S.c 0 0 rfl rfl
              have c0_1 := S.c 0 1 rfl rfl
              have c0_2 := S.c 0 2 rfl rfl
              have c4_0 := S.c 4 0 rfl rfl
              have c4_1 := S.c 4 1 rfl rfl
              have c4_2 := S.c 4 2 rfl rfl
              go_wp2_with fail
              exact bodyPost_ret (v := .bool true) (by simp [results, Tryd.f5, go_sem]) rfl (⟨rfl, S.below⟩)
          | true =>
            have h9 := hoff.2 rfl
            have hc1 : c = 1 := by rw [← hc]; exact cmpR_gt h9.1
            have HO := Lib.hid (decide_eq_true h9.2)
            subst hc1
            clear h9 hoff hc
            clear c0_0 c0_1 c0_2 c2_0 c2_1 c2_2
            have c0_0 := S.c 0 0 rfl rfl
            have c0_1 := S.c 0 1 rfl rfl
            have c0_2 := S.c 0 2 rfl rfl
            go_wp2_with fail
            clear c0_0 c0_1 c0_2
            refine (S.call (dfew_any nA (dA.out.max (by decide)) (k : Int) false HF.out)).mono ?_
            clear S
            rintro e w7 ⟨rfl, S, H⟩
            replace nA := nA.hold H
            replace nR := nR.hold H
            clear H
            have c0_0 := S.c 0 0 rfl rfl
            have c0_1 := S.c 0 1 rfl rfl
            have c0_2 := S.c 0 2 rfl rfl
            clear c0_0 c0_1 c0_2
            have c0_0 := S.c 0 0 rfl rfl
            have c0_1 := S.c 0 1 rfl rfl
            have c0_2 := S.c 0 2 rfl rfl
            go_upto_region 15 with fail
            clear c0_0 c0_1 c0_2
            go_cut [10, 11] (fun s10 s11 wx => ∃ g10 bl pl ll Kl ml el, s10 = .pointer (some ⟨g10, 0, none⟩) ∧ s11 = .int .i64 0 ∧ St w wx [(w.heap.size, 30, [.bool bA, .slice pA lA KA, .int .i64 eA]), (w1.heap.size, 30, [.bool bA, .slice pA lA KA, .int .i64 eA]), (w3.heap.size, 30, [.bool bR, .slice pR lR KR, .int .i64 eR]), (g10, 30, [.bool bl, .slice pl ll Kl, .int .i64 el])] ∧ Hid (negB ml = bl) ∧ IsNat wx (.slice pl ll Kl) ml.natAbs ∧ Hid (DyF ml el (dq 1 f) 300 781) ∧ Hold32 w7 wx)
            case first =>
              have HH := (Hold.drew w7).to32
              replace nA := nA.hold32 HH
              replace nR := nR.hold32 HH
              replace S := S.drew
              refine wp_region_held_drew (S := fun W => W.cell? ⟨w.heap.size, 0, none⟩ = some (.bool bA) ∧ W.cell? ⟨w.heap.size, 1, none⟩ = some (.slice pA lA KA) ∧ W.cell? ⟨w.heap.size, 2, none⟩ = some (.int .i64 eA)) (by kernel_rfl) ⟨S.c 0 0 rfl rfl, S.c 0 1 rfl rfl, S.c 0 2 rfl rfl⟩ (fun hS => ?_)
              generalize w7.drew = w8 at S nA nR HH hS ⊢
              refine wpAnyH_take (i := 1) (v := ?_) ((List.getElem?_toArray ..).trans rfl) (by kernel_rfl) (by kernel_rfl) (by kernel_rfl) (fun _ _ _ h => h) (Or.inl ⟨rfl, fun W hW => ?_⟩) hS ?_
              rotate_left
              · obtain ⟨hW0, hW1, hW2⟩ := hW; go_simp; try first | rfl | (rw [if_neg (by first | omega | (simp only [ByteArray.size_append]; first | omega | (have h1 : (ByteArray.mk #[47]).size = 1 := rfl; omega)))]; try rfl) | kernel_rfl
              try simp only [Act.put, List.setIfInBounds_toArray, List.set_cons_zero, List.set_cons_succ]
              refine wpAnyH_take (i := 2) (v := ?_) ((List.getElem?_toArray ..).trans rfl) (by kernel_rfl) (by kernel_rfl) (by kernel_rfl) (fun _ _ _ h => h) (Or.inl ⟨rfl, fun W hW => ?_⟩) hS ?_
              rotate_left
              · obtain ⟨hW0, hW1, hW2⟩ := hW; go_simp; try first | rfl | (rw [if_neg (by first | omega | (simp only [ByteArray.size_append]; first | omega | (have h1 : (ByteArray.mk #[47]).size = 1 := rfl; omega)))]; try rfl) | kernel_rfl
              try simp only [Act.put, List.setIfInBounds_toArray, List.set_cons_zero, List.set_cons_succ]
              refine wpAnyH_take (i := 3) (v := ?_) ((List.getElem?_toArray ..).trans rfl) (by kernel_rfl) (by kernel_rfl) (by kernel_rfl) (fun _ _ _ h => h) (Or.inl ⟨rfl, fun W hW => ?_⟩) hS ?_
              rotate_left
              · obtain ⟨hW0, hW1, hW2⟩ := hW; go_simp; try first | rfl | (rw [if_neg (by first | omega | (simp only [ByteArray.size_append]; first | omega | (have h1 : (ByteArray.mk #[47]).size = 1 := rfl; omega)))]; try rfl) | kernel_rfl
              try simp only [Act.put, List.setIfInBounds_toArray, List.set_cons_zero, List.set_cons_succ]
              refine wpAnyH_take (i := 4) (v := ?_) ((List.getElem?_toArray ..).trans rfl) (by kernel_rfl) (by kernel_rfl) (by kernel_rfl) (fun _ _ _ h => h) (Or.inl ⟨rfl, fun W hW => ?_⟩) hS ?_
              rotate_left
              · obtain ⟨hW0, hW1, hW2⟩ := hW; go_simp; try first | rfl | (rw [if_neg (by first | omega | (simp only [ByteArray.size_append]; first | omega | (have h1 : (ByteArray.mk #[47]).size = 1 := rfl; omega)))]; try rfl) | kernel_rfl
              try simp only [Act.put, List.setIfInBounds_toArray, List.set_cons_zero, List.set_cons_succ]
              refine wpAnyH_take (i := 5) (v := ?_) ((List.getElem?_toArray ..).trans rfl) (by kernel_rfl) (by kernel_rfl) (by kernel_rfl) (fun _ _ _ h => h) (Or.inl ⟨rfl, fun W hW => ?_⟩) hS ?_
              rotate_left
              · obtain ⟨hW0, hW1, hW2⟩ := hW; go_simp; try first | rfl | (rw [if_neg (by first | omega | (simp only [ByteArray.size_append]; first | omega | (have h1 : (ByteArray.mk #[47]).size = 1 := rfl; omega)))]; try rfl) | kernel_rfl
              try simp only [Act.put, List.setIfInBounds_toArray, List.set_cons_zero, List.set_cons_succ]
              refine wpAnyH_take (i := 8) (v := ?_) ((List.getElem?_toArray ..).trans rfl) (by kernel_rfl) (by kernel_rfl) (by kernel_rfl) (fun _ _ _ h => h) (Or.inl ⟨rfl, fun W hW => ?_⟩) hS ?_
              rotate_left
              · obtain ⟨hW0, hW1, hW2⟩ := hW; go_simp; try first | rfl | (rw [if_neg (by first | omega | (simp only [ByteArray.size_append]; first | omega | (have h1 : (ByteArray.mk #[47]).size = 1 := rfl; omega)))]; try rfl) | kernel_rfl
              try simp only [Act.put, List.setIfInBounds_toArray, List.set_cons_zero, List.set_cons_succ]
              refine wpAnyH_ready (rs := [0, 14]) (by kernel_rfl) (by simp) (AllReadyH.cons ((List.getElem?_toArray ..).trans rfl) (fun KK hKK => ?_) (AllReadyH.cons ((List.getElem?_toArray ..).trans rfl) (fun KK hKK => ?_) AllReadyH.nil))
              ·
                go_simp
                clear hS
                refine (S.call (wof_any 1 _ (by decide) (by decide))).mono ?_
                clear S
                rintro e w9 ⟨⟨_, rfl, po, lo, Ko, rfl, no⟩, S, H⟩
                replace nA := nA.hold H
                replace nR := nR.hold H
                replace HH := HH.trans H.to32
                clear H
                go_wp2_with fail
                refine hKK.out _ _ ⟨S.c 0 0 rfl rfl, S.c 0 1 rfl rfl, S.c 0 2 rfl rfl⟩ (fun hS => ?_)
                clear hKK KK
                try simp only [Act.put, List.setIfInBounds_toArray, List.set_cons_zero, List.set_cons_succ]
                refine wpAnyH_ready (rs := [6, 14]) (by kernel_rfl) (by simp) (AllReadyH.cons ((List.getElem?_toArray ..).trans rfl) (fun KK hKK => ?_) (AllReadyH.cons ((List.getElem?_toArray ..).trans rfl) (fun KK hKK => ?_) AllReadyH.nil))
                ·
                  go_simp
                  clear hS
                  refine (S.call (bits_nat nA (dA.out.max (by decide)) HT2.out)).mono ?_
                  clear S
                  rintro e w10 ⟨rfl, S, H⟩
                  replace nA := nA.hold H
                  replace nR := nR.hold H
                  replace no := no.hold H
                  replace HH := HH.trans H.to32
                  clear H
                  go_wp2_with fail
                  refine hKK.out _ _ ⟨S.c 0 0 rfl rfl, S.c 0 1 rfl rfl, S.c 0 2 rfl rfl⟩ (fun hS => ?_)
                  clear hKK KK
                  try simp only [Act.put, List.setIfInBounds_toArray, List.set_cons_zero, List.set_cons_succ]
                  refine wpAnyH_take (i := 7) (v := ?_) ((List.getElem?_toArray ..).trans rfl) (by kernel_rfl) (by kernel_rfl) (by kernel_rfl) (fun _ _ _ h => h) (Or.inl ⟨rfl, fun W hW => ?_⟩) hS ?_
                  rotate_left
                  · obtain ⟨hW0, hW1, hW2⟩ := hW; go_simp; try first | rfl | (rw [if_neg (by first | omega | (simp only [ByteArray.size_append]; first | omega | (have h1 : (ByteArray.mk #[47]).size = 1 := rfl; omega)))]; try rfl) | kernel_rfl
                  try simp only [Act.put, List.setIfInBounds_toArray, List.set_cons_zero, List.set_cons_succ]
                  refine wpAnyH_take (i := 9) (v := ?_) ((List.getElem?_toArray ..).trans rfl) (by kernel_rfl) (by kernel_rfl) (by kernel_rfl) (fun _ _ _ h => h) (Or.inl ⟨rfl, fun W hW => ?_⟩) hS ?_
                  rotate_left
                  · obtain ⟨hW0, hW1, hW2⟩ := hW; go_simp; try first | rfl | (rw [if_neg (by first | omega | (simp only [ByteArray.size_append]; first | omega | (have h1 : (ByteArray.mk #[47]).size = 1 := rfl; omega)))]; try rfl) | kernel_rfl
                  try simp only [Act.put, List.setIfInBounds_toArray, List.set_cons_zero, List.set_cons_succ]
                  refine wpAnyH_ready (rs := [10, 14]) (by kernel_rfl) (by simp) (AllReadyH.cons ((List.getElem?_toArray ..).trans rfl) (fun KK hKK => ?_) (AllReadyH.cons ((List.getElem?_toArray ..).trans rfl) (fun KK hKK => ?_) AllReadyH.nil))
                  ·
                    go_simp
                    clear hS
                    refine (S.call (dmake_any (HT.out.below S.below) ⟨_, _, _, rfl, no⟩ HZ.out (by decide) (dq 1 f) rfl)).mono ?_
                    clear S
                    rintro e w11 ⟨⟨_, rfl, bl, pl, ll, Kl, ml, el, rfl, hl, nl, dl⟩, S, H⟩
                    replace nA := nA.hold H
                    replace nR := nR.hold H
                    replace no := no.hold H
                    replace HH := HH.trans H.to32
                    clear H
                    go_wp2_with fail
                    refine hKK.out _ _ ⟨S.c 0 0 rfl rfl, S.c 0 1 rfl rfl, S.c 0 2 rfl rfl⟩ (fun hS => ?_)
                    clear hKK KK
                    try simp only [Act.put, List.setIfInBounds_toArray, List.set_cons_zero, List.set_cons_succ]
                    refine wpAnyH_take (i := 11) (v := ?_) ((List.getElem?_toArray ..).trans rfl) (by kernel_rfl) (by kernel_rfl) (by kernel_rfl) (fun _ _ _ h => h) (Or.inl ⟨rfl, fun W hW => ?_⟩) hS ?_
                    rotate_left
                    · obtain ⟨hW0, hW1, hW2⟩ := hW; go_simp; try first | rfl | (rw [if_neg (by first | omega | (simp only [ByteArray.size_append]; first | omega | (have h1 : (ByteArray.mk #[47]).size = 1 := rfl; omega)))]; try rfl) | kernel_rfl
                    try simp only [Act.put, List.setIfInBounds_toArray, List.set_cons_zero, List.set_cons_succ]
                    refine wpAnyH_take (i := 12) (v := ?_) ((List.getElem?_toArray ..).trans rfl) (by kernel_rfl) (by kernel_rfl) (by kernel_rfl) (fun _ _ _ h => h) (Or.inl ⟨rfl, fun W hW => ?_⟩) hS ?_
                    rotate_left
                    · obtain ⟨hW0, hW1, hW2⟩ := hW; go_simp; try first | rfl | (rw [if_neg (by first | omega | (simp only [ByteArray.size_append]; first | omega | (have h1 : (ByteArray.mk #[47]).size = 1 := rfl; omega)))]; try rfl) | kernel_rfl
                    try simp only [Act.put, List.setIfInBounds_toArray, List.set_cons_zero, List.set_cons_succ]
                    refine wpAnyH_take (i := 13) (v := ?_) ((List.getElem?_toArray ..).trans rfl) (by kernel_rfl) (by kernel_rfl) (by kernel_rfl) (fun _ _ _ h => h) (Or.inl ⟨rfl, fun W hW => ?_⟩) hS ?_
                    rotate_left
                    · obtain ⟨hW0, hW1, hW2⟩ := hW; go_simp; try first | rfl | (rw [if_neg (by first | omega | (simp only [ByteArray.size_append]; first | omega | (have h1 : (ByteArray.mk #[47]).size = 1 := rfl; omega)))]; try rfl) | kernel_rfl
                    try simp only [Act.put, List.setIfInBounds_toArray, List.set_cons_zero, List.set_cons_succ]
                    refine wpAnyH_ready (rs := [14]) (by kernel_rfl) (by simp) (AllReadyH.cons ((List.getElem?_toArray ..).trans rfl) (fun KK hKK => ?_) AllReadyH.nil)
                    go_simp
                    clear hS
                    have H := S.hnew 30 [.bool false, .slice none 0 0, .int .i64 0]
                    replace S := S.alloc 30 [.bool false, .slice none 0 0, .int .i64 0] (w11.heap.size)
                    try simp only [List.cons_append, List.nil_append] at S
                    replace nA := nA.hold H
                    replace nR := nR.hold H
                    replace no := no.hold H
                    replace nl := nl.hold H
                    replace HH := HH.trans H.to32
                    clear H
                    refine hKK.out _ _ ⟨S.c 0 0 rfl rfl, S.c 0 1 rfl rfl, S.c 0 2 rfl rfl⟩ (fun hS => ?_)
                    generalize (w11.alloc (.cells #[.bool false, .slice none 0 0, .int .i64 0] 30)) = w12 at S nA nR no nl HH hS ⊢
                    clear hKK KK
                    try simp only [Act.put, List.setIfInBounds_toArray, List.set_cons_zero, List.set_cons_succ]
                    refine wpAnyH_ready (rs := [15]) (by kernel_rfl) (by simp) (AllReadyH.cons ((List.getElem?_toArray ..).trans rfl) (fun KK hKK => ?_) AllReadyH.nil)
                    have c0 := S.c 3 0 rfl rfl
                    have f0 := S.f 3 0 rfl
                    have c1 := S.c 3 1 rfl rfl
                    have f1 := S.f 3 1 rfl
                    have c2 := S.c 3 2 rfl rfl
                    have f2 := S.f 3 2 rfl
                    go_simp
                    clear hS c0 f0 c1 f1 c2 f2
                    have H := S.hset 3 0 (.bool bl) rfl rfl (by intro q n e; cases e)
                    replace S := S.set 3 0 (.bool bl) rfl
                    replace nA := nA.hold H
                    replace nR := nR.hold H
                    replace no := no.hold H
                    replace nl := nl.hold H
                    replace HH := HH.trans H.to32
                    clear H
                    have H := S.hset 3 1 (.slice pl ll Kl) rfl rfl (by intro q n e; cases e)
                    replace S := S.set 3 1 (.slice pl ll Kl) rfl
                    replace nA := nA.hold H
                    replace nR := nR.hold H
                    replace no := no.hold H
                    replace nl := nl.hold H
                    replace HH := HH.trans H.to32
                    clear H
                    have H := S.hset32 3 2 (.int .i64 el) rfl rfl (by intro n e; cases e)
                    replace S := S.set 3 2 (.int .i64 el) rfl
                    replace nA := nA.hold32 H
                    replace nR := nR.hold32 H
                    replace no := no.hold32 H
                    replace nl := nl.hold32 H
                    replace HH := HH.trans H
                    clear H
                    refine hKK.out _ _ ⟨S.c 0 0 rfl rfl, S.c 0 1 rfl rfl, S.c 0 2 rfl rfl⟩ (fun hS => ?_)
                    generalize (((w12.setCell ⟨w11.heap.size, 0, none⟩ (.bool bl)).setCell ⟨w11.heap.size, 1, none⟩ (.slice pl ll Kl)).setCell ⟨w11.heap.size, 2, none⟩ (.int .i64 el)) = w13 at S nA nR no nl HH hS ⊢
                    clear hKK KK
                    try simp only [Act.put, List.setIfInBounds_toArray, List.set_cons_zero, List.set_cons_succ]
                    refine wpAnyH_ready (rs := [16]) (by kernel_rfl) (by simp) (AllReadyH.cons ((List.getElem?_toArray ..).trans rfl) (fun KK hKK => ?_) AllReadyH.nil)
                    go_simp
                    refine hKK.out _ _ hS (fun hS => ?_)
                    clear hKK KK
                    try simp only [Act.put, List.setIfInBounds_toArray, List.set_cons_zero, List.set_cons_succ]
                    refine wpAnyH_done (by kernel_rfl) ?_ _
                    go_wp2_with fail
                    go_meet
                    case rel => exact ⟨w11.heap.size, bl, pl, ll, Kl, ml, el, rfl, rfl, S, hl, nl, dl, HH⟩
                  ·
                    go_simp
                    clear hS
                    have H := S.hnew 30 [.bool false, .slice none 0 0, .int .i64 0]
                    replace S := S.alloc 30 [.bool false, .slice none 0 0, .int .i64 0] (w10.heap.size)
                    try simp only [List.cons_append, List.nil_append] at S
                    replace nA := nA.hold H
                    replace nR := nR.hold H
                    replace no := no.hold H
                    replace HH := HH.trans H.to32
                    clear H
                    refine hKK.out _ _ ⟨S.c 0 0 rfl rfl, S.c 0 1 rfl rfl, S.c 0 2 rfl rfl⟩ (fun hS => ?_)
                    generalize (w10.alloc (.cells #[.bool false, .slice none 0 0, .int .i64 0] 30)) = w14 at S nA nR no HH hS ⊢
                    clear hKK KK
                    try simp only [Act.put, List.setIfInBounds_toArray, List.set_cons_zero, List.set_cons_succ]
                    refine wpAnyH_ready (rs := [10]) (by kernel_rfl) (by simp) (AllReadyH.cons ((List.getElem?_toArray ..).trans rfl) (fun KK hKK => ?_) AllReadyH.nil)
                    go_simp
                    clear hS
                    refine (S.call (dmake_any (HT.out.below S.below) ⟨_, _, _, rfl, no⟩ HZ.out (by decide) (dq 1 f) rfl)).mono ?_
                    clear S
                    rintro e w15 ⟨⟨_, rfl, bl, pl, ll, Kl, ml, el, rfl, hl, nl, dl⟩, S, H⟩
                    replace nA := nA.hold H
                    replace nR := nR.hold H
                    replace no := no.hold H
                    replace HH := HH.trans H.to32
                    clear H
                    go_wp2_with fail
                    refine hKK.out _ _ ⟨S.c 0 0 rfl rfl, S.c 0 1 rfl rfl, S.c 0 2 rfl rfl⟩ (fun hS => ?_)
                    clear hKK KK
                    try simp only [Act.put, List.setIfInBounds_toArray, List.set_cons_zero, List.set_cons_succ]
                    refine wpAnyH_take (i := 11) (v := ?_) ((List.getElem?_toArray ..).trans rfl) (by kernel_rfl) (by kernel_rfl) (by kernel_rfl) (fun _ _ _ h => h) (Or.inl ⟨rfl, fun W hW => ?_⟩) hS ?_
                    rotate_left
                    · obtain ⟨hW0, hW1, hW2⟩ := hW; go_simp; try first | rfl | (rw [if_neg (by first | omega | (simp only [ByteArray.size_append]; first | omega | (have h1 : (ByteArray.mk #[47]).size = 1 := rfl; omega)))]; try rfl) | kernel_rfl
                    try simp only [Act.put, List.setIfInBounds_toArray, List.set_cons_zero, List.set_cons_succ]
                    refine wpAnyH_take (i := 12) (v := ?_) ((List.getElem?_toArray ..).trans rfl) (by kernel_rfl) (by kernel_rfl) (by kernel_rfl) (fun _ _ _ h => h) (Or.inl ⟨rfl, fun W hW => ?_⟩) hS ?_
                    rotate_left
                    · obtain ⟨hW0, hW1, hW2⟩ := hW; go_simp; try first | rfl | (rw [if_neg (by first | omega | (simp only [ByteArray.size_append]; first | omega | (have h1 : (ByteArray.mk #[47]).size = 1 := rfl; omega)))]; try rfl) | kernel_rfl
                    try simp only [Act.put, List.setIfInBounds_toArray, List.set_cons_zero, List.set_cons_succ]
                    refine wpAnyH_take (i := 13) (v := ?_) ((List.getElem?_toArray ..).trans rfl) (by kernel_rfl) (by kernel_rfl) (by kernel_rfl) (fun _ _ _ h => h) (Or.inl ⟨rfl, fun W hW => ?_⟩) hS ?_
                    rotate_left
                    · obtain ⟨hW0, hW1, hW2⟩ := hW; go_simp; try first | rfl | (rw [if_neg (by first | omega | (simp only [ByteArray.size_append]; first | omega | (have h1 : (ByteArray.mk #[47]).size = 1 := rfl; omega)))]; try rfl) | kernel_rfl
                    try simp only [Act.put, List.setIfInBounds_toArray, List.set_cons_zero, List.set_cons_succ]
                    refine wpAnyH_ready (rs := [15]) (by kernel_rfl) (by simp) (AllReadyH.cons ((List.getElem?_toArray ..).trans rfl) (fun KK hKK => ?_) AllReadyH.nil)
                    have c0 := S.c 3 0 rfl rfl
                    have f0 := S.f 3 0 rfl
                    have c1 := S.c 3 1 rfl rfl
                    have f1 := S.f 3 1 rfl
                    have c2 := S.c 3 2 rfl rfl
                    have f2 := S.f 3 2 rfl
                    go_simp
                    clear hS c0 f0 c1 f1 c2 f2
                    have H := S.hset 3 0 (.bool bl) rfl rfl (by intro q n e; cases e)
                    replace S := S.set 3 0 (.bool bl) rfl
                    replace nA := nA.hold H
                    replace nR := nR.hold H
                    replace no := no.hold H
                    replace nl := nl.hold H
                    replace HH := HH.trans H.to32
                    clear H
                    have H := S.hset 3 1 (.slice pl ll Kl) rfl rfl (by intro q n e; cases e)
                    replace S := S.set 3 1 (.slice pl ll Kl) rfl
                    replace nA := nA.hold H
                    replace nR := nR.hold H
                    replace no := no.hold H
                    replace nl := nl.hold H
                    replace HH := HH.trans H.to32
                    clear H
                    have H := S.hset32 3 2 (.int .i64 el) rfl rfl (by intro n e; cases e)
                    replace S := S.set 3 2 (.int .i64 el) rfl
                    replace nA := nA.hold32 H
                    replace nR := nR.hold32 H
                    replace no := no.hold32 H
                    replace nl := nl.hold32 H
                    replace HH := HH.trans H
                    clear H
                    refine hKK.out _ _ ⟨S.c 0 0 rfl rfl, S.c 0 1 rfl rfl, S.c 0 2 rfl rfl⟩ (fun hS => ?_)
                    generalize (((w15.setCell ⟨w10.heap.size, 0, none⟩ (.bool bl)).setCell ⟨w10.heap.size, 1, none⟩ (.slice pl ll Kl)).setCell ⟨w10.heap.size, 2, none⟩ (.int .i64 el)) = w16 at S nA nR no nl HH hS ⊢
                    clear hKK KK
                    try simp only [Act.put, List.setIfInBounds_toArray, List.set_cons_zero, List.set_cons_succ]
                    refine wpAnyH_ready (rs := [16]) (by kernel_rfl) (by simp) (AllReadyH.cons ((List.getElem?_toArray ..).trans rfl) (fun KK hKK => ?_) AllReadyH.nil)
                    go_simp
                    refine hKK.out _ _ hS (fun hS => ?_)
                    clear hKK KK
                    try simp only [Act.put, List.setIfInBounds_toArray, List.set_cons_zero, List.set_cons_succ]
                    refine wpAnyH_done (by kernel_rfl) ?_ _
                    go_wp2_with fail
                    go_meet
                    case rel => exact ⟨w10.heap.size, bl, pl, ll, Kl, ml, el, rfl, rfl, S, hl, nl, dl, HH⟩
                ·
                  go_simp
                  clear hS
                  have H := S.hnew 30 [.bool false, .slice none 0 0, .int .i64 0]
                  replace S := S.alloc 30 [.bool false, .slice none 0 0, .int .i64 0] (w9.heap.size)
                  try simp only [List.cons_append, List.nil_append] at S
                  replace nA := nA.hold H
                  replace nR := nR.hold H
                  replace no := no.hold H
                  replace HH := HH.trans H.to32
                  clear H
                  refine hKK.out _ _ ⟨S.c 0 0 rfl rfl, S.c 0 1 rfl rfl, S.c 0 2 rfl rfl⟩ (fun hS => ?_)
                  generalize (w9.alloc (.cells #[.bool false, .slice none 0 0, .int .i64 0] 30)) = w17 at S nA nR no HH hS ⊢
                  clear hKK KK
                  try simp only [Act.put, List.setIfInBounds_toArray, List.set_cons_zero, List.set_cons_succ]
                  refine wpAnyH_ready (rs := [6]) (by kernel_rfl) (by simp) (AllReadyH.cons ((List.getElem?_toArray ..).trans rfl) (fun KK hKK => ?_) AllReadyH.nil)
                  go_simp
                  clear hS
                  refine (S.call (bits_nat nA (dA.out.max (by decide)) HT2.out)).mono ?_
                  clear S
                  rintro e w18 ⟨rfl, S, H⟩
                  replace nA := nA.hold H
                  replace nR := nR.hold H
                  replace no := no.hold H
                  replace HH := HH.trans H.to32
                  clear H
                  go_wp2_with fail
                  refine hKK.out _ _ ⟨S.c 0 0 rfl rfl, S.c 0 1 rfl rfl, S.c 0 2 rfl rfl⟩ (fun hS => ?_)
                  clear hKK KK
                  try simp only [Act.put, List.setIfInBounds_toArray, List.set_cons_zero, List.set_cons_succ]
                  refine wpAnyH_take (i := 7) (v := ?_) ((List.getElem?_toArray ..).trans rfl) (by kernel_rfl) (by kernel_rfl) (by kernel_rfl) (fun _ _ _ h => h) (Or.inl ⟨rfl, fun W hW => ?_⟩) hS ?_
                  rotate_left
                  · obtain ⟨hW0, hW1, hW2⟩ := hW; go_simp; try first | rfl | (rw [if_neg (by first | omega | (simp only [ByteArray.size_append]; first | omega | (have h1 : (ByteArray.mk #[47]).size = 1 := rfl; omega)))]; try rfl) | kernel_rfl
                  try simp only [Act.put, List.setIfInBounds_toArray, List.set_cons_zero, List.set_cons_succ]
                  refine wpAnyH_take (i := 9) (v := ?_) ((List.getElem?_toArray ..).trans rfl) (by kernel_rfl) (by kernel_rfl) (by kernel_rfl) (fun _ _ _ h => h) (Or.inl ⟨rfl, fun W hW => ?_⟩) hS ?_
                  rotate_left
                  · obtain ⟨hW0, hW1, hW2⟩ := hW; go_simp; try first | rfl | (rw [if_neg (by first | omega | (simp only [ByteArray.size_append]; first | omega | (have h1 : (ByteArray.mk #[47]).size = 1 := rfl; omega)))]; try rfl) | kernel_rfl
                  try simp only [Act.put, List.setIfInBounds_toArray, List.set_cons_zero, List.set_cons_succ]
                  refine wpAnyH_ready (rs := [10]) (by kernel_rfl) (by simp) (AllReadyH.cons ((List.getElem?_toArray ..).trans rfl) (fun KK hKK => ?_) AllReadyH.nil)
                  go_simp
                  clear hS
                  refine (S.call (dmake_any (HT.out.below S.below) ⟨_, _, _, rfl, no⟩ HZ.out (by decide) (dq 1 f) rfl)).mono ?_
                  clear S
                  rintro e w19 ⟨⟨_, rfl, bl, pl, ll, Kl, ml, el, rfl, hl, nl, dl⟩, S, H⟩
                  replace nA := nA.hold H
                  replace nR := nR.hold H
                  replace no := no.hold H
                  replace HH := HH.trans H.to32
                  clear H
                  go_wp2_with fail
                  refine hKK.out _ _ ⟨S.c 0 0 rfl rfl, S.c 0 1 rfl rfl, S.c 0 2 rfl rfl⟩ (fun hS => ?_)
                  clear hKK KK
                  try simp only [Act.put, List.setIfInBounds_toArray, List.set_cons_zero, List.set_cons_succ]
                  refine wpAnyH_take (i := 11) (v := ?_) ((List.getElem?_toArray ..).trans rfl) (by kernel_rfl) (by kernel_rfl) (by kernel_rfl) (fun _ _ _ h => h) (Or.inl ⟨rfl, fun W hW => ?_⟩) hS ?_
                  rotate_left
                  · obtain ⟨hW0, hW1, hW2⟩ := hW; go_simp; try first | rfl | (rw [if_neg (by first | omega | (simp only [ByteArray.size_append]; first | omega | (have h1 : (ByteArray.mk #[47]).size = 1 := rfl; omega)))]; try rfl) | kernel_rfl
                  try simp only [Act.put, List.setIfInBounds_toArray, List.set_cons_zero, List.set_cons_succ]
                  refine wpAnyH_take (i := 12) (v := ?_) ((List.getElem?_toArray ..).trans rfl) (by kernel_rfl) (by kernel_rfl) (by kernel_rfl) (fun _ _ _ h => h) (Or.inl ⟨rfl, fun W hW => ?_⟩) hS ?_
                  rotate_left
                  · obtain ⟨hW0, hW1, hW2⟩ := hW; go_simp; try first | rfl | (rw [if_neg (by first | omega | (simp only [ByteArray.size_append]; first | omega | (have h1 : (ByteArray.mk #[47]).size = 1 := rfl; omega)))]; try rfl) | kernel_rfl
                  try simp only [Act.put, List.setIfInBounds_toArray, List.set_cons_zero, List.set_cons_succ]
                  refine wpAnyH_take (i := 13) (v := ?_) ((List.getElem?_toArray ..).trans rfl) (by kernel_rfl) (by kernel_rfl) (by kernel_rfl) (fun _ _ _ h => h) (Or.inl ⟨rfl, fun W hW => ?_⟩) hS ?_
                  rotate_left
                  · obtain ⟨hW0, hW1, hW2⟩ := hW; go_simp; try first | rfl | (rw [if_neg (by first | omega | (simp only [ByteArray.size_append]; first | omega | (have h1 : (ByteArray.mk #[47]).size = 1 := rfl; omega)))]; try rfl) | kernel_rfl
                  try simp only [Act.put, List.setIfInBounds_toArray, List.set_cons_zero, List.set_cons_succ]
                  refine wpAnyH_ready (rs := [15]) (by kernel_rfl) (by simp) (AllReadyH.cons ((List.getElem?_toArray ..).trans rfl) (fun KK hKK => ?_) AllReadyH.nil)
                  have c0 := S.c 3 0 rfl rfl
                  have f0 := S.f 3 0 rfl
                  have c1 := S.c 3 1 rfl rfl
                  have f1 := S.f 3 1 rfl
                  have c2 := S.c 3 2 rfl rfl
                  have f2 := S.f 3 2 rfl
                  go_simp
                  clear hS c0 f0 c1 f1 c2 f2
                  have H := S.hset 3 0 (.bool bl) rfl rfl (by intro q n e; cases e)
                  replace S := S.set 3 0 (.bool bl) rfl
                  replace nA := nA.hold H
                  replace nR := nR.hold H
                  replace no := no.hold H
                  replace nl := nl.hold H
                  replace HH := HH.trans H.to32
                  clear H
                  have H := S.hset 3 1 (.slice pl ll Kl) rfl rfl (by intro q n e; cases e)
                  replace S := S.set 3 1 (.slice pl ll Kl) rfl
                  replace nA := nA.hold H
                  replace nR := nR.hold H
                  replace no := no.hold H
                  replace nl := nl.hold H
                  replace HH := HH.trans H.to32
                  clear H
                  have H := S.hset32 3 2 (.int .i64 el) rfl rfl (by intro n e; cases e)
                  replace S := S.set 3 2 (.int .i64 el) rfl
                  replace nA := nA.hold32 H
                  replace nR := nR.hold32 H
                  replace no := no.hold32 H
                  replace nl := nl.hold32 H
                  replace HH := HH.trans H
                  clear H
                  refine hKK.out _ _ ⟨S.c 0 0 rfl rfl, S.c 0 1 rfl rfl, S.c 0 2 rfl rfl⟩ (fun hS => ?_)
                  generalize (((w19.setCell ⟨w9.heap.size, 0, none⟩ (.bool bl)).setCell ⟨w9.heap.size, 1, none⟩ (.slice pl ll Kl)).setCell ⟨w9.heap.size, 2, none⟩ (.int .i64 el)) = w20 at S nA nR no nl HH hS ⊢
                  clear hKK KK
                  try simp only [Act.put, List.setIfInBounds_toArray, List.set_cons_zero, List.set_cons_succ]
                  refine wpAnyH_ready (rs := [16]) (by kernel_rfl) (by simp) (AllReadyH.cons ((List.getElem?_toArray ..).trans rfl) (fun KK hKK => ?_) AllReadyH.nil)
                  go_simp
                  refine hKK.out _ _ hS (fun hS => ?_)
                  clear hKK KK
                  try simp only [Act.put, List.setIfInBounds_toArray, List.set_cons_zero, List.set_cons_succ]
                  refine wpAnyH_done (by kernel_rfl) ?_ _
                  go_wp2_with fail
                  go_meet
                  case rel => exact ⟨w9.heap.size, bl, pl, ll, Kl, ml, el, rfl, rfl, S, hl, nl, dl, HH⟩
              ·
                go_simp
                clear hS
                have H := S.hnew 30 [.bool false, .slice none 0 0, .int .i64 0]
                replace S := S.alloc 30 [.bool false, .slice none 0 0, .int .i64 0] (w8.heap.size)
                try simp only [List.cons_append, List.nil_append] at S
                replace nA := nA.hold H
                replace nR := nR.hold H
                replace HH := HH.trans H.to32
                clear H
                refine hKK.out _ _ ⟨S.c 0 0 rfl rfl, S.c 0 1 rfl rfl, S.c 0 2 rfl rfl⟩ (fun hS => ?_)
                generalize (w8.alloc (.cells #[.bool false, .slice none 0 0, .int .i64 0] 30)) = w21 at S nA nR HH hS ⊢
                clear hKK KK
                try simp only [Act.put, List.setIfInBounds_toArray, List.set_cons_zero, List.set_cons_succ]
                refine wpAnyH_ready (rs := [0]) (by kernel_rfl) (by simp) (AllReadyH.cons ((List.getElem?_toArray ..).trans rfl) (fun KK hKK => ?_) AllReadyH.nil)
                go_simp
                clear hS
                refine (S.call (wof_any 1 _ (by decide) (by decide))).mono ?_
                clear S
                rintro e w22 ⟨⟨_, rfl, po, lo, Ko, rfl, no⟩, S, H⟩
                replace nA := nA.hold H
                replace nR := nR.hold H
                replace HH := HH.trans H.to32
                clear H
                go_wp2_with fail
                refine hKK.out _ _ ⟨S.c 0 0 rfl rfl, S.c 0 1 rfl rfl, S.c 0 2 rfl rfl⟩ (fun hS => ?_)
                clear hKK KK
                try simp only [Act.put, List.setIfInBounds_toArray, List.set_cons_zero, List.set_cons_succ]
                refine wpAnyH_ready (rs := [6]) (by kernel_rfl) (by simp) (AllReadyH.cons ((List.getElem?_toArray ..).trans rfl) (fun KK hKK => ?_) AllReadyH.nil)
                go_simp
                clear hS
                refine (S.call (bits_nat nA (dA.out.max (by decide)) HT2.out)).mono ?_
                clear S
                rintro e w23 ⟨rfl, S, H⟩
                replace nA := nA.hold H
                replace nR := nR.hold H
                replace no := no.hold H
                replace HH := HH.trans H.to32
                clear H
                go_wp2_with fail
                refine hKK.out _ _ ⟨S.c 0 0 rfl rfl, S.c 0 1 rfl rfl, S.c 0 2 rfl rfl⟩ (fun hS => ?_)
                clear hKK KK
                try simp only [Act.put, List.setIfInBounds_toArray, List.set_cons_zero, List.set_cons_succ]
                refine wpAnyH_take (i := 7) (v := ?_) ((List.getElem?_toArray ..).trans rfl) (by kernel_rfl) (by kernel_rfl) (by kernel_rfl) (fun _ _ _ h => h) (Or.inl ⟨rfl, fun W hW => ?_⟩) hS ?_
                rotate_left
                · obtain ⟨hW0, hW1, hW2⟩ := hW; go_simp; try first | rfl | (rw [if_neg (by first | omega | (simp only [ByteArray.size_append]; first | omega | (have h1 : (ByteArray.mk #[47]).size = 1 := rfl; omega)))]; try rfl) | kernel_rfl
                try simp only [Act.put, List.setIfInBounds_toArray, List.set_cons_zero, List.set_cons_succ]
                refine wpAnyH_take (i := 9) (v := ?_) ((List.getElem?_toArray ..).trans rfl) (by kernel_rfl) (by kernel_rfl) (by kernel_rfl) (fun _ _ _ h => h) (Or.inl ⟨rfl, fun W hW => ?_⟩) hS ?_
                rotate_left
                · obtain ⟨hW0, hW1, hW2⟩ := hW; go_simp; try first | rfl | (rw [if_neg (by first | omega | (simp only [ByteArray.size_append]; first | omega | (have h1 : (ByteArray.mk #[47]).size = 1 := rfl; omega)))]; try rfl) | kernel_rfl
                try simp only [Act.put, List.setIfInBounds_toArray, List.set_cons_zero, List.set_cons_succ]
                refine wpAnyH_ready (rs := [10]) (by kernel_rfl) (by simp) (AllReadyH.cons ((List.getElem?_toArray ..).trans rfl) (fun KK hKK => ?_) AllReadyH.nil)
                go_simp
                clear hS
                refine (S.call (dmake_any (HT.out.below S.below) ⟨_, _, _, rfl, no⟩ HZ.out (by decide) (dq 1 f) rfl)).mono ?_
                clear S
                rintro e w24 ⟨⟨_, rfl, bl, pl, ll, Kl, ml, el, rfl, hl, nl, dl⟩, S, H⟩
                replace nA := nA.hold H
                replace nR := nR.hold H
                replace no := no.hold H
                replace HH := HH.trans H.to32
                clear H
                go_wp2_with fail
                refine hKK.out _ _ ⟨S.c 0 0 rfl rfl, S.c 0 1 rfl rfl, S.c 0 2 rfl rfl⟩ (fun hS => ?_)
                clear hKK KK
                try simp only [Act.put, List.setIfInBounds_toArray, List.set_cons_zero, List.set_cons_succ]
                refine wpAnyH_take (i := 11) (v := ?_) ((List.getElem?_toArray ..).trans rfl) (by kernel_rfl) (by kernel_rfl) (by kernel_rfl) (fun _ _ _ h => h) (Or.inl ⟨rfl, fun W hW => ?_⟩) hS ?_
                rotate_left
                · obtain ⟨hW0, hW1, hW2⟩ := hW; go_simp; try first | rfl | (rw [if_neg (by first | omega | (simp only [ByteArray.size_append]; first | omega | (have h1 : (ByteArray.mk #[47]).size = 1 := rfl; omega)))]; try rfl) | kernel_rfl
                try simp only [Act.put, List.setIfInBounds_toArray, List.set_cons_zero, List.set_cons_succ]
                refine wpAnyH_take (i := 12) (v := ?_) ((List.getElem?_toArray ..).trans rfl) (by kernel_rfl) (by kernel_rfl) (by kernel_rfl) (fun _ _ _ h => h) (Or.inl ⟨rfl, fun W hW => ?_⟩) hS ?_
                rotate_left
                · obtain ⟨hW0, hW1, hW2⟩ := hW; go_simp; try first | rfl | (rw [if_neg (by first | omega | (simp only [ByteArray.size_append]; first | omega | (have h1 : (ByteArray.mk #[47]).size = 1 := rfl; omega)))]; try rfl) | kernel_rfl
                try simp only [Act.put, List.setIfInBounds_toArray, List.set_cons_zero, List.set_cons_succ]
                refine wpAnyH_take (i := 13) (v := ?_) ((List.getElem?_toArray ..).trans rfl) (by kernel_rfl) (by kernel_rfl) (by kernel_rfl) (fun _ _ _ h => h) (Or.inl ⟨rfl, fun W hW => ?_⟩) hS ?_
                rotate_left
                · obtain ⟨hW0, hW1, hW2⟩ := hW; go_simp; try first | rfl | (rw [if_neg (by first | omega | (simp only [ByteArray.size_append]; first | omega | (have h1 : (ByteArray.mk #[47]).size = 1 := rfl; omega)))]; try rfl) | kernel_rfl
                try simp only [Act.put, List.setIfInBounds_toArray, List.set_cons_zero, List.set_cons_succ]
                refine wpAnyH_ready (rs := [15]) (by kernel_rfl) (by simp) (AllReadyH.cons ((List.getElem?_toArray ..).trans rfl) (fun KK hKK => ?_) AllReadyH.nil)
                have c0 := S.c 3 0 rfl rfl
                have f0 := S.f 3 0 rfl
                have c1 := S.c 3 1 rfl rfl
                have f1 := S.f 3 1 rfl
                have c2 := S.c 3 2 rfl rfl
                have f2 := S.f 3 2 rfl
                go_simp
                clear hS c0 f0 c1 f1 c2 f2
                have H := S.hset 3 0 (.bool bl) rfl rfl (by intro q n e; cases e)
                replace S := S.set 3 0 (.bool bl) rfl
                replace nA := nA.hold H
                replace nR := nR.hold H
                replace no := no.hold H
                replace nl := nl.hold H
                replace HH := HH.trans H.to32
                clear H
                have H := S.hset 3 1 (.slice pl ll Kl) rfl rfl (by intro q n e; cases e)
                replace S := S.set 3 1 (.slice pl ll Kl) rfl
                replace nA := nA.hold H
                replace nR := nR.hold H
                replace no := no.hold H
                replace nl := nl.hold H
                replace HH := HH.trans H.to32
                clear H
                have H := S.hset32 3 2 (.int .i64 el) rfl rfl (by intro n e; cases e)
                replace S := S.set 3 2 (.int .i64 el) rfl
                replace nA := nA.hold32 H
                replace nR := nR.hold32 H
                replace no := no.hold32 H
                replace nl := nl.hold32 H
                replace HH := HH.trans H
                clear H
                refine hKK.out _ _ ⟨S.c 0 0 rfl rfl, S.c 0 1 rfl rfl, S.c 0 2 rfl rfl⟩ (fun hS => ?_)
                generalize (((w24.setCell ⟨w8.heap.size, 0, none⟩ (.bool bl)).setCell ⟨w8.heap.size, 1, none⟩ (.slice pl ll Kl)).setCell ⟨w8.heap.size, 2, none⟩ (.int .i64 el)) = w25 at S nA nR no nl HH hS ⊢
                clear hKK KK
                try simp only [Act.put, List.setIfInBounds_toArray, List.set_cons_zero, List.set_cons_succ]
                refine wpAnyH_ready (rs := [16]) (by kernel_rfl) (by simp) (AllReadyH.cons ((List.getElem?_toArray ..).trans rfl) (fun KK hKK => ?_) AllReadyH.nil)
                go_simp
                refine hKK.out _ _ hS (fun hS => ?_)
                clear hKK KK
                try simp only [Act.put, List.setIfInBounds_toArray, List.set_cons_zero, List.set_cons_succ]
                refine wpAnyH_done (by kernel_rfl) ?_ _
                go_wp2_with fail
                go_meet
                case rel => exact ⟨w8.heap.size, bl, pl, ll, Kl, ml, el, rfl, rfl, S, hl, nl, dl, HH⟩
            case rest =>
              obtain ⟨g10, bl, pl, ll, Kl, ml, el, rfl, rfl, S, hl, nl, dl, HH⟩ := hcut
              obtain ⟨w26, rfl⟩ : ∃ W : World, W = wc := ⟨_, rfl⟩
              replace nA := nA.hold32 HH
              replace nR := nR.hold32 HH
              clear HH
              have c2_0 := S.c 2 0 rfl rfl
              have c2_1 := S.c 2 1 rfl rfl
              have c2_2 := S.c 2 2 rfl rfl
              have c3_0 := S.c 3 0 rfl rfl
              have c3_1 := S.c 3 1 rfl rfl
              have c3_2 := S.c 3 2 rfl rfl
              go_wp2_with fail
              clear c2_0 c2_1 c2_2 c3_0 c3_1 c3_2
              refine (S.call (dsub_any (L := 300) (H := 781) (HT.out.below S.below) ⟨bR, pR, lR, KR, mR, eR, rfl, hR, nR, dR⟩ ⟨bl, pl, ll, Kl, ml, el, rfl, hl, nl, dl⟩ (by decide) (y - dq 1 f) rfl)).mono ?_
              clear S
              rintro e w27 ⟨⟨_, rfl, bN, pN, lN, KN, mN, eN, rfl, hN, nN, dN⟩, S, H⟩
              replace nA := nA.hold H
              replace nR := nR.hold H
              replace nl := nl.hold H
              clear H
              have c2_0 := S.c 2 0 rfl rfl
              have c2_1 := S.c 2 1 rfl rfl
              have c2_2 := S.c 2 2 rfl rfl
              have c3_0 := S.c 3 0 rfl rfl
              have c3_1 := S.c 3 1 rfl rfl
              have c3_2 := S.c 3 2 rfl rfl
              have H := S.hnew 30 [.bool bN, .slice pN lN KN, .int .i64 eN]
              replace S := S.alloc 30 [.bool bN, .slice pN lN KN, .int .i64 eN] (w27.heap.size)
              try simp only [List.cons_append, List.nil_append] at S
              replace nA := nA.hold H
              replace nR := nR.hold H
              replace nl := nl.hold H
              replace nN := nN.hold H
              clear H
              clear c2_0 c2_1 c2_2 c3_0 c3_1 c3_2
              have c0_0 := S.c 0 0 rfl rfl
              have c0_1 := S.c 0 1 rfl rfl
              have c0_2 := S.c 0 2 rfl rfl
              have c4_0 := S.c 4 0 rfl rfl
              have c4_1 := S.c 4 1 rfl rfl
              have c4_2 := S.c 4 2 rfl rfl
              go_wp2_with fail
              generalize (.tuple #[.agg #[.bool bN, .slice pN lN KN, .int .i64 eN], .int .i64 0] : Value) = g2
              clear c0_0 c0_1 c0_2 c4_0 c4_1 c4_2
              refine (S.call (dless_any (L := 300) (H := 782) ⟨bN, pN, lN, KN, mN, eN, rfl, hN, nN, dN⟩ (IsD.mono ⟨bA, pA, lA, KA, mA, eA, rfl, hA, nA, dA⟩ (L := 300) (H := 780) (L' := 300) (H' := 782) (by decide) (by decide)) (by decide) true HO.out)).mono ?_
              clear S
              rintro e w28 ⟨rfl, S, H⟩
              replace nA := nA.hold H
              replace nR := nR.hold H
              replace nl := nl.hold H
              replace nN := nN.hold H
              clear H
              have c0_0 := S.c 0 0 rfl rfl
              have c0_1 := S.c 0 1 rfl rfl
              have c0_2 := S.c 0 2 rfl rfl
              have c4_0 := S.c 4 0 rfl rfl
              have c4_1 := S.c 4 1 rfl rfl
              have c4_2 := S.c 4 2 rfl rfl
              go_wp2_with fail
              exact bodyPost_ret (v := .bool true) (by simp [results, Tryd.f5, go_sem]) rfl (⟨rfl, S.below⟩)

end Go.Proofs.YtkokimlgofimmaaDoor
