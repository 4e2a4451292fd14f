/-
  girdlelaw01.LimbsSmall, as a walk: whatever the number and the list, it returns true.
-/
import Derived.Test.YtphhaaofkckobaaDoorReck
namespace Go.Proofs.YtphhaaofkckobaaDoor
open Go.RowKit

theorem tried_can {ds : List Nat} (h : Tried ds) (hd : Dig 4294967296 ds) : Can 4294967296 ds := ⟨hd, h.2⟩

/-- One number, in the list that 'fit' is given. -/
theorem fit_one (p : Option Addr) (K : Nat) (ds : List Nat) (w : World) (hat : At .u32 w p K ds) (l : Nat) (hl : ds.length = l) :
    Calls Tryd.prog 12 #[.slice (some ⟨w.heap.size, 0, none⟩) 1 1] (w.alloc (.cells #[.slice p l K] 23)) fun e w' => e = .returned (.bool (triedAll 1 fun _ => ds)) ∧ Below w.heap.size w w' := by
  subst hl
  have hB := (Below.refl w.heap.size w).alloc (Nat.le_refl _) (.cells #[.slice p ds.length K] 23)
  refine (fit_any w.heap.size 1 (fun _ => p) (fun _ => K) (fun _ => ds) _ (by simp) (by decide) fun j hj => ⟨?_, hat.below hB (Nat.le_refl _)⟩).mono fun e w' h => ⟨h.1, hB.trans (h.2.mono (by simp))⟩
  have h0 : j = 0 := by omega
  subst h0
  simp [go_sem]

set_option maxRecDepth 100000 in
set_option maxHeartbeats 2000000 in
theorem limbsSmall_any (n K : Nat) (p : Option Addr) (ds : List Nat) (w : World) (hT : Tab w) (hn : n < 18446744073709551616) (hat : At .u32 w p K ds) (hd : Dig 4294967296 ds) :
    Calls Tryd.prog 9 #[.int .u64 n, .slice p ds.length K] w fun e w' => e = .returned (.bool true) ∧ Below w.heap.size w w' := by
  have R := Lib.hid (reckons_any w hT)
  have O := Lib.hid (fun m W (h : m < 18446744073709551616) => of_any m W h)
  have HD := Lib.hid hd
  obtain ⟨l, hl⟩ : ∃ l, ds.length = l := ⟨_, rfl⟩
  have HL := Lib.hid hl
  rw [hl]
  clear hT hd hl
  go_enter Tryd.func9, Tryd.ntmps9
  go_wp2_with fail
  refine R.out.mono ?_
  clear R
  rintro e w1 ⟨rfl, hb1⟩
  have hat := hat.below hb1 (Nat.le_refl _)
  go_wp2_with fail
  refine (O.out _ _ hn).mono ?_
  rintro e w2 ⟨⟨v1, rfl, n1⟩, hB⟩
  have hb2 := hb1.trans (hB.mono hb1.size)
  have hat := hat.below hB (Nat.le_refl _)
  clear hB hb1
  have C := Lib.hid (small_fit n1 hn)
  clear n1
  go_wp2_with fail
  refine C.out.mono ?_
  clear C
  rintro e w3 ⟨rfl, hB⟩
  have hb3 := hb2.trans (hB.mono hb2.size)
  have hat := hat.below hB (Nat.le_refl _)
  clear hB hb2
  go_wp2_with fail
  refine (O.out _ _ hn).mono ?_
  rintro e w4 ⟨⟨v4, rfl, n4⟩, hB⟩
  have hb4 := hb3.trans (hB.mono hb3.size)
  have hat := hat.below hB (Nat.le_refl _)
  clear hB hb3
  have C0 : Calls Tryd.prog 31 #[v4] w4 fun e w' => e = .returned (.int .i64 0) ∧ Below w4.heap.size w4 w' := by
    obtain ⟨es, hn4, hc4, hv4⟩ := n4
    have hl4 : es.length ≤ 2 := (hc4.len_le (by decide) 2).2 (by omega)
    exact (check_any hn4 (by omega)).mono fun e w' h => ⟨h.1.trans (by rw [(check_zero (by omega)).2 hc4.2]; rfl), h.2⟩
  have C := Lib.hid C0
  clear C0 n4
  go_wp2_with fail
  refine C.out.mono ?_
  clear C
  rintro e w5 ⟨rfl, hB⟩
  have hb5 := hb4.trans (hB.mono hb4.size)
  have hat := hat.below hB (Nat.le_refl _)
  clear hB hb4
  have C := Lib.hid (fit_one p K ds w5 hat l HL.out)
  by_cases hfit : triedAll 1 (fun _ => ds) = true
  · rw [hfit] at C
    have htr : Tried ds := triedAll_out hfit 0 (by decide)
    clear hfit
    go_wp2_with fail
    refine C.out.mono ?_
    clear C
    rintro e w6 ⟨rfl, hB⟩
    have hb6 := hb5.trans (hB.mono hb5.size)
    have hat := hat.below hB (Nat.le_refl _)
    clear hB hb5
    have hc := tried_can htr HD.out
    have hna : IsNat w6 (.slice p l K) (val 4294967296 ds) := by rw [← HL.out]; exact ⟨ds, ⟨p, K, rfl, hat⟩, hc, rfl⟩
    have hlen2 := hc.len_le (by decide) 2
    have h40 : l ≤ 40 := by have := htr.1; have := HL.out; omega
    have H40 := Lib.hid h40
    have HC := Lib.hid hc
    rw [HL.out] at hlen2
    have HLen := Lib.hid hlen2
    clear htr hc hlen2 h40
    have hmax : val 4294967296 ds < maxN := HC.out.len_max.1 (by have := HL.out; have := H40.out; omega)
    have S := Lib.hid (small_any hna hmax)
    clear hmax
    obtain ⟨m, hm⟩ : ∃ m, val 4294967296 ds = m := ⟨_, rfl⟩
    rw [hm] at S HLen hna
    have HM := Lib.hid hm
    clear hm
    by_cases hlt : m < 18446744073709551616
    · have hl2 : ¬ (2 : Int) < (l : Int) := by have := HLen.out.2 (by omega); omega
      have C0 : Calls Tryd.prog 32 #[.slice p l K] w6 fun e w' => e = .returned (.tuple #[.int .u64 m, .int .i64 0]) ∧ Below w6.heap.size w6 w' := S.out.mono fun e w' h => ⟨h.1.elim (fun h => h.2) (fun h => by omega), h.2⟩
      have C := Lib.hid C0
      clear C0 S
      have Hlt := Lib.hid hlt
      clear hlt
      go_wp2_with fail
      refine C.out.mono ?_
      clear C
      rintro e w7 ⟨rfl, hB⟩
      have hb7 := hb6.trans (hB.mono hb6.size)
      have hat := hat.below hB (Nat.le_refl _)
      clear hB hb6 hna
      go_wp2_with fail
      refine (O.out _ _ Hlt.out).mono ?_
      rintro e w8 ⟨⟨v8, rfl, n8⟩, hB⟩
      have hb8 := hb7.trans (hB.mono hb7.size)
      have hat := hat.below hB (Nat.le_refl _)
      clear hB hb7
      obtain ⟨p8, K8, rfl, at8⟩ := n8.digs ds HC.out HM.out
      have C0 : Calls Tryd.prog 22 #[.slice p8 ds.length K8, .slice p l K] w8 fun e w' => e = .returned (.bool true) ∧ Below w8.heap.size w8 w' := by
        have := equal_nat p8 p K8 K ds ds w8 at8 hat (by have := HL.out; have := H40.out; omega)
        rw [decide_eq_true rfl] at this
        rw [← HL.out]
        exact this
      have C := Lib.hid C0
      clear C0
      go_wp2_with fail
      refine C.out.mono ?_
      clear C
      rintro e w9 ⟨rfl, hB⟩
      have hb9 := hb8.trans (hB.mono hb8.size)
      clear hB hb8
      go_wp2
      go_ret
      exact ⟨rfl, hb9⟩
    · have hl2 : (2 : Int) < (l : Int) := by
        rcases Nat.lt_or_ge 2 l with h | h
        · omega
        · have := HLen.out.1 h; omega
      have C0 : Calls Tryd.prog 32 #[.slice p l K] w6 fun e w' => e = .returned (.tuple #[.int .u64 0, .int .i64 11]) ∧ Below w6.heap.size w6 w' := S.out.mono fun e w' h => ⟨h.1.elim (fun h => by omega) (fun h => h.2), h.2⟩
      have C := Lib.hid C0
      clear C0 S hlt
      go_wp2_with fail
      refine C.out.mono ?_
      clear C
      rintro e w7 ⟨rfl, hB⟩
      have hb7 := hb6.trans (hB.mono hb6.size)
      clear hB hb6 hna
      go_wp2
      go_ret
      exact ⟨rfl, hb7⟩
  · rw [Bool.not_eq_true] at hfit
    rw [hfit] at C
    clear hfit
    go_wp2_with fail
    refine C.out.mono ?_
    clear C
    rintro e w6 ⟨rfl, hB⟩
    have hb6 := hb5.trans (hB.mono hb5.size)
    clear hB hb5
    go_wp2
    go_ret
    exact ⟨rfl, hb6⟩

end Go.Proofs.YtphhaaofkckobaaDoor
