/-
  girdlelaw01.is: the digits of a number against those of the reckoning to the base 256.
-/
import Derived.Test.YtphhaaofkckobaaDoorRback
import Derived.Test.YtphhaaofkckobaaDoorEqual
import Derived.Test.YtphhaaofkckobaaDoorFit
namespace Go.Proofs.YtphhaaofkckobaaDoor
open Go.RowKit

/-- Are both the same number? (behind a name that no walk takes apart) -/
def sameB (m n : Nat) : Bool := decide (m = n)
theorem sameB_pos {m n : Nat} (h : m = n) : sameB m n = true := decide_eq_true h
theorem sameB_neg {m n : Nat} (h : m ≠ n) : sameB m n = false := decide_eq_false h

theorem check_can {va : Value} {m : Nat} {w : World} (ha : IsNat w va m) (hm : m < maxN) :
    Calls Tryd.prog 31 #[va] w fun e w' => e = .returned (.int .i64 0) ∧ Below w.heap.size w w' := by
  obtain ⟨ds, hn, hc, rfl⟩ := ha
  have hl : ds.length ≤ 512 := hc.len_max.2 hm
  exact (check_any hn (by omega)).mono fun e w' h => ⟨h.1.trans (by rw [(check_zero hl).2 hc.2]; rfl), h.2⟩

theorem equal_nums {va vb : Value} {m n : Nat} {w : World} (ha : IsNat w va m) (hb : IsNat w vb n) (hm : m < maxN) :
    Calls Tryd.prog 38 #[va, vb] w fun e w' => e = .returned (.bool (sameB m n)) ∧ Below w.heap.size w w' := by
  obtain ⟨ds, ⟨p1, K1, rfl, at1⟩, c1, v1⟩ := ha
  obtain ⟨es, ⟨p2, K2, rfl, at2⟩, c2, v2⟩ := hb
  have hl : ds.length ≤ 512 := c1.len_max.2 (by omega)
  have h := equal_u32 p1 p2 K1 K2 ds es w at1 at2 (by omega)
  have e : decide (ds = es) = sameB m n := by
    unfold sameB
    rw [Bool.eq_iff_iff, decide_eq_true_iff, decide_eq_true_iff]
    exact ⟨fun e => by rw [← v1, ← v2, e], fun e => Can.uniq (by decide) c1 c2 (by rw [v1, v2, e])⟩
  rw [e] at h
  exact h

set_option maxRecDepth 100000 in
set_option maxHeartbeats 1000000 in
theorem is_any {va vd : Value} {m n : Nat} {w : World} (ha : IsNat w va m) (hd : IsRef w vd n) (hm : m < maxN) (hn : n < maxN) :
    Calls Tryd.prog 15 #[va, vd] w fun e w' => e = .returned (.bool (sameB m n)) ∧ Below w.heap.size w w' := by
  have C1 := Lib.hid (back_any hd hn)
  have HM := Lib.hid hm
  by_cases hmn : m = n
  · rw [sameB_pos hmn]
    have HE := Lib.hid (sameB_pos hmn)
    clear hmn hm hn
    go_enter Tryd.func15, Tryd.ntmps15
    go_wp2_with fail
    refine C1.out.mono ?_
    rintro e w1 ⟨⟨vb, rfl, hb⟩, hb1⟩
    have ha := ha.below hb1 (Nat.le_refl _)
    have C := equal_nums ha hb HM.out
    rw [HE.out] at C
    have HC := Lib.hid C
    clear C
    go_wp2_with fail
    refine HC.out.mono ?_
    rintro e w2 ⟨rfl, hB⟩
    have ha := ha.below hB (Nat.le_refl _)
    have hb2 := hb1.trans (hB.mono hb1.size)
    have C := Lib.hid (check_can ha HM.out)
    go_wp2_with fail
    refine C.out.mono ?_
    rintro e w3 ⟨rfl, hB3⟩
    go_wp2
    go_ret
    exact ⟨rfl, hb2.trans (hB3.mono hb2.size)⟩
  · rw [sameB_neg hmn]
    have HE := Lib.hid (sameB_neg hmn)
    clear hmn hm hn
    go_enter Tryd.func15, Tryd.ntmps15
    go_wp2_with fail
    refine C1.out.mono ?_
    rintro e w1 ⟨⟨vb, rfl, hb⟩, hb1⟩
    have ha := ha.below hb1 (Nat.le_refl _)
    have C := equal_nums ha hb HM.out
    rw [HE.out] at C
    have HC := Lib.hid C
    clear C
    go_wp2_with fail
    refine HC.out.mono ?_
    rintro e w2 ⟨rfl, hB⟩
    go_wp2
    go_ret
    exact ⟨rfl, hb1.trans (hB.mono hb1.size)⟩

/-- Two numbers, in the list that 'fit' is given. -/
theorem fit_two (p1 p2 : Option Addr) (K1 K2 : Nat) (ds1 ds2 : List Nat) (w : World) (h1 : At .u32 w p1 K1 ds1) (h2 : At .u32 w p2 K2 ds2) (l1 l2 : Nat) (e1 : ds1.length = l1) (e2 : ds2.length = l2) :
    Calls Tryd.prog 12 #[.slice (some ⟨w.heap.size, 0, none⟩) 2 2] (w.alloc (.cells #[.slice p1 l1 K1, .slice p2 l2 K2] 23)) fun e w' => (∃ b, e = .returned (.bool b) ∧ Hid (b = true → Tried ds1 ∧ Tried ds2)) ∧ Below w.heap.size w w' := by
  subst e1; subst e2
  have hB := (Below.refl w.heap.size w).alloc (Nat.le_refl _) (.cells #[.slice p1 ds1.length K1, .slice p2 ds2.length K2] 23)
  refine (fit_any w.heap.size 2 (fun j => match j with | 0 => p1 | _ => p2) (fun j => match j with | 0 => K1 | _ => K2) (fun j => match j with | 0 => ds1 | _ => ds2) _ (by simp) (by decide) fun j hj => ?_).mono
    fun e w' h => ⟨⟨_, h.1, fun hb => ⟨triedAll_out hb 0 (by decide), triedAll_out hb 1 (by decide)⟩⟩, hB.trans (h.2.mono (by simp))⟩
  match j, hj with
  | 0, _ => exact ⟨by simp [go_sem], h1.below hB (Nat.le_refl _)⟩
  | 1, _ => exact ⟨by simp [go_sem], h2.below hB (Nat.le_refl _)⟩

end Go.Proofs.YtphhaaofkckobaaDoor
