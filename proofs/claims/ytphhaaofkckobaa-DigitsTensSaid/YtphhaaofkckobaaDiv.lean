/-
  limbs.Div: how often, and what is left.
-/
import Derived.Test.YtphhaaofkckobaaDigit
namespace Go.Proofs.Ytphhaaofkckobaa
open Go.RowKit

/-- What divideLong answers (shown in a text of its own). -/
def LongAns (n : Nat) : Prop := 4294967296 ≤ n → ∀ (p1 p2 : Option Addr) (K1 K2 : Nat) (ds es : List Nat) (w : World), At .u32 w p1 K1 ds → At .u32 w p2 K2 es → Can 4294967296 ds → Can 4294967296 es → 2 ≤ es.length → val 4294967296 es = n → n ≤ val 4294967296 ds → ds.length ≤ 512 → es.length ≤ 512 →
  Calls Try.prog 52 #[.slice p1 ds.length K1, .slice p2 es.length K2] w fun e w' => (∃ v1 v2, e = .returned (.tuple #[v1, v2]) ∧ IsNat w' v1 (val 4294967296 ds / n) ∧ IsNat w' v2 (val 4294967296 ds % n)) ∧ Below w.heap.size w w'

/-- What a division answers. -/
def Parts (m n : Nat) (w' : World) (v1 v2 : Value) (c : Int) : Prop := (n = 0 → v1 = .slice none 0 0 ∧ v2 = .slice none 0 0 ∧ c = 10) ∧ (0 < n → c = 0 ∧ IsNat w' v1 (m / n) ∧ IsNat w' v2 (m % n))

theorem Nums.nat {w : World} {v : Value} {ds : List Nat} (h : Nums .u32 w v ds) (hc : Can 4294967296 ds) : IsNat w v (val 4294967296 ds) := ⟨ds, h, hc, rfl⟩
theorem IsNat.zero (w : World) : IsNat w (.slice none 0 0) 0 := ⟨[], .nil _ _, Can.nil _, rfl⟩

set_option maxRecDepth 100000 in
set_option maxHeartbeats 2000000 in
theorem div_of {va vb : Value} {m n : Nat} {w : World} (hlong : LongAns n) (ha : IsNat w va m) (hb : IsNat w vb n) (hm : m < maxN) (hn : n < maxN) :
    Calls Try.prog 24 #[va, vb] w fun e w' => (∃ v1 v2 c, e = .returned (.tuple #[v1, v2, .int .i64 c]) ∧ Parts m n w' v1 v2 c) ∧ Below w.heap.size w w' := by
  obtain ⟨ds, hv1, hc1, rfl⟩ := ha
  obtain ⟨es, hv2, hc2, rfl⟩ := hb
  have hl1 : ds.length ≤ 512 := hc1.len_max.2 hm
  have hl2 : es.length ≤ 512 := hc2.len_max.2 hn
  clear hm hn
  have C1 := trim_any hv1 (by omega)
  rw [hc1.2] at C1
  have H1 := Lib.hid C1
  have C2 : ∀ W, Below w.heap.size w W → Calls Try.prog 30 #[vb] W fun e w' => (∃ v, e = .returned v ∧ Nums .u32 w' v es) ∧ Below W.heap.size W w' := fun W hW => by
    have := trim_any (hv2.below hW (Nat.le_refl _)) (by omega)
    rwa [hc2.2] at this
  have H2 := Lib.hid C2
  obtain ⟨q1, k1, rfl, -⟩ := hv1
  obtain ⟨q2, k2, rfl, -⟩ := hv2
  clear C1 C2
  have HLong := Lib.hid hlong
  clear hlong
  go_enter Try.func24, Try.ntmps24
  go_wp2_with fail
  refine H1.out.mono ?_
  rintro e w1 ⟨⟨v1, rfl, hr1⟩, hB1⟩
  go_wp2_with fail
  refine (H2.out _ hB1).mono ?_
  rintro e w2 ⟨⟨v2, rfl, hr2⟩, hB2⟩
  have hB : Below w.heap.size w w2 := hB1.trans (hB2.mono hB1.size)
  have hr1 := hr1.below hB2 (Nat.le_refl _)
  clear H1 H2 hB1 hB2
  have HC := Lib.hid (compare_any hr1 hr2 hc1 hc2 hl1 hl2)
  obtain ⟨p1, K1, rfl, at1⟩ := hr1
  obtain ⟨p2, K2, rfl, at2⟩ := hr2
  have hl1' : ¬ (512 : Int) < ((ds.length : Nat) : Int) := by omega
  have hl2' : ¬ (512 : Int) < ((es.length : Nat) : Int) := by omega
  have HL1 := Lib.hid hl1; have HL2 := Lib.hid hl2
  clear hl1 hl2
  by_cases h0 : es.length = 0
  · have hz : es = [] := List.length_eq_zero_iff.1 h0
    subst hz
    go_wp2
    go_ret3
    exact ⟨⟨_, _, _, rfl, fun _ => ⟨rfl, rfl, rfl⟩, fun h => by simp [val] at h⟩, hB⟩
  · have h0' : (((es.length : Nat) : Int) == 0) = false := beq_eq_false_iff_ne.2 (by omega)
    have h0n : ¬ ((es.length : Nat) : Int) = 0 := by omega
    have hpos : 0 < val 4294967296 es := by
      rcases Nat.eq_zero_or_pos (val 4294967296 es) with h | h
      · have := hc2.eq_nil (by decide) h
        simp [this] at h0
      · exact h
    have Hpos := Lib.hid hpos; have H0 := Lib.hid h0
    clear hpos h0
    by_cases hlt : val 4294967296 ds < val 4294967296 es
    · have hcc : cmpI (val 4294967296 ds) (val 4294967296 es) = -1 := by unfold cmpI; rw [if_pos (by omega)]
      have C := HC.out
      rw [hcc] at C
      have HC := Lib.hid C
      have HLt := Lib.hid hlt
      clear C hlt hcc
      go_wp2_with fail
      refine HC.out.mono ?_
      rintro e w3 ⟨rfl, hB3⟩
      have hBx := hB.trans (hB3.mono hB.size)
      have at1 := at1.below hB3 (Nat.le_refl _)
      clear HC hB hB3
      obtain ⟨wb, rfl⟩ : ∃ wb : World, wb = w3 := ⟨_, rfl⟩
      go_upto_region 8 with (at_make; refine make_nat rfl _ _ rfl _ _ ds.length rfl rfl ?hL ?hC ?hn wb.heap.size wb (Below.refl _ _) (Nat.le_refl _) (fun w3 hr3 hB3 hB3' => ?_))
      case hL => rfl
      case hC => rfl
      case hn => have := HL1.out; omega
      have at1' := at1.below hB3 (Nat.le_refl _)
      go_upto_region 9 with (refine copy_nat rfl (.tmp 37) (.tmp 38) rfl wb.heap.size _ _ ds _ _ _ _ rfl rfl ?hd ?hs hr3 at1' ?hle wb.heap.size wb hB3 (Nat.le_refl _) (fun w4 hr4 hB4 => ?_))
      case hd => simp
      case hs => rfl
      case hle => simp
      have hr4 : Row .u32 36 w4 wb.heap.size ds := by simpa using hr4
      clear hr3 hB3 hB3' at1'
      go_wp2
      go_ret3
      refine ⟨⟨_, _, _, rfl, fun h => by have := Hpos.out; omega, fun _ => ⟨rfl, ?_, ?_⟩⟩, hBx.trans (hB4.mono hBx.size)⟩
      · rw [Nat.div_eq_of_lt HLt.out]; exact IsNat.zero _
      · rw [Nat.mod_eq_of_lt HLt.out]
        exact Nums.nat (hr4.all ds.length (Nat.le_refl _)) hc1
    · have hcc : ¬ cmpI (val 4294967296 ds) (val 4294967296 es) < 0 := by unfold cmpI; rw [if_neg (by omega)]; split <;> omega
      have HLt := Lib.hid (Nat.le_of_not_lt hlt)
      clear hlt
      generalize cmpI (val 4294967296 ds) (val 4294967296 es) = cc at *
      go_wp2_with fail
      refine HC.out.mono ?_
      rintro e w3 ⟨rfl, hB3⟩
      have hBx := hB.trans (hB3.mono hB.size)
      have at1 := at1.below hB3 (Nat.le_refl _)
      have at2 := at2.below hB3 (Nat.le_refl _)
      clear HC hB hB3
      have HX := Lib.hid hBx
      clear hBx
      by_cases h1 : es.length = 1
      · obtain ⟨d, rfl⟩ := List.length_eq_one_iff.1 h1
        have hd := hc2.1 d (by simp)
        obtain ⟨b2, o2, rfl, hk2, hb2, hy2⟩ := at2.pos (by simp)
        have hd0 := hy2 0 (by simp)
        simp only [dg, List.getElem?_cons_zero, Option.getD_some, Nat.add_zero] at hd0
        have hvd : val 4294967296 [d] = d := by simp [val]
        have D := digit_any p1 K1 d ds w3 at1 hc1.1 HL1.out (by have := Hpos.out; omega) hd
        rw [show val 4294967296 ds / d = val 4294967296 ds / val 4294967296 [d] by rw [hvd], show val 4294967296 ds % d = val 4294967296 ds % val 4294967296 [d] by rw [hvd]] at D
        have HD := Lib.hid D
        have HV := Lib.hid hvd
        have h1' : (0 : Int) < (([d].length : Nat) : Int) := by simp
        clear D hvd hy2 hc2 hl2' h1 at2 h0' h0n
        go_wp2_with (refine HD.out.mono ?_; rintro e w4 ⟨⟨v1, v2, rfl, n1, n2⟩, hB4⟩)
        go_ret3
        exact ⟨⟨_, _, _, rfl, fun h => by have := Hpos.out; omega, fun _ => ⟨rfl, n1, n2⟩⟩, HX.out.trans (hB4.mono HX.out.size)⟩
      · have h1' : (((es.length : Nat) : Int) == 1) = false := beq_eq_false_iff_ne.2 (by omega)
        have h1n : ¬ ((es.length : Nat) : Int) = 1 := by omega
        have h2 : 2 ≤ es.length := by have := H0.out; omega
        have hbig : 4294967296 ≤ val 4294967296 es := by
          have h3 := hc2.pos (by rintro rfl; simp at h2)
          have h4 := Nat.pow_le_pow_right (n := 4294967296) (by decide) (show 1 ≤ es.length - 1 by omega)
          rw [Nat.pow_one] at h4
          omega
        have HD := Lib.hid (HLong.out hbig p1 p2 K1 K2 ds es w3 at1 at2 hc1 hc2 h2 rfl HLt.out HL1.out HL2.out)
        clear h1 h2 hbig
        go_wp2_with (refine HD.out.mono ?_; rintro e w4 ⟨⟨v1, v2, rfl, n1, n2⟩, hB4⟩)
        go_ret3
        exact ⟨⟨_, _, _, rfl, fun h => by have := Hpos.out; omega, fun _ => ⟨rfl, n1, n2⟩⟩, HX.out.trans (hB4.mono HX.out.size)⟩

end Go.Proofs.Ytphhaaofkckobaa
