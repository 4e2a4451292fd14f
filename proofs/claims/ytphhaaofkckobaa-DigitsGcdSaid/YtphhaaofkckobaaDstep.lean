/-
  limbs.divideStep: a divisor taken off as often as it goes into what has one digit more.
-/
import Derived.Test.YtphhaaofkckobaaGuess
namespace Go.Proofs.Ytphhaaofkckobaa
open Go.RowKit

theorem quot_of (R Y q : Nat) (h1 : R < (q + 1) * Y) (h2 : q * Y ≤ R) : R / Y = q := by
  have hY : 0 < Y := by
    cases Y with
    | zero => simp at h1
    | succ y => omega
  refine Nat.div_eq_of_lt_le h2 ?_
  rw [Nat.mul_comm] at h1 ⊢
  simpa [Nat.mul_comm] using h1

/-- What divideStep leaves. -/
def StepPost (g : Nat) (lo seg hi ys : List Nat) (w : World) (e : Ending) (w' : World) : Prop := e = .returned (.int .u32 (val 4294967296 seg / val 4294967296 ys : Nat)) ∧ ∃ seg' : List Nat, seg'.length = seg.length ∧ Dig 4294967296 seg' ∧
  val 4294967296 seg' + val 4294967296 seg / val 4294967296 ys * val 4294967296 ys = val 4294967296 seg ∧ Row .u32 36 w' g (lo ++ (seg' ++ hi)) ∧ Only g w w'

set_option maxRecDepth 100000 in
set_option maxHeartbeats 1000000 in
theorem step_any (g off cap K2 b2 o2 m : Nat) (lo seg hi ys : List Nat) (w : World) (hoff : off = lo.length) (hrow : Row .u32 36 w g (lo ++ (seg ++ hi))) (lr : seg.length = m + 3) (ly : ys.length = m + 2) (hds : Dig 4294967296 seg) (hys : Dig 4294967296 ys) (hm : m ≤ 100000)
    (hn : 2147483648 ≤ dg ys (m + 1)) (hs : val 4294967296 seg < 4294967296 * val 4294967296 ys)
    (hb2 : b2 < w.heap.size) (hne : b2 ≠ g) (hy2 : ∀ j, j < ys.length → w.cell? ⟨b2, o2 + j, none⟩ = some (.int .u32 ((dg ys j : Nat) : Int))) :
    Calls Try.prog 68 #[.slice (some ⟨g, off, none⟩) (m + 3) cap, .slice (some ⟨b2, o2, none⟩) (m + 2) K2] w (StepPost g lo seg hi ys w) := by
  have hr2 : ∀ j, j < seg.length → w.cell? ⟨g, off + j, none⟩ = some (.int .u32 ((dg seg j : Nat) : Int)) := fun j hj => by
    have := hrow.cell (j := lo.length + j) (by simp; omega)
    rw [dg_mid hj] at this
    rw [hoff]; exact this
  have G := Lib.hid (guess_any g off cap K2 b2 o2 m seg ys w hds hys lr ly (by omega) hn hs hr2 hy2)
  have T0 : ∀ q n : Nat, q < 4294967296 → Calls Try.prog 76 #[.slice (some ⟨g, off, none⟩) (m + 3) cap, .slice (some ⟨b2, o2, none⟩) (m + 2) K2, .int .u32 q] (w.drewN n) (TakePost g q lo seg hi ys (w.drewN n)) := fun q n hq => by
    have h := take_any g off cap K2 q b2 o2 lo seg hi ys (w.drewN n) hoff (hrow.keep rfl) (by omega) hds hys hq (by omega) hb2 hne hy2
    rw [ly] at h
    exact h
  have T := Lib.hid T0; clear T0
  have V0 : ∀ (seg1 : List Nat) (W : World), Row .u32 36 W g (lo ++ (seg1 ++ hi)) → seg1.length = seg.length → Dig 4294967296 seg1 → Only g w W →
      Calls Try.prog 77 #[.slice (some ⟨g, off, none⟩) (m + 3) cap, .slice (some ⟨b2, o2, none⟩) (m + 2) K2] W (GivePost g lo seg1 hi ys W) := fun seg1 W h1 h2 h3 hO => by
    have h := give_any g off cap K2 b2 o2 lo seg1 hi ys W hoff h1 (by omega) h3 hys (by omega) (Nat.lt_of_lt_of_le hb2 hO.size) hne (fun j hj => (hO.cell (a := ⟨b2, o2 + j, none⟩) hb2 hne).trans (hy2 j hj))
    rw [ly] at h
    exact h
  have V := Lib.hid V0; clear V0
  have LR := Lib.hid lr; have HD := Lib.hid hds
  have hYp : 0 < val 4294967296 ys := by
    have h1 := val_drop 4294967296 (show m + 1 < ys.length by omega)
    have h2 : val 4294967296 ys = val 4294967296 (ys.take (m + 1)) + 4294967296 ^ (m + 1) * val 4294967296 (ys.drop (m + 1)) := by
      conv => lhs; rw [(List.take_append_drop (m + 1) ys).symm]
      rw [val_append, show (ys.take (m + 1)).length = m + 1 by simp; omega]
    have h3 := Nat.pow_pos (n := m + 1) (show 0 < 4294967296 by decide)
    have h4 := Nat.mul_pos h3 (show 0 < val 4294967296 (ys.drop (m + 1)) by omega)
    omega
  have hYl : val 4294967296 ys < 4294967296 ^ (m + 2) := by have := val_lt hys; rwa [ly] at this
  clear hr2 hy2 hds hs hrow hn hoff lr ly
  go_enter Try.func68, Try.ntmps68
  go_wp2_with fail
  refine G.out.mono ?_
  rintro e w1 ⟨⟨q, rfl, hq, hg1, hg2⟩, n, rfl⟩
  have G1 := Lib.hid hg1; have G2 := Lib.hid hg2
  clear hg1 hg2 G
  go_wp2_with fail
  refine (T.out q n hq).mono ?_
  rintro e w2 ⟨b, seg1, rfl, hl1, hd1, hv1, hr1, hO1⟩
  have hO := ((Only.refl g w).drewN n).trans hO1
  have hd1l := val_lt hd1
  rw [hl1, LR.out] at hd1l
  have hv1' := hv1
  rw [LR.out] at hv1'
  have HV := Lib.hid hv1'
  clear hv1 hv1' T
  cases b with
  | false =>
    have hq2 : q * val 4294967296 ys ≤ val 4294967296 seg := by have := HV.out; simp at this; omega
    have HQ := Lib.hid (quot_of _ _ _ G1.out hq2)
    clear hq2
    go_wp2
    go_ret
    refine ⟨ret_one (by rw [HQ.out]; rfl), seg1, hl1, hd1, ?_, hr1, hO⟩
    rw [HQ.out]
    have := HV.out
    simpa using this
  | true =>
    have hv := HV.out
    simp only [if_true] at hv
    have hq0 : q ≠ 0 := by
      rintro rfl
      simp at hv
      omega
    obtain ⟨k, rfl⟩ : ∃ k, q = k + 1 := ⟨q - 1, by omega⟩
    have hk1 := G2.out
    rw [Nat.add_sub_cancel] at hk1
    have hgt : val 4294967296 seg < (k + 1) * val 4294967296 ys := by omega
    have HQ := Lib.hid (quot_of _ _ _ hgt hk1)
    have C := Lib.hid (V.out seg1 w2 hr1 hl1 hd1 hO)
    have HV2 := Lib.hid hv
    have HK := Lib.hid hk1; have HG := Lib.hid hgt
    clear hv hk1 hgt
    go_wp2_with (go_at_call 77; refine C.out.mono ?_; rintro e w3 ⟨⟨v3, rfl⟩, c, seg2, hl2, hd2, hv2, hr2, hO2⟩)
    go_ret
    refine ⟨ret_one ?_, seg2, hl2.trans hl1, hd2, ?_, hr2, hO.trans hO2⟩
    · show Value.int .u32 _ = Value.int .u32 _
      rw [HQ.out]
    · rw [HQ.out]
      have h1 := HV2.out
      have h2 := val_lt hd2
      rw [hl2, hl1, LR.out] at h2
      rw [hl1, LR.out] at hv2
      rw [Nat.add_mul, Nat.one_mul] at h1
      have hc : c = 1 := by
        have h3 := HK.out
        have h4 := HG.out
        rw [Nat.add_mul, Nat.one_mul] at h4
        have e3 : (4294967296 : Nat) ^ (m + 3) = 4294967296 ^ (m + 2) * 4294967296 := Nat.pow_succ ..
        rw [e3] at h1 h2 hv2 hd1l
        generalize (4294967296 : Nat) ^ (m + 2) = p at *
        -- seg2 + c P = seg - k Y + P
        by_cases hc0 : c = 0
        · subst hc0; simp at hv2; omega
        · by_cases hc2 : 2 ≤ c
          · have := Nat.mul_le_mul_right (p * 4294967296) hc2
            omega
          · omega
      subst hc
      omega

end Go.Proofs.Ytphhaaofkckobaa
