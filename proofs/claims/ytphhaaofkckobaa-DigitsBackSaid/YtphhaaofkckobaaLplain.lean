/-
  Plain facts for the long division of limbs, digit by digit.
-/
import Derived.Test.YtphhaaofkckobaaRplain
import Derived.Test.YtphhaaofkckobaaDiv
namespace Go.Proofs.Ytphhaaofkckobaa

/-- What holds when the digits from i on are found. -/
structure LongInv (xs rs qs : List Nat) (i N Y : Nat) : Prop where
  rl : rs.length = xs.length
  rd : Dig 4294967296 rs
  lo : ∀ j, j < i → dg rs j = dg xs j
  eq : val 4294967296 (xs.drop i) = val 4294967296 (qs.drop i) * Y + val 4294967296 (rs.drop i)
  lt : val 4294967296 (rs.drop i) < Y
  ql : qs.length = N
  qd : Dig 4294967296 qs

theorem high_zero {rs : List Nat} {i lb Y : Nat} (h : val 4294967296 (rs.drop (i + 1)) < Y) (hY : Y ≤ 4294967296 ^ lb) : val 4294967296 (rs.drop (i + (lb + 1))) = 0 := by
  have h1 : val 4294967296 (rs.drop (i + 1)) = val 4294967296 ((rs.drop (i + 1)).take lb) + 4294967296 ^ ((rs.drop (i + 1)).take lb).length * val 4294967296 ((rs.drop (i + 1)).drop lb) := by
    conv => lhs; rw [(List.take_append_drop lb (rs.drop (i + 1))).symm]
    exact val_append _ _ _
  rw [List.drop_drop, show i + 1 + lb = i + (lb + 1) by omega] at h1
  rcases Nat.eq_zero_or_pos (val 4294967296 (rs.drop (i + (lb + 1)))) with h2 | h2
  · exact h2
  · exfalso
    have h3 : ((rs.drop (i + 1)).take lb).length = lb := by
      rw [List.length_take]
      refine Nat.min_eq_left ?_
      rcases Nat.lt_or_ge (rs.drop (i + 1)).length lb with h | h
      · exfalso
        rw [List.drop_of_length_le (by simp at h; omega)] at h2
        simp [val] at h2
      · exact h
    rw [h3] at h1
    have := Nat.le_mul_of_pos_right (4294967296 ^ lb) h2
    omega

theorem LongInv.seg {xs rs qs : List Nat} {i N Y lb : Nat} (h : LongInv xs rs qs (i + 1) N Y) (hi : i < N) (hN : N + lb = xs.length) (hY : Y ≤ 4294967296 ^ lb) :
    ((rs.drop i).take (lb + 1)).length = lb + 1 ∧ val 4294967296 ((rs.drop i).take (lb + 1)) = dg rs i + 4294967296 * val 4294967296 (rs.drop (i + 1)) ∧ val 4294967296 ((rs.drop i).take (lb + 1)) < 4294967296 * Y := by
  have h0 := high_zero h.lt hY
  have hl : ((rs.drop i).take (lb + 1)).length = lb + 1 := by have := h.rl; simp; omega
  have h1 : val 4294967296 (rs.drop i) = val 4294967296 ((rs.drop i).take (lb + 1)) + 4294967296 ^ ((rs.drop i).take (lb + 1)).length * val 4294967296 ((rs.drop i).drop (lb + 1)) := by
    conv => lhs; rw [(List.take_append_drop (lb + 1) (rs.drop i)).symm]
    exact val_append _ _ _
  rw [List.drop_drop, h0, Nat.mul_zero, Nat.add_zero, val_drop_all] at h1
  refine ⟨hl, h1.symm, ?_⟩
  rw [← h1]
  have h2 := h.lt
  have h3 := h.rd.dg (by decide) i
  omega

theorem LongInv.step {xs rs qs seg' : List Nat} {i N Y lb S : Nat} (h : LongInv xs rs qs (i + 1) N Y) (hi : i < N) (hN : N + lb = xs.length) (hY : Y ≤ 4294967296 ^ lb) (hY0 : 0 < Y)
    (hS : S = val 4294967296 ((rs.drop i).take (lb + 1))) (hl : seg'.length = lb + 1) (hd : Dig 4294967296 seg') (hv : val 4294967296 seg' + S / Y * Y = S) :
    LongInv xs (rs.take i ++ (seg' ++ rs.drop (i + (lb + 1)))) (qs.set i (S / Y)) i N Y := by
  obtain ⟨h1, h2, h3⟩ := h.seg hi hN hY
  have h0 := high_zero h.lt hY
  have hrl := h.rl
  have hti : (rs.take i).length = i := by simp; omega
  have hdr : (rs.take i ++ (seg' ++ rs.drop (i + (lb + 1)))).drop i = seg' ++ rs.drop (i + (lb + 1)) := by
    rw [List.drop_append, hti, Nat.sub_self, List.drop_zero, List.drop_of_length_le (by omega), List.nil_append]
  have hq : S / Y < 4294967296 := by
    rw [← hS] at h3
    exact (Nat.div_lt_iff_lt_mul hY0).2 h3
  have hmod : val 4294967296 seg' = S % Y := by
    have := Nat.div_add_mod S Y
    rw [Nat.mul_comm] at this
    omega
  refine ⟨by simp; omega, ((h.rd.take i).append (hd.append (h.rd.drop _))), fun j hj => ?_, ?_, ?_, by rw [List.length_set]; exact h.ql, h.qd.set i hq⟩
  · rw [dg_append_left _ (by omega), dg_take _ hj]
    exact h.lo j (by omega)
  · rw [hdr, val_append, h0, Nat.mul_zero, Nat.add_zero, val_drop_all _ xs i, val_drop_all _ (qs.set i (S / Y)) i, dg_set _ _ _ _ (by have := h.ql; omega), if_pos rfl, List.drop_set_of_lt (by omega), h.eq, ← h.lo i (by omega)]
    rw [h2] at hS
    generalize val 4294967296 (rs.drop (i + 1)) = R at *
    generalize val 4294967296 (qs.drop (i + 1)) = Q at *
    generalize S / Y = q at *
    grind
  · rw [hdr, val_append, h0, Nat.mul_zero, Nat.add_zero, hmod]
    exact Nat.mod_lt _ hY0

theorem LongInv.start {xs : List Nat} {N Y lb la n A b : Nat} (hd : Dig 4294967296 xs) (hN : N + lb = xs.length) (hla : xs.length = la + 1) (hv : val 4294967296 xs = 2 ^ n * A) (hA : A < 4294967296 ^ la) (hY : Y = 2 ^ n * b) (hlb : 1 ≤ lb) (hb : 4294967296 ^ (lb - 1) ≤ b) :
    LongInv xs xs (List.replicate N 0) N N Y := by
  refine ⟨rfl, hd, fun _ _ => rfl, ?_, ?_, by simp, fun y hy => by simp at hy; omega⟩
  · rw [List.drop_of_length_le (l := List.replicate N 0) (by simp)]; simp [val]
  · have h1 := val_take_add 4294967296 xs N lb
    rw [List.take_of_length_le (l := xs) (by omega), List.take_of_length_le (l := xs.drop N) (by rw [List.length_drop]; omega)] at h1
    have h2 : 4294967296 ^ N * val 4294967296 (xs.drop N) < 2 ^ n * 4294967296 ^ la := by
      refine Nat.lt_of_le_of_lt ?_ (Nat.mul_lt_mul_of_pos_left hA (Nat.pow_pos (n := n) (show 0 < 2 by decide)))
      rw [← hv, h1]
      exact Nat.le_add_left _ _
    rw [show la = N + (lb - 1) by omega, Nat.pow_add, show 2 ^ n * (4294967296 ^ N * 4294967296 ^ (lb - 1)) = 4294967296 ^ N * (2 ^ n * 4294967296 ^ (lb - 1)) by grind] at h2
    have h3 := Nat.lt_of_mul_lt_mul_left h2
    have h4 := Nat.mul_le_mul_left (2 ^ n) hb
    omega

theorem LongInv.fin {xs rs qs : List Nat} {N Y n A b lb : Nat} (h : LongInv xs rs qs 0 N Y) (hv : val 4294967296 xs = 2 ^ n * A) (hY : Y = 2 ^ n * b) (hYl : Y ≤ 4294967296 ^ lb) :
    val 4294967296 qs = A / b ∧ val 4294967296 (rs.take lb) / 2 ^ n = A % b := by
  have h1 := h.eq
  have h2 := h.lt
  rw [List.drop_zero, List.drop_zero, List.drop_zero, hv] at h1
  rw [List.drop_zero] at h2
  have hp := Nat.pow_pos (n := n) (show 0 < 2 by decide)
  have h0 : 0 < Y := by omega
  have h3 : val 4294967296 (rs.take lb) = val 4294967296 rs := by
    have h4 : val 4294967296 rs = val 4294967296 (rs.take lb) + 4294967296 ^ (rs.take lb).length * val 4294967296 (rs.drop lb) := by
      conv => lhs; rw [(List.take_append_drop lb rs).symm]
      exact val_append _ _ _
    rcases Nat.lt_or_ge rs.length lb with h | h
    · rw [List.take_of_length_le (by omega)]
    · rw [show (rs.take lb).length = lb by simp; omega] at h4
      rcases Nat.eq_zero_or_pos (val 4294967296 (rs.drop lb)) with h5 | h5
      · rw [h5] at h4; omega
      · exfalso
        have := Nat.le_mul_of_pos_right (4294967296 ^ lb) h5
        omega
  rw [h3]
  constructor
  · rw [← Nat.mul_div_mul_left A b hp, h1, ← hY, Nat.mul_comm, Nat.mul_add_div h0, Nat.div_eq_of_lt h2, Nat.add_zero]
  · have h6 : 2 ^ n * (A % b) = val 4294967296 rs := by
      rw [← Nat.mul_mod_mul_left, h1, ← hY, Nat.mul_comm, Nat.mul_add_mod, Nat.mod_eq_of_lt h2]
    rw [← h6, Nat.mul_div_cancel_left _ hp]

theorem norm_facts (bs : List Nat) (lb n : Nat) (hl : bs.length = lb + 1) (hc : Can 4294967296 bs) (hn : n = 32 - Lib.bitLen (dg bs lb)) :
    n < 32 ∧ 2147483648 * 4294967296 ^ lb ≤ 2 ^ n * val 4294967296 bs ∧ 2 ^ n * val 4294967296 bs < 4294967296 ^ (lb + 1) ∧ 4294967296 ^ lb ≤ val 4294967296 bs := by
  have h0 : dg bs lb ≠ 0 := by
    have := hc.top (by rintro rfl; simp at hl)
    rwa [hl, Nat.add_sub_cancel] at this
  have ht := hc.1.dg (by decide) lb
  obtain ⟨b1, b2, b3⟩ := blen_bounds (dg bs lb) ht h0
  have b4 := blen_le (dg bs lb) ht
  have hv := val_split 4294967296 bs lb
  rw [List.drop_of_length_le (by omega)] at hv
  have hlo := val_lt (hc.1.take lb)
  rw [show (bs.take lb).length = lb by simp; omega] at hlo
  simp only [val, Nat.mul_zero, Nat.add_zero] at hv
  rw [Nat.pow_succ]
  generalize dg bs lb = t at *
  generalize Lib.bitLen t = l at *
  have e1 : 2 ^ n * 2 ^ (l - 1) = 2147483648 := by
    rw [← Nat.pow_add, show n + (l - 1) = 31 by omega]
  have e2 : 2 ^ n * 2 ^ l = 4294967296 := by
    rw [← Nat.pow_add, show n + l = 32 by omega]
  generalize (4294967296 : Nat) ^ lb = p at *
  have hp : p ≤ p * t := Nat.le_mul_of_pos_right p (by omega)
  refine ⟨by omega, ?_, ?_, by omega⟩
  · have h1 := Nat.mul_le_mul_left (2 ^ n) b2
    have h2 := Nat.mul_le_mul_right p h1
    rw [e1] at h2
    have h3 : 2 ^ n * val 4294967296 bs = 2 ^ n * val 4294967296 (bs.take lb) + 2 ^ n * t * p := by rw [hv]; grind
    omega
  · have h1 := Nat.mul_le_mul_left (2 ^ n) (show t + 1 ≤ 2 ^ l by omega)
    rw [e2] at h1
    have h2 := Nat.mul_le_mul_right p h1
    have h3 : val 4294967296 bs < (t + 1) * p := by rw [hv, Nat.add_mul, Nat.one_mul, Nat.mul_comm t p]; omega
    have h4 := Nat.mul_lt_mul_of_pos_left h3 (Nat.pow_pos (n := n) (show 0 < 2 by decide))
    rw [← Nat.mul_assoc] at h4
    have h5 : p * 4294967296 = 4294967296 * p := Nat.mul_comm _ _
    omega

theorem norm_top (ys : List Nat) (lb : Nat) (hl : ys.length = lb + 1) (hd : Dig 4294967296 ys) (h : 2147483648 * 4294967296 ^ lb ≤ val 4294967296 ys) : 2147483648 ≤ dg ys lb := by
  have hv := val_split 4294967296 ys lb
  rw [List.drop_of_length_le (by omega)] at hv
  have hlo := val_lt (hd.take lb)
  rw [show (ys.take lb).length = lb by simp; omega] at hlo
  simp only [val, Nat.mul_zero, Nat.add_zero] at hv
  generalize (4294967296 : Nat) ^ lb = p at *
  generalize dg ys lb = t at *
  rcases Nat.lt_or_ge t 2147483648 with h1 | h1
  · exfalso
    have := Nat.mul_le_mul_left p (show t + 1 ≤ 2147483648 by omega)
    rw [Nat.mul_add, Nat.mul_one, Nat.mul_comm p 2147483648] at this
    omega
  · exact h1

theorem dg_zeros (n j : Nat) : dg (List.replicate n 0) j = 0 := by
  unfold dg
  rw [List.getElem?_replicate]
  split <;> rfl

/-- The highest digit of what has room without it is nothing. -/
theorem top_zero {cs : List Nat} {m : Nat} (hl : cs.length = m + 1) (hv : val 4294967296 cs < 4294967296 ^ m) : val 4294967296 (cs.take m) = val 4294967296 cs := by
  have h := val_split 4294967296 cs m
  rw [List.drop_of_length_le (by omega)] at h
  simp only [val, Nat.mul_zero, Nat.add_zero] at h
  rcases Nat.eq_zero_or_pos (dg cs m) with h1 | h1
  · rw [h1] at h; omega
  · exfalso
    have := Nat.le_mul_of_pos_right (4294967296 ^ m) h1
    omega

end Go.Proofs.Ytphhaaofkckobaa
