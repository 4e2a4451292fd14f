/-
  limbs.guess: how often a divisor goes into what has one digit more, as the highest digits tell: that often, or once too often.
-/
import Derived.Test.YtphhaaofkckobaaStep
import Derived.BigQuiet
import Derived.Deep.QuietTactic
namespace Go.Proofs.Ytphhaaofkckobaa
open Go.RowKit

/-- What is kept from round to round: q and r make up the two highest digits; q isn't too little; it isn't far too great. -/
structure Trial (R Y high next top q r : Nat) : Prop where
  eq : q * high + r = top
  ge : R < (q + 1) * Y
  lt : r < 4294967296
  le : q ≤ 4294967297

/-- The plain facts on the digits that guess looks at: p is a power of the base, what stands lower is less. -/
structure Tops (R Y high next top third p lowR lowY : Nat) : Prop where
  eR : R = lowR + p * (top * 4294967296 + third)
  eY : Y = lowY + p * (high * 4294967296 + next)
  lR : lowR < p
  lY : lowY < p
  third_lt : third < 4294967296
  next_lt : next < 4294967296
  norm : 2147483648 ≤ high
  high_lt : high < 4294967296
  small : R < 4294967296 * Y
  topl : top ≤ high * 4294967296 + 4294967295

theorem Tops.start {R Y high next top third p lowR lowY : Nat} (h : Tops R Y high next top third p lowR lowY) : Trial R Y high next top (top / high) (top % high) := by
  have hn := h.norm
  have hm := Nat.mod_lt top (show 0 < high by omega)
  have hd := Nat.div_add_mod top high
  refine ⟨by rw [Nat.mul_comm]; exact hd, ?_, by have := h.high_lt; omega, ?_⟩
  · -- (q + 1) high > top
    have h1 : top + 1 ≤ (top / high + 1) * high := by rw [Nat.add_mul, Nat.one_mul, Nat.mul_comm]; omega
    have h2 := Nat.mul_le_mul_left (p * 4294967296) h1
    have h3 := h.lR; have h4 := h.third_lt; have h5 := h.eR; have h6 := h.eY
    have h7 : p * 4294967296 * ((top / high + 1) * high) ≤ (top / high + 1) * Y := by
      rw [h6]
      have : (top / high + 1) * (lowY + p * (high * 4294967296 + next)) = (top / high + 1) * lowY + p * 4294967296 * ((top / high + 1) * high) + (top / high + 1) * (p * next) := by grind
      omega
    have h8 : R < p * 4294967296 * (top + 1) := by
      rw [h5]
      have h9 := Nat.mul_le_mul_left p (show third + 1 ≤ 4294967296 by omega)
      have e1 : p * (top * 4294967296 + third) = p * 4294967296 * top + p * third := by grind
      have e2 : p * 4294967296 * (top + 1) = p * 4294967296 * top + p * 4294967296 := by grind
      rw [Nat.mul_add, Nat.mul_one] at h9
      rw [e1, e2]
      omega
    omega
  · have h1 := h.topl
    refine Nat.le_of_lt_succ (Nat.div_lt_of_lt_mul ?_)
    omega

theorem Tops.down {R Y high next top third p lowR lowY q r : Nat} (h : Tops R Y high next top third p lowR lowY) (t : Trial R Y high next top q r) (hc : 4294967296 ≤ q ∨ r * 4294967296 + third < q * next) :
    1 ≤ q ∧ (q - 1) * high + (r + high) = top ∧ R < (q - 1 + 1) * Y ∧ q - 1 ≤ 4294967297 := by
  have hq : 1 ≤ q := by
    rcases hc with h1 | h1
    · omega
    · cases q with
      | zero => simp at h1
      | succ q => omega
  obtain ⟨k, rfl⟩ : ∃ k, q = k + 1 := ⟨q - 1, by omega⟩
  have e1 := t.eq
  refine ⟨hq, by rw [Nat.add_sub_cancel]; rw [Nat.add_mul] at e1; omega, ?_, by have := t.le; omega⟩
  rw [Nat.add_sub_cancel]
  rcases hc with h1 | h1
  · have h2 := h.small
    have := Nat.mul_le_mul_right Y h1
    omega
  · -- (k + 1) Y3 > R3
    have h2 : top * 4294967296 + third + 1 ≤ (k + 1) * (high * 4294967296 + next) := by
      rw [← e1]
      have : (k + 1) * (high * 4294967296 + next) = (k + 1) * high * 4294967296 + (k + 1) * next := by grind
      rw [Nat.add_mul]
      omega
    have h3 := Nat.mul_le_mul_left p h2
    have h5 := h.eR; have h6 := h.eY; have h7 := h.lR
    have h8 : (k + 1) * Y = (k + 1) * lowY + p * ((k + 1) * (high * 4294967296 + next)) := by rw [h6]; grind
    rw [Nat.mul_add, Nat.mul_one] at h3
    omega

/-- What guess answers: how often, or once more. -/
def Guessed (R Y q : Nat) : Prop := q < 4294967296 ∧ R < (q + 1) * Y ∧ (q - 1) * Y ≤ R

theorem Tops.end {R Y high next top third p lowR lowY q r : Nat} (h : Tops R Y high next top third p lowR lowY) (hq : q < 4294967296) (eq : q * high + r = top) (ge : R < (q + 1) * Y) (hc : q * next ≤ r * 4294967296 + third) : Guessed R Y q := by
  refine ⟨hq, ge, ?_⟩
  -- q Y3 ≤ R3
  have h1 : q * (high * 4294967296 + next) ≤ top * 4294967296 + third := by
    rw [← eq]
    have : q * (high * 4294967296 + next) = q * high * 4294967296 + q * next := by grind
    rw [Nat.add_mul]
    omega
  have h2 := Nat.mul_le_mul_left p h1
  have h5 := h.eR; have h6 := h.eY; have h7 := h.lY; have hn := h.norm
  cases q with
  | zero => simp
  | succ k =>
    rw [Nat.add_sub_cancel]
    -- k Y < k p (Y3 + 1) ≤ p (k + 1) Y3
    have h8 : k * Y = k * lowY + p * (k * (high * 4294967296 + next)) := by rw [h6]; grind
    have h9 : k * lowY ≤ k * p := Nat.mul_le_mul_left k (by omega)
    have h10 : k * p ≤ p * (high * 4294967296 + next) := by
      rw [Nat.mul_comm]; exact Nat.mul_le_mul_left p (by omega)
    have h11 : p * ((k + 1) * (high * 4294967296 + next)) = p * (k * (high * 4294967296 + next)) + p * (high * 4294967296 + next) := by grind
    omega

theorem Tops.over {R Y high next top third p lowR lowY q r : Nat} (h : Tops R Y high next top third p lowR lowY) (t : Trial R Y high next top q r) (hq1 : 1 ≤ q) (hr : 4294967296 ≤ r + high) : q - 1 < 4294967296 ∧ (q - 1) * next ≤ (r + high) * 4294967296 + third := by
  have h1 : q - 1 < 4294967296 := by
    have e1 := t.eq; have h2 := h.topl; have hn := h.norm; have hl := t.le
    by_cases hq : q ≤ 4294967296
    · omega
    · have : q = 4294967297 := by omega
      subst this
      omega
  refine ⟨h1, ?_⟩
  have h2 : (q - 1) * next ≤ 4294967296 * 4294967295 := Nat.mul_le_mul (by omega) (by have := h.next_lt; omega)
  have h3 := Nat.mul_le_mul_right 4294967296 hr
  omega

theorem tops_of (rs ys : List Nat) (m : Nat) (hr : Dig 4294967296 rs) (hy : Dig 4294967296 ys) (lr : rs.length = m + 3) (ly : ys.length = m + 2) (hn : 2147483648 ≤ dg ys (m + 1)) (hs : val 4294967296 rs < 4294967296 * val 4294967296 ys) :
    Tops (val 4294967296 rs) (val 4294967296 ys) (dg ys (m + 1)) (dg ys m) (dg rs (m + 2) * 4294967296 + dg rs (m + 1)) (dg rs m) (4294967296 ^ m) (val 4294967296 (rs.take m)) (val 4294967296 (ys.take m)) := by
  have eR : val 4294967296 rs = val 4294967296 (rs.take m) + 4294967296 ^ m * ((dg rs (m + 2) * 4294967296 + dg rs (m + 1)) * 4294967296 + dg rs m) := by
    conv => lhs; rw [(List.take_append_drop m rs).symm]
    rw [val_append, show (rs.take m).length = m by simp; omega, val_drop _ (by omega : m < rs.length), val_drop _ (by omega : m + 1 < rs.length), val_drop _ (by omega : m + 1 + 1 < rs.length), List.drop_of_length_le (by omega)]
    simp only [val]
    rw [show m + 1 + 1 = m + 2 from rfl]
    grind
  have eY : val 4294967296 ys = val 4294967296 (ys.take m) + 4294967296 ^ m * (dg ys (m + 1) * 4294967296 + dg ys m) := by
    conv => lhs; rw [(List.take_append_drop m ys).symm]
    rw [val_append, show (ys.take m).length = m by simp; omega, val_drop _ (by omega : m < ys.length), val_drop _ (by omega : m + 1 < ys.length), List.drop_of_length_le (by omega)]
    simp only [val]
    grind
  have l1 := val_lt (hr.take m)
  have l2 := val_lt (hy.take m)
  rw [show (rs.take m).length = m by simp; omega] at l1
  rw [show (ys.take m).length = m by simp; omega] at l2
  refine ⟨eR, eY, l1, l2, hr.dg (by decide) m, hy.dg (by decide) m, hn, hy.dg (by decide) (m + 1), hs, ?_⟩
  have hb := hr.dg (by decide) (m + 1)
  -- top < B (high + 1)
  have h1 := Nat.pow_pos (n := m) (show 0 < 4294967296 by decide)
  have hN := hy.dg (by decide) m
  generalize (4294967296 : Nat) ^ m = p at *
  generalize dg rs (m + 2) = a at *
  generalize dg rs (m + 1) = b at *
  generalize dg rs m = t at *
  generalize dg ys (m + 1) = H at *
  generalize dg ys m = N at *
  rw [eR, eY] at hs
  have h2 : p * (a * 4294967296 + b) * 4294967296 < p * 4294967296 * (H * 4294967296 + 4294967296) := by
    have e1 : 4294967296 * (val 4294967296 (ys.take m) + p * (H * 4294967296 + N)) = 4294967296 * val 4294967296 (ys.take m) + p * 4294967296 * (H * 4294967296 + N) := by grind
    have e2 : p * ((a * 4294967296 + b) * 4294967296 + t) = p * (a * 4294967296 + b) * 4294967296 + p * t := by grind
    have h3 := Nat.mul_le_mul_left (p * 4294967296) (show N + 1 ≤ 4294967296 by omega)
    have e3 : p * 4294967296 * (H * 4294967296 + N) = p * 4294967296 * (H * 4294967296) + p * 4294967296 * N := Nat.mul_add _ _ _
    have e4 : p * 4294967296 * (H * 4294967296 + 4294967296) = p * 4294967296 * (H * 4294967296) + p * 4294967296 * 4294967296 := Nat.mul_add _ _ _
    rw [Nat.mul_add, Nat.mul_one] at h3
    omega
  have h4 : p * 4294967296 * (a * 4294967296 + b) < p * 4294967296 * (H * 4294967296 + 4294967296) := by
    rw [show p * 4294967296 * (a * 4294967296 + b) = p * (a * 4294967296 + b) * 4294967296 by grind]; exact h2
  have := Nat.lt_of_mul_lt_mul_left h4
  omega

set_option maxRecDepth 100000 in
set_option maxHeartbeats 2000000 in
theorem guess_any (g off cap K2 b2 o2 m : Nat) (rs ys : List Nat) (w : World) (hr : Dig 4294967296 rs) (hy : Dig 4294967296 ys) (lr : rs.length = m + 3) (ly : ys.length = m + 2) (hm : m ≤ 1000000) (hn : 2147483648 ≤ dg ys (m + 1)) (hs : val 4294967296 rs < 4294967296 * val 4294967296 ys)
    (hr2 : ∀ j, j < rs.length → w.cell? ⟨g, off + j, none⟩ = some (.int .u32 ((dg rs j : Nat) : Int))) (hy2 : ∀ j, j < ys.length → w.cell? ⟨b2, o2 + j, none⟩ = some (.int .u32 ((dg ys j : Nat) : Int))) :
    Calls Try.prog 75 #[.slice (some ⟨g, off, none⟩) (m + 3) cap, .slice (some ⟨b2, o2, none⟩) (m + 2) K2] w fun e w' => (∃ q : Nat, e = .returned (.int .u32 q) ∧ Guessed (val 4294967296 rs) (val 4294967296 ys) q) ∧ ∃ n, w' = w.drewN n := by
  have TT := Lib.hid (tops_of rs ys m hr hy lr ly hn hs)
  have y1 := hy2 (m + 1) (by omega)
  have y0 := hy2 m (by omega)
  have r2 := hr2 (m + 2) (by omega)
  have r1 := hr2 (m + 1) (by omega)
  have r0 := hr2 m (by omega)
  have ly1 : dg ys (m + 1) < 4294967296 := hy.dg (by decide) _
  have ly0 : dg ys m < 4294967296 := hy.dg (by decide) _
  have lr2 : dg rs (m + 2) < 4294967296 := hr.dg (by decide) _
  have lr1 : dg rs (m + 1) < 4294967296 := hr.dg (by decide) _
  have lr0 : dg rs m < 4294967296 := hr.dg (by decide) _
  have hor := Lib.hid (or_hi (dg rs (m + 2)) (dg rs (m + 1)) lr2 lr1)
  clear hr2 hy2 hr hy lr ly hs
  generalize val 4294967296 rs = R at *
  generalize val 4294967296 ys = Y at *
  generalize dg ys (m + 1) = H at *
  generalize dg ys m = N at *
  generalize dg rs (m + 2) = a at *
  generalize dg rs (m + 1) = b at *
  generalize dg rs m = T at *
  go_enter Try.func75, Try.ntmps75
  go_wp2_with fail
  go_quiet (fail)
  obtain ⟨n1, rfl⟩ : ∃ n1, n1 = nq := ⟨_, rfl⟩
  go_wp2_with fail
  go_quiet (fail)
  obtain ⟨n2, rfl⟩ : ∃ n2, n2 = nq := ⟨_, rfl⟩
  go_wp2_with fail
  rw [hor.out]
  obtain ⟨t, ht⟩ : ∃ t, a * 4294967296 + b = t := ⟨_, rfl⟩
  rw [ht] at TT ⊢
  have htl : t < 18446744073709551616 := by omega
  have hH0 : (0 : Int) < (H : Int) := by omega
  have hHne : ((H : Int) == 0) = false := by simp; omega
  clear ht hor
  have Htl := Lib.hid htl; clear htl
  go_quiet (fail)
  have eq1 : IntKind.u64.wrap ((t : Int) / (H : Int)) = ((t / H : Nat) : Int) := by
    rw [← Int.natCast_ediv]
    have := Nat.div_le_self t H
    have := Htl.out
    generalize t / H = q at *
    exact wraps_u64 _ (by omega) (by omega)
  have eq2 : ((t : Int) % (H : Int)) = ((t % H : Nat) : Int) := by rw [← Int.natCast_emod]
  rw [eq1, eq2]
  clear eq1 eq2
  obtain ⟨wq, hwq⟩ : ∃ wq, ((w.drewN n1).drewN n2).drewN nq = wq := ⟨_, rfl⟩
  rw [hwq]
  have HW : ∃ n, wq = w.drewN n := ⟨n1 + n2 + nq, by rw [← hwq]; simp [World.drewN, Nat.add_assoc]⟩
  have r0 : wq.cell? ⟨g, off + m, none⟩ = some (.int .u32 (T : Int)) := by rw [← hwq]; exact r0
  have HW := Lib.hid HW
  clear hwq
  have hnext : (N : Int) < 4294967296 := by omega
  have hT : (T : Int) < 4294967296 := by omega
  have hHl : (H : Int) < 4294967296 := by omega
  go_wp2_with fail
  go_loop [9, 10] (fun sq sr => ∃ q r : Nat, sq = .int .u64 q ∧ sr = .int .u64 r ∧ r < 4294967296 ∧ q ≤ 4294967297 ∧ Trial R Y H N t q r) (fun sq _ => (intOf sq).toNat)
  case atStart => exact ⟨t / H, t % H, rfl, rfl, TT.out.start.lt, TT.out.start.le, TT.out.start⟩
  case round =>
    obtain ⟨q, r, rfl, rfl, hrl, hql, hT0⟩ := hrel
    have HT := Lib.hid hT0
    clear hT0
    by_cases hA : 4294967296 ≤ q
    · have hA' : (0 : Int) < (q : Int) / 4294967296 := by omega
      obtain ⟨d1, d2, d3, d4⟩ := TT.out.down HT.out (.inl hA)
      have D2 := Lib.hid d2; have D3 := Lib.hid d3
      clear d2 d3
      by_cases hbr : 4294967296 ≤ r + H
      · have hbr' : (0 : Int) < ((r : Int) + (H : Int)) / 4294967296 := by omega
        obtain ⟨o1, o2'⟩ := TT.out.over HT.out d1 hbr
        have G := Lib.hid (TT.out.end o1 D2.out D3.out o2')
        clear o2' hbr
        go_wp2
        go_ret
        exact ⟨⟨q - 1, ret_one (by show Value.int .u32 _ = Value.int .u32 _; congr 1; omega), G.out⟩, HW.out⟩
      · have hbr' : ¬ (0 : Int) < ((r : Int) + (H : Int)) / 4294967296 := by omega
        go_wp2
        go_round
        case rel => exact ⟨q - 1, r + H, by show Value.int .u64 _ = Value.int .u64 _; congr 1; omega, by go_num, by omega, by omega, D2.out, D3.out, by omega, d4⟩
        case measure => simp [intOf]; omega
    · have hA' : ¬ (0 : Int) < (q : Int) / 4294967296 := by omega
      have hp : q * N ≤ 4294967295 * 4294967295 := Nat.mul_le_mul (by omega) (by omega)
      have hm0 : (0 : Int) ≤ (q : Int) * (N : Int) := by rw [← Int.natCast_mul]; omega
      have hm1 : (q : Int) * (N : Int) ≤ 18446744065119617025 := by rw [← Int.natCast_mul]; omega
      have hor2 := or_hi r T hrl (by omega)
      obtain ⟨Z, hZ⟩ : ∃ Z, r * 4294967296 + T = Z := ⟨_, rfl⟩
      have HZ := Lib.hid hZ
      rw [hZ] at hor2
      obtain ⟨M, hM⟩ : ∃ M, q * N = M := ⟨_, rfl⟩
      have hM' : (q : Int) * (N : Int) = (M : Int) := by rw [← Int.natCast_mul, hM]
      have HM := Lib.hid hM
      clear hM hZ
      by_cases hB : Z < M
      · have hB' : (Z : Int) < (q : Int) * (N : Int) := by omega
        obtain ⟨d1, d2, d3, d4⟩ := TT.out.down HT.out (.inr (by rw [HZ.out, HM.out]; exact hB))
        clear hM'
        have D2 := Lib.hid d2; have D3 := Lib.hid d3
        clear d2 d3 hB hp
        by_cases hbr : 4294967296 ≤ r + H
        · have hbr' : (0 : Int) < ((r : Int) + (H : Int)) / 4294967296 := by omega
          obtain ⟨o1, o2'⟩ := TT.out.over HT.out d1 hbr
          have G := Lib.hid (TT.out.end o1 D2.out D3.out o2')
          clear o2' hbr
          go_wp2
          go_ret
          exact ⟨⟨q - 1, ret_one (by show Value.int .u32 _ = Value.int .u32 _; congr 1; omega), G.out⟩, HW.out⟩
        · have hbr' : ¬ (0 : Int) < ((r : Int) + (H : Int)) / 4294967296 := by omega
          go_wp2
          go_round
          case rel => exact ⟨q - 1, r + H, by show Value.int .u64 _ = Value.int .u64 _; congr 1; omega, by go_num, by omega, by omega, D2.out, D3.out, by omega, d4⟩
          case measure => simp [intOf]; omega
      · have hB' : ¬ (Z : Int) < (q : Int) * (N : Int) := by omega
        have G := Lib.hid (TT.out.end (by omega) HT.out.eq HT.out.ge (by rw [HZ.out, HM.out]; omega))
        clear hB hp hM'
        go_wp2
        go_ret
        exact ⟨⟨q, ret_one (by show Value.int .u32 _ = Value.int .u32 _; congr 1), G.out⟩, HW.out⟩

end Go.Proofs.Ytphhaaofkckobaa
