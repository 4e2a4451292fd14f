/-
  girdlelaw01.LimbsBounds, as a walk: whatever the two lengths, it returns true.
-/
import Derived.Test.YtdcbcpjphaggeaaDoorLrings
namespace Go.Proofs.YtdcbcpjphaggeaaDoor
open Go.RowKit

theorem make_one {o : Oper} {a : Act} {K : Act → World → Prop} {Q : Exit → Act → World → Prop} {w : World} (l c : Operand) (hop : o.op = Op.makeSlice 23 l c) (L C : Int) (n : Nat) (hl : a.eval l = .int .i64 L) (hc : a.eval c = .int .i64 C) (hL : L = (n : Int)) (hC : C = (n : Int))
    (hn : n ≤ 1000000000) (hK : ∀ w', Row .u32 35 w' w.heap.size (List.replicate n 0) → Below w.heap.size w w' → K (a.put o.dst (.slice (some ⟨w.heap.size, 0, none⟩) n n)) w') : o.wp Tryd.prog a w K Q := by
  obtain ⟨i0, hi, hz0, hz1, hz2⟩ := info_parts info_u32
  obtain ⟨w', hrun, r1, r2⟩ := run_make_full (P := Tryd.prog) w w.heap.size 23 35 i0 (.int .u32 0) 1 Tryd.underlying23 hi hz0 hz1 .i64 .i64 n (by rw [hz2]; omega) (by unfold maxLen; omega) (Nat.le_refl _)
  subst hL
  subst hC
  unfold Oper.wp
  simp [execOp, hop, hl, hc, hrun, Result.andThen]
  exact hK w' (made_row r1) ((Below.refl _ w).grown r2 (Nat.le_refl _) (fun _ e => by cases e))

theorem maxN_pow (k : Nat) (hk : k = 512) : maxN = 4294967296 ^ k := by
  unfold maxN
  rw [hk]

/-- Ones alone. -/
def ones (n : Nat) : List Nat := List.replicate n 4294967295
theorem ones_len (n : Nat) : (ones n).length = n := by simp [ones]
theorem ones_dig (n : Nat) : Dig 4294967296 (ones n) := fun x hx => by
  have := List.eq_of_mem_replicate hx
  omega
theorem ones_val : ∀ n : Nat, val 4294967296 (ones n) + 1 = 4294967296 ^ n
  | 0 => rfl
  | n + 1 => by
    have ih := ones_val n
    have e : val 4294967296 (ones (n + 1)) = 4294967295 + 4294967296 * val 4294967296 (ones n) := rfl
    rw [e, Nat.pow_succ, ← ih]
    omega
theorem ones_cut : ∀ n : Nat, cut (ones n) = ones n
  | 0 => rfl
  | n + 1 => by
    have ih := ones_cut n
    have e : ones (n + 1) = 4294967295 :: ones n := rfl
    rw [e]
    by_cases h : cut (ones n) = []
    · rw [cut_cons_nil _ _ h, if_neg (by decide), ← ih, h]
    · rw [cut_cons_ne _ _ h, ih]
theorem ones_can (n : Nat) : Can 4294967296 (ones n) := ⟨ones_dig n, ones_cut n⟩
theorem ones_check (n : Nat) : checkOf (ones n) = if n ≤ 512 then 0 else 11 := by
  by_cases h : n ≤ 512
  · rw [if_pos h, (check_zero (by rw [ones_len]; exact h)).2 (ones_cut n)]
  · unfold checkOf
    rw [if_neg h, if_pos (by rw [ones_len]; omega)]

theorem ones_lt {n : Nat} : val 4294967296 (ones n) < maxN ↔ n ≤ 512 := by
  have := (ones_can n).len_max
  rw [ones_len] at this
  exact this.symm

theorem ones_mul {n m : Nat} (hn : 1 ≤ n) (hm : 1 ≤ m) : val 4294967296 (ones n) * val 4294967296 (ones m) < maxN ↔ n + m ≤ 512 := by
  have h1 := ones_val n
  have h2 := ones_val m
  have p1 : (4294967296 : Nat) ^ n = 4294967296 * 4294967296 ^ (n - 1) := by rw [← Nat.pow_succ']; congr 1; omega
  have p2 : (4294967296 : Nat) ^ m = 4294967296 * 4294967296 ^ (m - 1) := by rw [← Nat.pow_succ']; congr 1; omega
  have q1 := Nat.pow_pos (n := n - 1) (show 0 < 4294967296 by decide)
  have q2 := Nat.pow_pos (n := m - 1) (show 0 < 4294967296 by decide)
  have p3 : (4294967296 : Nat) ^ (n + m - 1) = 4294967296 * (4294967296 ^ (n - 1) * 4294967296 ^ (m - 1)) := by rw [← Nat.pow_add, ← Nat.pow_succ']; congr 1; omega
  have p4 : (4294967296 : Nat) ^ (n + m) = 4294967296 * 4294967296 * (4294967296 ^ (n - 1) * 4294967296 ^ (m - 1)) := by rw [Nat.pow_add, p1, p2]; generalize (4294967296 : Nat) ^ (n - 1) = x; generalize (4294967296 : Nat) ^ (m - 1) = y; grind
  have hmul : val 4294967296 (ones n) * val 4294967296 (ones m) < 4294967296 ^ (n + m) := by
    rw [Nat.pow_add, ← h1, ← h2]
    exact Nat.mul_lt_mul'' (by omega) (by omega)
  have hge : 4294967296 ^ (n + m - 1) ≤ val 4294967296 (ones n) * val 4294967296 (ones m) := by
    rw [p3]
    have a1 : 65536 * 4294967296 ^ (n - 1) ≤ val 4294967296 (ones n) := by omega
    have a2 : 65536 * 4294967296 ^ (m - 1) ≤ val 4294967296 (ones m) := by omega
    have := Nat.mul_le_mul a1 a2
    generalize (4294967296 : Nat) ^ (n - 1) = x at *
    generalize (4294967296 : Nat) ^ (m - 1) = y at *
    have e : 65536 * x * (65536 * y) = 4294967296 * (x * y) := by grind
    rw [e] at this
    exact this
  constructor
  · intro h
    rcases Nat.lt_or_ge 512 (n + m) with h3 | h3
    · have := maxN_le (n + m - 1) (by omega)
      omega
    · exact h3
  · intro h
    obtain ⟨k, hk⟩ : ∃ k : Nat, k = 512 := ⟨_, rfl⟩
    have h3 := Nat.pow_le_pow_right (n := 4294967296) (show 0 < 4294967296 by decide) (show n + m ≤ k by omega)
    rw [maxN_pow k hk]
    exact Nat.lt_of_lt_of_le hmul h3

theorem ones_add {n m : Nat} (hn : 1 ≤ n) (hm : 1 ≤ m) : val 4294967296 (ones n) + val 4294967296 (ones m) < maxN ↔ n ≤ 511 ∧ m ≤ 511 := by
  have h1 := ones_val n
  have h2 := ones_val m
  have p1 := Nat.pow_le_pow_right (n := 4294967296) (show 0 < 4294967296 by decide) hn
  have p2 := Nat.pow_le_pow_right (n := 4294967296) (show 0 < 4294967296 by decide) hm
  rw [Nat.pow_one] at p1 p2
  constructor
  · intro h
    constructor
    · rcases Nat.lt_or_ge 511 n with h3 | h3
      · have := maxN_le n (by omega)
        omega
      · exact h3
    · rcases Nat.lt_or_ge 511 m with h3 | h3
      · have := maxN_le m (by omega)
        omega
      · exact h3
  · rintro ⟨h3, h4⟩
    obtain ⟨k, hk⟩ : ∃ k : Nat, k = 511 := ⟨_, rfl⟩
    have q1 := Nat.pow_le_pow_right (n := 4294967296) (show 0 < 4294967296 by decide) (show n ≤ k by omega)
    have q2 := Nat.pow_le_pow_right (n := 4294967296) (show 0 < 4294967296 by decide) (show m ≤ k by omega)
    have q3 := maxN_pow (k + 1) (by omega)
    rw [Nat.pow_succ'] at q3
    rw [q3]
    generalize (4294967296 : Nat) ^ k = z at *
    omega

/-- What is filled from the beginning on. -/
theorem fill_set {n k : Nat} (h : k < n) : (ones k ++ List.replicate (n - k) 0).set k 4294967295 = ones (k + 1) ++ List.replicate (n - (k + 1)) 0 := by
  obtain ⟨j, hj⟩ : ∃ j, n - k = j + 1 := ⟨n - k - 1, by omega⟩
  rw [hj, show n - (k + 1) = j by omega, List.set_append_right _ _ (by rw [ones_len]; omega), ones_len, Nat.sub_self]
  show ones k ++ 4294967295 :: List.replicate j 0 = _
  unfold ones
  rw [List.replicate_succ', List.append_assoc]
  rfl

theorem mul_refused {va vb : Value} {m n : Nat} {w : World} (ha : IsNat w va m) (hb : IsNat w vb n) (hm : m < maxN) (hn : n < maxN) (h : ¬ m * n < maxN) :
    Calls Tryd.prog 20 #[va, vb] w fun e w' => e = .returned (.tuple #[.slice none 0 0, .int .i64 11]) ∧ Below w.heap.size w w' :=
  (mul_any ha hb hm hn).mono fun e w' ⟨⟨v, c, he, hf⟩, hB⟩ => by
    obtain ⟨rfl, rfl⟩ := hf.2 (Nat.le_of_not_lt h)
    exact ⟨he, hB⟩

theorem add_refused {va vb : Value} {m n : Nat} {w : World} (ha : IsNat w va m) (hb : IsNat w vb n) (hm : m < maxN) (hn : n < maxN) (h : ¬ m + n < maxN) :
    Calls Tryd.prog 14 #[va, vb] w fun e w' => e = .returned (.tuple #[.slice none 0 0, .int .i64 11]) ∧ Below w.heap.size w w' :=
  (add_any ha hb hm hn).mono fun e w' ⟨⟨v, c, he, hf⟩, hB⟩ => by
    obtain ⟨rfl, rfl⟩ := hf.2 (Nat.le_of_not_lt h)
    exact ⟨he, hB⟩

set_option maxRecDepth 100000 in
set_option maxHeartbeats 2000000 in
theorem limbsBounds_in (n m : Nat) (w : World) (hT : Tab w) (hn1 : 1 ≤ n) (hm1 : 1 ≤ m) (hn : n ≤ 600) (hm : m ≤ 600) :
    Calls Tryd.prog 8 #[.int .i64 n, .int .i64 m] w fun e w' => e = .returned (.bool true) ∧ Below w.heap.size w w' := by
  have R := Lib.hid (reckons_any w hT)
  have g1 : ¬ (n : Int) < 1 := by omega
  have g2 : ¬ (m : Int) < 1 := by omega
  have g3 : ¬ (600 : Int) < (n : Int) := by omega
  have g4 : ¬ (600 : Int) < (m : Int) := by omega
  have HN := Lib.hid (And.intro (And.intro hn1 hm1) (And.intro hn hm))
  have hmix : (Tryd.prog).follows .mixedOrders = true := by kernel_rfl
  clear hT hn1 hm1 hn hm
  go_enter Tryd.func8, Tryd.ntmps8
  go_wp2_with fail
  refine R.out.mono ?_
  clear R
  rintro e w1 ⟨rfl, hb1⟩
  go_wp2_with fail
  go_cut [5, 6] from 7 to 127 (fun s5 s6 wx => ∃ ga gb, s5 = .slice (some ⟨ga, 0, none⟩) n n ∧ s6 = .slice (some ⟨gb, 0, none⟩) m m ∧ Row .u32 35 wx ga (List.replicate n 0) ∧ Row .u32 35 wx gb (List.replicate m 0) ∧ ga ≠ gb ∧ w.heap.size ≤ ga ∧ w.heap.size ≤ gb ∧ Below w.heap.size w wx)
  case first =>
    have hN := HN.out
    refine wp_region_held_drew (S := fun _ => True) hmix trivial (fun hS => ?_)
    refine wpAnyH_take (i := 0) (v := .int .i64 n) ((List.getElem?_toArray ..).trans rfl) (by kernel_rfl) (by kernel_rfl) (by kernel_rfl) (fun _ _ _ h => h) (Or.inl ⟨rfl, fun W hW => ?_⟩) trivial ?_
    · go_simp
    try simp only [Act.put, List.setIfInBounds_toArray, List.set_cons_zero, List.set_cons_succ]
    refine wpAnyH_take (i := 2) (v := .int .i64 m) ((List.getElem?_toArray ..).trans rfl) (by kernel_rfl) (by kernel_rfl) (by kernel_rfl) (fun _ _ _ h => h) (Or.inl ⟨rfl, fun W hW => ?_⟩) trivial ?_
    · go_simp
    try simp only [Act.put, List.setIfInBounds_toArray, List.set_cons_zero, List.set_cons_succ]
    refine wpAnyH_ready (rs := [1, 3]) (by kernel_rfl) (by simp) (AllReadyH.cons ((List.getElem?_toArray ..).trans rfl) (fun K hK => ?_) (AllReadyH.cons ((List.getElem?_toArray ..).trans rfl) (fun K hK => ?_) AllReadyH.nil))
    · rw [if_pos (by kernel_rfl)]
      refine make_one (.tmp 30) (.tmp 30) rfl _ _ n rfl rfl rfl rfl (by omega) (fun wa hrwa hBwa => ?_)
      refine hK.out _ _ trivial (fun _ => ?_)
      clear hK K
      try simp only [Act.put, List.setIfInBounds_toArray, List.set_cons_zero, List.set_cons_succ]
      refine wpAnyH_take (i := 4) (v := .slice (some ⟨w1.drew.heap.size, 0, none⟩) n n) ((List.getElem?_toArray ..).trans rfl) (by kernel_rfl) (by kernel_rfl) (by kernel_rfl) (fun _ _ _ h => h) (Or.inl ⟨rfl, fun W hW => ?_⟩) trivial ?_
      · go_simp
      try simp only [Act.put, List.setIfInBounds_toArray, List.set_cons_zero, List.set_cons_succ]
      refine wpAnyH_ready (rs := [3]) (by kernel_rfl) (by simp) (AllReadyH.cons ((List.getElem?_toArray ..).trans rfl) (fun K hK => ?_) AllReadyH.nil)
      rw [if_pos (by kernel_rfl)]
      refine make_one (.tmp 32) (.tmp 32) rfl _ _ m rfl rfl rfl rfl (by omega) (fun wb hrwb hBwb => ?_)
      refine hK.out _ _ trivial (fun _ => ?_)
      clear hK K
      try simp only [Act.put, List.setIfInBounds_toArray, List.set_cons_zero, List.set_cons_succ]
      refine wpAnyH_take (i := 5) (v := .slice (some ⟨wa.heap.size, 0, none⟩) m m) ((List.getElem?_toArray ..).trans rfl) (by kernel_rfl) (by kernel_rfl) (by kernel_rfl) (fun _ _ _ h => h) (Or.inl ⟨rfl, fun W hW => ?_⟩) trivial ?_
      · go_simp
      try simp only [Act.put, List.setIfInBounds_toArray, List.set_cons_zero, List.set_cons_succ]
      refine wpAnyH_done (by kernel_rfl) ?_ _
      go_wp2_with fail
      go_meet
      case rel => exact ⟨_, _, rfl, rfl, hrwa.below hBwb (by exact hrwa.lt), hrwb, Nat.ne_of_lt hrwa.lt, hb1.size, Nat.le_trans hb1.size hBwa.size, hb1.drew.trans ((hBwa.trans (hBwb.mono hBwa.size)).mono hb1.size)⟩
    · rw [if_pos (by kernel_rfl)]
      refine make_one (.tmp 32) (.tmp 32) rfl _ _ m rfl rfl rfl rfl (by omega) (fun wa hrwa hBwa => ?_)
      refine hK.out _ _ trivial (fun _ => ?_)
      clear hK K
      try simp only [Act.put, List.setIfInBounds_toArray, List.set_cons_zero, List.set_cons_succ]
      refine wpAnyH_ready (rs := [1]) (by kernel_rfl) (by simp) (AllReadyH.cons ((List.getElem?_toArray ..).trans rfl) (fun K hK => ?_) AllReadyH.nil)
      rw [if_pos (by kernel_rfl)]
      refine make_one (.tmp 30) (.tmp 30) rfl _ _ n rfl rfl rfl rfl (by omega) (fun wb hrwb hBwb => ?_)
      refine hK.out _ _ trivial (fun _ => ?_)
      clear hK K
      try simp only [Act.put, List.setIfInBounds_toArray, List.set_cons_zero, List.set_cons_succ]
      refine wpAnyH_take (i := 4) (v := .slice (some ⟨wa.heap.size, 0, none⟩) n n) ((List.getElem?_toArray ..).trans rfl) (by kernel_rfl) (by kernel_rfl) (by kernel_rfl) (fun _ _ _ h => h) (Or.inl ⟨rfl, fun W hW => ?_⟩) trivial ?_
      · go_simp
      try simp only [Act.put, List.setIfInBounds_toArray, List.set_cons_zero, List.set_cons_succ]
      refine wpAnyH_take (i := 5) (v := .slice (some ⟨w1.drew.heap.size, 0, none⟩) m m) ((List.getElem?_toArray ..).trans rfl) (by kernel_rfl) (by kernel_rfl) (by kernel_rfl) (fun _ _ _ h => h) (Or.inl ⟨rfl, fun W hW => ?_⟩) trivial ?_
      · go_simp
      try simp only [Act.put, List.setIfInBounds_toArray, List.set_cons_zero, List.set_cons_succ]
      refine wpAnyH_done (by kernel_rfl) ?_ _
      go_wp2_with fail
      go_meet
      case rel => exact ⟨_, _, rfl, rfl, hrwb, hrwa.below hBwb (by exact hrwa.lt), (Nat.ne_of_lt hrwa.lt).symm, Nat.le_trans hb1.size hBwa.size, hb1.size, hb1.drew.trans ((hBwa.trans (hBwb.mono hBwa.size)).mono hb1.size)⟩
  case rest =>
    obtain ⟨ga, gb, rfl, rfl, ra, rb, hab, hga, hgb, hb2⟩ := hcut
    obtain ⟨W0, rfl⟩ : ∃ W0 : World, W0 = wc := ⟨_, rfl⟩
    clear hb1
    go_wp2_with fail
    go_loopw [36] (fun si wr => ∃ k : Nat, k ≤ n ∧ si = .int .i64 k ∧ Row .u32 35 wr ga (ones k ++ List.replicate (n - k) 0) ∧ Row .u32 35 wr gb (List.replicate m 0) ∧ Below w.heap.size w wr) (fun si _ => n - (intOf si).toNat)
    case atStart => exact ⟨0, by omega, rfl, by simpa [ones] using ra, rb, hb2⟩
    case round =>
      clear ra rb hb2
      obtain ⟨k, hk, rfl, hra, hrb, hBr⟩ := hrel
      by_cases hlt : k < n
      · have hlen : k < (ones k ++ List.replicate (n - k) 0).length := by simp [ones]; omega
        have hc := hra.cell (j := k) hlen
        have hf := hra.free k
        have hki : (k : Int) < (n : Int) := by omega
        have HRa := Lib.hid hra; have HRb := Lib.hid hrb; have Hlen := Lib.hid hlen
        clear hra hrb hlen
        go_wp2_with fail
        go_roundw
        case rel =>
          refine ⟨k + 1, by omega, by go_num, ?_, HRb.out.other (Ne.symm hab) k _, hBr.setCell (p := ⟨ga, k, none⟩) hga _⟩
          rw [← fill_set hlt]
          exact HRa.out.set k 4294967295 Hlen.out
        case measure => simp [intOf]; omega
      · have hkn : k = n := by omega
        rw [hkn, Nat.sub_self, List.replicate_zero, List.append_nil] at hra
        have hki : ¬ (k : Int) < (n : Int) := by omega
        clear hlt hkn
        go_wp2_with fail
        go_loopw [45] (fun si wr => ∃ k : Nat, k ≤ m ∧ si = .int .i64 k ∧ Row .u32 35 wr gb (ones k ++ List.replicate (m - k) 0) ∧ Row .u32 35 wr ga (ones n) ∧ Below w.heap.size w wr) (fun si _ => m - (intOf si).toNat)
        case atStart => exact ⟨0, by omega, rfl, by simpa [ones] using hrb, hra, hBr⟩
        case round =>
          clear hra hrb hBr
          obtain ⟨k, hk, rfl, hra, hrb, hBr⟩ := hrel
          by_cases hlt : k < m
          · have hlen : k < (ones k ++ List.replicate (m - k) 0).length := by simp [ones]; omega
            have hc := hra.cell (j := k) hlen
            have hf := hra.free k
            have hki : (k : Int) < (m : Int) := by omega
            have HRa := Lib.hid hra; have HRb := Lib.hid hrb; have Hlen := Lib.hid hlen
            clear hra hrb hlen
            go_wp2_with fail
            go_roundw
            case rel =>
              refine ⟨k + 1, by omega, by go_num, ?_, HRb.out.other hab k _, hBr.setCell (p := ⟨gb, k, none⟩) hgb _⟩
              rw [← fill_set hlt]
              exact HRa.out.set k 4294967295 Hlen.out
            case measure => simp [intOf]; omega
          · have hkm : k = m := by omega
            rw [hkm, Nat.sub_self, List.replicate_zero, List.append_nil] at hra
            have hki : ¬ (k : Int) < (m : Int) := by omega
            clear hlt hkm
            have NA := hrb.all n (by rw [ones_len]; exact Nat.le_refl n)
            have NB := hra.all m (by rw [ones_len]; exact Nat.le_refl m)
            rw [ones_len] at NA NB
            have hb5 := hBr
            have CK := check_any NA (by rw [ones_len]; have := HN.out; omega)
            rw [ones_check] at CK
            clear hra hrb hBr
            by_cases h5 : n ≤ 512
            · rw [if_pos h5] at CK
              have C0 : Calls Tryd.prog 31 #[.slice (some ⟨ga, 0, none⟩) n n] wr fun e w' => e = .returned (.int .i64 0) ∧ Below wr.heap.size wr w' := CK
              have C := Lib.hid C0
              have h5' : (n : Int) ≤ 512 := by omega
              clear CK C0
              by_cases h6 : m ≤ 512
              · have h6' : (m : Int) ≤ 512 := by omega
                have MA := NA.nat (ones_can n)
                have MB := NB.nat (ones_can m)
                have LA := ones_lt.2 h5
                have LB := ones_lt.2 h6
                clear NA NB h5 h6
                go_wp2_with fail
                refine C.out.mono ?_
                clear C
                rintro e w6 ⟨rfl, hB⟩
                have hb6 := hb5.trans (hB.mono hb5.size)
                have MA := MA.below hB (Nat.le_refl _)
                have MB := MB.below hB (Nat.le_refl _)
                clear hB hb5
                by_cases h7 : n + m ≤ 512
                · have C := Lib.hid (mul_fit MA MB LA LB ((ones_mul HN.out.1.1 HN.out.1.2).2 h7))
                  have h7' : (n : Int) + (m : Int) ≤ 512 := by omega
                  clear h7
                  go_wp2_with fail
                  refine C.out.mono ?_
                  clear C
                  rintro e w7 ⟨⟨v7, rfl, n7⟩, hB⟩
                  have hb7 := hb6.trans (hB.mono hb6.size)
                  have MA := MA.below hB (Nat.le_refl _)
                  have MB := MB.below hB (Nat.le_refl _)
                  clear hB hb6
                  clear n7
                  by_cases h8 : n ≤ 511 ∧ m ≤ 511
                  · have C := Lib.hid (add_fit MA MB ((ones_add HN.out.1.1 HN.out.1.2).2 h8))
                    have hx : max (n : Int) (m : Int) + 1 ≤ 512 := by omega
                    clear h8 MA MB LA LB
                    go_wp2_with fail
                    refine C.out.mono ?_
                    clear C
                    rintro e w8 ⟨⟨v8, rfl, n8⟩, hB⟩
                    have hb8 := hb7.trans (hB.mono hb7.size)
                    clear hB hb7
                    go_wp2
                    go_ret

                    refine ⟨ret_one ?_, hb8⟩
                    first | rfl | (show Value.bool _ = Value.bool true; refine congrArg Value.bool ?_; simp <;> omega)
                  · have C := Lib.hid (add_refused MA MB LA LB (fun h => h8 ((ones_add HN.out.1.1 HN.out.1.2).1 h)))
                    have hx : ¬ max (n : Int) (m : Int) + 1 ≤ 512 := by omega
                    clear h8 MA MB LA LB
                    go_wp2_with fail
                    refine C.out.mono ?_
                    clear C
                    rintro e w8 ⟨rfl, hB⟩
                    have hb8 := hb7.trans (hB.mono hb7.size)
                    clear hB hb7
                    go_wp2
                    go_ret

                    refine ⟨ret_one ?_, hb8⟩
                    first | rfl | (show Value.bool _ = Value.bool true; refine congrArg Value.bool ?_; simp <;> omega)
                · have C := Lib.hid (mul_refused MA MB LA LB (fun h => h7 ((ones_mul HN.out.1.1 HN.out.1.2).1 h)))
                  have h7' : ¬ (n : Int) + (m : Int) ≤ 512 := by omega
                  clear h7
                  go_wp2_with fail
                  refine C.out.mono ?_
                  clear C
                  rintro e w7 ⟨rfl, hB⟩
                  have hb7 := hb6.trans (hB.mono hb6.size)
                  have MA := MA.below hB (Nat.le_refl _)
                  have MB := MB.below hB (Nat.le_refl _)
                  clear hB hb6
                  by_cases h8 : n ≤ 511 ∧ m ≤ 511
                  · have C := Lib.hid (add_fit MA MB ((ones_add HN.out.1.1 HN.out.1.2).2 h8))
                    have hx : max (n : Int) (m : Int) + 1 ≤ 512 := by omega
                    clear h8 MA MB LA LB
                    go_wp2_with fail
                    refine C.out.mono ?_
                    clear C
                    rintro e w8 ⟨⟨v8, rfl, n8⟩, hB⟩
                    have hb8 := hb7.trans (hB.mono hb7.size)
                    clear hB hb7
                    go_wp2
                    go_ret

                    refine ⟨ret_one ?_, hb8⟩
                    first | rfl | (show Value.bool _ = Value.bool true; refine congrArg Value.bool ?_; simp <;> omega)
                  · have C := Lib.hid (add_refused MA MB LA LB (fun h => h8 ((ones_add HN.out.1.1 HN.out.1.2).1 h)))
                    have hx : ¬ max (n : Int) (m : Int) + 1 ≤ 512 := by omega
                    clear h8 MA MB LA LB
                    go_wp2_with fail
                    refine C.out.mono ?_
                    clear C
                    rintro e w8 ⟨rfl, hB⟩
                    have hb8 := hb7.trans (hB.mono hb7.size)
                    clear hB hb7
                    go_wp2
                    go_ret

                    refine ⟨ret_one ?_, hb8⟩
                    first | rfl | (show Value.bool _ = Value.bool true; refine congrArg Value.bool ?_; simp <;> omega)
              · have h6' : ¬ (m : Int) ≤ 512 := by omega
                clear NA NB h5 h6
                go_wp2_with fail
                refine C.out.mono ?_
                clear C
                rintro e w6 ⟨rfl, hB⟩
                have hb6 := hb5.trans (hB.mono hb5.size)
                clear hB hb5
                go_wp2
                go_ret
                exact ⟨rfl, hb6⟩
            · rw [if_neg h5] at CK
              have C0 : Calls Tryd.prog 31 #[.slice (some ⟨ga, 0, none⟩) n n] wr fun e w' => e = .returned (.int .i64 11) ∧ Below wr.heap.size wr w' := CK
              have C := Lib.hid C0
              have h5' : ¬ (n : Int) ≤ 512 := by omega
              clear CK C0 NA NB h5
              go_wp2_with fail
              refine C.out.mono ?_
              clear C
              rintro e w6 ⟨rfl, hB⟩
              have hb6 := hb5.trans (hB.mono hb5.size)
              clear hB hb5
              go_wp2
              go_ret
              exact ⟨rfl, hb6⟩

set_option maxRecDepth 100000 in
set_option maxHeartbeats 1000000 in
theorem limbsBounds_any (n m : Int) (w : World) (hT : Tab w) (_ : -9223372036854775808 ≤ n ∧ n ≤ 9223372036854775807) (_ : -9223372036854775808 ≤ m ∧ m ≤ 9223372036854775807) :
    Calls Tryd.prog 8 #[.int .i64 n, .int .i64 m] w fun e w' => e = .returned (.bool true) ∧ Below w.heap.size w w' := by
  by_cases hin : (1 ≤ n ∧ 1 ≤ m) ∧ n ≤ 600 ∧ m ≤ 600
  · obtain ⟨a, rfl⟩ : ∃ a : Nat, n = (a : Int) := ⟨n.toNat, by omega⟩
    obtain ⟨b, rfl⟩ : ∃ b : Nat, m = (b : Int) := ⟨m.toNat, by omega⟩
    exact limbsBounds_in a b w hT (by omega) (by omega) (by omega) (by omega)
  · have R := Lib.hid (reckons_any w hT)
    clear hT
    have hcs : n < 1 ∨ (¬ n < 1 ∧ m < 1) ∨ (¬ n < 1 ∧ ¬ m < 1 ∧ 600 < n) ∨ (¬ n < 1 ∧ ¬ m < 1 ∧ ¬ 600 < n ∧ 600 < m) := by omega
    clear hin
    go_enter Tryd.func8, Tryd.ntmps8
    rcases hcs with h1 | ⟨h1, h2⟩ | ⟨h1, h2, h3⟩ | ⟨h1, h2, h3, h4⟩
    all_goals
      (go_wp2_with fail
       refine R.out.mono ?_
       clear R
       rintro e w1 ⟨rfl, hb1⟩
       go_wp2
       go_ret
       exact ⟨rfl, hb1⟩)

end Go.Proofs.YtdcbcpjphaggeaaDoor
