/-
  What the statement stands on.
-/
import Derived.Test.YtcfgefbkeeedgaaGreatM16
import Derived.Test.YtcfgefbkeeedgaaGreatM27
namespace Go.Proofs.YtcfgefbkeeedgaaGreat
open Go.RowKit
theorem info_u8 : (Tryz.prog.info? 5).map (fun i => (i.zero, i.size, i.bytes)) = some (some (.int .u8 0), 1, 1) := by kernel_rfl
section
variable {ops : Array Oper} {rest : List Oper} {o : Oper} {a : Act} {Q : Exit → Act → World → Prop} {w : World}
theorem make_bytes (hg : o.guard = none) (l c : Operand) (hop : o.op = Op.makeSlice 112 l c) (L C : Int) (n : Nat) (hl : a.eval l = .int .i64 L) (hc : a.eval c = .int .i64 C) (hL : L = (n : Int)) (hC : C = (n : Int))
    (hn : n ≤ 1000000000) (B : Nat) (w0 : World) (hb : Below B w0 w) (hB : B ≤ w.heap.size)
    (hK : ∀ w', Row .u8 5 w' w.heap.size (List.replicate n 0) → Below B w0 w' → Below w.heap.size w w' → wpList Tryz.prog ops Q rest (a.put o.dst (.slice (some ⟨w.heap.size, 0, none⟩) n n)) w') :
    wpList Tryz.prog ops Q (o :: rest) a w := by
  obtain ⟨i0, hi, hz0, hz1, hz2⟩ := info_parts info_u8
  refine wpList_make_full w hg l c _ hop w.heap.size 5 i0 (.int .u8 0) 1 Tryz.underlying112 hi hz0 hz1 .i64 .i64 L C n hl hc hL hC (by rw [hz2]; omega) (by unfold maxLen; omega) (Nat.le_refl _) ?_
  intro w' ho hgr
  exact hK w' (made_row ho) (hb.grown hgr hB (fun _ e => by cases e)) ((Below.refl _ w).grown hgr (Nat.le_refl _) (fun _ e => by cases e))
end
theorem check_zero_nat {va : Value} {m : Nat} {w : World} (ha : IsNat w va m) (hm : m < maxN) :
    Calls Tryz.prog 18 #[va] w fun e w' => e = .returned (.int .i64 0) ∧ Below w.heap.size w w' := by
  obtain ⟨ds, hn, hc, rfl⟩ := ha
  have hl : ds.length ≤ 512 := hc.len_max.2 hm
  have hz : checkOf ds = 0 := by unfold checkOf; rw [if_neg (by omega), if_neg (by rw [hc.2]; omega)]
  exact (check_any hn (by omega)).mono fun e w' h => ⟨h.1.trans (by rw [hz]; rfl), h.2⟩
theorem bits_tens {m k t : Nat} (h : nbits m = t) (hk : t / 59 + 1 = k) : m < blk ^ k := by
  by_cases h0 : m = 0
  · subst h0; exact Nat.pow_pos (by decide)
  · have h1 := (nbits_spec h0).2.2
    have h2 : (2 : Nat) ^ 59 ≤ blk := by decide
    have h3 := Nat.pow_le_pow_left h2 k
    rw [← Nat.pow_mul] at h3
    have h4 := Nat.pow_le_pow_right (n := 2) (by decide) (show nbits m ≤ 59 * k by omega)
    omega
theorem blk_pow (k : Nat) : blk ^ k = 10 ^ (18 * k) := by rw [blk_eq, ← Nat.pow_mul]
theorem text_step (L L' : List Nat) (k x m : Nat) (hl : L.length = 18 * k) (hl' : L'.length = 18) (hv : dv L + blk ^ k * x = m) (hv' : dv L' = x % blk) : dv (L' ++ L) + blk ^ (k + 1) * (x / blk) = m := by
  rw [dv_append, hl, hv', ← blk_pow, Nat.pow_succ]
  have := Nat.div_add_mod x blk
  generalize blk ^ k = p at *
  generalize x % blk = r at *
  generalize x / blk = q at *
  generalize blk = b at *
  grind
set_option maxRecDepth 100000 in
set_option maxHeartbeats 4000000 in
theorem text_any {va : Value} {m : Nat} {w : World} (ha : IsNat w va m) (hm : m < maxN) :
    Calls Tryz.prog 30 #[va] w fun e w' => (∃ s, e = .returned (.string s) ∧ IsText (bs s) m) ∧ Below w.heap.size w w' := by
  have HM := Lib.hid hm
  obtain ⟨t, ht⟩ : ∃ t, nbits m = t := ⟨_, rfl⟩
  have htl : t ≤ 16384 := by rw [← ht]; exact nbits_lt hm
  obtain ⟨K, hK⟩ : ∃ K, t / 59 + 1 = K := ⟨_, rfl⟩
  have HBT := Lib.hid (bits_tens ht hK)
  have HT := Lib.hid ht
  have hKI : (t : Int) / 59 + 1 = (K : Int) := by omega
  have hKl : K ≤ 278 := by omega
  have hK1 : 1 ≤ K := by omega
  have C := Lib.hid (check_zero_nat ha hm)
  clear hm ht hK
  go_enter Tryz.func30, Tryz.ntmps30
  go_wp2_with fail
  refine C.out.mono ?_
  clear C
  rintro e w1 ⟨rfl, hB1⟩
  have ha := ha.below hB1 (Nat.le_refl _)
  have C := Lib.hid (of_blk w1)
  go_wp2_with fail
  refine C.out.mono ?_
  clear C
  rintro e w2 ⟨⟨vb, rfl, nb⟩, hB2⟩
  have ha := ha.below hB2 (Nat.le_refl _)
  have hb2 := hB1.trans (hB2.mono hB1.size)
  have C := Lib.hid (bits_nat ha HM.out HT.out)
  clear hB1 hB2; go_wp2_with fail
  refine C.out.mono ?_
  clear C
  rintro e w3 ⟨rfl, hB3⟩
  have ha := ha.below hB3 (Nat.le_refl _)
  have nb := nb.below hB3 (Nat.le_refl _)
  have hb3 := hb2.trans (hB3.mono hb2.size)
  clear hb2 hB3
  have hLI : (K : Int) * 18 = ((18 * K : Nat) : Int) := by omega
  have HLI := Lib.hid hLI
  have HKI := Lib.hid hKI
  clear hLI hKI
  go_upto_region 5 with (at_make; refine make_bytes rfl _ _ rfl _ _ (18 * K) rfl rfl ?hL ?hC ?hn w3.heap.size w3 (Below.refl _ _) (Nat.le_refl _) (fun w4 hr4 hB4 hB4' => ?_))
  case hL => have := HKI.out; omega
  case hC => have := HKI.out; omega
  case hn => omega
  obtain ⟨g, hg⟩ : ∃ g, w3.heap.size = g := ⟨_, rfl⟩
  rw [hg] at hr4 hB4 ⊢
  clear hB4'
  have ha4 := ha.below hB4 (by omega)
  have nb4 := nb.below hB4 (by omega)
  have hb4 := hb3.trans (hB4.mono (by have := hb3.size; omega))
  have hgw : w.heap.size ≤ g := by have := hb3.size; omega
  clear ha nb hb3 hB4 hg
  obtain ⟨T, hT⟩ : ∃ T, 18 * K = T := ⟨_, rfl⟩
  have hT18 : (T : Int) / 18 = (K : Int) := by omega
  rw [hT] at hr4 ⊢
  have HTT := Lib.hid hT
  have hTl : T ≤ 6000 := by omega
  clear hT HLI; go_wp2_with fail; clear hT18
  go_loopw [0, 21] (fun sa si wr => ∃ (k x : Nat) (L : List Nat), k ≤ K ∧ si = .int .i64 k ∧ IsNat wr sa x ∧ IsNat wr vb blk ∧ Hid (x < maxN) ∧ Hid (L.length = 18 * k) ∧ DD L ∧ Hid (dv L + blk ^ k * x = m) ∧ Row .u8 5 wr g (List.replicate (T - 18 * k) 0 ++ L) ∧ Below w.heap.size w wr) (fun _ si _ => K - (intOf si).toNat)
  case atStart => exact ⟨0, m, [], by omega, rfl, ha4, nb4, HM.out, rfl, fun _ h => (nomatch h), by show _ = _; simp [dv_nil], by simpa using hr4, hb4⟩
  case round =>
    clear ha4 nb4 hb4 hr4
    obtain ⟨k, x, L, hk, rfl, na, nb, hx, hLl, hLd, hLv, hrow, hB⟩ := hrel
    by_cases hlt : k < K
    · have hkI : (k : Int) < (K : Int) := by omega
      have C := Lib.hid (div_nat na nb hx.out blk_max (by decide))
      obtain ⟨j, hj⟩ : ∃ j, T - 18 * k = j + 18 := ⟨T - 18 * k - 18, by have := HTT.out; omega⟩
      have hjI : (T : Int) - (k : Int) * 18 = (j : Int) + 18 := by have := HTT.out; omega
      rw [hj] at hrow
      have HJ := Lib.hid (show T - 18 * (k + 1) = j by omega)
      have hjT : j + 18 ≤ T := by omega
      have hk6 : k ≤ 278 := by omega
      have HLt := Lib.hid hlt
      clear hj hlt; go_wp2_with fail
      refine C.out.mono ?_
      clear C
      rintro e w5 ⟨⟨v1, v2, rfl, n1, n2⟩, hB5⟩
      have nb := nb.below hB5 (Nat.le_refl _)
      have hrow5 := hrow.below hB5 hrow.lt
      have hb5 := hB.trans (hB5.mono hB.size)
      clear hrow hB hB5 na
      go_upto_region 11 with fail
      have hrow6 : Row .u8 5 w5 g (List.replicate j 0 ++ (List.replicate 18 0 ++ L)) := by
        rw [← List.append_assoc, List.replicate_append_replicate]; exact hrow5
      have e1 : (0 : Int) ≤ (j : Int) + 18 := by omega
      have e2 : ((j : Int) + 18).toNat = j + 18 := by omega
      have e3 : (j : Int) ≤ (j : Int) + 18 := by omega
      have e4 : (j : Int) + 18 ≤ (T : Int) := by omega
      have e5 : j + 18 - j = 18 := by omega
      have e6 : ¬ T = j := by omega
      have hmod : x % blk < 1000000000000000000 := Nat.mod_lt _ (by decide)
      have C := Lib.hid (writeBlock_any g j (T - j) (x % blk) (List.replicate j 0) (List.replicate 18 0) L v2 w5 (by simp) hrow6 (by simp) n2 hmod)
      have HR5 := Lib.hid hrow5
      clear hrow6 hrow5 hmod; go_wp2_with fail
      refine C.out.mono ?_
      clear C
      rintro e w6 ⟨⟨v6, rfl⟩, ⟨L', hl', hd', hv', hr6⟩, hO6⟩
      clear e1 e2 e3 e4 e5 e6
      have n1 := n1.cross (by decide) HR5.out hO6
      have nb := nb.cross (by decide) HR5.out hO6
      have hb6 := hO6.below hb5 (by omega) (by have := hb5.size; omega)
      have HX := Lib.hid (Nat.lt_of_le_of_lt (Nat.div_le_self x blk) hx.out)
      have HV := Lib.hid (text_step L L' k x m hLl.out hl' hLv.out hv')
      have HL' := Lib.hid (show (L' ++ L).length = 18 * (k + 1) by rw [List.length_append, hl', hLl.out]; omega)
      have hdd := hd'.append hLd
      have hr7 : Hid (Row .u8 5 w6 g (List.replicate (T - 18 * (k + 1)) 0 ++ (L' ++ L))) := by show Row _ _ _ _ _; rw [HJ.out]; exact hr6
      clear hb5 hO6 HR5 hr6 n2; go_wp2_with fail
      go_roundw
      case rel => exact ⟨k + 1, x / blk, L' ++ L, by have := HLt.out; omega, by go_num, n1, nb, HX.out, HL'.out, hdd, HV.out, hr7.out, hb6⟩
      case measure => have := HLt.out; simp [intOf]; omega
    · have hkI : ¬ (k : Int) < (K : Int) := by omega
      have hkK : k = K := by omega
      subst hkK
      have hT0 : T - 18 * k = 0 := by have := HTT.out; omega
      rw [hT0] at hrow
      have hrow : Row .u8 5 wr g L := by simpa using hrow
      have hLT : L.length = T := by rw [hLl.out]; exact HTT.out
      have hx0 : dv L = m := by
        have h1 := hLv.out
        rcases Nat.eq_zero_or_pos x with h2 | h2
        · rw [h2] at h1; simpa using h1
        · exfalso
          have h3 := HBT.out
          have h4 := Nat.le_mul_of_pos_right (blk ^ k) h2
          exact Nat.lt_irrefl _ (Nat.lt_of_lt_of_le h3 (Nat.le_trans h4 (by rw [← h1]; exact Nat.le_add_left _ _)))
      have C := without_any g T L wr hrow hLT (by have := HTT.out; omega) (by omega) hLd
      rw [hx0] at C
      have HC := Lib.hid C
      clear hT0 hLT hx0 hrow C hlt na nb hLv; go_wp2_with fail
      refine HC.out.mono ?_
      clear HC
      rintro e w7 ⟨⟨s, rfl, hs⟩, rfl⟩
      go_wp2
      go_ret
      exact ⟨⟨_, rfl, hs⟩, hB⟩
theorem text_len {l : List Nat} {m : Nat} (h : IsText l m) (hm : m < maxN) : l.length ≤ 5463 := by
  by_cases h1 : 1 < l.length
  · have h2 := Nat.lt_of_le_of_lt (h.low h1) hm
    obtain ⟨q, hq⟩ : ∃ q : Nat, q = 32 * 512 := ⟨_, rfl⟩
    rw [maxN_two q 512 rfl hq] at h2
    have h3 := Nat.pow_le_pow_left (show 2 ^ 3 ≤ 10 by decide) (l.length - 1)
    rw [← Nat.pow_mul] at h3
    have := (Nat.pow_lt_pow_iff_right (a := 2) (by decide)).1 (Nat.lt_of_le_of_lt h3 h2)
    omega
  · omega
def IsIText (l : List Nat) (x : Int) : Prop := (x < 0 ∧ ∃ t, l = 45 :: t ∧ IsText t x.natAbs) ∨ (0 ≤ x ∧ IsText l x.natAbs)
theorem bs_dash (s : ByteArray) : bs (⟨#[45]⟩ ++ s) = 45 :: bs s := by
  unfold bs
  rw [ByteArray.data_append]
  simp
set_option maxRecDepth 100000 in
set_option maxHeartbeats 1000000 in
theorem wtext_any {va : Value} {x : Int} {w : World} (ha : IsInt w va x) (hx : x.natAbs < maxN) :
    Calls Tryz.prog 29 #[va] w fun e w' => (∃ s, e = .returned (.string s) ∧ IsIText (bs s) x) ∧ Below w.heap.size w w' := by
  obtain ⟨p, l, K, rfl, n1⟩ := ha
  obtain ⟨b, hb⟩ : ∃ b, negB x = b := ⟨_, rfl⟩
  rw [hb]
  have HD := Lib.hid (And.intro hb hx)
  clear hb hx
  by_cases h0 : x < 0
  · have hsg := Lib.hid (Int.sign_eq_neg_one_of_neg h0)
    have H0 := Lib.hid h0
    clear h0
    have S := (St.start w).alloc 37 [.bool b, .slice p l K] (w.heap.size)
    try simp only [List.nil_append] at S
    replace n1 := n1.hold S.hold
    have c0_0 := S.c 0 0 rfl rfl; have c0_1 := S.c 0 1 rfl rfl
    go_enter Tryz.func29, Tryz.ntmps29
    go_wp2_with fail; clear c0_0 c0_1
    refine (S.call (wsign_any ⟨p, l, K, by rw [HD.out.1], n1⟩ HD.out.2 hsg.out)).mono ?_
    clear S
    rintro e w1 ⟨rfl, S, H⟩
    replace n1 := n1.hold H; clear H; have c0_0 := S.c 0 0 rfl rfl; have c0_1 := S.c 0 1 rfl rfl; go_wp2_with fail; clear c0_0 c0_1
    refine (S.call (text_any n1 HD.out.2)).mono ?_
    clear S
    rintro e w2 ⟨⟨s, rfl, hs⟩, S, H⟩
    replace n1 := n1.hold H; clear H; have c0_0 := S.c 0 0 rfl rfl; have c0_1 := S.c 0 1 rfl rfl
    have hl := text_len hs HD.out.2
    rw [bs_len] at hl
    have HS := Lib.hid hs
    clear hs; go_wp2_with fail
    exact bodyPost_ret (v := .string (⟨#[45]⟩ ++ s)) (by simp [results, Tryz.f29, go_sem]) rfl (⟨⟨_, rfl, by rw [bs_dash]; exact .inl ⟨H0.out, _, rfl, HS.out⟩⟩, S.below⟩)
  · obtain ⟨sg, hsg⟩ : ∃ s, x.sign = s := ⟨_, rfl⟩
    have hs0 : ¬ sg < 0 := by rw [← hsg]; have := Int.sign_nonneg_iff.2 (Int.not_lt.1 h0); omega
    have hsg := Lib.hid hsg
    have H0 := Lib.hid h0
    clear h0
    have S := (St.start w).alloc 37 [.bool b, .slice p l K] (w.heap.size)
    try simp only [List.nil_append] at S
    replace n1 := n1.hold S.hold
    have c0_0 := S.c 0 0 rfl rfl; have c0_1 := S.c 0 1 rfl rfl
    go_enter Tryz.func29, Tryz.ntmps29
    go_wp2_with fail; clear c0_0 c0_1
    refine (S.call (wsign_any ⟨p, l, K, by rw [HD.out.1], n1⟩ HD.out.2 hsg.out)).mono ?_
    clear S
    rintro e w1 ⟨rfl, S, H⟩
    replace n1 := n1.hold H; clear H; have c0_0 := S.c 0 0 rfl rfl; have c0_1 := S.c 0 1 rfl rfl; go_wp2_with fail; clear c0_0 c0_1
    refine (S.call (text_any n1 HD.out.2)).mono ?_
    clear S
    rintro e w2 ⟨⟨s, rfl, hs⟩, S, H⟩
    replace n1 := n1.hold H; clear H; have c0_0 := S.c 0 0 rfl rfl; have c0_1 := S.c 0 1 rfl rfl
    have HS := Lib.hid hs
    clear hs; go_wp2_with fail
    exact bodyPost_ret (v := .string s) (by simp [results, Tryz.f29, go_sem]) rfl (⟨⟨_, rfl, .inr ⟨by have := H0.out; omega, HS.out⟩⟩, S.below⟩)
end Go.Proofs.YtcfgefbkeeedgaaGreat
