/-
  girdleref01.Div: how often, and what is left, digit by digit to the base 256.
-/
import Derived.Test.YtphhaaofkckobaaRmul
import Derived.Deep.LoopGhost
namespace Go.Proofs.Ytphhaaofkckobaa
open Go.RowKit

theorem rdiv_step (qs xs : List Nat) (i Y R R' q : Nat) (hi : i < qs.length) (h0 : dg qs i = q) (hv : val 256 (xs.drop (i + 1)) = val 256 (qs.drop (i + 1)) * Y + R) (hq : q * Y + R' = dg xs i + 256 * R) :
    val 256 (xs.drop i) = val 256 (qs.drop i) * Y + R' := by
  rw [val_drop_all 256 xs i, val_drop_all 256 qs i, h0, hv]
  generalize val 256 (qs.drop (i + 1)) = V at *
  generalize dg xs i = x at *
  grind


set_option maxRecDepth 100000 in
set_option maxHeartbeats 4000000 in
theorem refDiv_any {va vb : Value} {m n : Nat} {w : World} (ha : IsRef w va m) (hb : IsRef w vb n) (hm : m < maxN) (hn : n < maxN) (h0 : 0 < n) :
    Calls Try.prog 14 #[va, vb] w fun e w' => (∃ v1 v2, e = .returned (.tuple #[v1, v2]) ∧ IsRef w' v1 (m / n) ∧ IsRef w' v2 (m % n)) ∧ Below w.heap.size w w' := by
  obtain ⟨xs, ⟨p1, K1, rfl, at1⟩, c1, rfl⟩ := ha
  have hl1 : xs.length ≤ 2048 := ref_len c1 hm
  have HC := Lib.hid c1
  have HN := Lib.hid (And.intro hn h0)
  clear c1 hm hn h0
  go_enter Try.func14, Try.ntmps14
  go_upto_region 2 with (at_make; refine make_ints rfl _ _ rfl _ _ xs.length rfl rfl ?hL ?hC ?hn w.heap.size w (Below.refl _ _) (Nat.le_refl _) (fun w1 hr1 hB1 hB1' => ?_))
  case hL => rfl
  case hC => rfl
  case hn => omega
  clear hB1'
  go_wp2_with fail
  go_loopw [7, 8] (fun sr si wr => ∃ (i R : Nat) (qs : List Nat), i ≤ xs.length ∧ si = .int .i64 ((i : Int) - 1) ∧ Hid (qs.length = xs.length) ∧ Dig 256 qs ∧ Hid (∀ j, j < i → dg qs j = 0) ∧ Hid (val 256 (xs.drop i) = val 256 (qs.drop i) * n + R) ∧ Hid (R < n) ∧ IsRef wr sr R ∧ NewIn (w.heap.size + 1) sr ∧ Row .i64 3 wr w.heap.size qs ∧ Below w.heap.size w wr) (fun _ si _ => (intOf si + 1).toNat)
  case atStart =>
    exact ⟨xs.length, 0, _, Nat.le_refl _, rfl, by show _ = _; simp, fun y hy => by simp at hy; omega, by show ∀ _, _; intro j hj; simp [dg, hj], by show _ = _; rw [List.drop_length, List.drop_of_length_le (by simp)]; simp [val], HN.out.2, ⟨[], Nums.nil _ _, Can.nil _, rfl⟩, NewIn.nil _, hr1, hB1⟩
  case round =>
    clear hr1 hB1
    obtain ⟨i, R, qs, hi, rfl, hql, hqd, hqz, hqv, hRn, hR, hnew, hrow, hB⟩ := hrel
    obtain ⟨wo, rfl⟩ : ∃ wo : World, wo = wr := ⟨_, rfl⟩
    cases i with
    | zero =>
      have hql' := hql.out
      have hq := hrow.at 0 xs.length xs.length (Nat.le_refl _) (by omega)
      rw [List.drop_zero, List.take_of_length_le (by omega)] at hq
      have C := refCut_any (some ⟨w.heap.size, 0, none⟩) xs.length qs wo hq (by omega)
      rw [hql'] at C
      have HCC := Lib.hid C
      have HV := Lib.hid (show val 256 xs / n = val 256 qs ∧ val 256 xs % n = R by
        have h1 := hqv.out
        rw [List.drop_zero, List.drop_zero] at h1
        have h2 := hRn.out; have h3 := HN.out.2
        rw [h1, Nat.mul_comm]
        exact ⟨by rw [Nat.mul_add_div h3, Nat.div_eq_of_lt h2, Nat.add_zero], by rw [Nat.mul_add_mod, Nat.mod_eq_of_lt h2]⟩)
      clear hq hql' C hqv
      go_wp2_with fail
      refine HCC.out.mono ?_
      rintro e w1 ⟨⟨v, rfl, hv⟩, rfl⟩
      go_wp2
      go_ret2
      exact ⟨⟨_, _, rfl, ⟨_, hv, can_cut hqd, by rw [val_cut, HV.out.1]⟩, hR.eq HV.out.2.symm⟩, hB⟩
    | succ t =>
      obtain ⟨b1, o1, rfl, _, hb1, hx1⟩ := at1.pos (by omega)
      have hxc := (hB.cell (p := ⟨b1, o1 + t, none⟩) hb1).trans (hx1 t (by omega))
      have htI : ((t + 1 : Nat) : Int) - 1 = (t : Int) := by omega
      rw [htI]
      have htI2 : (t : Int) < ((xs.length : Nat) : Int) := by omega
      obtain ⟨rs, ⟨p, K, rfl, hat⟩, hcr, hvr⟩ := hR
      have hlr : rs.length ≤ 2048 := ref_len hcr (by have := hRn.out; have := HN.out.1; omega)
      have HR := Lib.hid (And.intro hcr hvr)
      clear hcr hvr hx1 htI
      have hxd := HC.out.1.dg (by decide) t
      have hdd : Dig 256 (dg xs t :: rs) := Dig.cons hxd HR.out.1.1
      go_wp2_with (at_builtin; refine append_ints rfl (.tmp 23) (.tmp 24) rfl wo.heap.size _ [dg xs t] rs rfl (Own.made wo wo.heap.size 1 [dg xs t] (Nat.le_refl _) rfl (by simp)) p K rs.length rfl rfl ?d1 ?d2 ?d3 wo.heap.size wo ?d4 (Nat.le_refl _) (fun v2 w2 hown2 hB2 => ?_))
      case d1 => exact hat.below ((Below.refl _ wo).alloc (Nat.le_refl _) _) (Nat.le_refl _)
      case d2 => simp; omega
      case d3 => simp
      case d4 => exact (Below.refl _ wo).alloc (Nat.le_refl _) _
      have hn2 := hown2.newIn
      obtain ⟨q2, K2, rfl, at2⟩ := hown2.nums
      have C := Lib.hid (refCut_at q2 K2 ([dg xs t] ++ rs) w2 at2 (by simp; omega))
      clear hown2 at2
      go_wp2_with fail
      refine C.out.mono ?_
      clear C
      rintro e w3 ⟨⟨v3, rfl, hv3, n3, K3, rfl⟩, rfl⟩
      have hn3 : NewIn (w.heap.size + 1) (.slice q2 n3 K3) := (hn2.mono hrow.lt).cut
      have hr3 : IsRef w3 (.slice q2 n3 K3) (dg xs t + 256 * R) := ⟨_, hv3, can_cut hdd, by rw [val_cut]; simp only [List.singleton_append, List.cons_append, List.nil_append, val]; rw [HR.out.2]⟩
      have hrow2 := hrow.below hB2 hrow.lt
      have hB22 := hB.trans (hB2.mono hB.size)
      have hvb := hb.below hB22 (Nat.le_refl _)
      have H0 := Lib.hid (show qs.set t 0 = qs from by
        have h1 := hqz.out t (by omega)
        have h2 : t < qs.length := by have := hql.out; omega
        rw [dg_lt h2] at h1
        conv => lhs; rw [← h1]
        exact List.set_getElem_self h2)
      have hRn' := hRn.out
      have hNm := HN.out.1
      have hD256 : Hid (dg xs t + 256 * R < 256 * n) := by show _ < _; omega
      clear hv3 hat hxc hdd hrow hB hB2 HR hRn' hNm
      go_wp2_with fail
      go_loopg [7] (dg xs t + 256 * R) (fun k sr wi => ∃ q : Nat, Hid (q * n + k = dg xs t + 256 * R) ∧ IsRef wi sr k ∧ NewIn (w.heap.size + 1) sr ∧ Row .i64 3 wi w.heap.size (qs.set t q) ∧ Below w.heap.size w wi)
      case atStart => exact ⟨0, by show _ = _; simp, hr3, hn3, by rw [H0.out]; exact hrow2, hB22⟩
      case round =>
        clear hr3 hrow2 hB22 hvb
        obtain ⟨q, hq, hR, hnew, hrow, hB⟩ := hrel
        have hvb := hb.below hB (Nat.le_refl _)
        have hkl : gk < 256 * maxN := by have := hq.out; have := hD256.out; have := HN.out.1; omega
        have C := Lib.hid (refCmp_ref hR hvb hkl (by have := HN.out.1; omega))
        by_cases hge : n ≤ gk
        · have hcc : (0 : Int) ≤ cmpI (gk : Int) (n : Int) := cmpI_ge (by omega)
          have HCm := Lib.hid (refSub_at hR hvb hkl hge)
          have HG := Lib.hid (And.intro hge hkl)
          clear hge hkl hR hvb
          obtain ⟨cc, hccv⟩ : ∃ cc, cmpI (gk : Int) (n : Int) = cc := ⟨_, rfl⟩
          rw [hccv] at C hcc
          clear hccv
          go_wp2_with fail
          refine C.out.mono ?_
          clear C
          rintro e w4 ⟨rfl, rfl⟩
          go_wp2_with fail
          refine HCm.out.mono ?_
          clear HCm
          rintro e w5 ⟨⟨v5, rfl, hR5, hn5⟩, hB5⟩
          have hn5' : NewIn (w.heap.size + 1) v5 := hn5.mono hrow.lt
          have hR6 := Lib.hid (fun u => hR5.set (a := ⟨w.heap.size, t, none⟩) hn5' (Nat.lt_succ_self _) u)
          have hrow5 := hrow.below hB5 hrow.lt
          have hqn : q < 255 := by
            have h1 := hq.out; have h2 := hD256.out; have h3 := HG.out.1; have h4 := HN.out.2
            rcases Nat.lt_or_ge q 255 with h | h
            · exact h
            · exfalso
              have := Nat.mul_le_mul_right n h
              omega
          have hBn := hB.trans (hB5.mono hB.size)
          have htl : t < (qs.set t q).length := by rw [List.length_set]; have := hql.out; omega
          have ho := hrow5.cell (j := t) htl
          have hf := hrow5.free t
          have hse := hrow5.set t (q + 1) htl
          rw [dg_set _ _ _ _ (by have := hql.out; omega), if_pos rfl] at ho
          rw [List.set_set] at hse
          have HSE := Lib.hid hse
          have HQ := Lib.hid (show (q + 1) * n + (gk - n) = dg xs t + 256 * R by have := hq.out; have := HG.out.1; rw [Nat.add_mul]; omega)
          have HM := Lib.hid (show gk - n < gk by have := HG.out.1; have := HN.out.2; omega)
          have hqI : (q : Int) < 255 := by omega
          clear hse hrow hrow5 htl hB hB5 hR5 hn5
          go_wp2_with fail
          go_roundg (gk - n)
          case measure => exact HM.out
          case rel => exact ⟨q + 1, HQ.out, hR6.out _, hn5', by simpa using HSE.out, hBn.setCell (Nat.le_refl _) _⟩
        · have hlt : gk < n := by omega
          have hcc := cmpI_lt (a := (gk : Int)) (b := (n : Int)) (by omega)
          rw [hcc] at C
          have hqn : q < 256 := by
            have h1 := hq.out; have h2 := hD256.out
            rcases Nat.lt_or_ge q 256 with h | h
            · exact h
            · exfalso
              have := Nat.mul_le_mul_right n h
              omega
          have htl : t < qs.length := by have := hql.out; omega
          have HS := Lib.hid (rdiv_step (qs.set t q) xs t n R gk q (by rw [List.length_set]; exact htl) (by rw [dg_set _ _ _ _ htl, if_pos rfl]) (by rw [List.drop_set_of_lt (by omega)]; exact hqv.out) hq.out)
          have HLt := Lib.hid hlt
          clear hlt hge hkl hcc htl hvb
          go_wp2_with fail
          refine C.out.mono ?_
          clear C
          rintro e w4 ⟨rfl, rfl⟩
          go_wp2_with fail
          go_roundw
          case rel =>
            exact ⟨t, gk, qs.set t q, by omega, rfl, by show _ = _; rw [List.length_set]; exact hql.out, hqd.set _ hqn, by
              show ∀ _, _
              intro j hj
              rw [dg_set _ _ _ _ (by have := hql.out; omega), if_neg (by omega)]
              exact hqz.out j (by omega), HS.out, HLt.out, hR, hnew, hrow, hB⟩
          case measure => simp [intOf]

end Go.Proofs.Ytphhaaofkckobaa
