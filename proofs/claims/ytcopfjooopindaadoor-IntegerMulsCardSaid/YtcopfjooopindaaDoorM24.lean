/-
  girdleref01.Mul, digit by digit to the base 256.
-/
import Derived.Test.YtcopfjooopindaaDoorM21
import Derived.StillTailTactics
import Derived.IntWalk

namespace Go.Proofs.YtcopfjooopindaaDoor
open Go.RowKit

set_option maxRecDepth 100000 in
set_option maxHeartbeats 4000000 in
theorem refMul_any {va vb : Value} {m n : Nat} {w : World} (ha : IsRef w va m) (hb : IsRef w vb n) (hm : m < maxN) (hn : n < maxN) :
    Calls Tryd.prog 19 #[va, vb] w fun e w' => (∃ v, e = .returned v ∧ IsRef w' v (m * n)) ∧ Below w.heap.size w w' := by
  obtain ⟨xs, ⟨p1, K1, rfl, at1⟩, c1, rfl⟩ := ha
  obtain ⟨ys, ⟨p2, K2, rfl, at2⟩, c2, rfl⟩ := hb
  have hl1 : xs.length ≤ 2048 := ref_len c1 hm
  have hl2 : ys.length ≤ 2048 := ref_len c2 hn
  have HC := Lib.hid (And.intro c1 c2)
  clear c1 c2 hm hn
  obtain ⟨L, hL⟩ : ∃ L, xs.length + ys.length + 1 = L := ⟨_, rfl⟩
  have hLI : (xs.length : Int) + (ys.length : Int) + 1 = (L : Int) := by omega
  have HL := Lib.hid hL; have HLI := Lib.hid hLI
  have hLl : L ≤ 4097 := by omega
  clear hL hLI
  go_enter Tryd.func19, Tryd.ntmps19
  go_upto_region 2 with (at_make; refine make_ints rfl _ _ rfl _ _ L rfl rfl ?hL ?hC ?hn w.heap.size w (Below.refl _ _) (Nat.le_refl _) (fun w1 hr1 hB1 hB1' => ?_))
  case hL => exact HLI.out
  case hC => exact HLI.out
  case hn => omega
  clear hB1'
  go_wp2_with fail
  go_loopw [6] (fun si wr => ∃ (i : Nat) (cs : List Nat), i ≤ xs.length ∧ si = .int .i64 i ∧ Hid (cs.length = L) ∧ Dig 256 cs ∧ Hid (val 256 cs = val 256 (xs.take i) * val 256 ys) ∧ Row .i64 3 wr w.heap.size cs ∧ Below w.heap.size w wr) (fun si _ => xs.length - (intOf si).toNat)
  case atStart => exact ⟨0, _, by omega, rfl, by show _ = _; simp, fun y hy => by simp at hy; omega, by show _ = _; rw [val_zeros]; simp [val], hr1, hB1⟩
  case round =>
    clear hr1 hB1
    obtain ⟨i, cs, hi, rfl, hcl, hcd, hcv, hrow, hB⟩ := hrel
    obtain ⟨wo, rfl⟩ : ∃ wo : World, wo = wr := ⟨_, rfl⟩
    by_cases hlt : i < xs.length
    · obtain ⟨b1, o1, rfl, _, hb1, hx1⟩ := at1.pos (by omega)
      have hx1' := Lib.hid (hx1 i hlt)
      have hli : (i : Int) < ((xs.length : Nat) : Int) := by omega
      have hxi := HC.out.1.1.dg (by decide) i
      obtain ⟨N, hN⟩ : ∃ N, val 256 (xs.take (i + 1)) * val 256 ys = N := ⟨_, rfl⟩
      have HN := Lib.hid hN
      have HS := Lib.hid (show val 256 cs + 256 ^ (i + 0) * dg xs i * val 256 (ys.drop 0) = N by rw [hcv.out, ← hN, val_take_succ, Nat.add_zero, List.drop_zero]; grind)
      clear hx1 hN hcv
      go_wp2_with fail
      go_loopw [7] (fun sk wi => ∃ (k : Nat) (es : List Nat), k ≤ ys.length ∧ sk = .int .i64 k ∧ Hid (es.length = L) ∧ Hid (∀ j, dg es j ≤ 65280 ∧ (i + k ≤ j → dg es j ≤ 255)) ∧ Hid (val 256 es + 256 ^ (i + k) * dg xs i * val 256 (ys.drop k) = N) ∧ Row .i64 3 wi w.heap.size es ∧ Below w.heap.size w wi) (fun sk _ => ys.length - (intOf sk).toNat)
      case atStart => exact ⟨0, cs, by omega, rfl, hcl, (fun j => by have := hcd.dg (by decide) j; omega), HS.out, hrow, hB⟩
      case round =>
        clear hrow hB hcd hcl HS
        obtain ⟨k, es, hk, rfl, hel, heb, hev, hrow, hB⟩ := hrel
        by_cases hlk : k < ys.length
        · obtain ⟨b2, o2, rfl, _, hb2, hx2⟩ := at2.pos (by omega)
          have hyk := (hB.cell (p := ⟨b2, o2 + k, none⟩) hb2).trans (hx2 k hlk)
          have hxc := (hB.cell (p := ⟨b1, o1 + i, none⟩) hb1).trans hx1'.out
          have hlkI : (k : Int) < ((ys.length : Nat) : Int) := by omega
          have hyd := HC.out.2.1.dg (by decide) k
          have hik : i + k < es.length := by have := hel.out; have := HL.out; omega
          have ho := hrow.cell (j := i + k) hik
          have hf := hrow.free (i + k)
          have hd1 : dg es (i + k) ≤ 255 := (heb.out (i + k)).2 (Nat.le_refl _)
          have hikL : (i : Int) + (k : Int) < (L : Int) := by have := hel.out; omega
          have hpm : dg xs i * dg ys k ≤ 255 * 255 := Nat.mul_le_mul (by omega) (by omega)
          have hm0 : (0 : Int) ≤ (dg xs i : Int) * (dg ys k : Int) := by rw [← Int.natCast_mul]; omega
          have hm1 : (dg xs i : Int) * (dg ys k : Int) ≤ 65025 := by rw [← Int.natCast_mul]; omega
          have HStep := Lib.hid (rmul_step es ys (dg xs i) i k N hik hev.out)
          have HP := Lib.hid (And.intro hik hpm)
          have HR := Lib.hid hrow; have HBB := Lib.hid hB
          clear hx2 hik hpm hrow hB
          go_wp2_with fail
          have e1 : IntKind.i64.wrap ((i : Int) + (k : Int)) = (i : Int) + (k : Int) := IntWalk.i64_in _ (by omega)
          have e2 : (0 : Int) ≤ (i : Int) + (k : Int) := by omega
          have e3 : ((i : Int) + (k : Int)).toNat = i + k := by omega
          have e4 : IntKind.i64.wrap ((dg xs i : Int) * (dg ys k : Int)) = (dg xs i : Int) * (dg ys k : Int) := IntWalk.i64_in _ (by omega)
          have e5 : IntKind.i64.wrap ((dg es (i + k) : Int) + (dg xs i : Int) * (dg ys k : Int)) = (dg es (i + k) : Int) + (dg xs i : Int) * (dg ys k : Int) := IntWalk.i64_in _ (by omega)
          go_still_tail 17, (by kernel_rfl)
          change wpList _ _ _ _ _ wr.drew
          have HR2 := Lib.hid (HR.out.keep (w' := wr.drew) rfl)
          have HB2 := Lib.hid (HBB.out.drew)
          have ho2 : wr.drew.cell? ⟨w.heap.size, i + k, none⟩ = some (.int .i64 (dg es (i + k) : Nat)) := ho
          have hf2 : wr.drew.frozen? ⟨w.heap.size, i + k, none⟩ = false := hf
          clear ho hf hyk hxc HR HBB hx1'
          generalize wr.drew = w2 at *
          clear e1 e2 e3 e4 e5
          go_wp2_with fail
          go_roundw
          case rel =>
            have hik := HP.out.1
            refine ⟨k + 1, es.set (i + k) (dg es (i + k) + dg xs i * dg ys k), by omega, by go_num, by show _ = _; rw [List.length_set]; exact hel.out, fun j => ?_, HStep.out, ?_, HB2.out.setCell (Nat.le_refl _) _⟩
            · rw [dg_set _ _ _ _ hik]
              have h1 := heb.out j
              have := HP.out.2
              by_cases hj : j = i + k
              · rw [if_pos hj]; omega
              · rw [if_neg hj]; omega
            · have h1 := HR2.out.set (i + k) (dg es (i + k) + dg xs i * dg ys k) hik
              simpa using h1
          case measure => simp [intOf]; omega
        · have hky : k = ys.length := by omega
          have hkI : ¬ (k : Int) < ((ys.length : Nat) : Int) := by omega
          have HV := Lib.hid (show val 256 es = N by have h1 := hev.out; rw [hky, List.drop_length] at h1; simpa [val] using h1)
          have HB1 := Lib.hid (fun j => (heb.out j).1)
          clear hev heb hky hlk
          go_wp2_with fail
          go_loopw [8] (fun sk wi => ∃ (k : Nat) (es : List Nat), k + 1 ≤ L ∧ sk = .int .i64 k ∧ Hid (es.length = L) ∧ Hid (∀ j, (j < k → dg es j < 256) ∧ dg es j ≤ 65536 ∧ (k < j → dg es j ≤ 65280)) ∧ Hid (val 256 es = N) ∧ Row .i64 3 wi w.heap.size es ∧ Below w.heap.size w wi) (fun sk _ => L - (intOf sk).toNat)
          case atStart => exact ⟨0, es, by have := HL.out; omega, rfl, hel, (fun j => by have := HB1.out j; omega), HV.out, hrow, hB⟩
          case round =>
            clear hrow hB hel HV HB1 hkI hk
            obtain ⟨t, fs, ht, rfl, hfl, hfb, hfv, hrow, hB⟩ := hrel
            by_cases hlt2 : t + 1 < L
            · have htl : t + 1 < fs.length := by have := hfl.out; omega
              have ho := hrow.cell (j := t) (by omega)
              have hf := hrow.free t
              have ho1 := hrow.cell (j := t + 1) htl
              have hf1 := hrow.free (t + 1)
              have hd0 : dg fs t ≤ 65536 := (hfb.out t).2.1
              have hd1 : dg fs (t + 1) ≤ 65280 := (hfb.out (t + 1)).2.2 (by omega)
              have htI : (t : Int) + 1 < (L : Int) := by omega
              have htI2 : (t : Int) < (L : Int) := by omega
              have HStep := Lib.hid ((rnorm_step fs t htl).trans hfv.out)
              have HR := Lib.hid hrow; have HBB := Lib.hid hB
              have HT := Lib.hid (And.intro htl hlt2)
              clear hrow hB htl hlt2
              go_wp2_with fail
              have e1 : IntKind.i64.wrap ((t : Int) + 1) = (t : Int) + 1 := IntWalk.i64_in _ (by omega)
              have e2 : (0 : Int) ≤ (t : Int) + 1 := by omega
              have e3 : ((t : Int) + 1).toNat = t + 1 := by omega
              have e4 : IntKind.i64.wrap ((dg fs t : Int) / 256) = (dg fs t : Int) / 256 := IntWalk.i64_in _ (by omega)
              have e5 : IntKind.i64.wrap ((dg fs (t + 1) : Int) + (dg fs t : Int) / 256) = (dg fs (t + 1) : Int) + (dg fs t : Int) / 256 := IntWalk.i64_in _ (by omega)
              go_still_tail 12, (by kernel_rfl)
              change wpList _ _ _ _ _ wr.drew
              have HR2 := Lib.hid (HR.out.keep (w' := wr.drew) rfl)
              have HB2 := Lib.hid (HBB.out.drew)
              have ho2 : wr.drew.cell? ⟨w.heap.size, t + 1, none⟩ = some (.int .i64 (dg fs (t + 1) : Nat)) := ho1
              have hf2 : wr.drew.frozen? ⟨w.heap.size, t + 1, none⟩ = false := hf1
              clear ho hf ho1 hf1 HR HBB
              generalize wr.drew = w2 at *
              clear e1 e2 e3 e4 e5
              go_upto_region 13 with fail
              have HR3 : Hid (Row .i64 3 (w2.setCell ⟨w.heap.size, t + 1, none⟩ (.int .i64 ((dg fs (t + 1) : Int) + (dg fs t : Int) / 256))) w.heap.size (fs.set (t + 1) (dg fs (t + 1) + dg fs t / 256))) := by
                have h1 := HR2.out.set (t + 1) (dg fs (t + 1) + dg fs t / 256) HT.out.1
                have h2 : ((dg fs (t + 1) + dg fs t / 256 : Nat) : Int) = (dg fs (t + 1) : Int) + (dg fs t : Int) / 256 := by omega
                rw [h2] at h1
                exact h1
              have HB3 := Lib.hid (HB2.out.setCell (p := ⟨w.heap.size, t + 1, none⟩) (Nat.le_refl _) (.int .i64 ((dg fs (t + 1) : Int) + (dg fs t : Int) / 256)))
              obtain ⟨w3, hw3⟩ : ∃ w3, w2.setCell ⟨w.heap.size, t + 1, none⟩ (.int .i64 ((dg fs (t + 1) : Int) + (dg fs t : Int) / 256)) = w3 := ⟨_, rfl⟩
              rw [hw3] at HR3 HB3 ⊢
              clear hw3 ho2 hf2 HR2 HB2
              have ho := HR3.out.cell (j := t) (by have := HT.out.1; simp; omega)
              rw [dg_set _ _ _ _ HT.out.1, if_neg (by omega)] at ho
              have hf := HR3.out.free t
              clear w2
              go_wp2_with fail
              go_roundw
              case rel =>
                have htl := HT.out.1
                refine ⟨t + 1, (fs.set (t + 1) (dg fs (t + 1) + dg fs t / 256)).set t (dg fs t % 256), by have := HT.out.2; omega, by go_num, by show _ = _; rw [List.length_set, List.length_set]; exact hfl.out, fun j => ?_, HStep.out, ?_, HB3.out.setCell (Nat.le_refl _) _⟩
                · rw [dg_set _ _ _ _ (by rw [List.length_set]; omega), dg_set _ _ _ _ htl]
                  have h1 := hfb.out j
                  have h2 := hfb.out t
                  by_cases hj : j = t
                  · rw [if_pos hj]; omega
                  · rw [if_neg hj]
                    by_cases hj1 : j = t + 1
                    · rw [if_pos hj1]; omega
                    · rw [if_neg hj1]; omega
                · have h1 := HR3.out.set t (dg fs t % 256) (by rw [List.length_set]; omega)
                  simpa using h1
              case measure => have := HT.out.2; simp [intOf]; omega
            · have htL : t + 1 = L := by omega
              have htI : ¬ (t : Int) + 1 < (L : Int) := by omega
              have HD := Lib.hid (show Dig 256 fs from dig_of_top (m := t) (by rw [hfl.out]; exact htL.symm) (fun j hj => (hfb.out j).1 hj) (by
                rw [hfv.out, ← HN.out]
                have h1 := val_lt (HC.out.1.1.take (i + 1))
                have h2 := val_lt HC.out.2.1
                have h3 := Nat.pow_le_pow_right (n := 256) (by decide) (show (xs.take (i + 1)).length ≤ xs.length by simp; omega)
                have h4 : val 256 (xs.take (i + 1)) * val 256 ys < 256 ^ xs.length * 256 ^ ys.length := Nat.mul_lt_mul'' (by omega) h2
                rw [← Nat.pow_add] at h4
                have h5 := HL.out
                rwa [show t = xs.length + ys.length by omega]))
              clear htL hlt2 hfb
              go_wp2
              go_roundw
              case rel => exact ⟨i + 1, fs, by omega, by go_num, hfl, HD.out, by show _ = _; rw [hfv.out, HN.out], hrow, hB⟩
              case measure => simp [intOf]; omega
    · have hii : i = xs.length := by omega
      have hiI : ¬ (i : Int) < ((xs.length : Nat) : Int) := by omega
      have HV := Lib.hid (show val 256 cs = val 256 xs * val 256 ys by rw [hcv.out, hii, List.take_length])
      have hcl' := hcl.out
      have hq := hrow.at 0 L L (Nat.le_refl _) (by omega)
      rw [List.drop_zero, List.take_of_length_le (by omega)] at hq
      have C := refCut_any (some ⟨w.heap.size, 0, none⟩) L cs wo hq (by omega)
      rw [hcl'] at C
      have HCC := Lib.hid C
      clear hq hii hlt hcl' C hcv
      go_wp2_with fail
      refine HCC.out.mono ?_
      rintro e w1 ⟨⟨v, rfl, hv⟩, rfl⟩
      go_wp2
      go_ret
      exact ⟨⟨_, rfl, _, hv, can_cut hcd, by rw [val_cut, HV.out]⟩, hB⟩

end Go.Proofs.YtcopfjooopindaaDoor
