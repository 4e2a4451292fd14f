/-
  girdleref01.Add and girdleref01.Sub, digit by digit to the base 256.
-/
import Derived.Test.YtphhaaofkckobaaRback
namespace Go.Proofs.Ytphhaaofkckobaa
open Go.RowKit

theorem lt_B (n : Nat) (h : n < 256) : (n : Int) < 256 := by omega

set_option maxRecDepth 100000 in
set_option maxHeartbeats 2000000 in
theorem refAdd_any {va vb : Value} {m n : Nat} {w : World} (ha : IsRef w va m) (hb : IsRef w vb n) (hm : m < maxN) (hn : n < maxN) :
    Calls Try.prog 19 #[va, vb] w fun e w' => (∃ v, e = .returned v ∧ IsRef w' v (m + n)) ∧ Below w.heap.size w w' := by
  obtain ⟨xs, ⟨p1, K1, rfl, at1⟩, c1, rfl⟩ := ha
  obtain ⟨ys, ⟨p2, K2, rfl, at2⟩, c2, rfl⟩ := hb
  have hl1 : xs.length ≤ 2048 := ref_len c1 hm
  have hl2 : ys.length ≤ 2048 := ref_len c2 hn
  have HC := Lib.hid (And.intro c1 c2)
  clear c1 c2 hm hn
  go_enter Try.func19, Try.ntmps19
  go_wp2_with fail
  go_loopw [5, 6, 7] (fun so sc si wr => ∃ (i c : Nat) (ds : List Nat), i ≤ 2049 ∧ (i = 2049 → c = 0) ∧ si = .int .i64 i ∧ sc = .int .i64 c ∧ c ≤ 1 ∧ Hid (ds.length = i) ∧ Dig 256 ds ∧ Hid (val 256 ds + 256 ^ i * (c + val 256 (xs.drop i) + val 256 (ys.drop i)) = val 256 xs + val 256 ys) ∧ Own .i64 3 wr w.heap.size so ds ∧ Below w.heap.size w wr) (fun _ _ si _ => 2050 - (intOf si).toNat)
  case atStart => exact ⟨0, 0, [], by omega, by omega, rfl, rfl, by omega, rfl, fun _ h => (nomatch h), by show _ = _; simp [val], Own.nil _ _ _ _, Below.refl _ _⟩
  case round =>
    obtain ⟨i, c, ds, hi, hi0, rfl, rfl, hc, hdl, hdd, hdv, hown, hB⟩ := hrel
    have hxi := HC.out.1.1.dg (by decide) i
    have hyi := HC.out.2.1.dg (by decide) i
    have HS := Lib.hid (radd_step ds xs ys c i _ hdl.out hdv.out)
    by_cases r1 : i < xs.length
    · by_cases r2 : i < ys.length
      · obtain ⟨b1, o1, rfl, _, hb1, hx1⟩ := at1.pos (by omega)
        have hc1 := (hB.cell (p := ⟨b1, o1 + i, none⟩) hb1).trans (hx1 i r1)
        have hr1 : (i : Int) < ((xs.length : Nat) : Int) := by omega
        clear hx1
        obtain ⟨b2, o2, rfl, _, hb2, hx2⟩ := at2.pos (by omega)
        have hc2 := (hB.cell (p := ⟨b2, o2 + i, none⟩) hb2).trans (hx2 i r2)
        have hr2 : (i : Int) < ((ys.length : Nat) : Int) := by omega
        clear hx2
        have hlen : ds.length ≤ 999999 := by have := hdl.out; omega
        have HR := Lib.hid (And.intro r1 r2)
        clear r1 r2 hdv
        go_wp2_with (at_builtin; refine append_int rfl (.tmp 44) (.tmp 47) rfl w.heap.size _ ds rfl (hown.alloc _) wr.heap.size ((c + dg xs i + dg ys i) % 256) rfl ?c1a hlen ?c2a w.heap.size w ?c3a (Nat.le_refl _) (fun v' w' hown' hB' => ?_))
        try case c1a => simp [go_sem]
        case c2a => have := hB.size; simp; omega
        case c3a => exact hB.alloc hB.size _
        go_roundw
        case rel =>
          refine ⟨i + 1, (c + dg xs i + dg ys i) / 256, ds ++ [(c + dg xs i + dg ys i) % 256], by have := HR.out; omega, by have := HR.out; omega, by go_num, by go_num, by omega, ?_, hdd.snoc (Nat.mod_lt _ (by decide)), HS.out, hown', hB'⟩
          show _ = _
          rw [List.length_append, hdl.out]; rfl
        case measure => simp [intOf]; omega
      · obtain ⟨b1, o1, rfl, _, hb1, hx1⟩ := at1.pos (by omega)
        have hc1 := (hB.cell (p := ⟨b1, o1 + i, none⟩) hb1).trans (hx1 i r1)
        have hr1 : (i : Int) < ((xs.length : Nat) : Int) := by omega
        clear hx1
        have hr2 : ¬ (i : Int) < ((ys.length : Nat) : Int) := by omega
        have hd2 : decide (i < ys.length) = false := decide_eq_false (by omega)
        have z2 := dg_over (ds := ys) (i := i) (by omega)
        rw [z2] at HS
        clear z2
        have hlen : ds.length ≤ 999999 := by have := hdl.out; omega
        have HR := Lib.hid (And.intro r1 r2)
        clear r1 r2 hdv
        go_wp2_with (at_builtin; refine append_int rfl (.tmp 44) (.tmp 47) rfl w.heap.size _ ds rfl (hown.alloc _) wr.heap.size ((c + dg xs i + 0) % 256) rfl ?c1b hlen ?c2b w.heap.size w ?c3b (Nat.le_refl _) (fun v' w' hown' hB' => ?_))
        try case c1b => simp [go_sem]
        case c2b => have := hB.size; simp; omega
        case c3b => exact hB.alloc hB.size _
        go_roundw
        case rel =>
          refine ⟨i + 1, (c + dg xs i + 0) / 256, ds ++ [(c + dg xs i + 0) % 256], by have := HR.out; omega, by have := HR.out; omega, by go_num, by go_num, by omega, ?_, hdd.snoc (Nat.mod_lt _ (by decide)), HS.out, hown', hB'⟩
          show _ = _
          rw [List.length_append, hdl.out]; rfl
        case measure => simp [intOf]; omega
    · by_cases r2 : i < ys.length
      · have hr1 : ¬ (i : Int) < ((xs.length : Nat) : Int) := by omega
        have hd1 : decide (i < xs.length) = false := decide_eq_false (by omega)
        have z1 := dg_over (ds := xs) (i := i) (by omega)
        rw [z1] at HS
        clear z1
        obtain ⟨b2, o2, rfl, _, hb2, hx2⟩ := at2.pos (by omega)
        have hc2 := (hB.cell (p := ⟨b2, o2 + i, none⟩) hb2).trans (hx2 i r2)
        have hr2 : (i : Int) < ((ys.length : Nat) : Int) := by omega
        clear hx2
        have hlen : ds.length ≤ 999999 := by have := hdl.out; omega
        have HR := Lib.hid (And.intro r1 r2)
        clear r1 r2 hdv
        go_wp2_with (at_builtin; refine append_int rfl (.tmp 44) (.tmp 47) rfl w.heap.size _ ds rfl (hown.alloc _) wr.heap.size ((c + 0 + dg ys i) % 256) rfl ?c1c hlen ?c2c w.heap.size w ?c3c (Nat.le_refl _) (fun v' w' hown' hB' => ?_))
        try case c1c => simp [go_sem]
        case c2c => have := hB.size; simp; omega
        case c3c => exact hB.alloc hB.size _
        go_roundw
        case rel =>
          refine ⟨i + 1, (c + 0 + dg ys i) / 256, ds ++ [(c + 0 + dg ys i) % 256], by have := HR.out; omega, by have := HR.out; omega, by go_num, by go_num, by omega, ?_, hdd.snoc (Nat.mod_lt _ (by decide)), HS.out, hown', hB'⟩
          show _ = _
          rw [List.length_append, hdl.out]; rfl
        case measure => simp [intOf]; omega
      · have hr1 : ¬ (i : Int) < ((xs.length : Nat) : Int) := by omega
        have hd1 : decide (i < xs.length) = false := decide_eq_false (by omega)
        have z1 := dg_over (ds := xs) (i := i) (by omega)
        rw [z1] at HS
        clear z1
        have hr2 : ¬ (i : Int) < ((ys.length : Nat) : Int) := by omega
        have hd2 : decide (i < ys.length) = false := decide_eq_false (by omega)
        have z2 := dg_over (ds := ys) (i := i) (by omega)
        rw [z2] at HS
        clear z2
        by_cases hcp : 0 < c
        · have hcI : (0 : Int) < (c : Int) := by omega
          have hlen : ds.length ≤ 999999 := by have := hdl.out; omega
          have HR := Lib.hid (And.intro r1 r2)
          clear r1 r2 hdv
          go_wp2_with (at_builtin; refine append_int rfl (.tmp 44) (.tmp 47) rfl w.heap.size _ ds rfl (hown.alloc _) wr.heap.size ((c + 0 + 0) % 256) rfl ?c1d hlen ?c2d w.heap.size w ?c3d (Nat.le_refl _) (fun v' w' hown' hB' => ?_))
          try case c1d => simp [go_sem]
          case c2d => have := hB.size; simp; omega
          case c3d => exact hB.alloc hB.size _
          go_roundw
          case rel =>
            refine ⟨i + 1, (c + 0 + 0) / 256, ds ++ [(c + 0 + 0) % 256], by have := HR.out; omega, by have := HR.out; omega, by go_num, by go_num, by omega, ?_, hdd.snoc (Nat.mod_lt _ (by decide)), HS.out, hown', hB'⟩
            show _ = _
            rw [List.length_append, hdl.out]; rfl
          case measure => simp [intOf]; omega
        · have hcI : ¬ (0 : Int) < (c : Int) := by omega
          have hcD : decide (0 < c) = false := decide_eq_false hcp
          have c0 : c = 0 := by omega
          obtain ⟨q, Kq, rfl, hq⟩ := hown.nums
          have hlen : ds.length ≤ 1000000 := by have := hdl.out; omega
          have C := Lib.hid (refCut_any q Kq ds wr hq hlen)
          have HV : Hid (val 256 ds = val 256 xs + val 256 ys) := by
            show _ = _
            have h1 := hdv.out
            rw [List.drop_of_length_le (by omega), List.drop_of_length_le (by omega), c0] at h1
            simpa [val] using h1
          clear hown hq HS c0
          go_wp2_with fail
          refine C.out.mono ?_
          rintro e w1 ⟨⟨v, rfl, hv⟩, rfl⟩
          go_wp2
          go_ret
          exact ⟨⟨_, rfl, _, hv, can_cut hdd, by rw [val_cut, HV.out]⟩, hB⟩

end Go.Proofs.Ytphhaaofkckobaa
