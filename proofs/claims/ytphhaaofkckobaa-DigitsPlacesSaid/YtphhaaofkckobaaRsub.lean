/-
  girdleref01.Sub, digit by digit to the base 256.
-/
import Derived.Test.YtphhaaofkckobaaRadd
namespace Go.Proofs.Ytphhaaofkckobaa
open Go.RowKit

set_option maxRecDepth 100000 in
set_option maxHeartbeats 2000000 in
theorem refSub_at {va vb : Value} {m n : Nat} {w : World} (ha : IsRef w va m) (hb : IsRef w vb n) (hm : m < 256 * maxN) (hle : n ≤ m) :
    Calls Try.prog 36 #[va, vb] w fun e w' => (∃ v, e = .returned v ∧ IsRef w' v (m - n) ∧ NewIn w.heap.size v) ∧ Below w.heap.size w w' := by
  obtain ⟨xs, ⟨p1, K1, rfl, at1⟩, c1, rfl⟩ := ha
  obtain ⟨ys, ⟨p2, K2, rfl, at2⟩, c2, rfl⟩ := hb
  have hl1 : xs.length ≤ 2049 := ref_len9 c1 hm
  have hl2 : ys.length ≤ 2049 := ref_len9 c2 (by omega)
  have HC := Lib.hid (And.intro c1 (And.intro c2 hle))
  clear c1 c2 hm hle
  go_enter Try.func36, Try.ntmps36
  go_wp2_with fail
  go_loopw [5, 6, 7] (fun so sc si wr => ∃ (i o : Nat) (ds : List Nat), i ≤ xs.length ∧ si = .int .i64 i ∧ sc = .int .i64 o ∧ o ≤ 1 ∧ Hid (ds.length = i) ∧ Dig 256 ds ∧ Hid (val 256 ds + val 256 ys + 256 ^ i * val 256 (xs.drop i) = val 256 xs + 256 ^ i * (o + val 256 (ys.drop i))) ∧ Own .i64 3 wr w.heap.size so ds ∧ Below w.heap.size w wr) (fun _ _ si _ => xs.length - (intOf si).toNat)
  case atStart => exact ⟨0, 0, [], by omega, rfl, rfl, by omega, rfl, fun _ h => (nomatch h), by show _ = _; simp [val]; omega, Own.nil _ _ _ _, Below.refl _ _⟩
  case round =>
    obtain ⟨i, o, ds, hi, rfl, rfl, ho, hdl, hdd, hdv, hown, hB⟩ := hrel
    by_cases r1 : i < xs.length
    · have hxi := HC.out.1.1.dg (by decide) i
      have hyi := HC.out.2.1.1.dg (by decide) i
      obtain ⟨b1, o1, rfl, _, hb1, hx1⟩ := at1.pos (by omega)
      have hc1 := (hB.cell (p := ⟨b1, o1 + i, none⟩) hb1).trans (hx1 i r1)
      have hr1 : (i : Int) < ((xs.length : Nat) : Int) := by omega
      have hlen : ds.length ≤ 999999 := by have := hdl.out; omega
      clear hx1
      by_cases r2 : i < ys.length
      · obtain ⟨b2, o2, rfl, _, hb2, hx2⟩ := at2.pos (by omega)
        have hc2 := (hB.cell (p := ⟨b2, o2 + i, none⟩) hb2).trans (hx2 i r2)
        have hr2 : (i : Int) < ((ys.length : Nat) : Int) := by omega
        clear hx2
        by_cases hng : dg xs i < dg ys i + o
        · have hn1 : (dg xs i : Int) - (o : Int) - (dg ys i : Int) < 0 := by omega
          have HR := Lib.hid r1
          have HS := Lib.hid (rsub_step ds xs ys o 1 (dg xs i + 256 - o - dg ys i) i hdl.out (by omega) hdv.out)
          have HN := Lib.hid hng
          clear r1 r2 hdv hng
          go_wp2_with (at_builtin; refine append_int rfl (.tmp 35) (.tmp 37) rfl w.heap.size _ ds rfl (hown.alloc _) wr.heap.size (dg xs i + 256 - o - dg ys i) rfl ?c1an hlen ?c2an w.heap.size w ?c3an (Nat.le_refl _) (fun v' w' hown' hB' => ?_))
          case c1an => have := HN.out; (try simp [go_sem]); omega
          case c2an => have := hB.size; simp; omega
          case c3an => exact hB.alloc hB.size _
          go_roundw
          case rel =>
            refine ⟨i + 1, 1, ds ++ [(dg xs i + 256 - o - dg ys i)], by have := HR.out; omega, by go_num, rfl, by omega, ?_, hdd.snoc (by have := HN.out; omega), HS.out, hown', hB'⟩
            show _ = _
            rw [List.length_append, hdl.out]; rfl
          case measure => have := HR.out; simp [intOf]; omega
        · have hn1 : ¬ (dg xs i : Int) - (o : Int) - (dg ys i : Int) < 0 := by omega
          have HR := Lib.hid r1
          have HS := Lib.hid (rsub_step ds xs ys o 0 (dg xs i - o - dg ys i) i hdl.out (by omega) hdv.out)
          have HN := Lib.hid hng
          clear r1 r2 hdv hng
          go_wp2_with (at_builtin; refine append_int rfl (.tmp 35) (.tmp 37) rfl w.heap.size _ ds rfl (hown.alloc _) wr.heap.size (dg xs i - o - dg ys i) rfl ?c1ap hlen ?c2ap w.heap.size w ?c3ap (Nat.le_refl _) (fun v' w' hown' hB' => ?_))
          case c1ap => have := HN.out; (try simp [go_sem]); omega
          case c2ap => have := hB.size; simp; omega
          case c3ap => exact hB.alloc hB.size _
          go_roundw
          case rel =>
            refine ⟨i + 1, 0, ds ++ [(dg xs i - o - dg ys i)], by have := HR.out; omega, by go_num, rfl, by omega, ?_, hdd.snoc (by have := HN.out; omega), HS.out, hown', hB'⟩
            show _ = _
            rw [List.length_append, hdl.out]; rfl
          case measure => have := HR.out; simp [intOf]; omega
      · have hr2 : ¬ (i : Int) < ((ys.length : Nat) : Int) := by omega
        have z2 := Lib.hid (dg_over (ds := ys) (i := i) (by omega))
        by_cases hng : dg xs i < 0 + o
        · have hn1 : (dg xs i : Int) - (o : Int) < 0 := by omega
          have HR := Lib.hid r1
          have HS := Lib.hid (rsub_step ds xs ys o 1 (dg xs i + 256 - o - 0) i hdl.out (by rw [z2.out]; omega) hdv.out)
          have HN := Lib.hid hng
          clear r1 r2 hdv hng
          go_wp2_with (at_builtin; refine append_int rfl (.tmp 35) (.tmp 37) rfl w.heap.size _ ds rfl (hown.alloc _) wr.heap.size (dg xs i + 256 - o - 0) rfl ?c1bn hlen ?c2bn w.heap.size w ?c3bn (Nat.le_refl _) (fun v' w' hown' hB' => ?_))
          case c1bn => have := HN.out; (try simp [go_sem]); omega
          case c2bn => have := hB.size; simp; omega
          case c3bn => exact hB.alloc hB.size _
          go_roundw
          case rel =>
            refine ⟨i + 1, 1, ds ++ [(dg xs i + 256 - o - 0)], by have := HR.out; omega, by go_num, rfl, by omega, ?_, hdd.snoc (by have := HN.out; omega), HS.out, hown', hB'⟩
            show _ = _
            rw [List.length_append, hdl.out]; rfl
          case measure => have := HR.out; simp [intOf]; omega
        · have hn1 : ¬ (dg xs i : Int) - (o : Int) < 0 := by omega
          have HR := Lib.hid r1
          have HS := Lib.hid (rsub_step ds xs ys o 0 (dg xs i - o - 0) i hdl.out (by rw [z2.out]; omega) hdv.out)
          have HN := Lib.hid hng
          clear r1 r2 hdv hng
          go_wp2_with (at_builtin; refine append_int rfl (.tmp 35) (.tmp 37) rfl w.heap.size _ ds rfl (hown.alloc _) wr.heap.size (dg xs i - o - 0) rfl ?c1bp hlen ?c2bp w.heap.size w ?c3bp (Nat.le_refl _) (fun v' w' hown' hB' => ?_))
          case c1bp => have := HN.out; (try simp [go_sem]); omega
          case c2bp => have := hB.size; simp; omega
          case c3bp => exact hB.alloc hB.size _
          go_roundw
          case rel =>
            refine ⟨i + 1, 0, ds ++ [(dg xs i - o - 0)], by have := HR.out; omega, by go_num, rfl, by omega, ?_, hdd.snoc (by have := HN.out; omega), HS.out, hown', hB'⟩
            show _ = _
            rw [List.length_append, hdl.out]; rfl
          case measure => have := HR.out; simp [intOf]; omega
    · have hii : i = xs.length := by omega
      have HV := Lib.hid (rsub_end ds xs ys o hdd (by rw [hdl.out, hii]) HC.out.2.2 (by rw [← hii]; exact hdv.out))
      have hr1 : ¬ (i : Int) < ((xs.length : Nat) : Int) := by omega
      have hnew := hown.newIn
      obtain ⟨q, Kq, rfl, hq⟩ := hown.nums
      have hlen : ds.length ≤ 1000000 := by have := hdl.out; omega
      have C := Lib.hid (refCut_at q Kq ds wr hq hlen)
      clear hown hq hii r1
      go_wp2_with fail
      refine C.out.mono ?_
      rintro e w1 ⟨⟨v, rfl, hv, n1, K1, rfl⟩, rfl⟩
      go_wp2
      go_ret
      exact ⟨⟨_, rfl, ⟨_, hv, can_cut hdd, by rw [val_cut, HV.out]⟩, hnew.cut⟩, hB⟩

theorem refSub_wide {va vb : Value} {m n : Nat} {w : World} (ha : IsRef w va m) (hb : IsRef w vb n) (hm : m < 256 * maxN) (hle : n ≤ m) :
    Calls Try.prog 36 #[va, vb] w fun e w' => (∃ v, e = .returned v ∧ IsRef w' v (m - n)) ∧ Below w.heap.size w w' :=
  (refSub_at ha hb hm hle).mono fun _ _ ⟨⟨v, h1, h2, _⟩, h3⟩ => ⟨⟨v, h1, h2⟩, h3⟩

theorem cmpI_ge {a b : Int} (h : b ≤ a) : 0 ≤ cmpI a b := by unfold cmpI; rw [if_neg (by omega)]; split <;> omega
theorem cmpI_lt {a b : Int} (h : a < b) : cmpI a b = -1 := by unfold cmpI; rw [if_pos h]
theorem cmpI_gt {a b : Int} (h : b < a) : cmpI a b = 1 := by unfold cmpI; rw [if_neg (by omega), if_pos h]
theorem cmpI_eq (a : Int) : cmpI a a = 0 := by unfold cmpI; rw [if_neg (by omega), if_neg (by omega)]

theorem refSub_any {va vb : Value} {m n : Nat} {w : World} (ha : IsRef w va m) (hb : IsRef w vb n) (hm : m < maxN) (hle : n ≤ m) :
    Calls Try.prog 36 #[va, vb] w fun e w' => (∃ v, e = .returned v ∧ IsRef w' v (m - n)) ∧ Below w.heap.size w w' := refSub_wide ha hb (by omega) hle

theorem refCmp_ref {va vb : Value} {m n : Nat} {w : World} (ha : IsRef w va m) (hb : IsRef w vb n) (hm : m < 256 * maxN) (hn : n < 256 * maxN) :
    Calls Try.prog 35 #[va, vb] w fun e w' => e = .returned (.int .i64 (cmpI m n)) ∧ w' = w := by
  obtain ⟨xs, ⟨p1, K1, rfl, at1⟩, c1, rfl⟩ := ha
  obtain ⟨ys, ⟨p2, K2, rfl, at2⟩, c2, rfl⟩ := hb
  have hl1 := ref_len9 c1 hm
  have hl2 := ref_len9 c2 hn
  exact refCmp_any p1 p2 K1 K2 xs ys w at1 at2 c1.1 c2.1 (by omega) (by omega)

end Go.Proofs.Ytphhaaofkckobaa
