/-
  girdleref01.Of: digits to the base 2^32 as digits to the base 256.
-/
import Derived.Test.YtphhaaofkckobaaRplain
import Derived.Test.YtphhaaofkckobaaApp
import Derived.Test.YtphhaaofkckobaaAdd
namespace Go.Proofs.Ytphhaaofkckobaa
open Go.RowKit

set_option maxRecDepth 100000 in
set_option maxHeartbeats 1000000 in
theorem refOf_any {va : Value} {m : Nat} {w : World} (ha : IsNat w va m) (hm : m < maxN) :
    Calls Try.prog 13 #[va] w fun e w' => (∃ v, e = .returned v ∧ IsRef w' v m) ∧ Below w.heap.size w w' := by
  obtain ⟨xs, ⟨p, K, rfl, hat⟩, hcan, rfl⟩ := ha
  have hl : xs.length ≤ 512 := hcan.len_max.2 hm
  have HC := Lib.hid hcan
  clear hcan hm
  go_enter Try.func13, Try.ntmps13
  go_wp2_with fail
  go_loopw [3, 4] (fun so si wr => ∃ (i : Nat) (ds : List Nat), i ≤ xs.length ∧ si = .int .i64 i ∧ Hid (ds.length = 4 * i) ∧ Dig 256 ds ∧ Hid (val 256 ds = val 4294967296 (xs.take i)) ∧ Own .i64 3 wr w.heap.size so ds ∧ Below w.heap.size w wr) (fun _ si _ => xs.length - (intOf si).toNat)
  case atStart => exact ⟨0, [], by omega, rfl, rfl, fun _ h => (nomatch h), by show _ = _; simp [val], Own.nil _ _ _ _, Below.refl _ _⟩
  case round =>
    obtain ⟨i, ds, hi, rfl, hdl, hdd, hdv, hown, hB⟩ := hrel
    obtain ⟨wo, rfl⟩ : ∃ wo : World, wo = wr := ⟨_, rfl⟩
    by_cases hlt : i < xs.length
    · obtain ⟨b, off, rfl, _, hb, hx⟩ := hat.pos (by omega)
      have hci := (hB.cell (p := ⟨b, off + i, none⟩) hb).trans (hx i hlt)
      have hli : (i : Int) < ((xs.length : Nat) : Int) := by omega
      have hdx : dg xs i < 4294967296 := HC.out.1.dg (by decide) i
      clear hx
      go_wp2_with fail
      go_loopw [3, 5, 6] (fun so sn sk wi => ∃ (k n : Nat) (es : List Nat), k ≤ 4 ∧ sk = .int .i64 k ∧ sn = .int .i64 n ∧ n < 4294967296 ∧ Hid (n < 256 ^ (4 - k)) ∧ Hid (es.length = 4 * i + k) ∧ Dig 256 es ∧ Hid (val 256 es + 256 ^ (4 * i + k) * n = val 4294967296 (xs.take (i + 1))) ∧ Own .i64 3 wi w.heap.size so es ∧ Below w.heap.size w wi) (fun _ _ sk _ => 4 - (intOf sk).toNat)
      case atStart =>
        exact ⟨0, dg xs i, ds, by omega, rfl, rfl, hdx, hdx, hdl, hdd, by show _ = _; rw [hdv.out, val_take_succ, Nat.add_zero, pow_four], hown, hB⟩
      case round =>
        clear hown hB hdl hdd hdv hdx hci
        obtain ⟨k, n, es, hk, rfl, rfl, hnl, hn4, hel, hed, hev, hown, hB⟩ := hrel
        by_cases hk4 : k < 4
        · have hkI : (k : Int) < 4 := by omega
          have hnI : (n : Int) < 4294967296 := by omega
          have hlen : es.length ≤ 999999 := by have := hel.out; omega
          go_wp2_with (at_builtin; refine append_int rfl (.tmp 22) (.tmp 25) rfl w.heap.size _ es rfl (hown.alloc _) wr.heap.size (n % 256) rfl ?c1 hlen ?c2 w.heap.size w ?c3 (Nat.le_refl _) (fun v' w' hown' hB' => ?_))
          case c1 => simp [go_sem]
          case c2 => have := hB.size; simp; omega
          case c3 => exact hB.alloc hB.size _
          go_roundw
          case rel =>
            refine ⟨k + 1, n / 256, es ++ [n % 256], by omega, by go_num, by go_num, by omega, ?_, ?_, hed.snoc (Nat.mod_lt _ (by decide)), of_step es n (4 * i + k) _ hel.out hev.out, hown', hB'⟩
            · show _ < _
              have h1 := hn4.out
              rw [show 4 - k = 4 - (k + 1) + 1 by omega, Nat.pow_succ] at h1
              exact Nat.div_lt_of_lt_mul (by rwa [Nat.mul_comm] at h1)
            · show _ = _
              rw [List.length_append, hel.out]; rfl
          case measure => simp [intOf]; omega
        · have hk' : k = 4 := by omega
          subst hk'
          have hn0 : n = 0 := by have := hn4.out; simpa using this
          subst hn0
          go_wp2
          go_roundw
          case rel => exact ⟨i + 1, es, by omega, by go_num, by show _ = _; rw [hel.out, Nat.mul_add], hed, by show _ = _; have := hev.out; simpa using this, hown, hB⟩
          case measure => simp [intOf]; omega
    · have hii : i = xs.length := by omega
      subst hii
      obtain ⟨q, Kq, rfl, hq⟩ := hown.nums
      have hlen : ds.length ≤ 1000000 := by have := hdl.out; omega
      have C := Lib.hid (refCut_any q Kq ds wo hq hlen)
      clear hown hq
      go_wp2_with fail
      refine C.out.mono ?_
      rintro e w1 ⟨⟨v, rfl, hv⟩, rfl⟩
      go_wp2
      go_ret
      exact ⟨⟨_, rfl, _, hv, can_cut hdd, by rw [val_cut, hdv.out, List.take_length]⟩, hB⟩

end Go.Proofs.Ytphhaaofkckobaa
