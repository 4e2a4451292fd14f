/-
  limbs.addTimes and limbs.Mul: one times the other, digit by digit.
-/
import Derived.Test.YtphhaaofkckobaaCmp
import Derived.BigQuiet
import Derived.Deep.QuietTactic
namespace Go.Proofs.Ytphhaaofkckobaa
open Go.RowKit

theorem times_step (cs ys : List Nat) (off k d c N : Nat) (hk : off + k < cs.length) (hky : k < ys.length)
    (hv : val 4294967296 cs + c * 4294967296 ^ (off + k) + 4294967296 ^ (off + k) * (d * val 4294967296 (ys.drop k)) = N) :
    val 4294967296 (cs.set (off + k) ((d * dg ys k + dg cs (off + k) + c) % 4294967296)) + (d * dg ys k + dg cs (off + k) + c) / 4294967296 * 4294967296 ^ (off + (k + 1)) + 4294967296 ^ (off + (k + 1)) * (d * val 4294967296 (ys.drop (k + 1))) = N := by
  have h1 := val_set 4294967296 cs (off + k) ((d * dg ys k + dg cs (off + k) + c) % 4294967296) hk
  have h2 := val_drop 4294967296 hky
  have h3 := Nat.div_add_mod (d * dg ys k + dg cs (off + k) + c) 4294967296
  rw [show off + (k + 1) = off + k + 1 from rfl, Nat.pow_succ]
  generalize (4294967296 : Nat) ^ (off + k) = p at *
  generalize (d * dg ys k + dg cs (off + k) + c) % 4294967296 = s at *
  generalize (d * dg ys k + dg cs (off + k) + c) / 4294967296 = q at *
  grind

theorem times_carry (x y z c : Nat) (hx : x < 4294967296) (hy : y < 4294967296) (hz : z < 4294967296) (hc : c < 4294967296) : x * y ≤ 18446744065119617025 ∧ (x * y + z + c) / 4294967296 < 4294967296 := by
  have h : x * y ≤ 4294967295 * 4294967295 := Nat.mul_le_mul (by omega) (by omega)
  omega

/-- What addTimes leaves: the row's digits, and what is over. -/
def TimesPost (g off d : Nat) (cs ys : List Nat) (w : World) (e : Ending) (w' : World) : Prop := ∃ (c : Nat) (cs' : List Nat), e = .returned (.int .u32 c) ∧ c < 4294967296 ∧ cs'.length = cs.length ∧ Dig 4294967296 cs' ∧
  (∀ j, off + ys.length ≤ j → dg cs' j = dg cs j) ∧ val 4294967296 cs' + c * 4294967296 ^ (off + ys.length) = val 4294967296 cs + 4294967296 ^ off * (d * val 4294967296 ys) ∧ Row .u32 36 w' g cs' ∧ Only g w w'

set_option maxRecDepth 100000 in
set_option maxHeartbeats 1000000 in
theorem times_any (g off cap K2 d b2 o2 : Nat) (cs ys : List Nat) (w : World) (hrow : Row .u32 36 w g cs) (hcs : Dig 4294967296 cs) (hys : Dig 4294967296 ys) (hd : d < 4294967296) (hfit : off + ys.length ≤ cs.length) (hlen : cs.length ≤ 1000000)
    (hb2 : b2 < w.heap.size) (hne : b2 ≠ g) (hy2 : ∀ j, j < ys.length → w.cell? ⟨b2, o2 + j, none⟩ = some (.int .u32 ((dg ys j : Nat) : Int))) :
    Calls Try.prog 46 #[.slice (some ⟨g, off, none⟩) ys.length cap, .slice (some ⟨b2, o2, none⟩) ys.length K2, .int .u32 d] w (TimesPost g off d cs ys w) := by
  go_enter Try.func46, Try.ntmps46
  go_wp2_with fail
  go_loopw [7, 12] (fun sc si wr => ∃ (k c : Nat) (cs' : List Nat), k ≤ ys.length ∧ si = .int .i64 k ∧ sc = .int .u64 c ∧ c < 4294967296 ∧ cs'.length = cs.length ∧ Dig 4294967296 cs' ∧ (∀ j, off + k ≤ j → dg cs' j = dg cs j) ∧
      Hid (val 4294967296 cs' + c * 4294967296 ^ (off + k) + 4294967296 ^ (off + k) * (d * val 4294967296 (ys.drop k)) = val 4294967296 cs + 4294967296 ^ off * (d * val 4294967296 ys)) ∧ Row .u32 36 wr g cs' ∧ Only g w wr) (fun _ si _ => ys.length - (intOf si).toNat)
  case atStart => exact ⟨0, 0, cs, by omega, rfl, rfl, by omega, rfl, hcs, fun j _ => rfl, by show _ = _; simp, hrow, Only.refl _ _⟩
  case round =>
    clear hrow
    obtain ⟨k, c, cs', hk, rfl, rfl, hc, hcl, hcd, hcx, hval, hrow, hO⟩ := hrel
    by_cases hlt : k < ys.length
    · have hy := (hO.cell (a := ⟨b2, o2 + k, none⟩) hb2 hne).trans (hy2 k hlt)
      have ho := hrow.cell (j := off + k) (by omega)
      have hf := hrow.free (off + k)
      have hdy : dg ys k < 4294967296 := hys.dg (by decide) k
      have hdz : dg cs' (off + k) < 4294967296 := hcd.dg (by decide) (off + k)
      obtain ⟨hm, hcc⟩ := times_carry d (dg ys k) (dg cs' (off + k)) c hd hdy hdz hc
      have hm0 : (0 : Int) ≤ (d : Int) * (dg ys k : Int) := by rw [← Int.natCast_mul]; omega
      have hm1 : (d : Int) * (dg ys k : Int) ≤ 18446744065119617025 := by rw [← Int.natCast_mul]; omega
      have hli : (k : Int) < ((ys.length : Nat) : Int) := by omega
      have HC := Lib.hid hcx
      have HL := Lib.hid hcl
      have HM := Lib.hid hm
      have HCC := Lib.hid hcc
      have hrowH := Lib.hid hrow
      have HO := Lib.hid hO
      clear hcx hcl hm hcc hrow hO hy2
      go_wp2_with fail
      go_quiet (fail)
      go_wp2_with fail
      have e1 : ((d : Int) * (dg ys k : Int) + (dg cs' (off + k) : Int) + (c : Int)) % 4294967296 = (((d * dg ys k + dg cs' (off + k) + c) % 4294967296 : Nat) : Int) := by simp
      have e2 : ((d : Int) * (dg ys k : Int) + (dg cs' (off + k) : Int) + (c : Int)) / 4294967296 = (((d * dg ys k + dg cs' (off + k) + c) / 4294967296 : Nat) : Int) := by simp
      rw [e1, e2]
      have hcl := HL.out
      refine ⟨⟨k + 1, (d * dg ys k + dg cs' (off + k) + c) / 4294967296, cs'.set (off + k) ((d * dg ys k + dg cs' (off + k) + c) % 4294967296), by omega, by go_num, rfl, HCC.out, by simpa using hcl, hcd.set _ (Nat.mod_lt _ (by decide)), fun j hj => ?_, times_step cs' ys off k d c _ (by omega) hlt hval.out, ?_, ?_⟩, by simp [intOf]; omega⟩
      · rw [dg_set _ _ _ _ (by omega), if_neg (by omega)]; exact HC.out j (by omega)
      · exact (hrowH.out.keep (w' := wr.drewN nq) rfl).set (off + k) _ (by omega)
      · exact (HO.out.drewN nq).set (off + k) _
    · have hky : k = ys.length := by omega
      have hv0 : val 4294967296 cs' + c * 4294967296 ^ (off + ys.length) = val 4294967296 cs + 4294967296 ^ off * (d * val 4294967296 ys) := by
        have h1 := hval.out
        rw [hky, List.drop_length] at h1
        simpa [val] using h1
      have HV0 := Lib.hid hv0
      have Hky := Lib.hid hky
      have hrowH := Lib.hid hrow
      have HC := Lib.hid hcx
      clear hv0 hky hval hrow hcx hy2
      have hlt' : ¬ (k : Int) < ((ys.length : Nat) : Int) := by omega
      go_wp2
      go_ret
      exact ⟨c, cs', ret_one (by show Value.int .u32 _ = Value.int .u32 _; congr 1), hc, hcl, hcd, fun j hj => HC.out j (by have := Hky.out; omega), HV0.out, hrowH.out, hO⟩

theorem maxN_le (k : Nat) (h : 512 ≤ k) : maxN ≤ 4294967296 ^ k := by
  have := Nat.pow_le_pow_right (n := 4294967296) (show 0 < 4294967296 by decide) h
  unfold maxN; exact this

/-- The product of numbers of so many digits has as many as both, or one less. -/
theorem mul_over {xs ys : List Nat} (hx : Can 4294967296 xs) (hy : Can 4294967296 ys) (h0 : xs ≠ []) (h1 : ys ≠ []) (h : 512 < xs.length + ys.length - 1) : maxN ≤ val 4294967296 xs * val 4294967296 ys := by
  have lx := List.length_pos_iff.2 h0
  have ly := List.length_pos_iff.2 h1
  have := Nat.mul_le_mul (hx.pos h0) (hy.pos h1)
  rw [← Nat.pow_add] at this
  exact Nat.le_trans (maxN_le _ (by omega)) this

theorem mul_step (cs cs' xs ys : List Nat) (k c N : Nat) (hk : k < xs.length) (hfit : k + ys.length < cs'.length) (h0 : dg cs' (k + ys.length) = 0)
    (hv : val 4294967296 cs + 4294967296 ^ k * (val 4294967296 (xs.drop k) * val 4294967296 ys) = N)
    (hc : val 4294967296 cs' + c * 4294967296 ^ (k + ys.length) = val 4294967296 cs + 4294967296 ^ k * (dg xs k * val 4294967296 ys)) :
    val 4294967296 (cs'.set (k + ys.length) c) + 4294967296 ^ (k + 1) * (val 4294967296 (xs.drop (k + 1)) * val 4294967296 ys) = N := by
  have h1 := val_set 4294967296 cs' (k + ys.length) c hfit
  have h2 := val_drop 4294967296 hk
  rw [h0] at h1
  rw [Nat.pow_succ]
  generalize (4294967296 : Nat) ^ (k + ys.length) = q at *
  generalize (4294967296 : Nat) ^ k = p at *
  generalize val 4294967296 ys = v at *
  grind

set_option maxRecDepth 100000 in
set_option maxHeartbeats 2000000 in
theorem mul_any {va vb : Value} {m n : Nat} {w : World} (ha : IsNat w va m) (hb : IsNat w vb n) (hm : m < maxN) (hn : n < maxN) :
    Calls Try.prog 22 #[va, vb] w fun e w' => (∃ v c, e = .returned (.tuple #[v, .int .i64 c]) ∧ FitsN (m * n) w' v c) ∧ Below w.heap.size w w' := by
  obtain ⟨ds, hv1, hc1, rfl⟩ := ha
  obtain ⟨es, hv2, hc2, rfl⟩ := hb
  have hl1 : ds.length ≤ 512 := hc1.len_max.2 hm
  have hl2 : es.length ≤ 512 := hc2.len_max.2 hn
  have h0n : 0 < maxN := Nat.lt_of_le_of_lt (Nat.zero_le _) hm
  clear hm hn
  have C1 := trim_any hv1 (by omega)
  rw [hc1.2] at C1
  have H1 := Lib.hid C1
  have C2 : ∀ W, Below w.heap.size w W → Calls Try.prog 30 #[vb] W fun e w' => (∃ v, e = .returned v ∧ Nums .u32 w' v es) ∧ Below W.heap.size W w' := fun W hW => by
    have := trim_any (hv2.below hW (Nat.le_refl _)) (by omega)
    rwa [hc2.2] at this
  have H2 := Lib.hid C2
  obtain ⟨q1, k1, rfl, -⟩ := hv1
  obtain ⟨q2, k2, rfl, -⟩ := hv2
  clear C1 C2
  go_enter Try.func22, Try.ntmps22
  go_wp2_with fail
  refine H1.out.mono ?_
  rintro e w1 ⟨⟨v1, rfl, hr1⟩, hB1⟩
  go_wp2_with fail
  refine (H2.out _ hB1).mono ?_
  rintro e w2 ⟨⟨v2, rfl, hr2⟩, hB2⟩
  have hB : Below w.heap.size w w2 := hB1.trans (hB2.mono hB1.size)
  have hr1 := hr1.below hB2 (Nat.le_refl _)
  clear H1 H2 hB1 hB2
  obtain ⟨p1, K1, rfl, at1⟩ := hr1
  obtain ⟨p2, K2, rfl, at2⟩ := hr2
  by_cases h1 : ds = []
  · subst h1
    have HN := Lib.hid h0n
    go_wp2
    go_ret2
    exact ⟨⟨_, _, rfl, fun _ => ⟨rfl, [], .nil _ _, Can.nil _, by simp [val]⟩, fun h => by simp [val] at h; have := HN.out; omega⟩, hB⟩
  · have lx := List.length_pos_iff.2 h1
    have z1 : (((ds.length : Nat) : Int) == 0) = false := by simp; omega
    by_cases h2 : es = []
    · subst h2
      have HN := Lib.hid h0n
      clear h1
      go_wp2
      go_ret2
      exact ⟨⟨_, _, rfl, fun _ => ⟨rfl, [], .nil _ _, Can.nil _, by simp [val]⟩, fun h => by simp [val] at h; have := HN.out; omega⟩, hB⟩
    · have ly := List.length_pos_iff.2 h2
      have z2 : (((es.length : Nat) : Int) == 0) = false := by simp; omega
      by_cases h3 : 512 < ds.length + es.length - 1
      · have HO := Lib.hid (mul_over hc1 hc2 h1 h2 h3)
        have h3' : (512 : Int) < ((ds.length : Nat) : Int) + ((es.length : Nat) : Int) - 1 := by omega
        clear h1 h2
        go_wp2
        go_ret2
        exact ⟨⟨_, _, rfl, fun h => by have := HO.out; omega, fun _ => ⟨rfl, rfl⟩⟩, hB⟩
      · have h3' : ¬ (512 : Int) < ((ds.length : Nat) : Int) + ((es.length : Nat) : Int) - 1 := by omega
        clear h1 h2
        obtain ⟨b2, o2, rfl, hk2, hb2, hy2⟩ := at2.pos ly
        obtain ⟨b1, o1, rfl, hk1, hb1, hx1⟩ := at1.pos lx
        obtain ⟨wb, rfl⟩ : ∃ wb : World, wb = w2 := ⟨_, rfl⟩
        go_upto_region 7 with (at_make; refine make_nat rfl _ _ rfl _ _ (ds.length + es.length) rfl rfl ?hL ?hC ?hn wb.heap.size wb (Below.refl _ _) (Nat.le_refl _) (fun w3 hr3 hB3 hB3' => ?_))
        case hL => omega
        case hC => omega
        case hn => omega
        clear at1 at2 hB3'
        have T := Lib.hid (fun (k d cap : Nat) (cs : List Nat) (W : World) (h1 : Row .u32 36 W wb.heap.size cs) (h2 : Dig 4294967296 cs) (h3 : d < 4294967296) (h4 : k + es.length ≤ cs.length) (h5 : cs.length ≤ 1000000) (h6 : Below wb.heap.size wb W) =>
          times_any wb.heap.size k cap K2 d b2 o2 cs es W h1 h2 hc2.1 h3 h4 h5 (Nat.lt_of_lt_of_le hb2 h6.size) (by omega) fun j hj => (h6.cell (p := ⟨b2, o2 + j, none⟩) hb2).trans (hy2 j hj))
        clear hy2
        go_wp2_with fail
        go_loopw [36] (fun si wr => ∃ (k : Nat) (cs : List Nat), k ≤ ds.length ∧ si = .int .i64 k ∧ cs.length = ds.length + es.length ∧ Dig 4294967296 cs ∧ (∀ j, k + es.length ≤ j → dg cs j = 0) ∧
          Hid (val 4294967296 cs + 4294967296 ^ k * (val 4294967296 (ds.drop k) * val 4294967296 es) = val 4294967296 ds * val 4294967296 es) ∧ Row .u32 36 wr wb.heap.size cs ∧ Below wb.heap.size wb wr) (fun si _ => ds.length - (intOf si).toNat)
        case atStart =>
          refine ⟨0, List.replicate (ds.length + es.length) 0, by omega, rfl, by simp, fun x hx => by simp at hx; omega, fun j _ => ?_, by show _ = _; rw [val_zeros]; simp, hr3, hB3⟩
          by_cases hj : j < ds.length + es.length
          · rw [dg_lt (by simpa using hj)]; simp
          · exact dg_ge (by simpa using hj)
        case round =>
          clear hr3 hB3
          obtain ⟨k, cs, hk, rfl, hcl, hcd, hcz, hval, hrow, hBr⟩ := hrel
          by_cases hlt : k < ds.length
          · have hx := (hBr.cell (p := ⟨b1, o1 + k, none⟩) hb1).trans (hx1 k hlt)
            have hdx : dg ds k < 4294967296 := hc1.1.dg (by decide) k
            have hli : (k : Int) < ((ds.length : Nat) : Int) := by omega
            have HL := Lib.hid hcl
            have HZ := Lib.hid hcz
            have hrowH := Lib.hid hrow
            clear hcl hcz hrow
            go_wp2_with fail
            refine (T.out k (dg ds k) _ cs _ hrowH.out hcd hdx (by have := HL.out; omega) (by have := HL.out; omega) hBr).mono ?_
            rintro e w4 ⟨c, cs', rfl, hc, hl', hd', hz', hv', hrow', hO'⟩
            have hcl := HL.out
            have hBr' := hO'.below hBr (Nat.le_refl _) hBr.size
            have ho := hrow'.cell (j := k + es.length) (by omega)
            have hf := hrow'.free (k + es.length)
            have E0 : dg cs' (k + es.length) = 0 := by rw [hz' _ (Nat.le_refl _)]; exact HZ.out _ (Nat.le_refl _)
            have S := Lib.hid (mul_step cs cs' ds es k c _ hlt (by omega) E0 hval.out hv')
            have HZ' := Lib.hid hz'
            have hrowH' := Lib.hid hrow'
            have HL' := Lib.hid hl'
            have hli2 : (k : Int) + ((es.length : Nat) : Int) < ((ds.length : Nat) : Int) + ((es.length : Nat) : Int) := by omega
            clear hz' hv' hrow' E0 hl' hcl hx
            go_wp2
            have hl' := HL'.out
            have hcl := HL.out
            go_roundw
            case rel =>
              refine ⟨k + 1, cs'.set (k + es.length) c, by omega, by go_num, by simp; omega, hd'.set _ hc, fun j hj => ?_, S.out, hrowH'.out.set (k + es.length) c (by omega), hBr'.setCell (p := ⟨wb.heap.size, k + es.length, none⟩) (Nat.le_refl _) _⟩
              rw [dg_set _ _ _ _ (by omega), if_neg (by omega), HZ'.out j (by omega)]
              exact HZ.out j (by omega)
            case measure => simp [intOf]; omega
          · have hky : k = ds.length := by omega
            have HV := Lib.hid (show val 4294967296 (cut cs) = val 4294967296 ds * val 4294967296 es by
              rw [val_cut]
              have h1 := hval.out
              rw [hky, List.drop_length] at h1
              simpa [val] using h1)
            have hn := hrow.all (ds.length + es.length) (by omega)
            rw [hcl] at hn
            have W := Lib.hid (within_any hn (by omega))
            have HB := Lib.hid (hB.trans (hBr.mono hB.size))
            have hlt' : ¬ (k : Int) < ((ds.length : Nat) : Int) := by omega
            clear hky hval hn hrow hcl hcz hBr
            go_wp2_with (go_at_call 47; refine W.out.mono ?_; rintro e w5 ⟨⟨v5, c5, rfl, hfit⟩, hB5⟩)
            go_ret2
            exact ⟨⟨_, _, rfl, hfit.num (can_cut hcd) HV.out⟩, HB.out.trans (hB5.mono HB.out.size)⟩

end Go.Proofs.Ytphhaaofkckobaa
