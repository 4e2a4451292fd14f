/-
  limbs.takeTimes, limbs.giveBack: a divisor taken off a row's digits so many times, and given back.
-/
import Derived.Test.YtphhaaofkckobaaRight
namespace Go.Proofs.Ytphhaaofkckobaa
open Go.RowKit

theorem take_step (seg ys : List Nat) (k q c b N : Nat) (hk : k < seg.length) (hky : k < ys.length) (hs : Dig 4294967296 seg) (hb : b ≤ 1)
    (hv : val 4294967296 seg + q * val 4294967296 ys = N + (c + b) * 4294967296 ^ k + 4294967296 ^ k * (q * val 4294967296 (ys.drop k))) :
    val 4294967296 (seg.set k (subD (dg seg k) ((q * dg ys k + c) % 4294967296) b)) + q * val 4294967296 ys =
      N + ((q * dg ys k + c) / 4294967296 + subB (dg seg k) ((q * dg ys k + c) % 4294967296) b) * 4294967296 ^ (k + 1) + 4294967296 ^ (k + 1) * (q * val 4294967296 (ys.drop (k + 1))) := by
  have h1 := val_set 4294967296 seg k (subD (dg seg k) ((q * dg ys k + c) % 4294967296) b) hk
  have h2 := val_drop 4294967296 hky
  have h3 := (subD_eq (dg seg k) ((q * dg ys k + c) % 4294967296) b (hs.dg (by decide) k) (Nat.mod_lt _ (by decide)) hb).1
  have h4 := Nat.div_add_mod (q * dg ys k + c) 4294967296
  rw [Nat.pow_succ]
  generalize subD (dg seg k) ((q * dg ys k + c) % 4294967296) b = s at *
  generalize subB (dg seg k) ((q * dg ys k + c) % 4294967296) b = b' at *
  generalize (q * dg ys k + c) % 4294967296 = m at *
  generalize (q * dg ys k + c) / 4294967296 = d at *
  generalize (4294967296 : Nat) ^ k = p at *
  grind

theorem take_last (seg : List Nat) (n c b N M : Nat) (hk : n < seg.length) (hs : Dig 4294967296 seg) (hc : c < 4294967296) (hb : b ≤ 1)
    (hv : val 4294967296 seg + M = N + (c + b) * 4294967296 ^ n) :
    val 4294967296 (seg.set n (subD (dg seg n) c b)) + M = N + subB (dg seg n) c b * 4294967296 ^ (n + 1) := by
  have h1 := val_set 4294967296 seg n (subD (dg seg n) c b) hk
  have h3 := (subD_eq (dg seg n) c b (hs.dg (by decide) n) hc hb).1
  rw [Nat.pow_succ]
  generalize subD (dg seg n) c b = s at *
  generalize subB (dg seg n) c b = b' at *
  generalize (4294967296 : Nat) ^ n = p at *
  grind

/-- What takeTimes leaves. -/
def TakePost (g q : Nat) (lo seg hi ys : List Nat) (w : World) (e : Ending) (w' : World) : Prop := ∃ (b : Bool) (seg' : List Nat), e = .returned (.bool b) ∧ seg'.length = seg.length ∧ Dig 4294967296 seg' ∧
  val 4294967296 seg' + q * val 4294967296 ys = val 4294967296 seg + (if b then 4294967296 ^ seg.length else 0) ∧ Row .u32 36 w' g (lo ++ (seg' ++ hi)) ∧ Only g w w'

set_option maxRecDepth 100000 in
set_option maxHeartbeats 1000000 in
theorem take_any (g off cap K2 q b2 o2 : Nat) (lo seg hi ys : List Nat) (w : World) (hoff : off = lo.length) (hrow : Row .u32 36 w g (lo ++ (seg ++ hi))) (hseg : seg.length = ys.length + 1) (hds : Dig 4294967296 seg) (hys : Dig 4294967296 ys) (hq : q < 4294967296) (hlen : ys.length ≤ 1000000)
    (hb2 : b2 < w.heap.size) (hne : b2 ≠ g) (hy2 : ∀ j, j < ys.length → w.cell? ⟨b2, o2 + j, none⟩ = some (.int .u32 ((dg ys j : Nat) : Int))) :
    Calls Try.prog 76 #[.slice (some ⟨g, off, none⟩) (ys.length + 1) cap, .slice (some ⟨b2, o2, none⟩) ys.length K2, .int .u32 q] w (TakePost g q lo seg hi ys w) := by
  have A32 := Lib.hid (fun x y c W hx hy hc => sub32 x y c W hx hy hc)
  go_enter Try.func76, Try.ntmps76
  go_wp2_with fail
  go_loopw [7, 8, 14] (fun sc sb si wr => ∃ (k c b : Nat) (seg' : List Nat), k ≤ ys.length ∧ si = .int .i64 k ∧ sc = .int .u32 c ∧ sb = .int .u32 b ∧ c < 4294967296 ∧ b ≤ 1 ∧ seg'.length = seg.length ∧ Dig 4294967296 seg' ∧
      Hid (val 4294967296 seg' + q * val 4294967296 ys = val 4294967296 seg + (c + b) * 4294967296 ^ k + 4294967296 ^ k * (q * val 4294967296 (ys.drop k))) ∧ Row .u32 36 wr g (lo ++ (seg' ++ hi)) ∧ Only g w wr) (fun _ _ si _ => ys.length - (intOf si).toNat)
  case atStart => exact ⟨0, 0, 0, seg, by omega, rfl, rfl, rfl, by omega, by omega, rfl, hds, by show _ = _; simp, hrow, Only.refl _ _⟩
  case round =>
    clear hrow
    obtain ⟨k, c, b, seg', hk, rfl, rfl, rfl, hc, hb, hcl, hcd, hval, hrow, hO⟩ := hrel
    by_cases hlt : k < ys.length
    · have hy := (hO.cell (a := ⟨b2, o2 + k, none⟩) hb2 hne).trans (hy2 k hlt)
      have ho := hrow.cell (j := lo.length + k) (by simp; omega)
      have hf := hrow.free (lo.length + k)
      rw [dg_mid (by omega)] at ho
      rw [← hoff] at ho hf
      have hdy : dg ys k < 4294967296 := hys.dg (by decide) k
      have hdz : dg seg' k < 4294967296 := hcd.dg (by decide) k
      obtain ⟨hm, hcc⟩ := times_carry q (dg ys k) c 0 hq hdy hc (by decide)
      have hm0 : (0 : Int) ≤ (q : Int) * (dg ys k : Int) := by rw [← Int.natCast_mul]; omega
      have hm1 : (q : Int) * (dg ys k : Int) ≤ 18446744065119617025 := by rw [← Int.natCast_mul]; omega
      have hli : (k : Int) < ((ys.length : Nat) : Int) := by omega
      have hli2 : (k : Int) < ((ys.length : Nat) : Int) + 1 := by omega
      have hcc' : ((q : Int) * (dg ys k : Int) + (c : Int)) / 4294967296 < 4294967296 := by
        have : (((q * dg ys k + c + 0) / 4294967296 : Nat) : Int) < 4294967296 := by omega
        simpa using this
      have HL := Lib.hid hcl
      have HCC := Lib.hid hcc
      have hrowH := Lib.hid hrow
      have HO := Lib.hid hO
      have HS := Lib.hid hseg
      have HF := Lib.hid hoff
      clear hcl hm hcc hrow hO hy2 hseg hoff
      have e1 : ((q : Int) * (dg ys k : Int) + (c : Int)) % 4294967296 = (((q * dg ys k + c) % 4294967296 : Nat) : Int) := by simp
      have e2 : ((q : Int) * (dg ys k : Int) + (c : Int)) / 4294967296 = (((q * dg ys k + c) / 4294967296 : Nat) : Int) := by simp
      have E1 := Lib.hid e1; have E2 := Lib.hid e2
      clear e1 e2
      go_wp2_with fail
      rw [E1.out]
      refine (A32.out _ _ _ _ hdz (Nat.mod_lt _ (by decide)) hb).mono ?_
      rintro e w' ⟨rfl, rfl⟩
      go_wp2_with fail
      rw [E2.out]
      have hcl := HL.out; have hseg := HS.out; have hoff := HF.out
      obtain ⟨s1, s2, s3⟩ := subD_eq (dg seg' k) ((q * dg ys k + c) % 4294967296) b hdz (Nat.mod_lt _ (by decide)) hb
      refine ⟨⟨k + 1, (q * dg ys k + c) / 4294967296, subB (dg seg' k) ((q * dg ys k + c) % 4294967296) b, seg'.set k (subD (dg seg' k) ((q * dg ys k + c) % 4294967296) b), by omega, by go_num, rfl, rfl, HCC.out, s3, by simpa using hcl, hcd.set _ s2,
        take_step seg' ys k q c b _ (by omega) hlt hcd hb hval.out, ?_, HO.out.set (off + k) _⟩, by simp [intOf]; omega⟩
      rw [← set_mid _ (by omega)]
      rw [hoff]
      exact hrowH.out.set (lo.length + k) _ (by simp; omega)
    · have hky : k = ys.length := by omega
      have ho := hrow.cell (j := lo.length + ys.length) (by simp; omega)
      have hf := hrow.free (lo.length + ys.length)
      rw [dg_mid (by omega)] at ho
      rw [← hoff] at ho hf
      have hdz : dg seg' ys.length < 4294967296 := hcd.dg (by decide) ys.length
      have hv0 : val 4294967296 seg' + q * val 4294967296 ys = val 4294967296 seg + (c + b) * 4294967296 ^ ys.length := by
        have h1 := hval.out
        rw [hky, List.drop_length] at h1
        simpa [val] using h1
      have HT := Lib.hid (take_last seg' ys.length c b _ _ (by omega) hcd hc hb hv0)
      obtain ⟨s1, s2, s3⟩ := subD_eq (dg seg' ys.length) c b hdz hc hb
      have hset := hrow.set (lo.length + ys.length) (subD (dg seg' ys.length) c b) (by simp; omega)
      rw [set_mid _ (by omega), ← hoff] at hset
      have hlt' : ¬ (k : Int) < ((ys.length : Nat) : Int) := by omega
      have hli2 : ((ys.length : Nat) : Int) < ((ys.length : Nat) : Int) + 1 := by omega
      have HS := Lib.hid hseg; have HL := Lib.hid hcl; have HR := Lib.hid hset; have HO := Lib.hid hO
      clear hv0 hky hval hrow hy2 hset hO hseg hcl hoff s1
      have hlen' : ((ys.length : Nat) : Int) ≤ 1000000 := by omega
      by_cases hbb : subB (dg seg' ys.length) c b = 1
      · have hbp : (0 : Int) < (subB (dg seg' ys.length) c b : Int) := by omega
        have HB := Lib.hid hbb
        clear hbb
        go_wp2_with (go_at_call 78; refine (A32.out _ _ _ _ hdz hc hb).mono ?_; rintro e w' ⟨rfl, rfl⟩)
        go_ret
        refine ⟨true, seg'.set ys.length (subD (dg seg' ys.length) c b), ret_one (by show Value.bool _ = Value.bool _; congr 1; simp [HB.out]), by have := HL.out; simpa using this, hcd.set _ s2, ?_, HR.out, HO.out.set (off + ys.length) _⟩
        rw [HT.out, HB.out, if_pos rfl, HS.out, Nat.one_mul]
      · have hbz : subB (dg seg' ys.length) c b = 0 := by omega
        have hbp : ¬ (0 : Int) < (subB (dg seg' ys.length) c b : Int) := by omega
        have HB := Lib.hid hbz
        clear hbb hbz
        go_wp2_with (go_at_call 78; refine (A32.out _ _ _ _ hdz hc hb).mono ?_; rintro e w' ⟨rfl, rfl⟩)
        go_ret
        refine ⟨false, seg'.set ys.length (subD (dg seg' ys.length) c b), ret_one ?_, by have := HL.out; simpa using this, hcd.set _ s2, ?_, HR.out, HO.out.set (off + ys.length) _⟩
        · show Value.bool _ = Value.bool _
          congr 1
          simp [HB.out]
        · rw [HT.out, HB.out, Nat.zero_mul]; rfl

theorem give_step (seg ys : List Nat) (k c N : Nat) (hk : k < seg.length) (hky : k < ys.length)
    (hv : val 4294967296 seg + c * 4294967296 ^ k + 4294967296 ^ k * val 4294967296 (ys.drop k) = N) :
    val 4294967296 (seg.set k ((dg seg k + dg ys k + c) % 4294967296)) + (dg seg k + dg ys k + c) / 4294967296 * 4294967296 ^ (k + 1) + 4294967296 ^ (k + 1) * val 4294967296 (ys.drop (k + 1)) = N := by
  have h1 := val_set 4294967296 seg k ((dg seg k + dg ys k + c) % 4294967296) hk
  have h2 := val_drop 4294967296 hky
  have h3 := Nat.div_add_mod (dg seg k + dg ys k + c) 4294967296
  rw [Nat.pow_succ]
  generalize (4294967296 : Nat) ^ k = p at *
  generalize (dg seg k + dg ys k + c) % 4294967296 = s at *
  generalize (dg seg k + dg ys k + c) / 4294967296 = d at *
  grind

theorem give_last (seg : List Nat) (n c N : Nat) (hk : n < seg.length) (hv : val 4294967296 seg + c * 4294967296 ^ n = N) :
    val 4294967296 (seg.set n ((dg seg n + c) % 4294967296)) + (dg seg n + c) / 4294967296 * 4294967296 ^ (n + 1) = N := by
  have h1 := val_set 4294967296 seg n ((dg seg n + c) % 4294967296) hk
  have h3 := Nat.div_add_mod (dg seg n + c) 4294967296
  rw [Nat.pow_succ]
  generalize (4294967296 : Nat) ^ n = p at *
  generalize (dg seg n + c) % 4294967296 = s at *
  generalize (dg seg n + c) / 4294967296 = d at *
  grind

/-- What giveBack leaves. -/
def GivePost (g : Nat) (lo seg hi ys : List Nat) (w : World) (e : Ending) (w' : World) : Prop := (∃ v, e = .returned v) ∧ ∃ (c : Nat) (seg' : List Nat), seg'.length = seg.length ∧ Dig 4294967296 seg' ∧
  val 4294967296 seg' + c * 4294967296 ^ seg.length = val 4294967296 seg + val 4294967296 ys ∧ Row .u32 36 w' g (lo ++ (seg' ++ hi)) ∧ Only g w w'

set_option maxRecDepth 100000 in
set_option maxHeartbeats 1000000 in
theorem give_any (g off cap K2 b2 o2 : Nat) (lo seg hi ys : List Nat) (w : World) (hoff : off = lo.length) (hrow : Row .u32 36 w g (lo ++ (seg ++ hi))) (hseg : seg.length = ys.length + 1) (hds : Dig 4294967296 seg) (hys : Dig 4294967296 ys) (hlen : ys.length ≤ 1000000)
    (hb2 : b2 < w.heap.size) (hne : b2 ≠ g) (hy2 : ∀ j, j < ys.length → w.cell? ⟨b2, o2 + j, none⟩ = some (.int .u32 ((dg ys j : Nat) : Int))) :
    Calls Try.prog 77 #[.slice (some ⟨g, off, none⟩) (ys.length + 1) cap, .slice (some ⟨b2, o2, none⟩) ys.length K2] w (GivePost g lo seg hi ys w) := by
  have A32 := Lib.hid (fun x y c W hx hy hc => add32 x y c W hx hy hc)
  go_enter Try.func77, Try.ntmps77
  go_wp2_with fail
  go_loopw [4, 9] (fun sc si wr => ∃ (k c : Nat) (seg' : List Nat), k ≤ ys.length ∧ si = .int .i64 k ∧ sc = .int .u32 c ∧ c ≤ 1 ∧ seg'.length = seg.length ∧ Dig 4294967296 seg' ∧
      Hid (val 4294967296 seg' + c * 4294967296 ^ k + 4294967296 ^ k * val 4294967296 (ys.drop k) = val 4294967296 seg + val 4294967296 ys) ∧ Row .u32 36 wr g (lo ++ (seg' ++ hi)) ∧ Only g w wr) (fun _ si _ => ys.length - (intOf si).toNat)
  case atStart => exact ⟨0, 0, seg, by omega, rfl, rfl, by omega, rfl, hds, by show _ = _; simp, hrow, Only.refl _ _⟩
  case round =>
    clear hrow
    obtain ⟨k, c, seg', hk, rfl, rfl, hc, hcl, hcd, hval, hrow, hO⟩ := hrel
    by_cases hlt : k < ys.length
    · have hy := (hO.cell (a := ⟨b2, o2 + k, none⟩) hb2 hne).trans (hy2 k hlt)
      have ho := hrow.cell (j := lo.length + k) (by simp; omega)
      have hf := hrow.free (lo.length + k)
      rw [dg_mid (by omega)] at ho
      rw [← hoff] at ho hf
      have hdy : dg ys k < 4294967296 := hys.dg (by decide) k
      have hdz : dg seg' k < 4294967296 := hcd.dg (by decide) k
      have hli : (k : Int) < ((ys.length : Nat) : Int) := by omega
      have hli2 : (k : Int) < ((ys.length : Nat) : Int) + 1 := by omega
      have HL := Lib.hid hcl
      have hrowH := Lib.hid hrow
      have HO := Lib.hid hO
      have HS := Lib.hid hseg
      have HF := Lib.hid hoff
      clear hcl hrow hO hy2 hseg hoff
      go_wp2_with (go_at_call 72; refine (A32.out _ _ _ _ hdz hdy (by omega)).mono ?_; rintro e w' ⟨rfl, rfl⟩)
      have hcl := HL.out; have hseg := HS.out; have hoff := HF.out
      refine ⟨⟨k + 1, (dg seg' k + dg ys k + c) / 4294967296, seg'.set k ((dg seg' k + dg ys k + c) % 4294967296), by omega, by go_num, by go_num, by omega, by simpa using hcl, hcd.set _ (Nat.mod_lt _ (by decide)),
        give_step seg' ys k c _ (by omega) hlt hval.out, ?_, HO.out.set (off + k) _⟩, by simp [intOf]; omega⟩
      rw [← set_mid _ (by omega), hoff]
      exact hrowH.out.set (lo.length + k) ((dg seg' k + dg ys k + c) % 4294967296) (by simp; omega)
    · have hky : k = ys.length := by omega
      have ho := hrow.cell (j := lo.length + ys.length) (by simp; omega)
      have hf := hrow.free (lo.length + ys.length)
      rw [dg_mid (by omega)] at ho
      rw [← hoff] at ho hf
      have hdz : dg seg' ys.length < 4294967296 := hcd.dg (by decide) ys.length
      have hv0 : val 4294967296 seg' + c * 4294967296 ^ ys.length = val 4294967296 seg + val 4294967296 ys := by
        have h1 := hval.out
        rw [hky, List.drop_length] at h1
        simpa [val] using h1
      have HT := Lib.hid (give_last seg' ys.length c _ (by omega) hv0)
      have hset := hrow.set (lo.length + ys.length) ((dg seg' ys.length + c) % 4294967296) (by simp; omega)
      rw [set_mid _ (by omega), ← hoff] at hset
      have hlt' : ¬ (k : Int) < ((ys.length : Nat) : Int) := by omega
      have hli2 : ((ys.length : Nat) : Int) < ((ys.length : Nat) : Int) + 1 := by omega
      have HS := Lib.hid hseg; have HL := Lib.hid hcl; have HR := Lib.hid hset; have HO := Lib.hid hO
      clear hv0 hky hval hrow hy2 hset hO hseg hcl hoff
      go_wp2
      go_end0
      refine ⟨⟨_, rfl⟩, (dg seg' ys.length + c) / 4294967296, seg'.set ys.length ((dg seg' ys.length + c) % 4294967296), by have := HL.out; simpa using this, hcd.set _ (Nat.mod_lt _ (by decide)), by rw [HS.out]; exact HT.out, HR.out, HO.out.set (off + ys.length) _⟩

end Go.Proofs.Ytphhaaofkckobaa
