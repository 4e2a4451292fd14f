/-
  limbs.Right and limbs.Small.
-/
import Derived.Test.YtphhaaofkckobaaShr
namespace Go.Proofs.Ytphhaaofkckobaa
open Go.RowKit
attribute [local go_sem] Oper.semAt_some

theorem val_div {b : Nat} (ds : List Nat) (k : Nat) (hd : Dig b ds) (hk : k ≤ ds.length) (hb : 0 < b) : val b ds / b ^ k = val b (ds.drop k) := by
  have e : val b ds = val b (ds.take k) + b ^ k * val b (ds.drop k) := by
    conv => lhs; rw [(List.take_append_drop k ds).symm]
    rw [val_append, show (ds.take k).length = k by simp; omega]
  have h1 := val_lt (hd.take k)
  rw [show (ds.take k).length = k by simp; omega] at h1
  rw [e, Nat.add_mul_div_left _ _ (Nat.pow_pos hb), Nat.div_eq_of_lt h1, Nat.zero_add]

theorem right_val (ds : List Nat) (n : Nat) (hd : Dig 4294967296 ds) (hn : n / 32 ≤ ds.length) : val 4294967296 ds / 2 ^ n = val 4294967296 (ds.drop (n / 32)) / 2 ^ (n % 32) := by
  rw [← val_div ds (n / 32) hd hn (by decide), show (4294967296 : Nat) = 2 ^ 32 from by decide, ← Nat.pow_mul, Nat.div_div_eq_div_mul, ← Nat.pow_add, show 32 * (n / 32) + n % 32 = n by omega]

theorem right_zero (ds : List Nat) (n : Nat) (hd : Dig 4294967296 ds) (hn : ds.length ≤ n / 32) : val 4294967296 ds / 2 ^ n = 0 := by
  refine Nat.div_eq_of_lt (Nat.lt_of_lt_of_le (val_lt hd) ?_)
  rw [show (4294967296 : Nat) = 2 ^ 32 from by decide, ← Nat.pow_mul]
  exact Nat.pow_le_pow_right (by decide) (by omega)

set_option maxRecDepth 100000 in
set_option maxHeartbeats 1000000 in
theorem right_neg {va : Value} {m : Nat} {w : World} (ha : IsNat w va m) (hm : m < maxN) (n : Int) (hn : n < 0) :
    Calls Try.prog 50 #[va, .int .i64 n] w fun e w' => e = .returned (.tuple #[.slice none 0 0, .int .i64 1]) ∧ Below w.heap.size w w' := by
  obtain ⟨ds, hv1, hc1, rfl⟩ := ha
  have hl1 : ds.length ≤ 512 := hc1.len_max.2 hm
  have H1 := Lib.hid (trim_any hv1 (by omega))
  obtain ⟨q1, k1, rfl, -⟩ := hv1
  clear hm
  go_enter Try.func50, Try.ntmps50
  go_wp2_with (go_at_call 30; refine H1.out.mono ?_; rintro e w1 ⟨⟨v1, rfl, p1, c1, rfl, at1⟩, hB1⟩)
  go_ret2
  exact ⟨rfl, hB1⟩

set_option maxRecDepth 100000 in
set_option maxHeartbeats 2000000 in
theorem right_any {va : Value} {m : Nat} {w : World} (ha : IsNat w va m) (hm : m < maxN) (n : Nat) (hn : n ≤ 9223372036854775807) :
    Calls Try.prog 50 #[va, .int .i64 n] w fun e w' => (∃ v, e = .returned (.tuple #[v, .int .i64 0]) ∧ IsNat w' v (m / 2 ^ n)) ∧ Below w.heap.size w w' := by
  obtain ⟨ds, hv1, hc1, rfl⟩ := ha
  have hl1 : ds.length ≤ 512 := hc1.len_max.2 hm
  have C1 := trim_any hv1 (by omega)
  rw [hc1.2] at C1
  have H1 := Lib.hid C1
  obtain ⟨q1, k1, rfl, -⟩ := hv1
  clear hm C1
  have hni : (n : Int) ≤ 9223372036854775807 := by omega
  have hneg : ¬ (n : Int) < 0 := by omega
  go_enter Try.func50, Try.ntmps50
  go_wp2_with fail
  refine H1.out.mono ?_
  rintro e w1 ⟨⟨v1, rfl, hr1⟩, hB⟩
  clear H1
  obtain ⟨p1, K1, rfl, at1⟩ := hr1
  by_cases hbig : ds.length ≤ n / 32
  · have hE := Lib.hid (right_zero ds n hc1.1 hbig)
    have hbig' : ((ds.length : Nat) : Int) ≤ (n : Int) / 32 := by omega
    clear hbig
    go_wp2
    go_ret2
    exact ⟨⟨_, rfl, [], .nil _ _, Can.nil _, by rw [hE.out]; rfl⟩, hB⟩
  · have hE := Lib.hid (right_val ds n hc1.1 (by omega))
    have hbig' : (n : Int) / 32 < ((ds.length : Nat) : Int) := by omega
    obtain ⟨b1, o1, rfl, hk1, hb1, hx1⟩ := at1.pos (by omega)
    have hK : ((ds.length : Nat) : Int) ≤ (K1 : Int) := by omega
    clear at1
    obtain ⟨wb, rfl⟩ : ∃ wb : World, wb = w1 := ⟨_, rfl⟩
    go_upto_region 8 with (at_make; refine make_nat rfl _ _ rfl _ _ (ds.length - n / 32) rfl rfl ?hL ?hC ?hn wb.heap.size wb (Below.refl _ _) (Nat.le_refl _) (fun w3 hr3 hB3 hB3' => ?_))
    case hL => omega
    case hC => omega
    case hn => omega
    have hdl : (ds.drop (n / 32)).length = ds.length - n / 32 := by simp
    have at3 : At .u32 w3 (some ⟨b1, o1 + n / 32, none⟩) (K1 - n / 32) (ds.drop (n / 32)) := by
      refine .inr ⟨b1, o1 + n / 32, rfl, by rw [hdl]; omega, Nat.lt_of_lt_of_le hb1 hB3.size, fun j hj => ?_⟩
      rw [hdl] at hj
      rw [dg_drop, Nat.add_assoc]
      exact (hB3.cell (p := ⟨b1, o1 + (n / 32 + j), none⟩) hb1).trans (hx1 _ (by omega))
    have S := shr_any wb.heap.size (ds.length - n / 32) (n % 32) (K1 - n / 32) (some ⟨b1, o1 + n / 32, none⟩) (ds.drop (n / 32)) (List.replicate (ds.length - n / 32) 0) w3 hr3 (by simp) (fun x hx => by simp at hx; omega) (hc1.1.drop _) (Nat.mod_lt _ (by decide)) (by omega) at3 (by intro a ha; cases ha; exact Nat.ne_of_lt hb1)
    rw [hdl] at S
    have S := Lib.hid S
    clear hx1 hdl at3
    go_wp2_with fail
    rw [show ((n : Int) % 32) = ((n % 32 : Nat) : Int) by omega]
    refine S.out.mono ?_
    rintro e w4 ⟨⟨v4, rfl⟩, ⟨cs, hcl, hcd, hcv, hrow⟩, hO⟩
    have hB4 : Below wb.heap.size wb w4 := hO.below hB3 (Nat.le_refl _) hB3.size
    have hn4 := hrow.all (ds.length - n / 32) (by omega)
    rw [hcl] at hn4
    have W := Lib.hid (within_any hn4 (by omega))
    have HV := Lib.hid (show val 4294967296 (cut cs) = val 4294967296 ds / 2 ^ n by rw [val_cut, hcv, hE.out])
    have HBB := Lib.hid (hB.trans (hB4.mono hB.size))
    have hl5 : (cut cs).length ≤ 512 := by have := cut_le cs; omega
    clear hcl hcv hrow hn4 S hO
    go_wp2_with (go_at_call 47; refine W.out.mono ?_; rintro e w5 ⟨⟨v5, c5, rfl, hfit⟩, hB5⟩)
    go_ret2
    obtain ⟨h1, h2⟩ := hfit.1 hl5
    subst h1
    exact ⟨⟨_, rfl, _, h2, can_cut hcd, HV.out⟩, HBB.out.trans (hB5.mono HBB.out.size)⟩

theorem len_two {ds : List Nat} (h : Can 4294967296 ds) : 2 < ds.length ↔ 18446744073709551616 ≤ val 4294967296 ds := by
  have := h.len_le (by decide) 2
  omega

/-- What Small answers. -/
def SmallPost (m : Nat) (w : World) (e : Ending) (w' : World) : Prop := ((m < 18446744073709551616 ∧ e = .returned (.tuple #[.int .u64 m, .int .i64 0])) ∨ (18446744073709551616 ≤ m ∧ e = .returned (.tuple #[.int .u64 0, .int .i64 11]))) ∧ Below w.heap.size w w'

set_option maxRecDepth 100000 in
set_option maxHeartbeats 2000000 in
theorem small_any {va : Value} {m : Nat} {w : World} (ha : IsNat w va m) (hm : m < maxN) : Calls Try.prog 58 #[va] w (SmallPost m w) := by
  obtain ⟨ds, hv1, hc1, rfl⟩ := ha
  have hl1 : ds.length ≤ 512 := hc1.len_max.2 hm
  have C1 := trim_any hv1 (by omega)
  rw [hc1.2] at C1
  have H1 := Lib.hid C1
  have H2 := Lib.hid (len_two hc1)
  obtain ⟨q1, k1, rfl, -⟩ := hv1
  clear hm C1
  refine calls_marks Try.func58 rfl ?_
  simp only [Try.ntmps58, List.size_toArray, List.length_cons, List.length_nil, Nat.reduceAdd, Nat.reduceSub, Array.replicate_succ, Array.replicate_zero, List.push_toArray, List.append_toArray, List.nil_append, List.cons_append]
  go_wp2_with fail
  refine H1.out.mono ?_
  rintro e w1 ⟨⟨v1, rfl, hr1⟩, hB⟩
  clear H1
  obtain ⟨p1, K1, rfl, at1⟩ := hr1
  by_cases h2 : 2 < ds.length
  · have h2' : (2 : Int) < ((ds.length : Nat) : Int) := by omega
    have hge := Lib.hid (H2.out.1 h2)
    clear h2
    go_wp2_with fail
    exact marks_ret0 (v := .tuple #[.int .u64 0, .int .i64 11]) (by simp [results, Try.f58, go_sem]) ⟨.inr ⟨hge.out, rfl⟩, hB⟩
  · have h2' : ¬ (2 : Int) < ((ds.length : Nat) : Int) := by omega
    have hlt := Lib.hid (show val 4294967296 ds < 18446744073709551616 by
      have := H2.out; omega)
    go_wp2_with (go_at_call 54; refine (down_any _ _ _ _).mono ?_; rintro e w' ⟨rfl, rfl⟩)
    obtain ⟨h, hh⟩ : ∃ h, w1.heap.size = h := ⟨_, rfl⟩
    obtain ⟨w2, hw2⟩ : ∃ w2, ((w1.alloc (.cells #[.int .u64 0] 50)).alloc (.cells #[.slice p1 ds.length K1] 23)) = w2 := ⟨_, rfl⟩
    have hB2 : Below w1.heap.size w1 w2 := by rw [← hw2]; exact ((Below.refl _ w1).alloc (Nat.le_refl _) _).alloc (by simp) _
    have hs : w2.heap.size = w1.heap.size + 2 := by rw [← hw2]; simp
    have hra : Row .u64 50 w2 w1.heap.size [0] := by
      rw [← hw2]
      unfold Row
      rw [Below.heap_alloc _ _ _ (by simp)]
      exact World.alloc_heap_new _ _
    have c3 : w2.cell? ⟨w1.heap.size + 1, 0, none⟩ = some (.slice p1 ds.length K1) := by rw [← hw2]; simp [go_sem]
    have hpl := at1.block
    have at1 := at1.below hB2 (Nat.le_refl _)
    have hBx := hB.trans (hB2.mono hB.size)
    have hwh := hB.size
    rw [hw2]
    clear hw2
    rw [hh] at hs hra c3 hB2 hpl hwh ⊢
    clear hh
    have hne' : ∀ a, p1 = some a → ¬ (a.block = h) := fun a ha => by have := hpl a ha; omega
    refine rangePlain (gf := 70) (lb := #[.pointer (some ⟨h + 1, 0, none⟩)]) rfl (enters_of Try.func70 (by kernel_rfl) rfl) ds.length _ (fun _ => rfl)
      (fun k W => Turns (fun b => b = h) w2 W ∧ Row .u64 50 W h [val 4294967296 (ds.drop (ds.length - k))])
      (fun _ _ _ => False)
      (fun s W W' row hs' hg hr => ⟨hs'.1.grown hg (fun r e => (hr r e).1), hs'.2.grown hg (fun r e => (hr r e).2)⟩)
      (fun _ _ _ _ _ hs _ _ => hs)
      ⟨Turns.refl _ _, by rw [Nat.sub_zero, List.drop_length]; exact hra⟩
      (down_seq 2 (h + 1) p1 K1 ds (by omega) _ fun k W hi => ⟨(hi.1.cell (a := ⟨h + 1, 0, none⟩) (by show h + 1 < _; omega) (by show ¬ (h + 1 = h); omega)).trans c3, at1.turns hi.1 hne'⟩)
      ?round ?done ?stop
    case round =>
      rintro l k W Wb hk ⟨hT, hr⟩
      have ca' := hr.cell (j := 0) (by simp)
      have fa' := hr.free 0
      obtain ⟨i, hi, hi'⟩ : ∃ i, ds.length - 1 - k = i ∧ i < ds.length := ⟨_, rfl, by omega⟩
      have hk1 : ds.length - k = i + 1 := by omega
      have hk2 : ds.length - (k + 1) = i := by omega
      have hx : val 4294967296 (ds.drop (i + 1)) < 4294967296 := by
        have h1 := val_lt (hc1.1.drop (i + 1))
        have h3 : (ds.drop (i + 1)).length ≤ 1 := by simp; omega
        exact Nat.lt_of_lt_of_le h1 (Nat.pow_le_pow_right (by decide) h3)
      have hstep := val_drop 4294967296 hi'
      have hdi := hc1.1.dg (by decide) i
      rw [hi]
      rw [hk1] at ca'
      simp only [dg, List.getElem?_cons_zero, Option.getD_some] at ca'
      obtain ⟨X, hX⟩ : ∃ X, val 4294967296 (ds.drop (i + 1)) = X := ⟨_, rfl⟩
      rw [hX] at ca' hx hstep
      have Hi := Lib.hid hi; have Hk2 := Lib.hid hk2; have Hs := Lib.hid hstep; have Hr := Lib.hid hr; have HT := Lib.hid hT
      clear hi hk1 hk2 hstep hX hr hT at1 hra c3
      have HO := Lib.hid (or_hi X (dg ds i) hx hdi)
      gi_wp2
      refine ⟨trivial, ?_⟩
      gi_wp2
      rw [HO.out]
      refine ⟨(KeepsOthers.setCell _ _ _).from _, HT.out.set (p := ⟨h, 0, none⟩) rfl _, ?_⟩
      have hset := Hr.out.set 0 (X * 4294967296 + dg ds i) (by simp)
      rw [Hk2.out, Hs.out]
      rw [show dg ds i + 4294967296 * X = X * 4294967296 + dg ds i by omega]
      simpa using hset
    case done =>
      rintro D W hD ⟨hT, hr⟩ hK
      have ca' := hr.cell (j := 0) (by simp)
      rw [Nat.sub_self, List.drop_zero] at ca'
      simp only [dg, List.getElem?_cons_zero, Option.getD_some] at ca'
      go_wp2
      refine marks_ret (v := .tuple #[.int .u64 (val 4294967296 ds : Nat), .int .i64 0]) hK (by simp [results, Try.f58, go_sem]) ⟨.inl ⟨hlt.out, rfl⟩, ?_⟩
      have hBW : Below w.heap.size w W := ⟨hT.os.trans hBx.os, hT.tape.trans hBx.tape, hT.output.trans hBx.output, Nat.le_trans hBx.size hT.size, fun k hk => (hT.block k (by omega) (by omega)).trans (hBx.block k hk)⟩
      exact hBW.trans (put_below (by omega) hK hBW.size)
    case stop => exact fun _ _ _ _ _ _ hf => hf.elim

end Go.Proofs.Ytphhaaofkckobaa
