/-
  What the statement stands on.
-/
import Derived.Test.YtcdmojefheipoaaGreatDoorM23
namespace Go.Proofs.YtcdmojefheipoaaGreatDoor
open Go.RowKit
set_option maxRecDepth 100000 in
theorem exp_out (e : Int) (w : World) (h : e < -65536 ∨ 65536 < e) : Calls Tryz.prog 147 #[.int .i64 e] w fun ev w' => ev = .returned (.bool false) ∧ Below w.heap.size w w' := by
  by_cases h0 : -65536 ≤ e
  · have h1 : ¬ e ≤ 65536 := by omega
    clear h
    have S := St.start w
    go_enter Tryz.func147, Tryz.ntmps147
    go_wp2_with fail
    exact bodyPost_ret (v := .bool false) (by simp [results, Tryz.f147, go_sem]) rfl (⟨rfl, S.below⟩)
  · clear h
    have S := St.start w
    go_enter Tryz.func147, Tryz.ntmps147
    go_wp2_with fail
    exact bodyPost_ret (v := .bool false) (by simp [results, Tryz.f147, go_sem]) rfl (⟨rfl, S.below⟩)
theorem max2_ge (x y : Rat) : x ≤ max2 x y ∧ y ≤ max2 x y := by unfold max2; split <;> constructor <;> grind
def ValidD (b : Bool) (ds : List Nat) (e : Int) : Prop := cut ds = ds ∧ (b = true → ds ≠ []) ∧ (-65536 ≤ e ∧ e ≤ 65536) ∧ ((val 4294967296 ds = 0 ∧ e = 0) ∨ val 4294967296 ds % 2 = 1)
set_option maxRecDepth 100000 in
set_option maxHeartbeats 4000000 in
theorem dcheck_raw (b : Bool) (p : Option Addr) (K l : Nat) (ds : List Nat) (e : Int) (w : World) (hT : Tab w) (hat : At .u32 w p K ds) (hd : Dig 4294967296 ds) (hl : ds.length = l) (hl5 : l ≤ 512) :
    Calls Tryz.prog 129 #[.agg #[.bool b, .slice p l K, .int .i64 e]] w fun ev w' => (∃ c : Int, ev = .returned (.int .i64 c) ∧ Hid (c = 0 → ValidD b ds e)) ∧ Below w.heap.size w w' := by
  have HD := Lib.hid (And.intro hT (And.intro hd (And.intro hl hl5)))
  clear hT hd hl hl5
  have S := (St.start w).alloc 27 [.bool b, .slice p l K, .int .i64 e] (w.heap.size)
  try simp only [List.nil_append] at S
  replace hat := hat.hold S.hold
  obtain ⟨c0_0, c0_1, c0_2⟩ := S.c3 0 rfl
  go_enter Tryz.func129, Tryz.ntmps129
  go_wp2_with fail; clear c0_0 c0_1 c0_2
  refine (S.call (wcheck_raw b p K l ds _ hat HD.out.2.1 HD.out.2.2.1 HD.out.2.2.2)).mono ?_
  clear S
  rintro e w1 ⟨⟨c, rfl, hc⟩, S, H⟩
  replace hat := hat.hold H; clear H; obtain ⟨c0_0, c0_1, c0_2⟩ := S.c3 0 rfl
  by_cases h0 : c = 0
  · have h0' : (c != 0) = false := by rw [h0]; rfl
    have hv := hc.out h0
    have hn : IsNat w1 (.slice p l K) (val 4294967296 ds) := by rw [← HD.out.2.2.1]; exact ⟨ds, hat.nums, ⟨HD.out.2.1, hv.1⟩, rfl⟩
    have hm : val 4294967296 ds < maxN := Can.len_max ⟨HD.out.2.1, hv.1⟩ |>.1 (by rw [HD.out.2.2.1]; exact HD.out.2.2.2)
    obtain ⟨n, hnn⟩ : ∃ n, val 4294967296 ds = n := ⟨_, rfl⟩
    rw [hnn] at hn hm
    obtain ⟨z, hz1, hz2⟩ : ∃ z : Int, negB z = b ∧ z.natAbs = n := by
      cases b with
      | false => exact ⟨(n : Int), negB_neg (by omega), by omega⟩
      | true =>
        refine ⟨-(n : Int), negB_pos ?_, by omega⟩
        have : n ≠ 0 := fun e0 => hv.2 rfl ((show Can 4294967296 ds from ⟨HD.out.2.1, hv.1⟩).eq_nil (by decide) (by rw [hnn]; exact e0))
        omega
    have HV := Lib.hid (And.intro hv (And.intro hnn (And.intro hm (And.intro hz1 hz2))))
    subst hz2
    obtain ⟨s, hs⟩ : ∃ s, z.sign = s := ⟨_, rfl⟩
    have HS := Lib.hid hs
    clear hc hv hm hnn hz1 hs h0; clear hat; go_wp2_with fail; clear c0_0 c0_1 c0_2
    refine (S.call (wsign_any ⟨_, _, _, by rw [HV.out.2.2.2.1], hn⟩ HV.out.2.2.1 HS.out)).mono ?_
    clear S
    rintro e w2 ⟨rfl, S, H⟩
    replace hn := hn.hold H; clear H; obtain ⟨c0_0, c0_1, c0_2⟩ := S.c3 0 rfl
    by_cases hx : -65536 ≤ e ∧ e ≤ 65536
    · have HX := Lib.hid hx
      clear hx; go_wp2_with fail; clear c0_0 c0_1 c0_2
      refine (S.call (exp_in e _ HX.out.1 HX.out.2)).mono ?_
      clear S
      rintro e w3 ⟨rfl, S, H⟩
      replace hn := hn.hold H; clear H; obtain ⟨c0_0, c0_1, c0_2⟩ := S.c3 0 rfl
      by_cases hz0 : z = 0
      · have hs0 : (s == 0) = true := by rw [← HS.out, hz0]; rfl
        by_cases he : e = 0
        · have he0 : (e != 0) = false := by rw [he]; rfl
          have HE := Lib.hid (And.intro hz0 he)
          clear hz0 he; go_wp2_with fail
          exact bodyPost_ret (v := .int .i64 0) (by simp [results, Tryz.f129, go_sem]) rfl (⟨⟨0, rfl, fun _ => ⟨HV.out.1.1, HV.out.1.2, HX.out, .inl ⟨by rw [HV.out.2.1, HE.out.1]; rfl, HE.out.2⟩⟩⟩, S.below⟩)
        · have he0 : (e != 0) = true := by simpa using he
          clear hz0 he; go_wp2_with fail
          exact bodyPost_ret (v := .int .i64 2) (by simp [results, Tryz.f129, go_sem]) rfl (⟨⟨2, rfl, fun h => by cases h⟩, S.below⟩)
      · have hs0 : (s == 0) = false := by rw [← HS.out]; simpa using fun h => hz0 (Int.sign_eq_zero_iff_zero.1 h)
        have HZ := Lib.hid hz0
        clear hz0; go_wp2_with fail; clear c0_0 c0_1 c0_2
        refine (S.call (tail_nat' hn HV.out.2.2.1 (HD.out.1.below S.below))).mono ?_
        clear S
        rintro e w4 ⟨⟨t, rfl, ht⟩, S, H⟩
        replace hn := hn.hold H; clear H; obtain ⟨c0_0, c0_1, c0_2⟩ := S.c3 0 rfl
        by_cases ht0 : t = 0
        · subst ht0
          have HT := Lib.hid (show val 4294967296 ds % 2 = 1 by
            rw [HV.out.2.1]
            rcases ht.out with ⟨h, _⟩ | ⟨a, h⟩
            · have := HZ.out; omega
            · rw [Nat.pow_zero, Nat.one_mul] at h; omega)
          clear ht; go_wp2_with fail
          exact bodyPost_ret (v := .int .i64 0) (by simp [results, Tryz.f129, go_sem]) rfl (⟨⟨0, rfl, fun _ => ⟨HV.out.1.1, HV.out.1.2, HX.out, .inr HT.out⟩⟩, S.below⟩)
        · have htp : 0 < t := by omega
          have htI : (0 : Int) < (t : Int) := by omega
          clear ht ht0; go_wp2_with fail
          exact bodyPost_ret (v := .int .i64 2) (by simp [results, Tryz.f129, go_sem]) rfl (⟨⟨2, rfl, fun h => by cases h⟩, S.below⟩)
    · have HX := Lib.hid (show e < -65536 ∨ 65536 < e by omega)
      clear hx; go_wp2_with fail; clear c0_0 c0_1 c0_2
      refine (S.call (exp_out e _ HX.out)).mono ?_
      clear S
      rintro e w3 ⟨rfl, S, H⟩
      replace hn := hn.hold H; clear H; obtain ⟨c0_0, c0_1, c0_2⟩ := S.c3 0 rfl; go_wp2_with fail
      exact bodyPost_ret (v := .int .i64 1) (by simp [results, Tryz.f129, go_sem]) rfl (⟨⟨1, rfl, fun h => by cases h⟩, S.below⟩)
  · have h0' : (c != 0) = true := by simpa using h0
    have HC := Lib.hid h0
    clear h0 hc; go_wp2_with fail
    exact bodyPost_ret (v := .int .i64 c) (by simp [results, Tryz.f129, go_sem]) rfl (⟨⟨c, rfl, fun h => absurd h HC.out⟩, S.below⟩)
def TriedD (k : Nat) (E : Int) (b : Bool) (ds : List Nat) (e : Int) : Prop := ds.length ≤ k ∧ (-E ≤ e ∧ e ≤ E) ∧ ValidD b ds e
def sgnI (b : Bool) (n : Nat) : Int := if b = true then -(n : Int) else (n : Int)
def rawQ (b : Bool) (ds : List Nat) (e : Int) : Rat := dq (sgnI b (val 4294967296 ds)) e
theorem sgnI_abs (b : Bool) (n : Nat) : (sgnI b n).natAbs = n := by unfold sgnI; split <;> omega
theorem raw_dy {k : Nat} {E e : Int} {b : Bool} {ds : List Nat} {l : Nat} {p : Option Addr} {K : Nat} {w : World} (h : TriedD k E b ds e) (hd : Dig 4294967296 ds) (hl : ds.length = l) (hat : At .u32 w p K ds) (hE : 0 ≤ E) :
    ∃ m : Int, Hid (negB m = b) ∧ IsNat w (.slice p l K) m.natAbs ∧ Hid (DyF m e (rawQ b ds e) E.toNat (32 * k + E.toNat)) := by
  subst hl
  obtain ⟨h1, h2, v1, v2, _, v4⟩ := h
  have hc : Can 4294967296 ds := ⟨hd, v1⟩
  have hb := nb_len hc h1
  have hn : IsNat w (.slice p ds.length K) (val 4294967296 ds) := ⟨ds, hat.nums, hc, rfl⟩
  have hm1 : negB (sgnI b (val 4294967296 ds)) = b := by
    cases b with
    | false => unfold sgnI; rw [if_neg (by decide)]; exact negB_neg (by omega)
    | true =>
      unfold sgnI; rw [if_pos rfl]
      refine negB_pos ?_
      have : val 4294967296 ds ≠ 0 := fun e0 => v2 rfl (hc.eq_nil (by decide) e0)
      omega
  have hm2 := sgnI_abs b (val 4294967296 ds)
  refine ⟨sgnI b (val 4294967296 ds), hm1, by rw [hm2]; exact hn, ?_, ?_, rfl⟩
  · rcases v4 with ⟨a, c⟩ | a
    · exact .inl ⟨by omega, c⟩
    · exact .inr (by omega)
  · exact ZF.of (n := 32 * k) (by rw [hm2]; exact nb_pb hb (Nat.le_refl _)) (by omega) (by omega)
structure SpR where
  (b c : Bool) (p q : Option Addr) (ds es : List Nat) (K J : Nat) (e f : Int)
def TriedS (z : SpR) : Prop := TriedD 10 200 z.b z.ds z.e ∧ TriedD 10 200 z.c z.es z.f ∧ ¬ rawQ z.c z.es z.f < rawQ z.b z.ds z.e
set_option maxRecDepth 100000 in
set_option maxHeartbeats 4000000 in
theorem scheck_raw (b c : Bool) (p q : Option Addr) (K J l j : Nat) (ds es : List Nat) (e f : Int) (w : World) (hT : Tab w) (at1 : At .u32 w p K ds) (d1 : Dig 4294967296 ds) (hl : ds.length = l) (at2 : At .u32 w q J es) (d2 : Dig 4294967296 es) (hj : es.length = j) (l10 : l ≤ 10) (j10 : j ≤ 10) (he : -200 ≤ e ∧ e ≤ 200) (hf : -200 ≤ f ∧ f ≤ 200) :
    Calls Tryz.prog 64 #[.agg #[.bool b, .slice p l K, .int .i64 e, .bool c, .slice q j J, .int .i64 f]] w fun ev w' => (∃ r : Int, ev = .returned (.int .i64 r) ∧ Hid (r = 0 → TriedS ⟨b, c, p, q, ds, es, K, J, e, f⟩)) ∧ Below w.heap.size w w' := by
  have HD := Lib.hid (And.intro hT (And.intro d1 (And.intro hl (And.intro d2 hj))))
  have HB := Lib.hid (And.intro l10 (And.intro j10 (And.intro he hf)))
  clear hT d1 hl d2 hj l10 j10 he hf
  have i0 : ∀ W : World, (Instr.index 118 (.agg #[.bool b, .slice p l K, .int .i64 e, .bool c, .slice q j J, .int .i64 f]) (.int .i64 0)).run Tryz.prog W = .ok (.agg #[.bool b, .slice p l K, .int .i64 e]) W := fun _ => by kernel_rfl
  have i1 : ∀ W : World, (Instr.index 118 (.agg #[.bool b, .slice p l K, .int .i64 e, .bool c, .slice q j J, .int .i64 f]) (.int .i64 1)).run Tryz.prog W = .ok (.agg #[.bool c, .slice q j J, .int .i64 f]) W := fun _ => by kernel_rfl
  have S := (St.start w).alloc 29 [.bool b, .slice p l K, .int .i64 e, .bool c, .slice q j J, .int .i64 f] (w.heap.size)
  try simp only [List.nil_append] at S
  replace at1 := at1.hold S.hold; replace at2 := at2.hold S.hold
  obtain ⟨c0_0, c0_1, c0_2, c0_3, c0_4, c0_5⟩ := S.c6 0 rfl
  go_enter Tryz.func64, Tryz.ntmps64
  go_wp2_with fail; clear c0_0 c0_1 c0_2 c0_3 c0_4 c0_5
  refine (S.call (sends_any b c p q l K j J e f _)).mono ?_
  clear S
  rintro e w1 ⟨rfl, S, H⟩
  replace at1 := at1.hold H; replace at2 := at2.hold H
  clear H; obtain ⟨c0_0, c0_1, c0_2, c0_3, c0_4, c0_5⟩ := S.c6 0 rfl; go_wp2_with fail; clear c0_0 c0_1 c0_2 c0_3 c0_4 c0_5
  go_loopw [8] (fun si wr => (si = .int .i64 0 ∧ At .u32 wr p K ds ∧ At .u32 wr q J es ∧ St w wr [(w.heap.size, 29, [.bool b, .slice p l K, .int .i64 e, .bool c, .slice q j J, .int .i64 f])]) ∨ (si = .int .i64 1 ∧ Hid (ValidD b ds e) ∧ At .u32 wr p K ds ∧ At .u32 wr q J es ∧ St w wr [(w.heap.size, 29, [.bool b, .slice p l K, .int .i64 e, .bool c, .slice q j J, .int .i64 f])]) ∨ (si = .int .i64 2 ∧ Hid (ValidD b ds e) ∧ Hid (ValidD c es f) ∧ At .u32 wr p K ds ∧ At .u32 wr q J es ∧ St w wr [(w.heap.size, 29, [.bool b, .slice p l K, .int .i64 e, .bool c, .slice q j J, .int .i64 f])])) (fun si _ => 2 - (intOf si).toNat)
  case atStart => exact .inl ⟨rfl, at1, at2, S⟩
  case round =>
    clear at1 at2 S
    rcases hrel with ⟨rfl, at1, at2, S⟩ | ⟨rfl, v1, at1, at2, S⟩ | ⟨rfl, v1, v2, at1, at2, S⟩
    ·
      have H := S.hnew 27 [.bool b, .slice p l K, .int .i64 e]
      replace S := S.al 27 [.bool b, .slice p l K, .int .i64 e] (wr.heap.size)
      replace at1 := at1.hold H; replace at2 := at2.hold H
      clear H; obtain ⟨c0_0, c0_1, c0_2, c0_3, c0_4, c0_5⟩ := S.c6 0 rfl; obtain ⟨c1_0, c1_1, c1_2⟩ := S.c3 1 rfl; go_wp2_with fail; clear c0_0 c0_1 c0_2 c0_3 c0_4 c0_5 c1_0 c1_1 c1_2
      refine (S.call (dcheck_raw b p K l ds e _ (HD.out.1.below S.below) at1 HD.out.2.1 HD.out.2.2.1 (by have := HB.out; omega))).mono ?_
      clear S
      rintro e w21 ⟨⟨r, rfl, hr⟩, S, H⟩
      replace at1 := at1.hold H; replace at2 := at2.hold H
      clear H; obtain ⟨c0_0, c0_1, c0_2, c0_3, c0_4, c0_5⟩ := S.c6 0 rfl; obtain ⟨c1_0, c1_1, c1_2⟩ := S.c3 1 rfl
      by_cases h0 : r = 0
      · have h0' : (r != 0) = false := by rw [h0]; rfl
        have v1 := Lib.hid (hr.out h0)
        clear h0 hr; go_wp2_with fail
        replace S := S.take 1 (L := [(w.heap.size, 29, [.bool b, .slice p l K, .int .i64 e, .bool c, .slice q j J, .int .i64 f])]) rfl
        go_roundw
        case rel => exact .inr (.inl ⟨rfl, v1, at1, at2, S⟩)
        case measure => simp [intOf]
      · have h0' : (r != 0) = true := by simpa using h0
        have hz : Hid (r = 0 → TriedS ⟨b, c, p, q, ds, es, K, J, e, f⟩) := fun h => absurd h h0
        clear h0 hr; go_wp2_with fail
        go_ret
        first | exact ⟨⟨r, rfl, hz⟩, S.below⟩ | exact ⟨hz, S.below⟩ | exact ⟨.inl ⟨rfl, hz⟩, S.below⟩
    ·
      have H := S.hnew 27 [.bool c, .slice q j J, .int .i64 f]
      replace S := S.al 27 [.bool c, .slice q j J, .int .i64 f] (wr.heap.size)
      replace at1 := at1.hold H; replace at2 := at2.hold H
      clear H; obtain ⟨c0_0, c0_1, c0_2, c0_3, c0_4, c0_5⟩ := S.c6 0 rfl; obtain ⟨c1_0, c1_1, c1_2⟩ := S.c3 1 rfl; go_wp2_with fail; clear c0_0 c0_1 c0_2 c0_3 c0_4 c0_5 c1_0 c1_1 c1_2
      refine (S.call (dcheck_raw c q J j es f _ (HD.out.1.below S.below) at2 HD.out.2.2.2.1 HD.out.2.2.2.2 (by have := HB.out; omega))).mono ?_
      clear S
      rintro e w21 ⟨⟨r, rfl, hr⟩, S, H⟩
      replace at1 := at1.hold H; replace at2 := at2.hold H
      clear H; obtain ⟨c0_0, c0_1, c0_2, c0_3, c0_4, c0_5⟩ := S.c6 0 rfl; obtain ⟨c1_0, c1_1, c1_2⟩ := S.c3 1 rfl
      by_cases h0 : r = 0
      · have h0' : (r != 0) = false := by rw [h0]; rfl
        have v2 := Lib.hid (hr.out h0)
        clear h0 hr; go_wp2_with fail
        replace S := S.take 1 (L := [(w.heap.size, 29, [.bool b, .slice p l K, .int .i64 e, .bool c, .slice q j J, .int .i64 f])]) rfl
        go_roundw
        case rel => exact .inr (.inr ⟨rfl, v1, v2, at1, at2, S⟩)
        case measure => simp [intOf]
      · have h0' : (r != 0) = true := by simpa using h0
        have hz : Hid (r = 0 → TriedS ⟨b, c, p, q, ds, es, K, J, e, f⟩) := fun h => absurd h h0
        clear h0 hr; go_wp2_with fail
        go_ret
        first | exact ⟨⟨r, rfl, hz⟩, S.below⟩ | exact ⟨hz, S.below⟩ | exact ⟨.inl ⟨rfl, hz⟩, S.below⟩
    ·
      have t1 : TriedD 10 200 b ds e := ⟨by have := HB.out.1; rw [HD.out.2.2.1]; exact this, HB.out.2.2.1, v1.out⟩
      have t2 : TriedD 10 200 c es f := ⟨by have := HB.out.2.1; rw [HD.out.2.2.2.2]; exact this, HB.out.2.2.2, v2.out⟩
      obtain ⟨m, h3, n3, d3⟩ := raw_dy t1 HD.out.2.1 HD.out.2.2.1 at1 (by decide)
      obtain ⟨n, h4, n4, d4⟩ := raw_dy t2 HD.out.2.2.2.1 HD.out.2.2.2.2 at2 (by decide)
      have HT := Lib.hid (And.intro t1 t2)
      clear t1 t2 v1 v2 at1 at2
      by_cases hlt : rawQ c es f < rawQ b ds e
      · have hr := Lib.hid (decide_eq_true hlt)
        clear hlt; obtain ⟨c0_0, c0_1, c0_2, c0_3, c0_4, c0_5⟩ := S.c6 0 rfl; go_wp2_with fail; clear c0_0 c0_1 c0_2 c0_3 c0_4 c0_5
        refine (S.call (dless_any (L := 200) (H := 520) ⟨c, q, j, J, n, f, rfl, h4, n4, d4⟩ ⟨b, p, l, K, m, e, rfl, h3, n3, d3⟩ (by decide) true hr.out)).mono ?_
        clear S
        rintro e w21 ⟨rfl, S, H⟩
        replace n3 := n3.hold H; replace n4 := n4.hold H
        clear H; obtain ⟨c0_0, c0_1, c0_2, c0_3, c0_4, c0_5⟩ := S.c6 0 rfl; go_wp2_with fail
        exact bodyPost_ret (v := .int .i64 1) (by simp [results, Tryz.f64, go_sem]) rfl (⟨⟨1, rfl, fun h => absurd h (by decide)⟩, S.below⟩)
      · have hr := Lib.hid (decide_eq_false hlt)
        have hz := Lib.hid hlt
        clear hlt; obtain ⟨c0_0, c0_1, c0_2, c0_3, c0_4, c0_5⟩ := S.c6 0 rfl; go_wp2_with fail; clear c0_0 c0_1 c0_2 c0_3 c0_4 c0_5
        refine (S.call (dless_any (L := 200) (H := 520) ⟨c, q, j, J, n, f, rfl, h4, n4, d4⟩ ⟨b, p, l, K, m, e, rfl, h3, n3, d3⟩ (by decide) false hr.out)).mono ?_
        clear S
        rintro e w21 ⟨rfl, S, H⟩
        replace n3 := n3.hold H; replace n4 := n4.hold H
        clear H; obtain ⟨c0_0, c0_1, c0_2, c0_3, c0_4, c0_5⟩ := S.c6 0 rfl; go_wp2_with fail
        exact bodyPost_ret (v := .int .i64 0) (by simp [results, Tryz.f64, go_sem]) rfl (⟨⟨0, rfl, fun _ => ⟨HT.out.1, HT.out.2, hz.out⟩⟩, S.below⟩)
set_option maxRecDepth 100000 in
set_option maxHeartbeats 8000000 in
theorem sfit_any (g n : Nat) (C : Nat → SpR) (w : World) (hT : Tab w) (hg : g < w.heap.size) (hn : n ≤ 1000)
    (hs : ∀ j, j < n → (w.cell? ⟨g, j * 6, none⟩ = some (.bool (C j).b) ∧ w.cell? ⟨g, j * 6 + 1, none⟩ = some (.slice (C j).p (C j).ds.length (C j).K) ∧ w.cell? ⟨g, j * 6 + 2, none⟩ = some (.int .i64 (C j).e) ∧ w.cell? ⟨g, j * 6 + 3, none⟩ = some (.bool (C j).c) ∧ w.cell? ⟨g, j * 6 + 4, none⟩ = some (.slice (C j).q (C j).es.length (C j).J) ∧ w.cell? ⟨g, j * 6 + 5, none⟩ = some (.int .i64 (C j).f)) ∧ At .u32 w (C j).p (C j).K (C j).ds ∧ Dig 4294967296 (C j).ds ∧ At .u32 w (C j).q (C j).J (C j).es ∧ Dig 4294967296 (C j).es) :
    Calls Tryz.prog 14 #[.slice (some ⟨g, 0, none⟩) n n] w fun e w' => (∃ b, e = .returned (.bool b) ∧ Hid (b = true → ∀ j, j < n → TriedS (C j))) ∧ Below w.heap.size w w' := by
  have HS := Lib.hid hs
  have HT := Lib.hid hT
  clear hs hT
  have S := St.start w
  go_enter Tryz.func14, Tryz.ntmps14
  go_wp2_with fail
  go_loopw [9] (fun si wr => ∃ k : Nat, k ≤ n ∧ si = .int .i64 k ∧ Hid (∀ j, j < k → TriedS (C j)) ∧ St w wr []) (fun si _ => n - (intOf si).toNat)
  case atStart => exact ⟨0, by omega, rfl, fun j hj => by omega, S⟩
  case round =>
    obtain ⟨k, hk, rfl, hz, S⟩ := hrel
    by_cases hlt : k < n
    · obtain ⟨⟨a0, a1, a2, a3, a4, a5⟩, at1, dd1, at2, dd2⟩ := HS.out k hlt
      replace a0 := (S.below.cell (p := ⟨g, k * 6, none⟩) hg).trans a0
      replace a1 := (S.below.cell (p := ⟨g, k * 6 + 1, none⟩) hg).trans a1
      replace a2 := (S.below.cell (p := ⟨g, k * 6 + 2, none⟩) hg).trans a2
      replace a3 := (S.below.cell (p := ⟨g, k * 6 + 3, none⟩) hg).trans a3
      replace a4 := (S.below.cell (p := ⟨g, k * 6 + 4, none⟩) hg).trans a4
      replace a5 := (S.below.cell (p := ⟨g, k * 6 + 5, none⟩) hg).trans a5
      replace at1 := at1.below S.below (Nat.le_refl _)
      replace at2 := at2.below S.below (Nat.le_refl _)
      have HL := Lib.hid hlt
      have hki : (k : Int) < ((n : Nat) : Int) := by omega
      clear hlt
      obtain ⟨⟨b, c, p, q, ds, es, K, J, e, f⟩, hC⟩ : ∃ z, C k = z := ⟨_, rfl⟩
      have HC := Lib.hid hC
      rw [hC] at a0 a1 a2 a3 a4 a5 at1 dd1 at2 dd2
      clear hC
      dsimp only at a0 a1 a2 a3 a4 a5 at1 dd1 at2 dd2
      obtain ⟨l, hl⟩ : ∃ l, ds.length = l := ⟨_, rfl⟩
      obtain ⟨j, hj⟩ : ∃ l, es.length = l := ⟨_, rfl⟩
      rw [hl] at a1
      rw [hj] at a4
      have HD := Lib.hid (And.intro dd1 (And.intro hl (And.intro dd2 hj)))
      clear dd1 hl dd2 hj
      have H := S.hnew 29 [.bool b, .slice p l K, .int .i64 e, .bool c, .slice q j J, .int .i64 f]
      replace S := S.al 29 [.bool b, .slice p l K, .int .i64 e, .bool c, .slice q j J, .int .i64 f] (wr.heap.size)
      replace at1 := at1.hold H; replace at2 := at2.hold H
      clear H; obtain ⟨c0_0, c0_1, c0_2, c0_3, c0_4, c0_5⟩ := S.c6 0 rfl
      have H := S.hnew 27 [.bool b, .slice p l K, .int .i64 e, .bool c, .slice q j J, .int .i64 f]
      replace S := S.al 27 [.bool b, .slice p l K, .int .i64 e, .bool c, .slice q j J, .int .i64 f] (wr.heap.size + 1)
      replace at1 := at1.hold H; replace at2 := at2.hold H
      clear H; go_wp2_with fail; clear c0_0 c0_1 c0_2 c0_3 c0_4 c0_5
      generalize ((wr.alloc (.cells #[.bool b, .slice p l K, .int .i64 e, .bool c, .slice q j J, .int .i64 f] 29)).alloc (.cells #[.bool b, .slice p l K, .int .i64 e, .bool c, .slice q j J, .int .i64 f] 27)) = w21 at S at1 at2 ⊢
      obtain ⟨g4, hg4⟩ : ∃ g, wr.heap.size = g := ⟨_, rfl⟩
      rw [hg4] at S ⊢
      clear hg4 a0 a1 a2 a3 a4 a5
      go_loopw [19] (fun si wr => (si = .int .i64 0 ∧ At .u32 wr p K ds ∧ At .u32 wr q J es ∧ St w wr [(g4, 29, [.bool b, .slice p l K, .int .i64 e, .bool c, .slice q j J, .int .i64 f]), (g4 + 1, 27, [.bool b, .slice p l K, .int .i64 e, .bool c, .slice q j J, .int .i64 f])]) ∨ (si = .int .i64 1 ∧ Hid (l ≤ 10 ∧ (-200 ≤ e ∧ e ≤ 200)) ∧ At .u32 wr p K ds ∧ At .u32 wr q J es ∧ St w wr [(g4, 29, [.bool b, .slice p l K, .int .i64 e, .bool c, .slice q j J, .int .i64 f]), (g4 + 1, 27, [.bool b, .slice p l K, .int .i64 e, .bool c, .slice q j J, .int .i64 f])]) ∨ (si = .int .i64 2 ∧ Hid (l ≤ 10 ∧ (-200 ≤ e ∧ e ≤ 200)) ∧ Hid (j ≤ 10 ∧ (-200 ≤ f ∧ f ≤ 200)) ∧ At .u32 wr p K ds ∧ At .u32 wr q J es ∧ St w wr [(g4, 29, [.bool b, .slice p l K, .int .i64 e, .bool c, .slice q j J, .int .i64 f]), (g4 + 1, 27, [.bool b, .slice p l K, .int .i64 e, .bool c, .slice q j J, .int .i64 f])])) (fun si _ => 2 - (intOf si).toNat)
      case atStart => exact .inl ⟨rfl, at1, at2, S⟩
      case round =>
        clear at1 at2 S
        rcases hrel with ⟨rfl, at1, at2, S⟩ | ⟨rfl, v1, at1, at2, S⟩ | ⟨rfl, v1, v2, at1, at2, S⟩
        ·
          by_cases h20 : 10 < l
          · have h20' : (10 : Int) < ((l : Nat) : Int) := by omega
            obtain ⟨c1_0, c1_1, c1_2, c1_3, c1_4, c1_5⟩ := S.c6 1 rfl
            have H := S.hnew 27 [.bool b, .slice p l K, .int .i64 e]
            replace S := S.al 27 [.bool b, .slice p l K, .int .i64 e] (wr.heap.size)
            replace at1 := at1.hold H; replace at2 := at2.hold H
            clear H; obtain ⟨c2_0, c2_1, c2_2⟩ := S.c3 2 rfl; go_wp2_with fail
            go_ret
            first | exact ⟨⟨false, rfl, fun h => by cases h⟩, S.below⟩ | exact ⟨.inl ⟨rfl, fun _ => trivial⟩, S.below⟩ | exact ⟨.inl ⟨rfl, Lib.hid trivial⟩, S.below⟩ | exact ⟨.inl rfl, S.below⟩
          · have h20' : ¬ (10 : Int) < ((l : Nat) : Int) := by omega
            by_cases h21 : 200 < e
            ·
              obtain ⟨c1_0, c1_1, c1_2, c1_3, c1_4, c1_5⟩ := S.c6 1 rfl
              have H := S.hnew 27 [.bool b, .slice p l K, .int .i64 e]
              replace S := S.al 27 [.bool b, .slice p l K, .int .i64 e] (wr.heap.size)
              replace at1 := at1.hold H; replace at2 := at2.hold H
              clear H; obtain ⟨c2_0, c2_1, c2_2⟩ := S.c3 2 rfl; go_wp2_with fail
              go_ret
              first | exact ⟨⟨false, rfl, fun h => by cases h⟩, S.below⟩ | exact ⟨.inl ⟨rfl, fun _ => trivial⟩, S.below⟩ | exact ⟨.inl ⟨rfl, Lib.hid trivial⟩, S.below⟩ | exact ⟨.inl rfl, S.below⟩
            · by_cases h22 : e < -200
              ·
                obtain ⟨c1_0, c1_1, c1_2, c1_3, c1_4, c1_5⟩ := S.c6 1 rfl
                have H := S.hnew 27 [.bool b, .slice p l K, .int .i64 e]
                replace S := S.al 27 [.bool b, .slice p l K, .int .i64 e] (wr.heap.size)
                replace at1 := at1.hold H; replace at2 := at2.hold H
                clear H; obtain ⟨c2_0, c2_1, c2_2⟩ := S.c3 2 rfl; go_wp2_with fail
                go_ret
                first | exact ⟨⟨false, rfl, fun h => by cases h⟩, S.below⟩ | exact ⟨.inl ⟨rfl, fun _ => trivial⟩, S.below⟩ | exact ⟨.inl ⟨rfl, Lib.hid trivial⟩, S.below⟩ | exact ⟨.inl rfl, S.below⟩
              · have v1 : Hid (l ≤ 10 ∧ (-200 ≤ e ∧ e ≤ 200)) := Lib.hid (show l ≤ 10 ∧ (-200 ≤ e ∧ e ≤ 200) by omega)
                obtain ⟨c1_0, c1_1, c1_2, c1_3, c1_4, c1_5⟩ := S.c6 1 rfl
                have H := S.hnew 27 [.bool b, .slice p l K, .int .i64 e]
                replace S := S.al 27 [.bool b, .slice p l K, .int .i64 e] (wr.heap.size)
                replace at1 := at1.hold H; replace at2 := at2.hold H
                clear H; obtain ⟨c2_0, c2_1, c2_2⟩ := S.c3 2 rfl; go_wp2_with fail
                replace S := S.take 2 (L := [(g4, 29, [.bool b, .slice p l K, .int .i64 e, .bool c, .slice q j J, .int .i64 f]), (g4 + 1, 27, [.bool b, .slice p l K, .int .i64 e, .bool c, .slice q j J, .int .i64 f])]) rfl
                go_roundw
                case rel => exact .inr (.inl ⟨rfl, v1, at1, at2, S⟩)
                case measure => simp [intOf]
        ·
          by_cases h20 : 10 < j
          · have h20' : (10 : Int) < ((j : Nat) : Int) := by omega
            obtain ⟨c1_0, c1_1, c1_2, c1_3, c1_4, c1_5⟩ := S.c6 1 rfl
            have H := S.hnew 27 [.bool c, .slice q j J, .int .i64 f]
            replace S := S.al 27 [.bool c, .slice q j J, .int .i64 f] (wr.heap.size)
            replace at1 := at1.hold H; replace at2 := at2.hold H
            clear H; obtain ⟨c2_0, c2_1, c2_2⟩ := S.c3 2 rfl; go_wp2_with fail
            go_ret
            first | exact ⟨⟨false, rfl, fun h => by cases h⟩, S.below⟩ | exact ⟨.inl ⟨rfl, fun _ => trivial⟩, S.below⟩ | exact ⟨.inl ⟨rfl, Lib.hid trivial⟩, S.below⟩ | exact ⟨.inl rfl, S.below⟩
          · have h20' : ¬ (10 : Int) < ((j : Nat) : Int) := by omega
            by_cases h21 : 200 < f
            ·
              obtain ⟨c1_0, c1_1, c1_2, c1_3, c1_4, c1_5⟩ := S.c6 1 rfl
              have H := S.hnew 27 [.bool c, .slice q j J, .int .i64 f]
              replace S := S.al 27 [.bool c, .slice q j J, .int .i64 f] (wr.heap.size)
              replace at1 := at1.hold H; replace at2 := at2.hold H
              clear H; obtain ⟨c2_0, c2_1, c2_2⟩ := S.c3 2 rfl; go_wp2_with fail
              go_ret
              first | exact ⟨⟨false, rfl, fun h => by cases h⟩, S.below⟩ | exact ⟨.inl ⟨rfl, fun _ => trivial⟩, S.below⟩ | exact ⟨.inl ⟨rfl, Lib.hid trivial⟩, S.below⟩ | exact ⟨.inl rfl, S.below⟩
            · by_cases h22 : f < -200
              ·
                obtain ⟨c1_0, c1_1, c1_2, c1_3, c1_4, c1_5⟩ := S.c6 1 rfl
                have H := S.hnew 27 [.bool c, .slice q j J, .int .i64 f]
                replace S := S.al 27 [.bool c, .slice q j J, .int .i64 f] (wr.heap.size)
                replace at1 := at1.hold H; replace at2 := at2.hold H
                clear H; obtain ⟨c2_0, c2_1, c2_2⟩ := S.c3 2 rfl; go_wp2_with fail
                go_ret
                first | exact ⟨⟨false, rfl, fun h => by cases h⟩, S.below⟩ | exact ⟨.inl ⟨rfl, fun _ => trivial⟩, S.below⟩ | exact ⟨.inl ⟨rfl, Lib.hid trivial⟩, S.below⟩ | exact ⟨.inl rfl, S.below⟩
              · have v2 : Hid (j ≤ 10 ∧ (-200 ≤ f ∧ f ≤ 200)) := Lib.hid (show j ≤ 10 ∧ (-200 ≤ f ∧ f ≤ 200) by omega)
                obtain ⟨c1_0, c1_1, c1_2, c1_3, c1_4, c1_5⟩ := S.c6 1 rfl
                have H := S.hnew 27 [.bool c, .slice q j J, .int .i64 f]
                replace S := S.al 27 [.bool c, .slice q j J, .int .i64 f] (wr.heap.size)
                replace at1 := at1.hold H; replace at2 := at2.hold H
                clear H; obtain ⟨c2_0, c2_1, c2_2⟩ := S.c3 2 rfl; go_wp2_with fail
                replace S := S.take 2 (L := [(g4, 29, [.bool b, .slice p l K, .int .i64 e, .bool c, .slice q j J, .int .i64 f]), (g4 + 1, 27, [.bool b, .slice p l K, .int .i64 e, .bool c, .slice q j J, .int .i64 f])]) rfl
                go_roundw
                case rel => exact .inr (.inr ⟨rfl, v1, v2, at1, at2, S⟩)
                case measure => simp [intOf]
        ·
          obtain ⟨c0_0, c0_1, c0_2, c0_3, c0_4, c0_5⟩ := S.c6 0 rfl; go_wp2_with fail; clear c0_0 c0_1 c0_2 c0_3 c0_4 c0_5
          refine (S.call (scheck_raw b c p q K J l j ds es e f _ (HT.out.below S.below) at1 HD.out.1 HD.out.2.1 at2 HD.out.2.2.1 HD.out.2.2.2 v1.out.1 v2.out.1 v1.out.2 v2.out.2)).mono ?_
          clear S
          rintro e w41 ⟨⟨r, rfl, hr⟩, S, H⟩
          replace at1 := at1.hold H; replace at2 := at2.hold H
          clear H; obtain ⟨c0_0, c0_1, c0_2, c0_3, c0_4, c0_5⟩ := S.c6 0 rfl
          by_cases h0 : r = 0
          · have h0' : (r != 0) = false := by rw [h0]; rfl
            have hv := hr.out h0
            rw [← HC.out] at hv
            have HV := Lib.hid hv
            clear h0 hr hv; go_wp2_with fail
            replace S := S.take 0 (L := []) rfl
            go_roundw
            case rel =>
              refine ⟨k + 1, HL.out, by go_num, fun j hj => ?_, S⟩
              by_cases hjk : j = k
              · rw [hjk]; exact HV.out
              · exact hz.out j (by omega)
            case measure => have := HL.out; simp [intOf]; omega
          · have h0' : (r != 0) = true := by simpa using h0
            clear h0 hr; go_wp2_with fail
            go_ret
            first | exact ⟨⟨false, rfl, fun h => by cases h⟩, S.below⟩ | exact ⟨.inl ⟨rfl, fun _ => trivial⟩, S.below⟩ | exact ⟨.inl ⟨rfl, Lib.hid trivial⟩, S.below⟩ | exact ⟨.inl rfl, S.below⟩
    · have hge : ¬ (k : Int) < ((n : Nat) : Int) := by omega
      have HZ : ∀ j, j < n → TriedS (C j) := fun j hj => hz.out j (by omega)
      have HZ := Lib.hid HZ
      clear hlt
      go_wp2
      go_ret
      first | exact ⟨⟨true, rfl, fun _ => HZ.out⟩, S.below⟩ | exact ⟨.inr ⟨rfl, HZ⟩, S.below⟩ | exact ⟨.inr ⟨rfl, fun _ => HZ.out⟩, S.below⟩ | exact ⟨.inr rfl, S.below⟩
section
variable {w W : World} {L : List (Nat × TypeId × List Value)} {b : Nat} {t : TypeId} {b1 b2 b3 b4 b5 b6 : Bool} {p1 p2 p3 p4 p5 p6 : Option Addr} {l1 l2 l3 l4 l5 l6 K1 K2 K3 K4 K5 K6 : Nat} {e1 e2 e3 e4 e5 e6 : Int} {ds1 ds2 ds3 ds4 ds5 ds6 : List Nat}
def SpAt (w : World) (g j : Nat) (z : SpR) : Prop := (w.cell? ⟨g, j * 6, none⟩ = some (.bool z.b) ∧ w.cell? ⟨g, j * 6 + 1, none⟩ = some (.slice z.p z.ds.length z.K) ∧ w.cell? ⟨g, j * 6 + 2, none⟩ = some (.int .i64 z.e) ∧ w.cell? ⟨g, j * 6 + 3, none⟩ = some (.bool z.c) ∧ w.cell? ⟨g, j * 6 + 4, none⟩ = some (.slice z.q z.es.length z.J) ∧ w.cell? ⟨g, j * 6 + 5, none⟩ = some (.int .i64 z.f)) ∧ At .u32 w z.p z.K z.ds ∧ Dig 4294967296 z.ds ∧ At .u32 w z.q z.J z.es ∧ Dig 4294967296 z.es
end
theorem sfit_at (g n : Nat) (C : Nat → SpR) (w : World) (hT : Tab w) (hg : g < w.heap.size) (hn : n ≤ 1000) (hs : ∀ j, j < n → SpAt w g j (C j)) :
    Calls Tryz.prog 14 #[.slice (some ⟨g, 0, none⟩) n n] w fun e w' => (∃ b, e = .returned (.bool b) ∧ Hid (b = true → ∀ j, j < n → TriedS (C j))) ∧ Below w.heap.size w w' := sfit_any g n C w hT hg hn hs
theorem raw_num {e : Int} {b : Bool} {ds : List Nat} {l : Nat} {p : Option Addr} {K : Nat} {w : World} {x : Rat} (hx : rawQ b ds e = x) (h : TriedD 10 200 b ds e) (hd : Dig 4294967296 ds) (hl : ds.length = l) (hat : At .u32 w p K ds) :
    ∃ m : Int, Hid (negB m = b) ∧ IsNat w (.slice p l K) m.natAbs ∧ Hid (DyF m e x 200 520) := by
  subst hx
  exact raw_dy h hd hl hat (by decide)
end Go.Proofs.YtcdmojefheipoaaGreatDoor
