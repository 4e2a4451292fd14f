/-
  What the statement stands on.
-/
import Derived.Test.YtcfgefbkeeedgaaGreatM06
import Derived.Test.YtcfgefbkeeedgaaGreatM15
import Derived.IntWalk
namespace Go.Proofs.YtcfgefbkeeedgaaGreat
open Go.RowKit
section
attribute [local go_sem] Oper.semAt_some
set_option maxRecDepth 100000 in
set_option maxHeartbeats 4000000 in
theorem long_any (nn : Nat) : LongAns nn := by
  intro hbig p1 p2 K1 K2 ds es w at1 at2 hc1 hc2 h2 hv hle hl1 hl2
  subst hv
  obtain ⟨m, hm⟩ : ∃ m, es.length = m + 2 := ⟨es.length - 2, by omega⟩
  have hlen : es.length ≤ ds.length := by
    rcases Nat.lt_or_ge ds.length es.length with h | h
    · have := hc1.lt_of_len (by decide) hc2 h; omega
    · exact h
  have hpl1 := at1.block
  have hpl2 := at2.block
  obtain ⟨b2, o2, rfl, hk2, hb2, hy2⟩ := at2.pos (by omega)
  obtain ⟨n, hn⟩ : ∃ n, 32 - Lib.bitLen (dg es (m + 1)) = n := ⟨_, rfl⟩
  obtain ⟨f1, f2, f3, f4⟩ := norm_facts es (m + 1) n hm hc2 hn.symm
  have hy1 := hy2 (m + 1) (by omega)
  have hd1 := hc2.1.dg (by decide) (m + 1)
  have C52 : ∀ W, Calls Tryz.prog 99 #[.int .u32 (dg es (m + 1))] W fun e w' => e = .returned (.int .i64 n) ∧ W = w' := fun W => by
    have := lead32 (dg es (m + 1)) W hd1
    rwa [hn] at this
  have C52 := Lib.hid C52
  have HF := Lib.hid (And.intro f2 (And.intro f3 f4))
  have HD := Lib.hid (And.intro hc1 (And.intro hc2 (And.intro hbig hle)))
  have HM := Lib.hid hm
  have hmI : (((es.length : Nat) : Int) - 1).toNat = m + 1 := by omega
  have hmI2 : (1 : Int) ≤ ((es.length : Nat) : Int) := by omega
  have hmI3 : ((es.length : Nat) : Int) - 1 = ((m + 1 : Nat) : Int) := by omega
  have hmI4 : m + 1 < es.length := by omega
  clear hn f2 f3 f4 hc1 hc2 hbig hle hm hy2
  refine calls_marks Tryz.func80 rfl ?_
  simp only [Tryz.ntmps80, List.size_toArray, List.length_cons, List.length_nil, Nat.reduceAdd, Nat.reduceSub, Array.replicate_succ, Array.replicate_zero, List.push_toArray, List.append_toArray, List.nil_append, List.cons_append]
  go_wp2_with fail
  refine (C52.out _).mono ?_
  rintro e w1 ⟨rfl, rfl⟩
  clear hmI hmI2 hmI3 hmI4 hy1 C52 hd1
  have HPL := Lib.hid hpl1
  have HP2 := Lib.hid hpl2
  clear hpl1 hpl2
  go_upto_region 3 with (at_make; refine make_nat rfl _ _ rfl _ _ (es.length + 1) rfl rfl ?e1 ?e2 ?e3 w.heap.size _ (Below.refl _ _) ?e4 (fun w2 hr2 hB2 hB2' => ?_))
  case e1 => omega
  case e2 => omega
  case e3 => omega
  case e4 => simp
  obtain ⟨h, hh⟩ : ∃ h, w.heap.size = h := ⟨_, rfl⟩
  have hs1 : (w.alloc (.cells #[.slice none 0 0] 35)).heap.size = h + 1 := by simp [hh]
  rw [hs1] at hr2 hB2'
  rw [hh] at hB2 ⊢
  have k0 : (w.alloc (.cells #[.slice none 0 0] 35)).cell? ⟨h, 0, none⟩ = some (.slice none 0 0) := by rw [← hh]; simp [go_sem]
  have g0 : (w.alloc (.cells #[.slice none 0 0] 35)).frozen? ⟨h, 0, none⟩ = false := by rw [← hh]; simp [go_sem]
  replace k0 := (hB2'.cell (p := ⟨h, 0, none⟩) (Nat.lt_succ_self h)).trans k0
  replace g0 := (hB2'.frozen (p := ⟨h, 0, none⟩) (Nat.lt_succ_self h)).trans g0
  have hBw : Below h w w2 := ((Below.refl h w).alloc (by omega) _).trans hB2
  clear hB2 hB2' hs1
  obtain ⟨s2, hs2⟩ : ∃ s2, w2.heap.size = s2 := ⟨_, rfl⟩
  have hl2 : h + 1 < s2 := by have := hr2.lt; omega
  rw [hs2]
  have HA3 := (Below.refl s2 w2).alloc (by omega) (.cells #[.slice (some ⟨h + 1, 0, none⟩) (es.length + 1) (es.length + 1)] 35)
  have kb : (w2.alloc (.cells #[.slice (some ⟨h + 1, 0, none⟩) (es.length + 1) (es.length + 1)] 35)).cell? ⟨s2, 0, none⟩ = some (.slice (some ⟨h + 1, 0, none⟩) (es.length + 1) (es.length + 1)) := by rw [← hs2]; simp [go_sem]
  have gb : (w2.alloc (.cells #[.slice (some ⟨h + 1, 0, none⟩) (es.length + 1) (es.length + 1)] 35)).frozen? ⟨s2, 0, none⟩ = false := by rw [← hs2]; simp [go_sem]
  have hs3 : (w2.alloc (.cells #[.slice (some ⟨h + 1, 0, none⟩) (es.length + 1) (es.length + 1)] 35)).heap.size = s2 + 1 := by simp [hs2]
  generalize w2.alloc (.cells #[.slice (some ⟨h + 1, 0, none⟩) (es.length + 1) (es.length + 1)] 35) = w3 at *
  replace k0 := (HA3.cell (p := ⟨h, 0, none⟩) (by show h < s2; omega)).trans k0
  replace g0 := (HA3.frozen (p := ⟨h, 0, none⟩) (by show h < s2; omega)).trans g0
  have hr3 := hr2.below HA3 hl2
  replace hBw := hBw.trans (HA3.mono (by omega))
  have HA1 := Lib.hid at1; have HA2 := Lib.hid at2
  have HH := Lib.hid hh
  have at2' := at2.below hBw (by omega)
  clear at1 at2; clear hr2 HA3 hs2 hh w2
  have C := Lib.hid (shl_any (h + 1) 0 (es.length + 1) n K2 (es.length + 1) (some ⟨b2, o2, none⟩) es w3 (by rw [Nat.zero_add]; exact hr3) HD.out.2.1.1 f1 (by omega) rfl at2' (fun a ha hne => by have := HP2.out a ha hne; have := HH.out; omega))
  go_wp2_with fail
  refine C.out.mono ?_
  clear C
  rintro e w4 ⟨⟨v4, rfl⟩, cs, hcl, hcd, hcv, hr4, hO4⟩
  clear hr3 at2'
  rw [Nat.zero_add] at hcl
  simp only [Nat.pow_zero, Nat.one_mul] at hcv
  have hs4 := hO4.size
  replace k0 := (hO4.cell (a := ⟨h, 0, none⟩) (by show h < _; omega) (by show h ≠ h + 1; omega)).trans k0
  replace g0 := (World.frozen?_of_block (a := ⟨h, 0, none⟩) (hO4.block h (by omega) (by omega))).trans g0
  replace kb := (hO4.cell (a := ⟨s2, 0, none⟩) (by show s2 < _; omega) (by show s2 ≠ h + 1; omega)).trans kb
  replace gb := (World.frozen?_of_block (a := ⟨s2, 0, none⟩) (hO4.block s2 (by omega) (by omega))).trans gb
  replace hBw := hO4.below hBw (by omega) (by omega)
  have hs24 : s2 < w4.heap.size := by omega
  have HCS := Lib.hid (And.intro hcl (And.intro hcd hcv))
  clear hO4 hs4 hs3 w3 hcl hcd hcv
  go_upto_region 5 with fail
  have kb5 : (w4.setCell ⟨s2, 0, none⟩ (.slice (some ⟨h + 1, 0, none⟩) es.length (es.length + 1))).cell? ⟨s2, 0, none⟩ = some (.slice (some ⟨h + 1, 0, none⟩) es.length (es.length + 1)) := World.cell?_setCell_same' _ _ _ (by rw [kb]; rfl)
  have gb5 : (w4.setCell ⟨s2, 0, none⟩ (.slice (some ⟨h + 1, 0, none⟩) es.length (es.length + 1))).frozen? ⟨s2, 0, none⟩ = false := by rw [World.frozen?_setCell]; exact gb
  have k05 := (World.cell?_setCell_other w4 ⟨s2, 0, none⟩ ⟨h, 0, none⟩ (.slice (some ⟨h + 1, 0, none⟩) es.length (es.length + 1)) (by intro e; have := congrArg Addr.block e; simp at this; omega)).trans k0
  have g05 : (w4.setCell ⟨s2, 0, none⟩ (.slice (some ⟨h + 1, 0, none⟩) es.length (es.length + 1))).frozen? ⟨h, 0, none⟩ = false := by rw [World.frozen?_setCell]; exact g0
  have hr5 := hr4.other (show h + 1 ≠ s2 by omega) 0 (.slice (some ⟨h + 1, 0, none⟩) es.length (es.length + 1))
  have hB5 := hBw.setCell (p := ⟨s2, 0, none⟩) (show h ≤ s2 by omega) (.slice (some ⟨h + 1, 0, none⟩) es.length (es.length + 1))
  have hz5 : (w4.setCell ⟨s2, 0, none⟩ (.slice (some ⟨h + 1, 0, none⟩) es.length (es.length + 1))).heap.size = w4.heap.size := by simp
  clear kb gb k0 g0 hr4 hBw
  obtain ⟨w5, hw5⟩ : ∃ w5, w4.setCell ⟨s2, 0, none⟩ (.slice (some ⟨h + 1, 0, none⟩) es.length (es.length + 1)) = w5 := ⟨_, rfl⟩
  rw [hw5] at kb5 gb5 k05 g05 hr5 hB5 hz5 ⊢
  rw [← hz5] at hs24
  clear hw5 hz5
  obtain ⟨R, hR⟩ : ∃ R, w5.heap.size = R := ⟨_, rfl⟩
  go_upto_region 6 with (at_make; refine make_nat rfl _ _ rfl _ _ (ds.length + 1) rfl rfl ?e5 ?e6 ?e7 R w5 (Below.refl _ _) ?e8 (fun w6 hr6 hB6 hB6' => ?_))
  case e5 => omega
  case e6 => omega
  case e7 => omega
  case e8 => omega
  rw [hR] at hr6 hs24
  clear hB6'
  obtain ⟨R2, hR2⟩ : ∃ R2, w6.heap.size = R2 := ⟨_, rfl⟩
  have hRR : R < R2 := by have := hr6.lt; omega
  rw [hR2]
  have HA7 := (Below.refl R2 w6).alloc (by omega) (.cells #[.slice (some ⟨R, 0, none⟩) (ds.length + 1) (ds.length + 1)] 35)
  have kr : (w6.alloc (.cells #[.slice (some ⟨R, 0, none⟩) (ds.length + 1) (ds.length + 1)] 35)).cell? ⟨R2, 0, none⟩ = some (.slice (some ⟨R, 0, none⟩) (ds.length + 1) (ds.length + 1)) := by rw [← hR2]; simp [go_sem]
  have hs7 : (w6.alloc (.cells #[.slice (some ⟨R, 0, none⟩) (ds.length + 1) (ds.length + 1)] 35)).heap.size = R2 + 1 := by simp [hR2]
  generalize w6.alloc (.cells #[.slice (some ⟨R, 0, none⟩) (ds.length + 1) (ds.length + 1)] 35) = w7 at *
  have HX7 := hB6.trans (HA7.mono (by omega))
  have hr7 := hr6.below HA7 hRR
  replace k05 := (HX7.cell (p := ⟨h, 0, none⟩) (by show h < R; omega)).trans k05
  replace g05 := (HX7.frozen (p := ⟨h, 0, none⟩) (by show h < R; omega)).trans g05
  replace kb5 := (HX7.cell (p := ⟨s2, 0, none⟩) (by show s2 < R; omega)).trans kb5
  replace hr5 := hr5.below HX7 (by omega)
  replace hB5 := hB5.trans (HX7.mono (by omega))
  have at1' := HA1.out.below hB5 (by rw [HH.out]; exact Nat.le_refl _)
  clear gb5 hr6 HA7 HX7 hB6 hR2 w6 hR w5 w4
  have C := Lib.hid (shl_any R 0 (ds.length + 1) n K1 (ds.length + 1) p1 ds w7 (by rw [Nat.zero_add]; exact hr7) HD.out.1.1 f1 (by omega) rfl at1' (fun a ha hne => by have := HPL.out a ha hne; have := HH.out; omega))
  go_wp2_with fail
  refine C.out.mono ?_
  clear C
  rintro e w8 ⟨⟨v8, rfl⟩, xs, hxl, hxd, hxv, hr8, hO8⟩
  clear hr7 at1'
  rw [Nat.zero_add] at hxl
  simp only [Nat.pow_zero, Nat.one_mul] at hxv
  have hs8 := hO8.size
  replace k05 := (hO8.cell (a := ⟨h, 0, none⟩) (by show h < _; omega) (by show h ≠ R; omega)).trans k05
  replace g05 := (World.frozen?_of_block (a := ⟨h, 0, none⟩) (hO8.block h (by omega) (by omega))).trans g05
  replace kb5 := (hO8.cell (a := ⟨s2, 0, none⟩) (by show s2 < _; omega) (by show s2 ≠ R; omega)).trans kb5
  replace kr := (hO8.cell (a := ⟨R2, 0, none⟩) (by show R2 < _; omega) (by show R2 ≠ R; omega)).trans kr
  replace hr5 := hr5.keep (hO8.block (h + 1) (by omega) (by omega))
  replace hB5 := hO8.below hB5 (by omega) (by omega)
  have HXS := Lib.hid (And.intro hxl (And.intro hxd hxv))
  have hR28 : R2 < w8.heap.size := by omega
  clear hO8 hs8 hs7 w7 hxl hxd hxv
  obtain ⟨N, hN⟩ : ∃ N, ds.length + 1 = N + es.length := ⟨ds.length + 1 - es.length, by omega⟩
  have hNI : ((ds.length : Nat) : Int) - ((es.length : Nat) : Int) + 1 = (N : Int) := by omega
  have HNI := Lib.hid hNI
  obtain ⟨Q, hQ⟩ : ∃ Q, w8.heap.size = Q := ⟨_, rfl⟩
  have HN := Lib.hid hN
  have hNl : N ≤ 513 := by omega
  clear hNI hN
  have hhQ : h < w8.heap.size := by omega
  go_upto_region 8 with (at_make; refine make_nat rfl _ _ rfl _ _ N rfl rfl HNI.out HNI.out (by omega) w8.heap.size w8 (Below.refl _ _) (Nat.le_refl _) ?_; intro w9 hr9 hB9 hB9'; have k06 := (hB9.cell (p := ⟨h, 0, none⟩) hhQ).trans k05; have g06 := (hB9.frozen (p := ⟨h, 0, none⟩) hhQ).trans g05)
  rw [hQ] at hr9 hR28 hB9
  clear hB9' k05 g05 hhQ
  have k05 := k06; have g05 := g06
  clear k06 g06
  have hQ9 := hr9.lt
  replace kb5 := (hB9.cell (p := ⟨s2, 0, none⟩) (by show s2 < Q; omega)).trans kb5
  replace kr := (hB9.cell (p := ⟨R2, 0, none⟩) (by show R2 < Q; omega)).trans kr
  replace hr5 := hr5.below hB9 (by omega)
  replace hr8 := hr8.below hB9 (by omega)
  replace hB5 := hB5.trans (hB9.mono (by omega))
  have k0 : (w9.setCell ⟨h, 0, none⟩ (.slice (some ⟨Q, 0, none⟩) N N)).cell? ⟨h, 0, none⟩ = some (.slice (some ⟨Q, 0, none⟩) N N) := World.cell?_setCell_same' _ _ _ (by rw [k05]; rfl)
  have g0 : (w9.setCell ⟨h, 0, none⟩ (.slice (some ⟨Q, 0, none⟩) N N)).frozen? ⟨h, 0, none⟩ = false := by rw [World.frozen?_setCell]; exact g05
  have kb := (World.cell?_setCell_other w9 ⟨h, 0, none⟩ ⟨s2, 0, none⟩ (.slice (some ⟨Q, 0, none⟩) N N) (by intro e; have := congrArg Addr.block e; simp at this; omega)).trans kb5
  have kr := (World.cell?_setCell_other w9 ⟨h, 0, none⟩ ⟨R2, 0, none⟩ (.slice (some ⟨Q, 0, none⟩) N N) (by intro e; have := congrArg Addr.block e; simp at this; omega)).trans kr
  have hrb := hr5.other (show h + 1 ≠ h by omega) 0 (.slice (some ⟨Q, 0, none⟩) N N)
  have hrr := hr8.other (show R ≠ h by omega) 0 (.slice (some ⟨Q, 0, none⟩) N N)
  have hrq := hr9.other (show Q ≠ h by omega) 0 (.slice (some ⟨Q, 0, none⟩) N N)
  have hB := hB5.setCell (p := ⟨h, 0, none⟩) (Nat.le_refl h) (.slice (some ⟨Q, 0, none⟩) N N)
  obtain ⟨w10, hw10⟩ : ∃ w10, w9.setCell ⟨h, 0, none⟩ (.slice (some ⟨Q, 0, none⟩) N N) = w10 := ⟨_, rfl⟩
  rw [hw10] at k0 g0 kb kr hrb hrr hrq hB ⊢
  clear hw10 k05 g05 kb5 hr5 hr8 hr9 hB5 hB9 hQ9 hQ
  go_wp2_with (go_at_call 63; refine (down_any _ _ _ _).mono ?_; rintro e w' ⟨rfl, rfl⟩)
  obtain ⟨D1, hD1⟩ : ∃ D1, w10.heap.size = D1 := ⟨_, rfl⟩
  have hQD : Q < D1 := by have := hrq.lt; omega
  have kd : (w10.alloc (.cells #[.slice (some ⟨Q, 0, none⟩) N N] 35)).cell? ⟨D1, 0, none⟩ = some (.slice (some ⟨Q, 0, none⟩) N N) := by rw [← hD1]; simp [go_sem]
  have hs11 : (w10.alloc (.cells #[.slice (some ⟨Q, 0, none⟩) N N] 35)).heap.size = D1 + 1 := by simp [hD1]
  have HA11 := (Below.refl D1 w10).alloc (by omega) (.cells #[.slice (some ⟨Q, 0, none⟩) N N] 35)
  rw [hD1]
  generalize w10.alloc (.cells #[.slice (some ⟨Q, 0, none⟩) N N] 35) = w11 at *
  replace k0 := (HA11.cell (p := ⟨h, 0, none⟩) (by show h < D1; omega)).trans k0
  replace g0 := (HA11.frozen (p := ⟨h, 0, none⟩) (by show h < D1; omega)).trans g0
  replace kb := (HA11.cell (p := ⟨s2, 0, none⟩) (by show s2 < D1; omega)).trans kb
  replace kr := (HA11.cell (p := ⟨R2, 0, none⟩) (by show R2 < D1; omega)).trans kr
  replace hrb := hrb.below HA11 (by omega)
  replace hrr := hrr.below HA11 (by omega)
  replace hrq := hrq.below HA11 hQD
  replace hB := hB.trans (HA11.mono (by omega))
  clear HA11 hD1
  -- what is kept
  obtain ⟨Y, hY⟩ : ∃ Y, val 4294967296 (cs.take es.length) = Y := ⟨_, rfl⟩
  have hYv : Y = 2 ^ n * val 4294967296 es := by
    rw [← hY, top_zero HCS.out.1 (by rw [HCS.out.2.2, HM.out]; exact HF.out.2.1), HCS.out.2.2]
  have hYl : Y < 4294967296 ^ es.length := by rw [hYv, HM.out]; exact HF.out.2.1
  have hY0 : 0 < Y := by
    have h1 := HF.out.1
    have h2 := Nat.pow_pos (n := m + 1) (show 0 < 4294967296 by decide)
    omega
  have hStart : LongInv xs xs (List.replicate N 0) N N Y := LongInv.start (lb := es.length) (la := ds.length) (n := n) (A := val 4294967296 ds) (b := val 4294967296 es) HXS.out.2.1 (by rw [HXS.out.1]; exact HN.out.symm) HXS.out.1 HXS.out.2.2 (val_lt HD.out.1.1) hYv (by omega) (by
    rw [show es.length - 1 = m + 1 by have := HM.out; omega]; exact HF.out.2.2)
  have HY := Lib.hid (And.intro hY (And.intro hYv (And.intro hYl hY0)))
  clear hY hYv hYl hY0
  refine rangePlain (gf := 89) (lb := #[.pointer (some ⟨D1, 0, none⟩)]) rfl (enters_of Tryz.func89 (by kernel_rfl) rfl) N (fun k => #[.int .i64 ((N - 1 - k : Nat) : Int), .int .u32 0]) (fun _ => rfl)
    (fun k W => Turns (fun b => b = R ∨ b = Q) w11 W ∧ ∃ rs qs, LongInv xs rs qs (N - k) N Y ∧ Hid (∀ j, j < N - k → dg qs j = 0) ∧ Row .u32 88 W R rs ∧ Row .u32 88 W Q qs)
    (fun _ _ _ => False)
    (fun s W W' row hs' hg hr => by
      obtain ⟨h1, rs, qs, h2, h3, h4, h5⟩ := hs'
      exact ⟨h1.grown hg (fun r e => (hr r e).1), rs, qs, h2, h3, h4.grown hg (fun r e => (hr r e).2), h5.grown hg (fun r e => (hr r e).2)⟩)
    (fun _ _ _ _ _ hs _ _ => hs)
    ⟨Turns.refl _ _, xs, List.replicate N 0, by rw [Nat.sub_zero]; exact hStart, fun j _ => dg_zeros N j, hrr, hrq⟩
    (down1_is 2 D1 Q 0 N N (fun _ => 0) (by omega) _ fun k W hi => ?own)
    ?round ?done ?stop
  case own =>
    obtain ⟨hT, rs, qs, hI, hz, hR, hQr⟩ := hi
    refine ⟨(hT.cell (a := ⟨D1, 0, none⟩) (by show D1 < _; omega) (by show ¬ (D1 = R ∨ D1 = Q); omega)).trans kd, fun hk => ?_⟩
    have h1 := hQr.cell (j := N - 1 - k) (by rw [hI.ql]; omega)
    rw [hz.out _ (by omega)] at h1
    rw [Nat.zero_add]
    exact h1
  case round =>
    rintro l k W Wb hk ⟨hT, rs, qs, hI, hz, hR, hQr⟩
    obtain ⟨i, hi, hi'⟩ : ∃ i, N - 1 - k = i ∧ i < N := ⟨_, rfl, by omega⟩
    have hk1 : N - k = i + 1 := by omega
    have hk2 : N - (k + 1) = i := by omega
    rw [hi]
    rw [hk1] at hI hz
    have s0 := (hT.cell (a := ⟨h, 0, none⟩) (by show h < _; omega) (by show ¬ (h = R ∨ h = Q); omega)).trans k0
    have s1 := (hT.cell (a := ⟨s2, 0, none⟩) (by show s2 < _; omega) (by show ¬ (s2 = R ∨ s2 = Q); omega)).trans kb
    have s3 := (hT.cell (a := ⟨R2, 0, none⟩) (by show R2 < _; omega) (by show ¬ (R2 = R ∨ R2 = Q); omega)).trans kr
    have hrbW := hrb.keep (hT.block (h + 1) (by omega) (by show ¬ (h + 1 = R ∨ h + 1 = Q); omega))
    have hmix : (Tryz.prog).follows .mixedOrders = true := by kernel_rfl
    have HI := Lib.hid hI; have HZ := Lib.hid hz; have HT := Lib.hid hT; have HR := Lib.hid hR; have HQ := Lib.hid hQr; have HRB := Lib.hid hrbW
    have HK2 := Lib.hid hk2
    have HIN := Lib.hid hi'
    have HS11 := Lib.hid hs11
    have hiN : (i : Int) < (N : Int) := by omega
    have hi513 : i ≤ 512 := by omega
    have hfit : Hid (i + es.length + 1 ≤ ds.length + 1) := by show _ ≤ _; have := HN.out; omega
    clear hI hz hT hR hQr hrbW hk1 hk2 hi hi' hk k0 g0 kb kr kd hrb hrr hrq hB hStart hs11
    gi_wp2
    refine ⟨trivial, ?_⟩
    gi_wp2
    have e1 : IntKind.i64.wrap ((i : Int) + ((es.length : Nat) : Int)) = (i : Int) + ((es.length : Nat) : Int) := IntWalk.i64_in _ (by omega)
    have e2 : IntKind.i64.wrap ((i : Int) + ((es.length : Nat) : Int) + 1) = (i : Int) + ((es.length : Nat) : Int) + 1 := IntWalk.i64_in _ (by omega)
    have e3 : (0 : Int) ≤ (i : Int) + ((es.length : Nat) : Int) + 1 := by omega
    have e4 : ((i : Int) + ((es.length : Nat) : Int) + 1).toNat = i + es.length + 1 := by omega
    have e5 : (i : Int) ≤ (i : Int) + ((es.length : Nat) : Int) + 1 := by omega
    have e6 : (i : Int) + ((es.length : Nat) : Int) + 1 ≤ ((ds.length : Nat) : Int) + 1 := by have := hfit.out; omega
    have e7 : i + es.length + 1 - i = es.length + 1 := by omega
    have e8 : i ≤ i + es.length + 1 := by omega
    have e9 : i + es.length ≤ ds.length := by have := hfit.out; omega
    have e10 : ¬ ds.length + 1 = i := by have := hfit.out; omega
    refine round_held (fun W => W.cell? ⟨h, 0, none⟩ = some (.slice (some ⟨Q, 0, none⟩) N N) ∧ W.cell? ⟨s2, 0, none⟩ = some (.slice (some ⟨h + 1, 0, none⟩) es.length (es.length + 1)) ∧ W.cell? ⟨R2, 0, none⟩ = some (.slice (some ⟨R, 0, none⟩) (ds.length + 1) (ds.length + 1))) hmix (by kernel_rfl) (fun _ _ h => h) ⟨s0, s1, s3⟩ (fun hS => ?_)
    refine wpAnyH_take (i := 0) (v := .slice (some ⟨Q, 0, none⟩) N N) ((List.getElem?_toArray ..).trans rfl) (by kernel_rfl) (by kernel_rfl) (by kernel_rfl) (fun _ _ _ h => h) (Or.inl ⟨rfl, fun W hW => ?_⟩) hS ?_
    · obtain ⟨hW0, hW1, hW2⟩ := hW
      go_simp
    try simp only [Act.put, List.setIfInBounds_toArray, List.set_cons_zero, List.set_cons_succ]
    refine wpAnyH_take (i := 1) (v := .int .i64 i) ((List.getElem?_toArray ..).trans rfl) (by kernel_rfl) (by kernel_rfl) (by kernel_rfl) (fun _ _ _ h => h) (Or.inl ⟨rfl, fun W hW => ?_⟩) hS ?_
    · go_simp
    try simp only [Act.put, List.setIfInBounds_toArray, List.set_cons_zero, List.set_cons_succ]
    refine wpAnyH_take (i := 2) (v := .slice (some ⟨R, 0, none⟩) (ds.length + 1) (ds.length + 1)) ((List.getElem?_toArray ..).trans rfl) (by kernel_rfl) (by kernel_rfl) (by kernel_rfl) (fun _ _ _ h => h) (Or.inl ⟨rfl, fun W hW => ?_⟩) hS ?_
    · obtain ⟨hW0, hW1, hW2⟩ := hW
      go_simp
    try simp only [Act.put, List.setIfInBounds_toArray, List.set_cons_zero, List.set_cons_succ]
    refine wpAnyH_take (i := 3) (v := .int .i64 i) ((List.getElem?_toArray ..).trans rfl) (by kernel_rfl) (by kernel_rfl) (by kernel_rfl) (fun _ _ _ h => h) (Or.inl ⟨rfl, fun W hW => ?_⟩) hS ?_
    · go_simp
    try simp only [Act.put, List.setIfInBounds_toArray, List.set_cons_zero, List.set_cons_succ]
    refine wpAnyH_take (i := 4) (v := .int .i64 i) ((List.getElem?_toArray ..).trans rfl) (by kernel_rfl) (by kernel_rfl) (by kernel_rfl) (fun _ _ _ h => h) (Or.inl ⟨rfl, fun W hW => ?_⟩) hS ?_
    · go_simp
    try simp only [Act.put, List.setIfInBounds_toArray, List.set_cons_zero, List.set_cons_succ]
    refine wpAnyH_take (i := 5) (v := .slice (some ⟨h + 1, 0, none⟩) es.length (es.length + 1)) ((List.getElem?_toArray ..).trans rfl) (by kernel_rfl) (by kernel_rfl) (by kernel_rfl) (fun _ _ _ h => h) (Or.inl ⟨rfl, fun W hW => ?_⟩) hS ?_
    · obtain ⟨hW0, hW1, hW2⟩ := hW
      go_simp
    try simp only [Act.put, List.setIfInBounds_toArray, List.set_cons_zero, List.set_cons_succ]
    refine wpAnyH_take (i := 6) (v := .int .i64 ((es.length : Nat) : Int)) ((List.getElem?_toArray ..).trans rfl) (by kernel_rfl) (by kernel_rfl) (by kernel_rfl) (fun _ _ _ h => h) (Or.inl ⟨rfl, fun W hW => ?_⟩) hS ?_
    · go_simp
    try simp only [Act.put, List.setIfInBounds_toArray, List.set_cons_zero, List.set_cons_succ]
    refine wpAnyH_take (i := 7) (v := .int .i64 ((i : Int) + ((es.length : Nat) : Int))) ((List.getElem?_toArray ..).trans rfl) (by kernel_rfl) (by kernel_rfl) (by kernel_rfl) (fun _ _ _ h => h) (Or.inl ⟨rfl, fun W hW => ?_⟩) hS ?_
    · go_simp
    try simp only [Act.put, List.setIfInBounds_toArray, List.set_cons_zero, List.set_cons_succ]
    refine wpAnyH_take (i := 8) (v := .int .i64 ((i : Int) + ((es.length : Nat) : Int) + 1)) ((List.getElem?_toArray ..).trans rfl) (by kernel_rfl) (by kernel_rfl) (by kernel_rfl) (fun _ _ _ h => h) (Or.inl ⟨rfl, fun W hW => ?_⟩) hS ?_
    · go_simp
    try simp only [Act.put, List.setIfInBounds_toArray, List.set_cons_zero, List.set_cons_succ]
    refine wpAnyH_take (i := 9) (v := .slice (some ⟨R, i, none⟩) (es.length + 1) (ds.length + 1 - i)) ((List.getElem?_toArray ..).trans rfl) (by kernel_rfl) (by kernel_rfl) (by kernel_rfl) (fun _ _ _ h => h) (Or.inl ⟨rfl, fun W hW => ?_⟩) hS ?_
    · go_simp
    try simp only [Act.put, List.setIfInBounds_toArray, List.set_cons_zero, List.set_cons_succ]
    refine wpAnyH_take (i := 10) (v := .slice (some ⟨h + 1, 0, none⟩) es.length (es.length + 1)) ((List.getElem?_toArray ..).trans rfl) (by kernel_rfl) (by kernel_rfl) (by kernel_rfl) (fun _ _ _ h => h) (Or.inl ⟨rfl, fun W hW => ?_⟩) hS ?_
    · obtain ⟨hW0, hW1, hW2⟩ := hW
      go_simp
    try simp only [Act.put, List.setIfInBounds_toArray, List.set_cons_zero, List.set_cons_succ]
    clear e1 e2 e3 e4 e5 e6 e7 e8 e9 e10
    have HS := Lib.hid hS
    clear s0 s1 s3 hS
    obtain ⟨WD, hWD⟩ : ∃ WD, Wb.drew = WD := ⟨_, rfl⟩
    have hRD := HR.out.keep (w' := WD) (by rw [← hWD]; rfl)
    have hQD' := HQ.out.keep (w' := WD) (by rw [← hWD]; rfl)
    have hbD := HRB.out.keep (w' := WD) (by rw [← hWD]; rfl)
    obtain ⟨g1, g2, g3⟩ := HI.out.seg (lb := es.length) HIN.out (by rw [HXS.out.1]; exact HN.out.symm) (by have := HY.out.2.2.1; omega)
    have hsplit : rs = rs.take i ++ ((rs.drop i).take (es.length + 1) ++ rs.drop (i + (es.length + 1))) := by
      conv => lhs; rw [← List.take_append_drop i rs, ← List.take_append_drop (es.length + 1) (rs.drop i), List.drop_drop]
    have hyl : (cs.take es.length).length = m + 2 := by have := HCS.out.1; have := HM.out; simp; omega
    have hST := step_any R i (ds.length + 1 - i) (es.length + 1) (h + 1) 0 m (rs.take i) ((rs.drop i).take (es.length + 1)) (rs.drop (i + (es.length + 1))) (cs.take es.length) WD
      (by have := HI.out.rl; have := hfit.out; have := HXS.out.1; simp; omega) (by rw [← hsplit]; exact hRD) (by rw [g1, HM.out]) hyl ((HI.out.rd.drop i).take _) (HCS.out.2.1.take _) (by have := HM.out; omega)
      (norm_top _ (m + 1) hyl (HCS.out.2.1.take _) (by rw [HY.out.1, HY.out.2.1]; exact HF.out.1)) (by rw [HY.out.1]; exact g3) hbD.lt (by omega) (fun j hj => by
        have h1 := hbD.cell (j := j) (by rw [hyl] at hj; have := HCS.out.1; have := HM.out; omega)
        rw [Nat.zero_add, h1, dg_take _ (by rw [hyl] at hj; have := HM.out; omega)])
    rw [show m + 3 = es.length + 1 by have := HM.out; omega, ← HM.out] at hST
    obtain ⟨S, hS0⟩ : ∃ S, val 4294967296 ((rs.drop i).take (es.length + 1)) = S := ⟨_, rfl⟩
    have HS0 := Lib.hid hS0
    have HST := Lib.hid hST
    have HS3 := Lib.hid g3
    have HWD := Lib.hid hWD
    have HRD := Lib.hid hRD; have HQD := Lib.hid hQD'
    rw [hWD] at HS ⊢
    clear hST hS0 g1 g2 g3 hsplit hyl hWD hRD hQD' hbD
    refine wpAnyH_ready (rs := [11]) (by kernel_rfl) (by simp) (AllReadyH.cons ((List.getElem?_toArray ..).trans rfl) (fun K hK => ?_) AllReadyH.nil)
    go_simp
    refine HST.out.mono ?_
    rintro e w' ⟨rfl, seg', q1, q2, q3, q4, q5⟩
    rw [HY.out.1] at q3 ⊢
    rw [HS0.out] at q3 ⊢
    have HSeg := Lib.hid (And.intro q1 (And.intro q2 q3))
    clear HST q1 q2 q3
    have hs5 := q5.size
    have hsz : ∀ x, x < D1 → x < WD.heap.size := fun x hx => by
      have h1 := HT.out.size
      have h2 := HS11.out
      rw [← HWD.out]
      show x < Wb.heap.size
      omega
    have t0 := (q5.cell (a := ⟨h, 0, none⟩) (hsz h (by omega)) (by show h ≠ R; omega)).trans HS.out.1
    have t1 := (q5.cell (a := ⟨s2, 0, none⟩) (hsz s2 (by omega)) (by show s2 ≠ R; omega)).trans HS.out.2.1
    have t3 := (q5.cell (a := ⟨R2, 0, none⟩) (hsz R2 (by omega)) (by show R2 ≠ R; omega)).trans HS.out.2.2
    have HQ2 := HQD.out.keep (q5.block Q (hsz Q hQD) (by omega))
    have ho := HQ2.cell (j := i) (by have := HI.out.ql; have := HIN.out; omega)
    have hf := HQ2.free i
    have HQ3 := Lib.hid HQ2
    have HR3 := Lib.hid q4
    have HO := Lib.hid q5
    clear HQ2 q4 q5 hsz; go_wp2_with fail
    refine hK.out _ _ ⟨t0, t1, t3⟩ (fun hS2 => ?_)
    clear hK K
    try simp only [Act.put, List.setIfInBounds_toArray, List.set_cons_zero, List.set_cons_succ]
    refine wpAnyH_take (i := 12) (v := .pointer (some ⟨Q, i, none⟩)) ((List.getElem?_toArray ..).trans rfl) (by kernel_rfl) (by kernel_rfl) (by kernel_rfl) (fun _ _ _ h => h) (Or.inl ⟨rfl, fun W hW => ?_⟩) hS2 ?_
    · go_simp
    try simp only [Act.put, List.setIfInBounds_toArray, List.set_cons_zero, List.set_cons_succ]
    refine wpAnyH_ready (rs := [13]) (by kernel_rfl) (by simp) (AllReadyH.cons ((List.getElem?_toArray ..).trans rfl) (fun K hK => ?_) AllReadyH.nil)
    go_simp
    have nQ : ∀ (x j : Nat), x ≠ Q → (⟨x, 0, none⟩ : Addr) ≠ ⟨Q, j, none⟩ := fun x j hx e => hx (congrArg Addr.block e)
    refine hK.out _ _ ⟨(World.cell?_setCell_other _ _ _ _ (by intro e; have := congrArg Addr.block e; simp at this; omega)).trans hS2.1, (World.cell?_setCell_other _ _ _ _ (by intro e; have := congrArg Addr.block e; simp at this; omega)).trans hS2.2.1, (World.cell?_setCell_other _ _ _ _ (by intro e; have := congrArg Addr.block e; simp at this; omega)).trans hS2.2.2⟩ (fun hS3 => ?_)
    clear hK K
    try simp only [Act.put, List.setIfInBounds_toArray, List.set_cons_zero, List.set_cons_succ]
    refine wpAnyH_done (by kernel_rfl) ?_ _
    rw [← Int.natCast_ediv]
    have hRQ : R ≠ Q := by omega
    have hTD : Turns (fun b => b = R ∨ b = Q) w11 WD := by rw [← HWD.out]; exact HT.out.drew
    have hTO : Turns (fun b => b = R ∨ b = Q) w11 w' := hTD.trans ⟨HO.out.os, HO.out.tape, HO.out.output, HO.out.size, fun k hk hn => HO.out.block k hk (fun e => hn (Or.inl e))⟩
    have hTF := hTO.set (p := ⟨Q, i, none⟩) (Or.inr rfl) (.int .u32 ((S / Y : Nat) : Int))
    have hKO : KeepsOthers Wb w' := by
      refine ⟨Nat.le_trans (by rw [← HWD.out]; exact Nat.le_refl _) HO.out.size, fun k o hk ho => ?_⟩
      have hkR : k ≠ R := by
        rintro rfl
        have h1 : Wb.heap[k]? = some (.cells (cellsOf .u32 rs).toArray 88 (0, 0)) := HR.out
        rw [h1] at hk
        cases hk
        cases ho
      have hkl : k < WD.heap.size := by
        have h1 := (Array.getElem?_eq_some_iff.1 hk).1
        rw [← HWD.out]
        exact h1
      rw [HO.out.block k hkl hkR, ← HWD.out]
      exact hk
    refine ⟨(hKO.trans (KeepsOthers.setCell _ _ _)).from _, hTF, _, qs.set i (S / Y), ?_, ?_, HR3.out.other hRQ i _, HQ3.out.set i (S / Y) (by have := HI.out.ql; have := HIN.out; omega)⟩
    · rw [HK2.out]
      exact HI.out.step (lb := es.length) HIN.out (by rw [HXS.out.1]; exact HN.out.symm) (by have := HY.out.2.2.1; omega) HY.out.2.2.2 HS0.out.symm
        (by rw [HSeg.out.1]; have := HI.out.rl; have := hfit.out; have := HXS.out.1; simp; omega) HSeg.out.2.1 HSeg.out.2.2
    · show ∀ _, _
      intro j hj
      rw [HK2.out] at hj
      rw [dg_set _ _ _ _ (by have := HI.out.ql; have := HIN.out; omega), if_neg (by omega)]
      exact HZ.out j (by omega)
  case done =>
    rintro D W hD ⟨hT, rs, qs, hI, hz, hR, hQr⟩ hK
    rw [Nat.sub_self] at hI
    have c0 := (hT.cell (a := ⟨h, 0, none⟩) (by show h < _; omega) (by show ¬ (h = R ∨ h = Q); omega)).trans k0
    have f0 := (hT.frozen (a := ⟨h, 0, none⟩) (by show h < _; omega) (by show ¬ (h = R ∨ h = Q); omega)).trans g0
    have cr := (hT.cell (a := ⟨R2, 0, none⟩) (by show R2 < _; omega) (by show ¬ (R2 = R ∨ R2 = Q); omega)).trans kr
    have hBW : Below h w W := ⟨hT.os.trans hB.os, hT.tape.trans hB.tape, hT.output.trans hB.output, Nat.le_trans hB.size hT.size, fun k hk => (hT.block k (by omega) (by omega)).trans (hB.block k hk)⟩
    have hWs := hT.size
    have HRes := Lib.hid (hI.fin (A := val 4294967296 ds) (b := val 4294967296 es) (lb := es.length) HXS.out.2.2 HY.out.2.1 (by have := HY.out.2.2.1; omega))
    have HI := Lib.hid hI
    have hDl : D < W.heap.size := (Array.getElem?_eq_some_iff.1 hK).1
    have hlW : es.length ≤ rs.length := by have := hI.rl; have := HXS.out.1; have := HN.out; omega
    have hrl : rs.length = ds.length + 1 := by have := hI.rl; have := HXS.out.1; omega
    have hK' := Lib.hid hK
    have hql := hI.ql
    have hqd := hI.qd
    clear hI hz hK hT hB k0 g0 kb kr kd hrb hrr hrq hStart
    go_upto_region 12 with (at_make; refine make_nat rfl _ _ rfl _ _ es.length rfl rfl rfl rfl (by omega) W.heap.size W (Below.refl _ _) (Nat.le_refl _) (fun w12 hr12 hB12 hB12' => ?_))
    clear hB12'
    obtain ⟨L0, hL0⟩ : ∃ L0, W.heap.size = L0 := ⟨_, rfl⟩
    rw [hL0] at hr12 hB12 hDl hWs
    have hL12 := hr12.lt
    replace c0 := (hB12.cell (p := ⟨h, 0, none⟩) (by show h < L0; omega)).trans c0
    replace f0 := (hB12.frozen (p := ⟨h, 0, none⟩) (by show h < L0; omega)).trans f0
    replace cr := (hB12.cell (p := ⟨R2, 0, none⟩) (by show R2 < L0; omega)).trans cr
    have hR12 := hR.below hB12 (by omega)
    have hQ12 := hQr.below hB12 (by omega)
    have hK12 := (hB12.block D hDl).trans hK'.out
    have hBx := hBW.trans (hB12.mono (by omega))
    have hat := hR12.at 0 es.length (ds.length + 1) (by omega) (by omega)
    rw [List.drop_zero] at hat
    have htl : (rs.take es.length).length = es.length := by simp; omega
    have C := shr_any L0 es.length n (ds.length + 1) (some ⟨R, 0, none⟩) (rs.take es.length) (List.replicate es.length 0) w12 hr12 (by rw [htl]; simp) (fun y hy => by simp at hy; omega) (HI.out.rd.take _) f1 (by omega) hat (fun a ha _ => by cases ha; show R ≠ L0; omega)
    rw [htl] at C
    have HC := Lib.hid C
    have hK12' := Lib.hid hK12
    clear C hat htl hlW hR hQr hK' hBW hB12 hr12 hK12; go_wp2_with fail
    refine HC.out.mono ?_
    clear HC
    rintro e w13 ⟨⟨v13, rfl⟩, ⟨zs, hzl, hzd, hzv, hrz⟩, hO13⟩
    have hs13 := hO13.size
    rw [hL0]
    replace c0 := (hO13.cell (a := ⟨h, 0, none⟩) (by show h < _; omega) (by show h ≠ L0; omega)).trans c0
    replace f0 := (World.frozen?_of_block (a := ⟨h, 0, none⟩) (hO13.block h (by omega) (by omega))).trans f0
    have hQ13 := hQ12.keep (hO13.block Q (by omega) (by omega))
    have hK13 := Lib.hid ((hO13.block D (by omega)  (by omega)).trans hK12'.out)
    have hB13 := hO13.below hBx (by omega) (by have := hBx.size; have := HH.out; omega)
    have hD13 : D < w13.heap.size := by omega
    have hq := hQ13.all N (by omega)
    rw [hql] at hq
    have hz13 := hrz.all es.length (by omega)
    rw [hzl] at hz13
    have H1 := Lib.hid (trim_any hq (by omega))
    have HV := Lib.hid (And.intro hzl (And.intro hzd hzv))
    have hh13 : h < w13.heap.size := by omega
    clear hq hO13 hs13 hQ12 hK12' hBx hrz hzl hzd hzv hR12 cr hL0; go_wp2_with fail
    refine H1.out.mono ?_
    clear H1
    rintro e w14 ⟨⟨v1, rfl, hv1⟩, hB14⟩
    have hz14 := hz13.below hB14 (Nat.le_refl _)
    have H2 := Lib.hid (trim_any hz14 (by have := HV.out.1; omega))
    replace c0 := (hB14.cell (p := ⟨h, 0, none⟩) hh13).trans c0
    replace f0 := (hB14.frozen (p := ⟨h, 0, none⟩) hh13).trans f0
    have hK14 := Lib.hid ((hB14.block D hD13).trans hK13.out)
    have hs14 := hB14.size
    have hh14 : h < w14.heap.size := by omega
    have hD14 : D < w14.heap.size := by omega
    have hB2 := hB13.trans (hB14.mono (by omega))
    clear hz13 hz14 hK13 hB13 hB14 hs14; go_wp2_with fail
    refine H2.out.mono ?_
    clear H2
    rintro e w15 ⟨⟨v2, rfl, hv2⟩, hB15⟩
    have hv1' := hv1.below hB15 (Nat.le_refl _)
    replace c0 := (hB15.cell (p := ⟨h, 0, none⟩) hh14).trans c0
    replace f0 := (hB15.frozen (p := ⟨h, 0, none⟩) hh14).trans f0
    have hK15 := (hB15.block D hD14).trans hK14.out
    have hB3 := hB2.trans (hB15.mono (by omega))
    have HK15 := Lib.hid hK15
    clear hv1 hK14 hB2 hB15 hK15
    obtain ⟨q1, L1, rfl, at1⟩ := hv1'
    obtain ⟨q2, L2, rfl, at2⟩ := hv2
    go_wp2_with fail
    have hK4 := (KeepsOthers.setCell w15 ⟨h, 0, none⟩ (.slice q1 (cut qs).length L1)).same D _ HK15.out rfl
    have hc5 := put_cell hK4 (World.cell?_setCell_same' w15 ⟨h, 0, none⟩ (.slice q1 (cut qs).length L1) (by rw [c0]; rfl))
    have hB5 := hB3.setCell (p := ⟨h, 0, none⟩) (Nat.le_refl h) (.slice q1 (cut qs).length L1)
    have hP := put_below (show h ≤ D by omega) hK4 (by have := hB5.size; have := HH.out; omega)
    refine marks_ret (v := .tuple #[.slice q1 (cut qs).length L1, .slice q2 (cut zs).length L2]) hK4 ?_ ⟨⟨_, _, rfl, ?_, ?_⟩, ?_⟩
    · simp [results, Tryz.f80, go_sem, hc5]
    · exact ⟨cut qs, ⟨q1, L1, rfl, (at1.other _ c0 (by intro n h; cases h)).put hK4⟩, can_cut hqd, by rw [val_cut]; exact HRes.out.1⟩
    · exact ⟨cut zs, ⟨q2, L2, rfl, (at2.other _ c0 (by intro n h; cases h)).put hK4⟩, can_cut HV.out.2.1, by rw [val_cut, HV.out.2.2]; exact HRes.out.2⟩
    · rw [HH.out]
      exact hB5.trans hP
  case stop => exact fun _ _ _ _ _ _ hf => hf.elim
end
def nbits (n : Nat) : Nat := if n = 0 then 0 else Nat.log2 n + 1
theorem nbits_of {n t : Nat} (h1 : 1 ≤ t) (h2 : 2 ^ (t - 1) ≤ n) (h3 : n < 2 ^ t) : nbits n = t := by
  have h0 : n ≠ 0 := by have := Nat.two_pow_pos (t - 1); omega
  unfold nbits
  rw [if_neg h0]
  have h4 : t - 1 ≤ Nat.log2 n := (Nat.le_log2 h0).2 h2
  have h5 : Nat.log2 n < t := (Nat.log2_lt h0).2 h3
  omega
theorem nbits_spec {n : Nat} (h : n ≠ 0) : 1 ≤ nbits n ∧ 2 ^ (nbits n - 1) ≤ n ∧ n < 2 ^ nbits n := by
  unfold nbits
  rw [if_neg h, Nat.add_sub_cancel]
  exact ⟨by omega, Nat.log2_self_le h, Nat.lt_log2_self⟩
theorem bitsOf_nbits {ds : List Nat} (h : Can 4294967296 ds) : bitsOf ds = nbits (val 4294967296 ds) := by
  by_cases h0 : ds = []
  · subst h0; rfl
  · obtain ⟨b1, b2, b3⟩ := bits_bounds h h0
    exact (nbits_of b1 b2 b3).symm
theorem nbits_lt {m : Nat} (h : m < maxN) : nbits m ≤ 16384 := by
  by_cases h0 : m = 0
  · subst h0; simp [nbits]
  · obtain ⟨q, hq⟩ : ∃ q : Nat, q = 32 * 512 := ⟨_, rfl⟩
    rw [maxN_two q 512 rfl hq] at h
    obtain ⟨h1, h2, h3⟩ := nbits_spec h0
    have := (Nat.pow_lt_pow_iff_right (a := 2) (by decide)).1 (Nat.lt_of_le_of_lt h2 h)
    omega
theorem bits_nat {va : Value} {m : Nat} {w : World} (ha : IsNat w va m) (hm : m < maxN) {t : Nat} (ht : nbits m = t) :
    Calls Tryz.prog 19 #[va] w fun e w' => e = .returned (.int .i64 t) ∧ Below w.heap.size w w' := by
  obtain ⟨ds, hn, hc, rfl⟩ := ha
  subst ht
  rw [← bitsOf_nbits hc]
  exact bits_any hn hc (by have := hc.len_max.2 hm; omega)
theorem compare_nat {va vb : Value} {m n : Nat} {w : World} (ha : IsNat w va m) (hb : IsNat w vb n) (hm : m < maxN) (hn : n < maxN) {c : Int} (hc : cmpI m n = c) :
    Calls Tryz.prog 27 #[va, vb] w fun e w' => e = .returned (.int .i64 c) ∧ Below w.heap.size w w' := by
  obtain ⟨ds, hv1, hc1, rfl⟩ := ha
  obtain ⟨es, hv2, hc2, rfl⟩ := hb
  subst hc
  exact compare_any hv1 hv2 hc1 hc2 (hc1.len_max.2 hm) (hc2.len_max.2 hn)
theorem div_nat {va vb : Value} {m n : Nat} {w : World} (ha : IsNat w va m) (hb : IsNat w vb n) (hm : m < maxN) (hn : n < maxN) (h0 : 0 < n) :
    Calls Tryz.prog 49 #[va, vb] w fun e w' => (∃ v1 v2, e = .returned (.tuple #[v1, v2, .int .i64 0]) ∧ IsNat w' v1 (m / n) ∧ IsNat w' v2 (m % n)) ∧ Below w.heap.size w w' :=
  div_fit (long_any n) ha hb hm hn h0
def negB (z : Int) : Bool := decide (z < 0)
theorem negB_pos {z : Int} (h : z < 0) : negB z = true := decide_eq_true h
theorem negB_neg {z : Int} (h : ¬ z < 0) : negB z = false := decide_eq_false h
def IsInt (w : World) (v : Value) (z : Int) : Prop := ∃ p l K, v = .agg #[.bool (negB z), .slice p l K] ∧ IsNat w (.slice p l K) z.natAbs
theorem IsInt.below {B : Nat} {w w' : World} {v : Value} {z : Int} (hb : Below B w w') (hB : w.heap.size ≤ B) : IsInt w v z → IsInt w' v z
  | ⟨p, l, K, e, h⟩ => ⟨p, l, K, e, h.below hb hB⟩
theorem IsInt.eq {w : World} {v : Value} {z y : Int} (h : IsInt w v z) (e : z = y) : IsInt w v y := e ▸ h
theorem IsNat.form {w : World} {v : Value} {n : Nat} (h : IsNat w v n) : ∃ p l K, v = .slice p l K := by
  obtain ⟨ds, ⟨p, K, rfl, _⟩, _⟩ := h
  exact ⟨p, _, K, rfl⟩
def Cell2 (w : World) (g : Nat) (t : TypeId) (a b : Value) : Prop := w.heap[g]? = some (.cells #[a, b] t (0, 0))
section
variable {w w' : World} {g : Nat} {t : TypeId} {a b : Value}
theorem Cell2.made (w : World) (t : TypeId) (a b : Value) : Cell2 (w.alloc (.cells #[a, b] t)) w.heap.size t a b := World.alloc_heap_new w _
theorem Cell2.lt (h : Cell2 w g t a b) : g < w.heap.size := (Array.getElem?_eq_some_iff.1 h).1
theorem Cell2.keep (h : Cell2 w g t a b) (hb : w'.heap[g]? = w.heap[g]?) : Cell2 w' g t a b := hb.trans h
theorem Cell2.below {B : Nat} (h : Cell2 w g t a b) (hb : Below B w w') (hg : g < B) : Cell2 w' g t a b := h.keep (hb.block g hg)
theorem Cell2.alloc (h : Cell2 w g t a b) (o : Obj) : Cell2 (w.alloc o) g t a b := h.below ((Below.refl _ w).alloc (Nat.le_refl _) o) h.lt
theorem Cell2.c0 (h : Cell2 w g t a b) : w.cell? ⟨g, 0, none⟩ = some a := by rw [cell_of_row w g 0 _ t (0, 0) h]; rfl
theorem Cell2.c1 (h : Cell2 w g t a b) : w.cell? ⟨g, 1, none⟩ = some b := by rw [cell_of_row w g 1 _ t (0, 0) h]; rfl
theorem Cell2.free (h : Cell2 w g t a b) (j : Nat) : w.frozen? ⟨g, j, none⟩ = false := by
  have h' : w.heap[g]? = some (.cells #[a, b] t (0, 0)) := h
  simp [World.frozen?, h']
theorem Cell2.set2 (h : Cell2 w g t a b) (x y : Value) : Cell2 ((w.setCell ⟨g, 0, none⟩ x).setCell ⟨g, 1, none⟩ y) g t x y := by
  have h' : w.heap[g]? = some (.cells #[a, b] t (0, 0)) := h
  have hlt := h.lt
  have hg : w.heap[g] = .cells #[a, b] t (0, 0) := by simpa [Array.getElem?_eq_getElem hlt] using h'
  unfold Cell2 World.setCell
  simp only [Array.getElem?_modify, if_true, h', Option.map_some]
  simp
theorem IsNat.set2 {v : Value} {n : Nat} (h : IsNat w v n) {m : Bool} {p : Option Addr} {l K : Nat} (hc : Cell2 w g t (.bool m) (.slice p l K)) (x y : Value) : IsNat ((w.setCell ⟨g, 0, none⟩ x).setCell ⟨g, 1, none⟩ y) v n := by
  have h1 := h.other x hc.c0 (by intro n e; cases e)
  have h2 : (w.setCell ⟨g, 0, none⟩ x).cell? ⟨g, 1, none⟩ = some (.slice p l K) := (World.cell?_setCell_other _ _ _ _ (by simp)).trans hc.c1
  exact h1.other y h2 (by intro n e; cases e)
end
set_option maxRecDepth 100000 in
set_option maxHeartbeats 1000000 in
theorem signed_any (b : Bool) {v : Value} {n : Nat} {w : World} (hs : IsNat w v n) (hm : n < maxN) (z : Int) (hz : z = if b then -(n : Int) else (n : Int)) :
    Calls Tryz.prog 73 #[.bool b, v] w fun e w' => (∃ u, e = .returned u ∧ IsInt w' u z) ∧ Below w.heap.size w w' := by
  have HM := Lib.hid hm
  obtain ⟨p, l, K, rfl⟩ := hs.form
  cases b with
  | false =>
    have HZ := Lib.hid (show negB z = false ∧ z.natAbs = n from ⟨negB_neg (by simp at hz; omega), by simp at hz; omega⟩)
    clear hz hm
    go_enter Tryz.func73, Tryz.ntmps73
    go_wp2
    refine bodyPost_ret (v := .agg #[.bool false, .slice p l K]) (by simp [results, Tryz.f73, go_sem]) rfl ⟨⟨_, rfl, p, l, K, by rw [HZ.out.1], ?_⟩, (Below.refl _ _).alloc (Nat.le_refl _) _⟩
    rw [HZ.out.2]
    exact hs.below ((Below.refl _ w).alloc (Nat.le_refl _) _) (Nat.le_refl _)
  | true =>
    by_cases h0 : n = 0
    · have HZ := Lib.hid (show negB z = false ∧ z.natAbs = n from ⟨negB_neg (by simp at hz; omega), by simp at hz; omega⟩)
      have hs2 := hs.below ((Below.refl w.heap.size w).alloc (Nat.le_refl _) (.cells #[.bool false, .slice none 0 0] 37)) (Nat.le_refl _)
      have C := Lib.hid (bits_nat hs2 hm (t := 0) (by rw [h0]; rfl))
      have hcell := Cell2.made w 37 (.bool false) (.slice none 0 0)
      have hsz : w.heap.size < (w.alloc (.cells #[.bool false, .slice none 0 0] 37)).heap.size := by simp
      have HCell := Lib.hid hcell
      clear hz hm h0 hcell
      go_enter Tryz.func73, Tryz.ntmps73
      go_wp2_with fail
      refine C.out.mono ?_
      clear C
      rintro e w1 ⟨rfl, hB⟩
      have hc := HCell.out.below hB hsz
      have c0 := hc.c0
      have c1 := hc.c1
      have f0 := hc.free 0
      have f1 := hc.free 1
      have hc2 := hc.set2 (.bool false) (.slice p l K)
      have hn2 := (hs2.below hB (Nat.le_refl _)).set2 hc (.bool false) (.slice p l K)
      have hbw := ((((Below.refl w.heap.size w).alloc (Nat.le_refl _) (.cells #[.bool false, .slice none 0 0] 37)).trans (hB.mono (by simp))).setCell (p := ⟨w.heap.size, 0, none⟩) (Nat.le_refl _) (.bool false)).setCell (p := ⟨w.heap.size, 1, none⟩) (Nat.le_refl _) (.slice p l K)
      have HC2 := Lib.hid hc2
      clear hc hc2; go_wp2_with fail
      have d0 := HC2.out.c0
      have d1 := HC2.out.c1
      refine bodyPost_ret (v := .agg #[.bool false, .slice p l K]) (by simp [results, Tryz.f73, go_sem, d0, d1]) rfl ⟨⟨_, rfl, p, l, K, by rw [HZ.out.1], ?_⟩, hbw⟩
      rw [HZ.out.2]
      exact hn2
    · obtain ⟨t, ht⟩ : ∃ t, nbits n = t := ⟨_, rfl⟩
      have HZ := Lib.hid (show negB z = true ∧ z.natAbs = n from ⟨negB_pos (by simp at hz; omega), by simp at hz; omega⟩)
      have hs2 := hs.below ((Below.refl w.heap.size w).alloc (Nat.le_refl _) (.cells #[.bool false, .slice none 0 0] 37)) (Nat.le_refl _)
      have C := Lib.hid (bits_nat hs2 hm ht)
      have htp : 0 < t := by rw [← ht]; exact (nbits_spec h0).1
      have htI : (0 : Int) < (t : Int) := by omega
      have htD : decide (0 < t) = true := decide_eq_true htp
      have hcell := Cell2.made w 37 (.bool false) (.slice none 0 0)
      have hsz : w.heap.size < (w.alloc (.cells #[.bool false, .slice none 0 0] 37)).heap.size := by simp
      have HCell := Lib.hid hcell
      clear hz hm h0 hcell ht htp
      go_enter Tryz.func73, Tryz.ntmps73
      go_wp2_with fail
      refine C.out.mono ?_
      clear C
      rintro e w1 ⟨rfl, hB⟩
      have hc := HCell.out.below hB hsz
      have c0 := hc.c0
      have c1 := hc.c1
      have f0 := hc.free 0
      have f1 := hc.free 1
      have hc2 := hc.set2 (.bool true) (.slice p l K)
      have hn2 := (hs2.below hB (Nat.le_refl _)).set2 hc (.bool true) (.slice p l K)
      have hbw := ((((Below.refl w.heap.size w).alloc (Nat.le_refl _) (.cells #[.bool false, .slice none 0 0] 37)).trans (hB.mono (by simp))).setCell (p := ⟨w.heap.size, 0, none⟩) (Nat.le_refl _) (.bool true)).setCell (p := ⟨w.heap.size, 1, none⟩) (Nat.le_refl _) (.slice p l K)
      have HC2 := Lib.hid hc2
      clear hc hc2; go_wp2_with fail
      have d0 := HC2.out.c0
      have d1 := HC2.out.c1
      refine bodyPost_ret (v := .agg #[.bool true, .slice p l K]) (by simp [results, Tryz.f73, go_sem, d0, d1]) rfl ⟨⟨_, rfl, p, l, K, by rw [HZ.out.1], ?_⟩, hbw⟩
      rw [HZ.out.2]
      exact hn2
set_option maxRecDepth 100000 in
set_option maxHeartbeats 1000000 in
theorem wsign_any {va : Value} {z : Int} {w : World} (ha : IsInt w va z) (hm : z.natAbs < maxN) {s : Int} (hs : z.sign = s) :
    Calls Tryz.prog 65 #[va] w fun e w' => e = .returned (.int .i64 s) ∧ Below w.heap.size w w' := by
  obtain ⟨p, l, K, rfl, hn⟩ := ha
  by_cases h0 : z = 0
  · subst h0
    have hbw := (Below.refl w.heap.size w).alloc (Nat.le_refl _) (.cells #[.bool (negB 0), .slice p l K] 37)
    have C := Lib.hid (bits_nat (hn.below hbw (Nat.le_refl _)) hm (t := 0) rfl)
    have HCell := Lib.hid (Cell2.made w 37 (.bool (negB 0)) (.slice p l K))
    have c0 := HCell.out.c0
    have c1 := HCell.out.c1
    rw [negB_neg (by omega)] at *
    have hs0 : s = 0 := by rw [← hs]; rfl
    subst hs0
    clear hn hm hs
    go_enter Tryz.func65, Tryz.ntmps65
    go_wp2_with fail
    refine C.out.mono ?_
    clear C
    rintro e w1 ⟨rfl, hB⟩
    have hb2 := hbw.trans (hB.mono (by simp))
    clear hB hbw HCell c0 c1; go_wp2_with fail
    exact bodyPost_ret (v := .int .i64 0) (by simp [results, Tryz.f65, go_sem]) rfl ⟨rfl, hb2⟩
  · obtain ⟨t, ht⟩ : ∃ t, nbits z.natAbs = t := ⟨_, rfl⟩
    have htp : 0 < t := by rw [← ht]; exact (nbits_spec (by omega)).1
    have htI : ¬ ((t : Int) = 0) := by omega
    have htN : ¬ (t = 0) := by omega
    obtain ⟨b, hb⟩ : ∃ b, negB z = b := ⟨_, rfl⟩
    rw [hb]
    have hbw := (Below.refl w.heap.size w).alloc (Nat.le_refl _) (.cells #[.bool b, .slice p l K] 37)
    have C := Lib.hid (bits_nat (hn.below hbw (Nat.le_refl _)) hm ht)
    have HCell := Lib.hid (Cell2.made w 37 (.bool b) (.slice p l K))
    have hsz : w.heap.size < (w.alloc (.cells #[.bool b, .slice p l K] 37)).heap.size := by simp
    have HS := Lib.hid (show s = if b then -1 else 1 by
      rw [← hs, ← hb]
      rcases (show z < 0 ∨ 0 < z by omega) with hz | hz
      · rw [negB_pos hz, Int.sign_eq_neg_one_of_neg hz]; rfl
      · rw [negB_neg (by omega), Int.sign_eq_one_of_pos hz]; rfl)
    clear hn hm hs ht hb h0
    go_enter Tryz.func65, Tryz.ntmps65
    go_wp2_with fail
    refine C.out.mono ?_
    clear C
    rintro e w1 ⟨rfl, hB⟩
    have c0 := (HCell.out.below hB hsz).c0
    have hb2 := hbw.trans (hB.mono (by simp))
    clear hB hbw HCell hsz
    cases b with
    | false =>
      go_wp2_with fail
      exact bodyPost_ret (v := .int .i64 1) (by simp [results, Tryz.f65, go_sem]) rfl ⟨by rw [HS.out]; rfl, hb2⟩
    | true =>
      go_wp2_with fail
      exact bodyPost_ret (v := .int .i64 (-1)) (by simp [results, Tryz.f65, go_sem]) rfl ⟨by rw [HS.out]; rfl, hb2⟩
theorem two_below (w : World) (o1 o2 : Obj) : Below w.heap.size w ((w.alloc o1).alloc o2) := ((Below.refl _ w).alloc (Nat.le_refl _) o1).alloc (by simp) o2
theorem three_below (w : World) (o1 o2 o3 : Obj) : Below w.heap.size w (((w.alloc o1).alloc o2).alloc o3) := (((Below.refl _ w).alloc (Nat.le_refl _) o1).alloc (by simp) o2).alloc (by simp; omega) o3
theorem mul_flag (x y : Int) : x * y = if (!(negB x == negB y)) = true then -((x.natAbs * y.natAbs : Nat) : Int) else ((x.natAbs * y.natAbs : Nat) : Int) := by
  rcases (show x < 0 ∨ 0 ≤ x by omega) with hx | hx <;> rcases (show y < 0 ∨ 0 ≤ y by omega) with hy | hy
  · rw [negB_pos hx, negB_pos hy, Int.natCast_mul, Int.ofNat_natAbs_of_nonpos (by omega), Int.ofNat_natAbs_of_nonpos (by omega)]; simp [Int.neg_mul_neg]
  · rw [negB_pos hx, negB_neg (by omega), Int.natCast_mul, Int.ofNat_natAbs_of_nonpos (by omega), Int.natAbs_of_nonneg hy]; simp [Int.neg_mul]
  · rw [negB_neg (by omega), negB_pos hy, Int.natCast_mul, Int.natAbs_of_nonneg hx, Int.ofNat_natAbs_of_nonpos (by omega)]; simp [Int.mul_neg]
  · rw [negB_neg (by omega), negB_neg (by omega), Int.natCast_mul, Int.natAbs_of_nonneg hx, Int.natAbs_of_nonneg hy]; simp
set_option maxRecDepth 100000 in
set_option maxHeartbeats 2000000 in
theorem wmul_any {va vb : Value} {x y : Int} {w : World} (ha : IsInt w va x) (hb : IsInt w vb y) (hx : x.natAbs < maxN) (hy : y.natAbs < maxN) (h : x.natAbs * y.natAbs < maxN) :
    Calls Tryz.prog 83 #[va, vb] w fun e w' => (∃ u, e = .returned (.tuple #[u, .int .i64 0]) ∧ IsInt w' u (x * y)) ∧ Below w.heap.size w w' := by
  obtain ⟨p1, l1, K1, rfl, n1⟩ := ha
  obtain ⟨p2, l2, K2, rfl, n2⟩ := hb
  have hF := Lib.hid (mul_flag x y)
  have HM := Lib.hid h
  obtain ⟨b1, hb1⟩ : ∃ b1, negB x = b1 := ⟨_, rfl⟩
  obtain ⟨b2, hb2⟩ : ∃ b2, negB y = b2 := ⟨_, rfl⟩
  rw [hb1, hb2] at hF
  rw [hb1, hb2]
  clear hb1 hb2
  have hW := three_below w (.cells #[.bool b1, .slice p1 l1 K1] 37) (.cells #[.bool b2, .slice p2 l2 K2] 37) (.cells #[.bool false, .slice none 0 0] 37)
  have C := Lib.hid (mul_fit (n1.below hW (Nat.le_refl _)) (n2.below hW (Nat.le_refl _)) hx hy h)
  have k1 := ((Cell2.made w 37 (.bool b1) (.slice p1 l1 K1)).alloc (.cells #[.bool b2, .slice p2 l2 K2] 37)).alloc (.cells #[.bool false, .slice none 0 0] 37)
  have k2 := (Cell2.made (w.alloc (.cells #[.bool b1, .slice p1 l1 K1] 37)) 37 (.bool b2) (.slice p2 l2 K2)).alloc (.cells #[.bool false, .slice none 0 0] 37)
  have k3 := Cell2.made ((w.alloc (.cells #[.bool b1, .slice p1 l1 K1] 37)).alloc (.cells #[.bool b2, .slice p2 l2 K2] 37)) 37 (.bool false) (.slice none 0 0)
  have hs2 : (w.alloc (.cells #[.bool b1, .slice p1 l1 K1] 37)).heap.size = w.heap.size + 1 := by simp
  have hs3 : ((w.alloc (.cells #[.bool b1, .slice p1 l1 K1] 37)).alloc (.cells #[.bool b2, .slice p2 l2 K2] 37)).heap.size = w.heap.size + 1 + 1 := by simp
  rw [hs2] at k2
  rw [hs3] at k3
  have HK := Lib.hid (And.intro k1 (And.intro k2 k3))
  clear k1 k2 k3 hs2 hs3 n1 n2 hx hy h
  go_enter Tryz.func83, Tryz.ntmps83
  go_wp2_with fail
  refine C.out.mono ?_
  clear C
  rintro e w1 ⟨⟨v, rfl, nv⟩, hB⟩
  have j1 := HK.out.1.below hB HK.out.1.lt
  have j2 := HK.out.2.1.below hB HK.out.2.1.lt
  have j3 := HK.out.2.2.below hB HK.out.2.2.lt
  have c1 := j1.c0
  have c2 := j2.c0
  have hbw := hW.trans (hB.mono hW.size)
  have HJ := Lib.hid j3
  clear j1 j2 j3 hB hW HK
  have C := Lib.hid (signed_any (!(b1 == b2)) nv HM.out _ hF.out)
  go_wp2_with fail
  refine C.out.mono ?_
  clear C
  rintro e w2 ⟨⟨u, rfl, p, l, K, rfl, hu⟩, hB2⟩
  have j3 := HJ.out.below hB2 HJ.out.lt
  have d0 := j3.c0
  have d1 := j3.c1
  have f0 := j3.free 0
  have f1 := j3.free 1
  have HC2 := Lib.hid (j3.set2 (.bool (negB (x * y))) (.slice p l K))
  have hu2 := hu.set2 j3 (.bool (negB (x * y))) (.slice p l K)
  have hb2 := hbw.trans (hB2.mono hbw.size)
  have hb3 := (hb2.setCell (p := ⟨w.heap.size + 1 + 1, 0, none⟩) (by show w.heap.size ≤ w.heap.size + 1 + 1; omega) (.bool (negB (x * y)))).setCell (p := ⟨w.heap.size + 1 + 1, 1, none⟩) (by show w.heap.size ≤ w.heap.size + 1 + 1; omega) (.slice p l K)
  clear j3 hB2 hbw hb2 c1 c2; go_wp2_with fail
  have e0 := HC2.out.c0
  have e1 := HC2.out.c1
  exact bodyPost_ret (v := .tuple #[.agg #[.bool (negB (x * y)), .slice p l K], .int .i64 0]) (by simp [results, Tryz.f83, go_sem, e0, e1]) rfl ⟨⟨_, rfl, p, l, K, rfl, hu2⟩, hb3⟩
theorem Cell2.other {w : World} {g : Nat} {t : TypeId} {a b : Value} (h : Cell2 w g t a b) {q : Addr} (hq : q.block ≠ g) (x : Value) : Cell2 (w.setCell q x) g t a b := by
  have h' : w.heap[g]? = some (.cells #[a, b] t (0, 0)) := h
  unfold Cell2 World.setCell
  simp only [Array.getElem?_modify, if_neg hq, h']
set_option maxRecDepth 100000 in
set_option maxHeartbeats 2000000 in
theorem wadd_same (b : Bool) {p1 p2 : Option Addr} {l1 l2 K1 K2 m n : Nat} {w : World} (n1 : IsNat w (.slice p1 l1 K1) m) (n2 : IsNat w (.slice p2 l2 K2) n) (h : m + n < maxN) (z : Int) (hz : z = if b then -((m + n : Nat) : Int) else ((m + n : Nat) : Int)) :
    Calls Tryz.prog 87 #[.agg #[.bool b, .slice p1 l1 K1], .agg #[.bool b, .slice p2 l2 K2]] w fun e w' => (∃ u, e = .returned (.tuple #[u, .int .i64 0]) ∧ IsInt w' u z) ∧ Below w.heap.size w w' := by
  have hF := Lib.hid hz
  have HM := Lib.hid h
  have hW := three_below w (.cells #[.bool b, .slice p1 l1 K1] 37) (.cells #[.bool b, .slice p2 l2 K2] 37) (.cells #[.bool false, .slice none 0 0] 37)
  have k1 := ((Cell2.made w 37 (.bool b) (.slice p1 l1 K1)).alloc (.cells #[.bool b, .slice p2 l2 K2] 37)).alloc (.cells #[.bool false, .slice none 0 0] 37)
  have k2 := (Cell2.made (w.alloc (.cells #[.bool b, .slice p1 l1 K1] 37)) 37 (.bool b) (.slice p2 l2 K2)).alloc (.cells #[.bool false, .slice none 0 0] 37)
  have k3 := Cell2.made ((w.alloc (.cells #[.bool b, .slice p1 l1 K1] 37)).alloc (.cells #[.bool b, .slice p2 l2 K2] 37)) 37 (.bool false) (.slice none 0 0)
  have hs2 : (w.alloc (.cells #[.bool b, .slice p1 l1 K1] 37)).heap.size = w.heap.size + 1 := by simp
  have hs3 : ((w.alloc (.cells #[.bool b, .slice p1 l1 K1] 37)).alloc (.cells #[.bool b, .slice p2 l2 K2] 37)).heap.size = w.heap.size + 1 + 1 := by simp
  rw [hs2] at k2
  rw [hs3] at k3
  have C := Lib.hid (add_fit (n1.below hW (Nat.le_refl _)) (n2.below hW (Nat.le_refl _)) h)
  have HK := Lib.hid (And.intro k1 (And.intro k2 k3))
  have c10 := k1.c0
  have c11 := k1.c1
  have c20 := k2.c0
  have c21 := k2.c1
  clear k1 k2 k3 hs2 hs3 n1 n2 h hz
  have hbb : (b == b) = true := by cases b <;> rfl
  go_enter Tryz.func87, Tryz.ntmps87
  go_wp2_with fail
  refine C.out.mono ?_
  clear C
  rintro e w1 ⟨⟨v, rfl, nv⟩, hB⟩
  have j1 := HK.out.1.below hB HK.out.1.lt
  have j3 := HK.out.2.2.below hB HK.out.2.2.lt
  have c1 := j1.c0
  have hbw := hW.trans (hB.mono hW.size)
  have HJ := Lib.hid j3
  clear j1 j3 hB hW HK c10 c11 c20 c21
  have C := Lib.hid (signed_any b nv HM.out z hF.out)
  go_wp2_with fail
  refine C.out.mono ?_
  clear C
  rintro e w4 ⟨⟨u, rfl, p, l, K, rfl, hu⟩, hB2⟩
  have j3 := HJ.out.below hB2 HJ.out.lt
  have d0 := j3.c0
  have d1 := j3.c1
  have f0 := j3.free 0
  have f1 := j3.free 1
  have HC2 := Lib.hid (j3.set2 (.bool (negB z)) (.slice p l K))
  have hu2 := hu.set2 j3 (.bool (negB z)) (.slice p l K)
  have hb2 := hbw.trans (hB2.mono hbw.size)
  have hb3 := (hb2.setCell (p := ⟨w.heap.size + 1 + 1, 0, none⟩) (by show w.heap.size ≤ w.heap.size + 1 + 1; omega) (.bool (negB z))).setCell (p := ⟨w.heap.size + 1 + 1, 1, none⟩) (by show w.heap.size ≤ w.heap.size + 1 + 1; omega) (.slice p l K)
  clear j3 hB2 hbw hb2; go_wp2_with fail
  have e0 := HC2.out.c0
  have e1 := HC2.out.c1
  exact bodyPost_ret (v := .tuple #[.agg #[.bool (negB z), .slice p l K], .int .i64 0]) (by simp [results, Tryz.f87, go_sem, e0, e1]) rfl ⟨⟨_, rfl, p, l, K, rfl, hu2⟩, hb3⟩
theorem neg_flag (y : Int) : -y = if (!negB y) = true then -((y.natAbs : Nat) : Int) else ((y.natAbs : Nat) : Int) := by
  rcases (show y < 0 ∨ 0 ≤ y by omega) with hy | hy
  · rw [negB_pos hy]; simp; omega
  · rw [negB_neg (by omega)]; simp; omega
set_option maxRecDepth 100000 in
set_option maxHeartbeats 2000000 in
theorem wadd_more (b d : Bool) (hne : (b == d) = false) {p1 p2 : Option Addr} {l1 l2 K1 K2 m n : Nat} {w : World} (n1 : IsNat w (.slice p1 l1 K1) m) (n2 : IsNat w (.slice p2 l2 K2) n) (hm : m < maxN) (hn : n < maxN) (h : n ≤ m) (z : Int) (hz : z = if b then -((m - n : Nat) : Int) else ((m - n : Nat) : Int)) :
    Calls Tryz.prog 87 #[.agg #[.bool b, .slice p1 l1 K1], .agg #[.bool d, .slice p2 l2 K2]] w fun e w' => (∃ u, e = .returned (.tuple #[u, .int .i64 0]) ∧ IsInt w' u z) ∧ Below w.heap.size w w' := by
  have hF := Lib.hid hz
  have HM := Lib.hid (show m - n < maxN by omega)
  obtain ⟨c, hc⟩ : ∃ c, cmpI m n = c := ⟨_, rfl⟩
  have hcl : ¬ c < 0 := by rw [← hc]; unfold cmpI; rw [if_neg (by omega)]; split <;> omega
  have hW := three_below w (.cells #[.bool b, .slice p1 l1 K1] 37) (.cells #[.bool d, .slice p2 l2 K2] 37) (.cells #[.bool false, .slice none 0 0] 37)
  have k1 := ((Cell2.made w 37 (.bool b) (.slice p1 l1 K1)).alloc (.cells #[.bool d, .slice p2 l2 K2] 37)).alloc (.cells #[.bool false, .slice none 0 0] 37)
  have k2 := (Cell2.made (w.alloc (.cells #[.bool b, .slice p1 l1 K1] 37)) 37 (.bool d) (.slice p2 l2 K2)).alloc (.cells #[.bool false, .slice none 0 0] 37)
  have k3 := Cell2.made ((w.alloc (.cells #[.bool b, .slice p1 l1 K1] 37)).alloc (.cells #[.bool d, .slice p2 l2 K2] 37)) 37 (.bool false) (.slice none 0 0)
  have hs2 : (w.alloc (.cells #[.bool b, .slice p1 l1 K1] 37)).heap.size = w.heap.size + 1 := by simp
  have hs3 : ((w.alloc (.cells #[.bool b, .slice p1 l1 K1] 37)).alloc (.cells #[.bool d, .slice p2 l2 K2] 37)).heap.size = w.heap.size + 1 + 1 := by simp
  rw [hs2] at k2
  rw [hs3] at k3
  have C := Lib.hid (compare_nat (n1.below hW (Nat.le_refl _)) (n2.below hW (Nat.le_refl _)) hm hn hc)
  have HN := Lib.hid (And.intro (n1.below hW (Nat.le_refl _)) (And.intro (n2.below hW (Nat.le_refl _)) (And.intro hm h)))
  have HK := Lib.hid (And.intro k1 (And.intro k2 k3))
  have c10 := k1.c0
  have c11 := k1.c1
  have c20 := k2.c0
  have c21 := k2.c1
  clear k1 k2 k3 hs2 hs3 n1 n2 h hz hm hn hc
  go_enter Tryz.func87, Tryz.ntmps87
  go_wp2_with fail
  refine C.out.mono ?_
  clear C
  rintro e w1 ⟨rfl, hB⟩
  have C := Lib.hid (sub_fit (HN.out.1.below hB (Nat.le_refl _)) (HN.out.2.1.below hB (Nat.le_refl _)) HN.out.2.2.1 HN.out.2.2.2)
  have j1 := HK.out.1.below hB HK.out.1.lt
  have j2 := HK.out.2.1.below hB HK.out.2.1.lt
  have j3 := HK.out.2.2.below hB HK.out.2.2.lt
  have hbw := hW.trans (hB.mono hW.size)
  have HJ := Lib.hid (And.intro j1 j3)
  have c10 := j1.c0
  have c11 := j1.c1
  have c21 := j2.c1
  clear j1 j2 j3 hB hW HK HN; go_wp2_with fail
  refine C.out.mono ?_
  clear C
  rintro e w2 ⟨⟨v, rfl, nv⟩, hB⟩
  have j1 := HJ.out.1.below hB HJ.out.1.lt
  have j3 := HJ.out.2.below hB HJ.out.2.lt
  have c1 := j1.c0
  have hbw := hbw.trans (hB.mono hbw.size)
  clear HJ
  have HJ := Lib.hid j3
  clear j1 j3 hB c10 c11 c21
  have C := Lib.hid (signed_any b nv HM.out z hF.out)
  go_wp2_with fail
  refine C.out.mono ?_
  clear C
  rintro e w4 ⟨⟨u, rfl, p, l, K, rfl, hu⟩, hB2⟩
  have j3 := HJ.out.below hB2 HJ.out.lt
  have d0 := j3.c0
  have d1 := j3.c1
  have f0 := j3.free 0
  have f1 := j3.free 1
  have HC2 := Lib.hid (j3.set2 (.bool (negB z)) (.slice p l K))
  have hu2 := hu.set2 j3 (.bool (negB z)) (.slice p l K)
  have hb2 := hbw.trans (hB2.mono hbw.size)
  have hb3 := (hb2.setCell (p := ⟨w.heap.size + 1 + 1, 0, none⟩) (by show w.heap.size ≤ w.heap.size + 1 + 1; omega) (.bool (negB z))).setCell (p := ⟨w.heap.size + 1 + 1, 1, none⟩) (by show w.heap.size ≤ w.heap.size + 1 + 1; omega) (.slice p l K)
  clear j3 hB2 hbw hb2; go_wp2_with fail
  have e0 := HC2.out.c0
  have e1 := HC2.out.c1
  exact bodyPost_ret (v := .tuple #[.agg #[.bool (negB z), .slice p l K], .int .i64 0]) (by simp [results, Tryz.f87, go_sem, e0, e1]) rfl ⟨⟨_, rfl, p, l, K, rfl, hu2⟩, hb3⟩
set_option maxRecDepth 100000 in
set_option maxHeartbeats 2000000 in
theorem wadd_less (b d : Bool) (hne : (b == d) = false) {p1 p2 : Option Addr} {l1 l2 K1 K2 m n : Nat} {w : World} (n1 : IsNat w (.slice p1 l1 K1) m) (n2 : IsNat w (.slice p2 l2 K2) n) (hm : m < maxN) (hn : n < maxN) (h : m < n) (z : Int) (hz : z = if d then -((n - m : Nat) : Int) else ((n - m : Nat) : Int)) :
    Calls Tryz.prog 87 #[.agg #[.bool b, .slice p1 l1 K1], .agg #[.bool d, .slice p2 l2 K2]] w fun e w' => (∃ u, e = .returned (.tuple #[u, .int .i64 0]) ∧ IsInt w' u z) ∧ Below w.heap.size w w' := by
  have hF := Lib.hid hz
  have HM := Lib.hid (show n - m < maxN by omega)
  have hc : cmpI m n = -1 := by unfold cmpI; rw [if_pos (by omega)]
  have hW := three_below w (.cells #[.bool b, .slice p1 l1 K1] 37) (.cells #[.bool d, .slice p2 l2 K2] 37) (.cells #[.bool false, .slice none 0 0] 37)
  have k1 := ((Cell2.made w 37 (.bool b) (.slice p1 l1 K1)).alloc (.cells #[.bool d, .slice p2 l2 K2] 37)).alloc (.cells #[.bool false, .slice none 0 0] 37)
  have k2 := (Cell2.made (w.alloc (.cells #[.bool b, .slice p1 l1 K1] 37)) 37 (.bool d) (.slice p2 l2 K2)).alloc (.cells #[.bool false, .slice none 0 0] 37)
  have k3 := Cell2.made ((w.alloc (.cells #[.bool b, .slice p1 l1 K1] 37)).alloc (.cells #[.bool d, .slice p2 l2 K2] 37)) 37 (.bool false) (.slice none 0 0)
  have hs2 : (w.alloc (.cells #[.bool b, .slice p1 l1 K1] 37)).heap.size = w.heap.size + 1 := by simp
  have hs3 : ((w.alloc (.cells #[.bool b, .slice p1 l1 K1] 37)).alloc (.cells #[.bool d, .slice p2 l2 K2] 37)).heap.size = w.heap.size + 1 + 1 := by simp
  rw [hs2] at k2
  rw [hs3] at k3
  have C := Lib.hid (compare_nat (n1.below hW (Nat.le_refl _)) (n2.below hW (Nat.le_refl _)) hm hn hc)
  have HN := Lib.hid (And.intro (n1.below hW (Nat.le_refl _)) (And.intro (n2.below hW (Nat.le_refl _)) (And.intro hn (Nat.le_of_lt h))))
  have HK := Lib.hid (And.intro k1 (And.intro k2 k3))
  have c10 := k1.c0
  have c11 := k1.c1
  have c20 := k2.c0
  have c21 := k2.c1
  clear k1 k2 k3 hs2 hs3 n1 n2 h hz hm hn hc
  go_enter Tryz.func87, Tryz.ntmps87
  go_wp2_with fail
  refine C.out.mono ?_
  clear C
  rintro e w1 ⟨rfl, hB⟩
  have j1 := HK.out.1.below hB HK.out.1.lt
  have j2 := HK.out.2.1.below hB HK.out.2.1.lt
  have j3 := HK.out.2.2.below hB HK.out.2.2.lt
  have m1 := j1.set2 (.bool d) (.slice p2 l2 K2)
  have y2 := (j2.other (q := ⟨w.heap.size, 0, none⟩) (by show w.heap.size ≠ w.heap.size + 1; omega) (.bool d)).other (q := ⟨w.heap.size, 1, none⟩) (by show w.heap.size ≠ w.heap.size + 1; omega) (.slice p2 l2 K2)
  have y3 := (j3.other (q := ⟨w.heap.size, 0, none⟩) (by show w.heap.size ≠ w.heap.size + 1 + 1; omega) (.bool d)).other (q := ⟨w.heap.size, 1, none⟩) (by show w.heap.size ≠ w.heap.size + 1 + 1; omega) (.slice p2 l2 K2)
  have z1 := (m1.other (q := ⟨w.heap.size + 1, 0, none⟩) (by show w.heap.size + 1 ≠ w.heap.size; omega) (.bool b)).other (q := ⟨w.heap.size + 1, 1, none⟩) (by show w.heap.size + 1 ≠ w.heap.size; omega) (.slice p1 l1 K1)
  have z2 := y2.set2 (.bool b) (.slice p1 l1 K1)
  have z3 := (y3.other (q := ⟨w.heap.size + 1, 0, none⟩) (by show w.heap.size + 1 ≠ w.heap.size + 1 + 1; omega) (.bool b)).other (q := ⟨w.heap.size + 1, 1, none⟩) (by show w.heap.size + 1 ≠ w.heap.size + 1 + 1; omega) (.slice p1 l1 K1)
  have o1 := ((HN.out.1.below hB (Nat.le_refl _)).set2 j1 (.bool d) (.slice p2 l2 K2)).set2 y2 (.bool b) (.slice p1 l1 K1)
  have o2 := ((HN.out.2.1.below hB (Nat.le_refl _)).set2 j1 (.bool d) (.slice p2 l2 K2)).set2 y2 (.bool b) (.slice p1 l1 K1)
  have hbw := ((((hW.trans (hB.mono hW.size)).setCell (p := ⟨w.heap.size, 0, none⟩) (Nat.le_refl _) (.bool d)).setCell (p := ⟨w.heap.size, 1, none⟩) (Nat.le_refl _) (.slice p2 l2 K2)).setCell (p := ⟨w.heap.size + 1, 0, none⟩) (by show w.heap.size ≤ w.heap.size + 1; omega) (.bool b)).setCell (p := ⟨w.heap.size + 1, 1, none⟩) (by show w.heap.size ≤ w.heap.size + 1; omega) (.slice p1 l1 K1)
  have C := Lib.hid (sub_fit o2 o1 HN.out.2.2.1 HN.out.2.2.2)
  have HJ := Lib.hid (And.intro z1 z3)
  have c10 := j1.c0
  have c11 := j1.c1
  have c20 := j2.c0
  have c21 := j2.c1
  have f10 := j1.free 0
  have f11 := j1.free 1
  have f20 := y2.free 0
  have f21 := y2.free 1
  have i10 := z1.c0
  have i11 := z1.c1
  have i21 := z2.c1
  clear j1 j2 j3 m1 y2 y3 z1 z2 z3 o1 o2 hB hW HK HN; go_wp2_with fail
  refine C.out.mono ?_
  clear C
  rintro e w2 ⟨⟨v, rfl, nv⟩, hB⟩
  have j1 := HJ.out.1.below hB HJ.out.1.lt
  have j3 := HJ.out.2.below hB HJ.out.2.lt
  have c1 := j1.c0
  have hbw := hbw.trans (hB.mono hbw.size)
  clear HJ
  have HJ := Lib.hid j3
  clear j1 j3 hB c10 c11 c20 c21 f10 f11 f20 f21 i10 i11 i21
  have C := Lib.hid (signed_any d nv HM.out z hF.out)
  go_wp2_with fail
  refine C.out.mono ?_
  clear C
  rintro e w4 ⟨⟨u, rfl, p, l, K, rfl, hu⟩, hB2⟩
  have j3 := HJ.out.below hB2 HJ.out.lt
  have d0 := j3.c0
  have d1 := j3.c1
  have f0 := j3.free 0
  have f1 := j3.free 1
  have HC2 := Lib.hid (j3.set2 (.bool (negB z)) (.slice p l K))
  have hu2 := hu.set2 j3 (.bool (negB z)) (.slice p l K)
  have hb2 := hbw.trans (hB2.mono hbw.size)
  have hb3 := (hb2.setCell (p := ⟨w.heap.size + 1 + 1, 0, none⟩) (by show w.heap.size ≤ w.heap.size + 1 + 1; omega) (.bool (negB z))).setCell (p := ⟨w.heap.size + 1 + 1, 1, none⟩) (by show w.heap.size ≤ w.heap.size + 1 + 1; omega) (.slice p l K)
  clear j3 hB2 hbw hb2; go_wp2_with fail
  have e0 := HC2.out.c0
  have e1 := HC2.out.c1
  exact bodyPost_ret (v := .tuple #[.agg #[.bool (negB z), .slice p l K], .int .i64 0]) (by simp [results, Tryz.f87, go_sem, e0, e1]) rfl ⟨⟨_, rfl, p, l, K, rfl, hu2⟩, hb3⟩
theorem wadd_any {va vb : Value} {x y : Int} {w : World} (ha : IsInt w va x) (hb : IsInt w vb y) (hx : x.natAbs < maxN) (hy : y.natAbs < maxN) (h : (x + y).natAbs < maxN) :
    Calls Tryz.prog 87 #[va, vb] w fun e w' => (∃ u, e = .returned (.tuple #[u, .int .i64 0]) ∧ IsInt w' u (x + y)) ∧ Below w.heap.size w w' := by
  obtain ⟨p1, l1, K1, rfl, n1⟩ := ha
  obtain ⟨p2, l2, K2, rfl, n2⟩ := hb
  rcases (show x < 0 ∨ 0 ≤ x by omega) with hx0 | hx0 <;> rcases (show y < 0 ∨ 0 ≤ y by omega) with hy0 | hy0
  · rw [negB_pos hx0, negB_pos hy0]
    exact wadd_same true n1 n2 (by omega) _ (by rw [if_pos rfl]; omega)
  · rw [negB_pos hx0, negB_neg (by omega)]
    by_cases hl : x.natAbs < y.natAbs
    · exact wadd_less true false rfl n1 n2 hx hy hl _ (by rw [if_neg (by decide)]; omega)
    · exact wadd_more true false rfl n1 n2 hx hy (by omega) _ (by rw [if_pos rfl]; omega)
  · rw [negB_neg (by omega), negB_pos hy0]
    by_cases hl : x.natAbs < y.natAbs
    · exact wadd_less false true rfl n1 n2 hx hy hl _ (by rw [if_pos rfl]; omega)
    · exact wadd_more false true rfl n1 n2 hx hy (by omega) _ (by rw [if_neg (by decide)]; omega)
  · rw [negB_neg (by omega), negB_neg (by omega)]
    exact wadd_same false n1 n2 (by omega) _ (by rw [if_neg (by decide)]; omega)
end Go.Proofs.YtcfgefbkeeedgaaGreat
namespace Go.Proofs.YtcfgefbkeeedgaaGreat
@[irreducible] def NB (k : Nat) : Nat := 4294967296 ^ k
theorem NB_pos (k : Nat) : 0 < NB k := by unfold NB; exact Nat.pow_pos (by decide)
theorem NB_add (a b : Nat) : NB (a + b) = NB a * NB b := by unfold NB; exact Nat.pow_add ..
theorem NB_mono {a b : Nat} (h : a ≤ b) : NB a ≤ NB b := by unfold NB; exact Nat.pow_le_pow_right (by decide) h
theorem NB_one : NB 1 = 4294967296 := by unfold NB; rfl
theorem NB_max {k : Nat} (h : k ≤ 512) : NB k ≤ maxN := by
  have h1 := Nat.pow_le_pow_right (n := 4294967296) (show 0 < 4294967296 by decide) h
  unfold NB maxN
  exact h1
theorem nb_max {m k : Nat} (h : m < NB k) (hk : k ≤ 512) : m < maxN := Nat.lt_of_lt_of_le h (NB_max hk)
theorem nb_mono {m a b : Nat} (h : m < NB a) (hk : a ≤ b) : m < NB b := Nat.lt_of_lt_of_le h (NB_mono hk)
theorem nb_mul {m n a b : Nat} (h : m < NB a) (k : n < NB b) : m * n < NB (a + b) := by
  rw [NB_add]
  exact Nat.mul_lt_mul_of_lt_of_le h (Nat.le_of_lt k) (NB_pos b)
theorem NB_succ (a : Nat) : NB (a + 1) = 4294967296 * NB a := by rw [NB_add, NB_one, Nat.mul_comm]
theorem nb_add {m n a : Nat} (h : m < NB a) (k : n < NB a) : m + n < NB (a + 1) := by
  have := NB_pos a
  rw [NB_succ]
  omega
theorem nbz_add {x y : Int} {a : Nat} (h : x.natAbs < NB a) (k : y.natAbs < NB a) : (x + y).natAbs < NB (a + 1) := by
  have := nb_add h k
  omega
theorem nbz_mul {x y : Int} {a b : Nat} (h : x.natAbs < NB a) (k : y.natAbs < NB b) : (x * y).natAbs < NB (a + b) := by
  rw [Int.natAbs_mul]
  exact nb_mul h k
theorem nb_len {ds : List Nat} {k : Nat} (h : Can 4294967296 ds) (hl : ds.length ≤ k) : val 4294967296 ds < NB k := by
  unfold NB
  exact (h.len_le (by decide) k).1 hl
end Go.Proofs.YtcfgefbkeeedgaaGreat
namespace Go.Proofs.YtcfgefbkeeedgaaGreat
open Go.RowKit
set_option maxRecDepth 100000 in
set_option maxHeartbeats 2000000 in
theorem once_any {vo vl vb : Value} {o l b : Nat} {w : World} (ho : IsNat w vo o) (hl : IsNat w vl l) (hb : IsNat w vb b) (hom : o + 1 < maxN) (hbm : b < maxN) (hle : l ≤ b) :
    Calls Tryz.prog 103 #[vo, vl, vb] w fun e w' => (∃ v1 v2, e = .returned (.tuple #[v1, v2, .int .i64 0]) ∧ IsNat w' v1 (o + 1) ∧ IsNat w' v2 (b - l)) ∧ Below w.heap.size w w' := by
  have HM := Lib.hid (And.intro hom (And.intro hbm hle))
  have HN := Lib.hid (And.intro ho (And.intro hl hb))
  have C := Lib.hid (show Calls Tryz.prog 28 #[.int .u64 1] w fun e w' => (∃ v, e = .returned v ∧ IsNat w' v 1) ∧ Below w.heap.size w w' from of_any 1 w (by decide))
  clear hom hbm hle ho hl hb
  go_enter Tryz.func103, Tryz.ntmps103
  go_wp2_with fail
  refine C.out.mono ?_
  clear C
  rintro e w1 ⟨⟨v, rfl, n1⟩, hB⟩
  have C := Lib.hid (add_fit (HN.out.1.below hB (Nat.le_refl _)) n1 HM.out.1)
  clear n1; go_wp2_with fail
  refine C.out.mono ?_
  clear C
  rintro e w2 ⟨⟨v2, rfl, n2⟩, hB2⟩
  have hb2 := hB.trans (hB2.mono hB.size)
  have C := Lib.hid (sub_fit (HN.out.2.2.below hb2 (Nat.le_refl _)) (HN.out.2.1.below hb2 (Nat.le_refl _)) HM.out.2.1 HM.out.2.2)
  have HV := Lib.hid n2
  clear hB hB2 n2; go_wp2_with fail
  refine C.out.mono ?_
  clear C
  rintro e w3 ⟨⟨v3, rfl, n3⟩, hB3⟩
  have HV := Lib.hid (And.intro (HV.out.below hB3 (Nat.le_refl _)) n3)
  have hb3 := hb2.trans (hB3.mono hb2.size)
  clear hB3 hb2 n3; go_wp2_with fail
  exact bodyPost_ret (v := .tuple #[v2, v3, .int .i64 0]) (by simp [results, Tryz.f103, go_sem]) rfl ⟨⟨_, _, rfl, HV.out.1, HV.out.2⟩, hb3⟩
theorem four_below (w : World) (o1 o2 o3 o4 : Obj) : Below w.heap.size w ((((w.alloc o1).alloc o2).alloc o3).alloc o4) := (three_below w o1 o2 o3).alloc (by simp; omega) o4
theorem div_less1 {m n : Nat} (hm : m < maxN) (hv : 0 < m % n) : m / n + 1 < maxN := by
  by_cases h2 : n = 0
  · subst h2; rw [Nat.mod_zero] at hv; rw [Nat.div_zero]; omega
  have h1 := Nat.div_add_mod m n
  by_cases h3 : n = 1
  · subst h3; simp [Nat.mod_one] at hv
  have : 2 * (m / n) ≤ n * (m / n) := Nat.mul_le_mul_right _ (by omega)
  omega
set_option maxRecDepth 100000 in
set_option maxHeartbeats 2000000 in
theorem wdiv_up_ff {p1 p2 : Option Addr} {l1 l2 K1 K2 m n : Nat} {w : World} (n1 : IsNat w (.slice p1 l1 K1) m) (n2 : IsNat w (.slice p2 l2 K2) n) (hm : m < maxN) (hn : n < maxN) (h0 : 0 < n) (q r : Int) (hq : q = ((m / n : Nat) : Int)) (hr : r = ((m % n : Nat) : Int)) :
    Calls Tryz.prog 84 #[.agg #[.bool false, .slice p1 l1 K1], .agg #[.bool false, .slice p2 l2 K2]] w fun e w' => (∃ u v, e = .returned (.tuple #[u, v, .int .i64 0]) ∧ IsInt w' u q ∧ IsInt w' v r) ∧ Below w.heap.size w w' := by
  have hF := Lib.hid (And.intro hq hr)
  have hr0 : m % n < n := Nat.mod_lt _ h0
  have HM := Lib.hid (And.intro (show m / n < maxN from Nat.lt_of_le_of_lt (Nat.div_le_self _ _) hm) (show m % n < maxN by omega))
  have hW := four_below w (.cells #[.bool false, .slice p1 l1 K1] 37) (.cells #[.bool false, .slice p2 l2 K2] 37) (.cells #[.bool false, .slice none 0 0] 37) (.cells #[.bool false, .slice none 0 0] 37)
  have C := Lib.hid (div_nat (n1.below hW (Nat.le_refl _)) (n2.below hW (Nat.le_refl _)) hm hn h0)
  have k1 := (((Cell2.made w 37 (.bool false) (.slice p1 l1 K1)).alloc (.cells #[.bool false, .slice p2 l2 K2] 37)).alloc (.cells #[.bool false, .slice none 0 0] 37)).alloc (.cells #[.bool false, .slice none 0 0] 37)
  have k2 := ((Cell2.made (w.alloc (.cells #[.bool false, .slice p1 l1 K1] 37)) 37 (.bool false) (.slice p2 l2 K2)).alloc (.cells #[.bool false, .slice none 0 0] 37)).alloc (.cells #[.bool false, .slice none 0 0] 37)
  have k3 := (Cell2.made ((w.alloc (.cells #[.bool false, .slice p1 l1 K1] 37)).alloc (.cells #[.bool false, .slice p2 l2 K2] 37)) 37 (.bool false) (.slice none 0 0)).alloc (.cells #[.bool false, .slice none 0 0] 37)
  have k4 := Cell2.made (((w.alloc (.cells #[.bool false, .slice p1 l1 K1] 37)).alloc (.cells #[.bool false, .slice p2 l2 K2] 37)).alloc (.cells #[.bool false, .slice none 0 0] 37)) 37 (.bool false) (.slice none 0 0)
  have hs2 : (w.alloc (.cells #[.bool false, .slice p1 l1 K1] 37)).heap.size = w.heap.size + 1 := by simp
  have hs3 : ((w.alloc (.cells #[.bool false, .slice p1 l1 K1] 37)).alloc (.cells #[.bool false, .slice p2 l2 K2] 37)).heap.size = w.heap.size + 1 + 1 := by simp
  have hs4 : (((w.alloc (.cells #[.bool false, .slice p1 l1 K1] 37)).alloc (.cells #[.bool false, .slice p2 l2 K2] 37)).alloc (.cells #[.bool false, .slice none 0 0] 37)).heap.size = w.heap.size + 1 + 1 + 1 := by simp
  rw [hs2] at k2
  rw [hs3] at k3
  rw [hs4] at k4
  have HK := Lib.hid (And.intro k1 (And.intro k2 (And.intro k3 k4)))
  have HN := Lib.hid (And.intro (n2.below hW (Nat.le_refl _)) (And.intro hn (Nat.le_of_lt hr0)))
  have c11 := k1.c1
  have c21 := k2.c1
  clear k1 k2 k3 k4 hs2 hs3 hs4 n1 n2 hm hn h0 hq hr hr0
  go_enter Tryz.func84, Tryz.ntmps84
  go_wp2_with fail
  refine C.out.mono ?_
  clear C
  rintro e w1 ⟨⟨v1, v2, rfl, nv1, nv2⟩, hB⟩
  have hbw := hW.trans (hB.mono hW.size)
  have j1 := HK.out.1.below hB HK.out.1.lt
  have j2 := HK.out.2.1.below hB HK.out.2.1.lt
  have j3 := HK.out.2.2.1.below hB HK.out.2.2.1.lt
  have j4 := HK.out.2.2.2.below hB HK.out.2.2.2.lt
  have nb := HN.out.1.below hB (Nat.le_refl _)
  have c10 := j1.c0
  have c20 := j2.c0
  have c21 := j2.c1
  clear hB hW HK c11
  have C := Lib.hid (signed_any false nv1 HM.out.1 q hF.out.1)
  have HJ := Lib.hid (And.intro j3 j4)
  have HD := Lib.hid nv2
  clear j1 j2 j3 j4 nv1 nv2 nb; go_wp2_with fail
  refine C.out.mono ?_
  clear C
  rintro e w4 ⟨⟨u, rfl, p, l, K, rfl, hu⟩, hB⟩
  have hbw := hbw.trans (hB.mono hbw.size)
  have C := Lib.hid (signed_any false (HD.out.below hB (Nat.le_refl _)) HM.out.2 r hF.out.2)
  have j3 := HJ.out.1.below hB HJ.out.1.lt
  have j4 := HJ.out.2.below hB HJ.out.2.lt
  clear HJ HD
  have HJ := Lib.hid (And.intro j3 (And.intro j4 hu))
  clear j3 j4 hu hB; go_wp2_with fail
  refine C.out.mono ?_
  clear C
  rintro e w5 ⟨⟨u, rfl, p', l', K', rfl, hv⟩, hB⟩
  have hbw := hbw.trans (hB.mono hbw.size)
  have j3 := HJ.out.1.below hB HJ.out.1.lt
  have j4 := HJ.out.2.1.below hB HJ.out.2.1.lt
  have hu := HJ.out.2.2.below hB (Nat.le_refl _)
  have m3 := j3.set2 (.bool (negB q)) (.slice p l K)
  have y4 := (j4.other (q := ⟨w.heap.size + 1 + 1, 0, none⟩) (by show w.heap.size + 1 + 1 ≠ w.heap.size + 1 + 1 + 1; omega) (.bool (negB q))).other (q := ⟨w.heap.size + 1 + 1, 1, none⟩) (by show w.heap.size + 1 + 1 ≠ w.heap.size + 1 + 1 + 1; omega) (.slice p l K)
  have z3 := (m3.other (q := ⟨w.heap.size + 1 + 1 + 1, 0, none⟩) (by show w.heap.size + 1 + 1 + 1 ≠ w.heap.size + 1 + 1; omega) (.bool (negB r))).other (q := ⟨w.heap.size + 1 + 1 + 1, 1, none⟩) (by show w.heap.size + 1 + 1 + 1 ≠ w.heap.size + 1 + 1; omega) (.slice p' l' K')
  have z4 := y4.set2 (.bool (negB r)) (.slice p' l' K')
  have ou := (hu.set2 j3 (.bool (negB q)) (.slice p l K)).set2 y4 (.bool (negB r)) (.slice p' l' K')
  have ov := (hv.set2 j3 (.bool (negB q)) (.slice p l K)).set2 y4 (.bool (negB r)) (.slice p' l' K')
  have hb3 := (((hbw.setCell (p := ⟨w.heap.size + 1 + 1, 0, none⟩) (by show w.heap.size ≤ w.heap.size + 1 + 1; omega) (.bool (negB q))).setCell (p := ⟨w.heap.size + 1 + 1, 1, none⟩) (by show w.heap.size ≤ w.heap.size + 1 + 1; omega) (.slice p l K)).setCell (p := ⟨w.heap.size + 1 + 1 + 1, 0, none⟩) (by show w.heap.size ≤ w.heap.size + 1 + 1 + 1; omega) (.bool (negB r))).setCell (p := ⟨w.heap.size + 1 + 1 + 1, 1, none⟩) (by show w.heap.size ≤ w.heap.size + 1 + 1 + 1; omega) (.slice p' l' K')
  have d30 := j3.c0
  have d31 := j3.c1
  have d40 := y4.c0
  have d41 := y4.c1
  have f30 := j3.free 0
  have f31 := j3.free 1
  have f40 := y4.free 0
  have f41 := y4.free 1
  have HC2 := Lib.hid (And.intro z3 z4)
  have HO := Lib.hid (And.intro ou ov)
  clear j3 j4 m3 y4 z3 z4 ou ov hu hv hB hbw HJ; go_wp2_with fail
  have e0 := HC2.out.1.c0
  have e1 := HC2.out.1.c1
  have e2 := HC2.out.2.c0
  have e3 := HC2.out.2.c1
  exact bodyPost_ret (v := .tuple #[.agg #[.bool (negB q), .slice p l K], .agg #[.bool (negB r), .slice p' l' K'], .int .i64 0]) (by simp [results, Tryz.f84, go_sem, e0, e1, e2, e3]) rfl ⟨⟨_, _, rfl, ⟨p, l, K, rfl, HO.out.1⟩, ⟨p', l', K', rfl, HO.out.2⟩⟩, hb3⟩
set_option maxRecDepth 100000 in
set_option maxHeartbeats 2000000 in
theorem wdiv_up_ft {p1 p2 : Option Addr} {l1 l2 K1 K2 m n : Nat} {w : World} (n1 : IsNat w (.slice p1 l1 K1) m) (n2 : IsNat w (.slice p2 l2 K2) n) (hm : m < maxN) (hn : n < maxN) (h0 : 0 < n) (q r : Int) (hq : q = -((m / n : Nat) : Int)) (hr : r = ((m % n : Nat) : Int)) :
    Calls Tryz.prog 84 #[.agg #[.bool false, .slice p1 l1 K1], .agg #[.bool true, .slice p2 l2 K2]] w fun e w' => (∃ u v, e = .returned (.tuple #[u, v, .int .i64 0]) ∧ IsInt w' u q ∧ IsInt w' v r) ∧ Below w.heap.size w w' := by
  have hF := Lib.hid (And.intro hq hr)
  have hr0 : m % n < n := Nat.mod_lt _ h0
  have HM := Lib.hid (And.intro (show m / n < maxN from Nat.lt_of_le_of_lt (Nat.div_le_self _ _) hm) (show m % n < maxN by omega))
  have hW := four_below w (.cells #[.bool false, .slice p1 l1 K1] 37) (.cells #[.bool true, .slice p2 l2 K2] 37) (.cells #[.bool false, .slice none 0 0] 37) (.cells #[.bool false, .slice none 0 0] 37)
  have C := Lib.hid (div_nat (n1.below hW (Nat.le_refl _)) (n2.below hW (Nat.le_refl _)) hm hn h0)
  have k1 := (((Cell2.made w 37 (.bool false) (.slice p1 l1 K1)).alloc (.cells #[.bool true, .slice p2 l2 K2] 37)).alloc (.cells #[.bool false, .slice none 0 0] 37)).alloc (.cells #[.bool false, .slice none 0 0] 37)
  have k2 := ((Cell2.made (w.alloc (.cells #[.bool false, .slice p1 l1 K1] 37)) 37 (.bool true) (.slice p2 l2 K2)).alloc (.cells #[.bool false, .slice none 0 0] 37)).alloc (.cells #[.bool false, .slice none 0 0] 37)
  have k3 := (Cell2.made ((w.alloc (.cells #[.bool false, .slice p1 l1 K1] 37)).alloc (.cells #[.bool true, .slice p2 l2 K2] 37)) 37 (.bool false) (.slice none 0 0)).alloc (.cells #[.bool false, .slice none 0 0] 37)
  have k4 := Cell2.made (((w.alloc (.cells #[.bool false, .slice p1 l1 K1] 37)).alloc (.cells #[.bool true, .slice p2 l2 K2] 37)).alloc (.cells #[.bool false, .slice none 0 0] 37)) 37 (.bool false) (.slice none 0 0)
  have hs2 : (w.alloc (.cells #[.bool false, .slice p1 l1 K1] 37)).heap.size = w.heap.size + 1 := by simp
  have hs3 : ((w.alloc (.cells #[.bool false, .slice p1 l1 K1] 37)).alloc (.cells #[.bool true, .slice p2 l2 K2] 37)).heap.size = w.heap.size + 1 + 1 := by simp
  have hs4 : (((w.alloc (.cells #[.bool false, .slice p1 l1 K1] 37)).alloc (.cells #[.bool true, .slice p2 l2 K2] 37)).alloc (.cells #[.bool false, .slice none 0 0] 37)).heap.size = w.heap.size + 1 + 1 + 1 := by simp
  rw [hs2] at k2
  rw [hs3] at k3
  rw [hs4] at k4
  have HK := Lib.hid (And.intro k1 (And.intro k2 (And.intro k3 k4)))
  have HN := Lib.hid (And.intro (n2.below hW (Nat.le_refl _)) (And.intro hn (Nat.le_of_lt hr0)))
  have c11 := k1.c1
  have c21 := k2.c1
  clear k1 k2 k3 k4 hs2 hs3 hs4 n1 n2 hm hn h0 hq hr hr0
  go_enter Tryz.func84, Tryz.ntmps84
  go_wp2_with fail
  refine C.out.mono ?_
  clear C
  rintro e w1 ⟨⟨v1, v2, rfl, nv1, nv2⟩, hB⟩
  have hbw := hW.trans (hB.mono hW.size)
  have j1 := HK.out.1.below hB HK.out.1.lt
  have j2 := HK.out.2.1.below hB HK.out.2.1.lt
  have j3 := HK.out.2.2.1.below hB HK.out.2.2.1.lt
  have j4 := HK.out.2.2.2.below hB HK.out.2.2.2.lt
  have nb := HN.out.1.below hB (Nat.le_refl _)
  have c10 := j1.c0
  have c20 := j2.c0
  have c21 := j2.c1
  clear hB hW HK c11
  have C := Lib.hid (signed_any true nv1 HM.out.1 q hF.out.1)
  have HJ := Lib.hid (And.intro j3 j4)
  have HD := Lib.hid nv2
  clear j1 j2 j3 j4 nv1 nv2 nb; go_wp2_with fail
  refine C.out.mono ?_
  clear C
  rintro e w4 ⟨⟨u, rfl, p, l, K, rfl, hu⟩, hB⟩
  have hbw := hbw.trans (hB.mono hbw.size)
  have C := Lib.hid (signed_any false (HD.out.below hB (Nat.le_refl _)) HM.out.2 r hF.out.2)
  have j3 := HJ.out.1.below hB HJ.out.1.lt
  have j4 := HJ.out.2.below hB HJ.out.2.lt
  clear HJ HD
  have HJ := Lib.hid (And.intro j3 (And.intro j4 hu))
  clear j3 j4 hu hB; go_wp2_with fail
  refine C.out.mono ?_
  clear C
  rintro e w5 ⟨⟨u, rfl, p', l', K', rfl, hv⟩, hB⟩
  have hbw := hbw.trans (hB.mono hbw.size)
  have j3 := HJ.out.1.below hB HJ.out.1.lt
  have j4 := HJ.out.2.1.below hB HJ.out.2.1.lt
  have hu := HJ.out.2.2.below hB (Nat.le_refl _)
  have m3 := j3.set2 (.bool (negB q)) (.slice p l K)
  have y4 := (j4.other (q := ⟨w.heap.size + 1 + 1, 0, none⟩) (by show w.heap.size + 1 + 1 ≠ w.heap.size + 1 + 1 + 1; omega) (.bool (negB q))).other (q := ⟨w.heap.size + 1 + 1, 1, none⟩) (by show w.heap.size + 1 + 1 ≠ w.heap.size + 1 + 1 + 1; omega) (.slice p l K)
  have z3 := (m3.other (q := ⟨w.heap.size + 1 + 1 + 1, 0, none⟩) (by show w.heap.size + 1 + 1 + 1 ≠ w.heap.size + 1 + 1; omega) (.bool (negB r))).other (q := ⟨w.heap.size + 1 + 1 + 1, 1, none⟩) (by show w.heap.size + 1 + 1 + 1 ≠ w.heap.size + 1 + 1; omega) (.slice p' l' K')
  have z4 := y4.set2 (.bool (negB r)) (.slice p' l' K')
  have ou := (hu.set2 j3 (.bool (negB q)) (.slice p l K)).set2 y4 (.bool (negB r)) (.slice p' l' K')
  have ov := (hv.set2 j3 (.bool (negB q)) (.slice p l K)).set2 y4 (.bool (negB r)) (.slice p' l' K')
  have hb3 := (((hbw.setCell (p := ⟨w.heap.size + 1 + 1, 0, none⟩) (by show w.heap.size ≤ w.heap.size + 1 + 1; omega) (.bool (negB q))).setCell (p := ⟨w.heap.size + 1 + 1, 1, none⟩) (by show w.heap.size ≤ w.heap.size + 1 + 1; omega) (.slice p l K)).setCell (p := ⟨w.heap.size + 1 + 1 + 1, 0, none⟩) (by show w.heap.size ≤ w.heap.size + 1 + 1 + 1; omega) (.bool (negB r))).setCell (p := ⟨w.heap.size + 1 + 1 + 1, 1, none⟩) (by show w.heap.size ≤ w.heap.size + 1 + 1 + 1; omega) (.slice p' l' K')
  have d30 := j3.c0
  have d31 := j3.c1
  have d40 := y4.c0
  have d41 := y4.c1
  have f30 := j3.free 0
  have f31 := j3.free 1
  have f40 := y4.free 0
  have f41 := y4.free 1
  have HC2 := Lib.hid (And.intro z3 z4)
  have HO := Lib.hid (And.intro ou ov)
  clear j3 j4 m3 y4 z3 z4 ou ov hu hv hB hbw HJ; go_wp2_with fail
  have e0 := HC2.out.1.c0
  have e1 := HC2.out.1.c1
  have e2 := HC2.out.2.c0
  have e3 := HC2.out.2.c1
  exact bodyPost_ret (v := .tuple #[.agg #[.bool (negB q), .slice p l K], .agg #[.bool (negB r), .slice p' l' K'], .int .i64 0]) (by simp [results, Tryz.f84, go_sem, e0, e1, e2, e3]) rfl ⟨⟨_, _, rfl, ⟨p, l, K, rfl, HO.out.1⟩, ⟨p', l', K', rfl, HO.out.2⟩⟩, hb3⟩
set_option maxRecDepth 100000 in
set_option maxHeartbeats 2000000 in
theorem wdiv_even_tf {p1 p2 : Option Addr} {l1 l2 K1 K2 m n : Nat} {w : World} (n1 : IsNat w (.slice p1 l1 K1) m) (n2 : IsNat w (.slice p2 l2 K2) n) (hm : m < maxN) (hn : n < maxN) (h0 : 0 < n) (hv : m % n = 0) (q r : Int) (hq : q = -((m / n : Nat) : Int)) (hr : r = ((m % n : Nat) : Int)) :
    Calls Tryz.prog 84 #[.agg #[.bool true, .slice p1 l1 K1], .agg #[.bool false, .slice p2 l2 K2]] w fun e w' => (∃ u v, e = .returned (.tuple #[u, v, .int .i64 0]) ∧ IsInt w' u q ∧ IsInt w' v r) ∧ Below w.heap.size w w' := by
  have hF := Lib.hid (And.intro hq hr)
  have hr0 : m % n < n := Nat.mod_lt _ h0
  have HM := Lib.hid (And.intro (show m / n < maxN from Nat.lt_of_le_of_lt (Nat.div_le_self _ _) hm) (show m % n < maxN by omega))
  have hW := four_below w (.cells #[.bool true, .slice p1 l1 K1] 37) (.cells #[.bool false, .slice p2 l2 K2] 37) (.cells #[.bool false, .slice none 0 0] 37) (.cells #[.bool false, .slice none 0 0] 37)
  have C := Lib.hid (div_nat (n1.below hW (Nat.le_refl _)) (n2.below hW (Nat.le_refl _)) hm hn h0)
  have k1 := (((Cell2.made w 37 (.bool true) (.slice p1 l1 K1)).alloc (.cells #[.bool false, .slice p2 l2 K2] 37)).alloc (.cells #[.bool false, .slice none 0 0] 37)).alloc (.cells #[.bool false, .slice none 0 0] 37)
  have k2 := ((Cell2.made (w.alloc (.cells #[.bool true, .slice p1 l1 K1] 37)) 37 (.bool false) (.slice p2 l2 K2)).alloc (.cells #[.bool false, .slice none 0 0] 37)).alloc (.cells #[.bool false, .slice none 0 0] 37)
  have k3 := (Cell2.made ((w.alloc (.cells #[.bool true, .slice p1 l1 K1] 37)).alloc (.cells #[.bool false, .slice p2 l2 K2] 37)) 37 (.bool false) (.slice none 0 0)).alloc (.cells #[.bool false, .slice none 0 0] 37)
  have k4 := Cell2.made (((w.alloc (.cells #[.bool true, .slice p1 l1 K1] 37)).alloc (.cells #[.bool false, .slice p2 l2 K2] 37)).alloc (.cells #[.bool false, .slice none 0 0] 37)) 37 (.bool false) (.slice none 0 0)
  have hs2 : (w.alloc (.cells #[.bool true, .slice p1 l1 K1] 37)).heap.size = w.heap.size + 1 := by simp
  have hs3 : ((w.alloc (.cells #[.bool true, .slice p1 l1 K1] 37)).alloc (.cells #[.bool false, .slice p2 l2 K2] 37)).heap.size = w.heap.size + 1 + 1 := by simp
  have hs4 : (((w.alloc (.cells #[.bool true, .slice p1 l1 K1] 37)).alloc (.cells #[.bool false, .slice p2 l2 K2] 37)).alloc (.cells #[.bool false, .slice none 0 0] 37)).heap.size = w.heap.size + 1 + 1 + 1 := by simp
  rw [hs2] at k2
  rw [hs3] at k3
  rw [hs4] at k4
  have HK := Lib.hid (And.intro k1 (And.intro k2 (And.intro k3 k4)))
  have HN := Lib.hid (And.intro (n2.below hW (Nat.le_refl _)) (And.intro hn (Nat.le_of_lt hr0)))
  have c11 := k1.c1
  have c21 := k2.c1
  have HV := Lib.hid hv
  clear k1 k2 k3 k4 hs2 hs3 hs4 n1 n2 hm hn h0 hq hr hr0 hv
  go_enter Tryz.func84, Tryz.ntmps84
  go_wp2_with fail
  refine C.out.mono ?_
  clear C
  rintro e w1 ⟨⟨v1, v2, rfl, nv1, nv2⟩, hB⟩
  have hbw := hW.trans (hB.mono hW.size)
  have j1 := HK.out.1.below hB HK.out.1.lt
  have j2 := HK.out.2.1.below hB HK.out.2.1.lt
  have j3 := HK.out.2.2.1.below hB HK.out.2.2.1.lt
  have j4 := HK.out.2.2.2.below hB HK.out.2.2.2.lt
  have nb := HN.out.1.below hB (Nat.le_refl _)
  have c10 := j1.c0
  have c20 := j2.c0
  have c21 := j2.c1
  clear hB hW HK c11
  have C := Lib.hid (bits_nat nv2 HM.out.2 (t := 0) (by rw [HV.out]; rfl))
  have HJ := Lib.hid (And.intro j1 (And.intro j2 (And.intro j3 j4)))
  have HD := Lib.hid (And.intro nv1 (And.intro nv2 nb))
  clear j1 j2 j3 j4 nv1 nv2 nb; go_wp2_with fail
  refine C.out.mono ?_
  clear C
  rintro e w2 ⟨rfl, hB⟩
  have nv1 := HD.out.1.below hB (Nat.le_refl _)
  have nv2 := HD.out.2.1.below hB (Nat.le_refl _)
  have nb := HD.out.2.2.below hB (Nat.le_refl _)
  have hbw := hbw.trans (hB.mono hbw.size)
  have j1 := HJ.out.1.below hB HJ.out.1.lt
  have j2 := HJ.out.2.1.below hB HJ.out.2.1.lt
  have j3 := HJ.out.2.2.1.below hB HJ.out.2.2.1.lt
  have j4 := HJ.out.2.2.2.below hB HJ.out.2.2.2.lt
  clear HJ HD c10 c20 c21
  have c10 := j1.c0
  have c20 := j2.c0
  have c21 := j2.c1
  clear hB
  have C := Lib.hid (signed_any true nv1 HM.out.1 q hF.out.1)
  have HJ := Lib.hid (And.intro j3 j4)
  have HD := Lib.hid nv2
  clear j1 j2 j3 j4 nv1 nv2 nb; go_wp2_with fail
  refine C.out.mono ?_
  clear C
  rintro e w4 ⟨⟨u, rfl, p, l, K, rfl, hu⟩, hB⟩
  have hbw := hbw.trans (hB.mono hbw.size)
  have C := Lib.hid (signed_any false (HD.out.below hB (Nat.le_refl _)) HM.out.2 r hF.out.2)
  have j3 := HJ.out.1.below hB HJ.out.1.lt
  have j4 := HJ.out.2.below hB HJ.out.2.lt
  clear HJ HD
  have HJ := Lib.hid (And.intro j3 (And.intro j4 hu))
  clear j3 j4 hu hB; go_wp2_with fail
  refine C.out.mono ?_
  clear C
  rintro e w5 ⟨⟨u, rfl, p', l', K', rfl, hv⟩, hB⟩
  have hbw := hbw.trans (hB.mono hbw.size)
  have j3 := HJ.out.1.below hB HJ.out.1.lt
  have j4 := HJ.out.2.1.below hB HJ.out.2.1.lt
  have hu := HJ.out.2.2.below hB (Nat.le_refl _)
  have m3 := j3.set2 (.bool (negB q)) (.slice p l K)
  have y4 := (j4.other (q := ⟨w.heap.size + 1 + 1, 0, none⟩) (by show w.heap.size + 1 + 1 ≠ w.heap.size + 1 + 1 + 1; omega) (.bool (negB q))).other (q := ⟨w.heap.size + 1 + 1, 1, none⟩) (by show w.heap.size + 1 + 1 ≠ w.heap.size + 1 + 1 + 1; omega) (.slice p l K)
  have z3 := (m3.other (q := ⟨w.heap.size + 1 + 1 + 1, 0, none⟩) (by show w.heap.size + 1 + 1 + 1 ≠ w.heap.size + 1 + 1; omega) (.bool (negB r))).other (q := ⟨w.heap.size + 1 + 1 + 1, 1, none⟩) (by show w.heap.size + 1 + 1 + 1 ≠ w.heap.size + 1 + 1; omega) (.slice p' l' K')
  have z4 := y4.set2 (.bool (negB r)) (.slice p' l' K')
  have ou := (hu.set2 j3 (.bool (negB q)) (.slice p l K)).set2 y4 (.bool (negB r)) (.slice p' l' K')
  have ov := (hv.set2 j3 (.bool (negB q)) (.slice p l K)).set2 y4 (.bool (negB r)) (.slice p' l' K')
  have hb3 := (((hbw.setCell (p := ⟨w.heap.size + 1 + 1, 0, none⟩) (by show w.heap.size ≤ w.heap.size + 1 + 1; omega) (.bool (negB q))).setCell (p := ⟨w.heap.size + 1 + 1, 1, none⟩) (by show w.heap.size ≤ w.heap.size + 1 + 1; omega) (.slice p l K)).setCell (p := ⟨w.heap.size + 1 + 1 + 1, 0, none⟩) (by show w.heap.size ≤ w.heap.size + 1 + 1 + 1; omega) (.bool (negB r))).setCell (p := ⟨w.heap.size + 1 + 1 + 1, 1, none⟩) (by show w.heap.size ≤ w.heap.size + 1 + 1 + 1; omega) (.slice p' l' K')
  have d30 := j3.c0
  have d31 := j3.c1
  have d40 := y4.c0
  have d41 := y4.c1
  have f30 := j3.free 0
  have f31 := j3.free 1
  have f40 := y4.free 0
  have f41 := y4.free 1
  have HC2 := Lib.hid (And.intro z3 z4)
  have HO := Lib.hid (And.intro ou ov)
  clear j3 j4 m3 y4 z3 z4 ou ov hu hv hB hbw HJ; go_wp2_with fail
  have e0 := HC2.out.1.c0
  have e1 := HC2.out.1.c1
  have e2 := HC2.out.2.c0
  have e3 := HC2.out.2.c1
  exact bodyPost_ret (v := .tuple #[.agg #[.bool (negB q), .slice p l K], .agg #[.bool (negB r), .slice p' l' K'], .int .i64 0]) (by simp [results, Tryz.f84, go_sem, e0, e1, e2, e3]) rfl ⟨⟨_, _, rfl, ⟨p, l, K, rfl, HO.out.1⟩, ⟨p', l', K', rfl, HO.out.2⟩⟩, hb3⟩
set_option maxRecDepth 100000 in
set_option maxHeartbeats 2000000 in
theorem wdiv_even_tt {p1 p2 : Option Addr} {l1 l2 K1 K2 m n : Nat} {w : World} (n1 : IsNat w (.slice p1 l1 K1) m) (n2 : IsNat w (.slice p2 l2 K2) n) (hm : m < maxN) (hn : n < maxN) (h0 : 0 < n) (hv : m % n = 0) (q r : Int) (hq : q = ((m / n : Nat) : Int)) (hr : r = ((m % n : Nat) : Int)) :
    Calls Tryz.prog 84 #[.agg #[.bool true, .slice p1 l1 K1], .agg #[.bool true, .slice p2 l2 K2]] w fun e w' => (∃ u v, e = .returned (.tuple #[u, v, .int .i64 0]) ∧ IsInt w' u q ∧ IsInt w' v r) ∧ Below w.heap.size w w' := by
  have hF := Lib.hid (And.intro hq hr)
  have hr0 : m % n < n := Nat.mod_lt _ h0
  have HM := Lib.hid (And.intro (show m / n < maxN from Nat.lt_of_le_of_lt (Nat.div_le_self _ _) hm) (show m % n < maxN by omega))
  have hW := four_below w (.cells #[.bool true, .slice p1 l1 K1] 37) (.cells #[.bool true, .slice p2 l2 K2] 37) (.cells #[.bool false, .slice none 0 0] 37) (.cells #[.bool false, .slice none 0 0] 37)
  have C := Lib.hid (div_nat (n1.below hW (Nat.le_refl _)) (n2.below hW (Nat.le_refl _)) hm hn h0)
  have k1 := (((Cell2.made w 37 (.bool true) (.slice p1 l1 K1)).alloc (.cells #[.bool true, .slice p2 l2 K2] 37)).alloc (.cells #[.bool false, .slice none 0 0] 37)).alloc (.cells #[.bool false, .slice none 0 0] 37)
  have k2 := ((Cell2.made (w.alloc (.cells #[.bool true, .slice p1 l1 K1] 37)) 37 (.bool true) (.slice p2 l2 K2)).alloc (.cells #[.bool false, .slice none 0 0] 37)).alloc (.cells #[.bool false, .slice none 0 0] 37)
  have k3 := (Cell2.made ((w.alloc (.cells #[.bool true, .slice p1 l1 K1] 37)).alloc (.cells #[.bool true, .slice p2 l2 K2] 37)) 37 (.bool false) (.slice none 0 0)).alloc (.cells #[.bool false, .slice none 0 0] 37)
  have k4 := Cell2.made (((w.alloc (.cells #[.bool true, .slice p1 l1 K1] 37)).alloc (.cells #[.bool true, .slice p2 l2 K2] 37)).alloc (.cells #[.bool false, .slice none 0 0] 37)) 37 (.bool false) (.slice none 0 0)
  have hs2 : (w.alloc (.cells #[.bool true, .slice p1 l1 K1] 37)).heap.size = w.heap.size + 1 := by simp
  have hs3 : ((w.alloc (.cells #[.bool true, .slice p1 l1 K1] 37)).alloc (.cells #[.bool true, .slice p2 l2 K2] 37)).heap.size = w.heap.size + 1 + 1 := by simp
  have hs4 : (((w.alloc (.cells #[.bool true, .slice p1 l1 K1] 37)).alloc (.cells #[.bool true, .slice p2 l2 K2] 37)).alloc (.cells #[.bool false, .slice none 0 0] 37)).heap.size = w.heap.size + 1 + 1 + 1 := by simp
  rw [hs2] at k2
  rw [hs3] at k3
  rw [hs4] at k4
  have HK := Lib.hid (And.intro k1 (And.intro k2 (And.intro k3 k4)))
  have HN := Lib.hid (And.intro (n2.below hW (Nat.le_refl _)) (And.intro hn (Nat.le_of_lt hr0)))
  have c11 := k1.c1
  have c21 := k2.c1
  have HV := Lib.hid hv
  clear k1 k2 k3 k4 hs2 hs3 hs4 n1 n2 hm hn h0 hq hr hr0 hv
  go_enter Tryz.func84, Tryz.ntmps84
  go_wp2_with fail
  refine C.out.mono ?_
  clear C
  rintro e w1 ⟨⟨v1, v2, rfl, nv1, nv2⟩, hB⟩
  have hbw := hW.trans (hB.mono hW.size)
  have j1 := HK.out.1.below hB HK.out.1.lt
  have j2 := HK.out.2.1.below hB HK.out.2.1.lt
  have j3 := HK.out.2.2.1.below hB HK.out.2.2.1.lt
  have j4 := HK.out.2.2.2.below hB HK.out.2.2.2.lt
  have nb := HN.out.1.below hB (Nat.le_refl _)
  have c10 := j1.c0
  have c20 := j2.c0
  have c21 := j2.c1
  clear hB hW HK c11
  have C := Lib.hid (bits_nat nv2 HM.out.2 (t := 0) (by rw [HV.out]; rfl))
  have HJ := Lib.hid (And.intro j1 (And.intro j2 (And.intro j3 j4)))
  have HD := Lib.hid (And.intro nv1 (And.intro nv2 nb))
  clear j1 j2 j3 j4 nv1 nv2 nb; go_wp2_with fail
  refine C.out.mono ?_
  clear C
  rintro e w2 ⟨rfl, hB⟩
  have nv1 := HD.out.1.below hB (Nat.le_refl _)
  have nv2 := HD.out.2.1.below hB (Nat.le_refl _)
  have nb := HD.out.2.2.below hB (Nat.le_refl _)
  have hbw := hbw.trans (hB.mono hbw.size)
  have j1 := HJ.out.1.below hB HJ.out.1.lt
  have j2 := HJ.out.2.1.below hB HJ.out.2.1.lt
  have j3 := HJ.out.2.2.1.below hB HJ.out.2.2.1.lt
  have j4 := HJ.out.2.2.2.below hB HJ.out.2.2.2.lt
  clear HJ HD c10 c20 c21
  have c10 := j1.c0
  have c20 := j2.c0
  have c21 := j2.c1
  clear hB
  have C := Lib.hid (signed_any false nv1 HM.out.1 q hF.out.1)
  have HJ := Lib.hid (And.intro j3 j4)
  have HD := Lib.hid nv2
  clear j1 j2 j3 j4 nv1 nv2 nb; go_wp2_with fail
  refine C.out.mono ?_
  clear C
  rintro e w4 ⟨⟨u, rfl, p, l, K, rfl, hu⟩, hB⟩
  have hbw := hbw.trans (hB.mono hbw.size)
  have C := Lib.hid (signed_any false (HD.out.below hB (Nat.le_refl _)) HM.out.2 r hF.out.2)
  have j3 := HJ.out.1.below hB HJ.out.1.lt
  have j4 := HJ.out.2.below hB HJ.out.2.lt
  clear HJ HD
  have HJ := Lib.hid (And.intro j3 (And.intro j4 hu))
  clear j3 j4 hu hB; go_wp2_with fail
  refine C.out.mono ?_
  clear C
  rintro e w5 ⟨⟨u, rfl, p', l', K', rfl, hv⟩, hB⟩
  have hbw := hbw.trans (hB.mono hbw.size)
  have j3 := HJ.out.1.below hB HJ.out.1.lt
  have j4 := HJ.out.2.1.below hB HJ.out.2.1.lt
  have hu := HJ.out.2.2.below hB (Nat.le_refl _)
  have m3 := j3.set2 (.bool (negB q)) (.slice p l K)
  have y4 := (j4.other (q := ⟨w.heap.size + 1 + 1, 0, none⟩) (by show w.heap.size + 1 + 1 ≠ w.heap.size + 1 + 1 + 1; omega) (.bool (negB q))).other (q := ⟨w.heap.size + 1 + 1, 1, none⟩) (by show w.heap.size + 1 + 1 ≠ w.heap.size + 1 + 1 + 1; omega) (.slice p l K)
  have z3 := (m3.other (q := ⟨w.heap.size + 1 + 1 + 1, 0, none⟩) (by show w.heap.size + 1 + 1 + 1 ≠ w.heap.size + 1 + 1; omega) (.bool (negB r))).other (q := ⟨w.heap.size + 1 + 1 + 1, 1, none⟩) (by show w.heap.size + 1 + 1 + 1 ≠ w.heap.size + 1 + 1; omega) (.slice p' l' K')
  have z4 := y4.set2 (.bool (negB r)) (.slice p' l' K')
  have ou := (hu.set2 j3 (.bool (negB q)) (.slice p l K)).set2 y4 (.bool (negB r)) (.slice p' l' K')
  have ov := (hv.set2 j3 (.bool (negB q)) (.slice p l K)).set2 y4 (.bool (negB r)) (.slice p' l' K')
  have hb3 := (((hbw.setCell (p := ⟨w.heap.size + 1 + 1, 0, none⟩) (by show w.heap.size ≤ w.heap.size + 1 + 1; omega) (.bool (negB q))).setCell (p := ⟨w.heap.size + 1 + 1, 1, none⟩) (by show w.heap.size ≤ w.heap.size + 1 + 1; omega) (.slice p l K)).setCell (p := ⟨w.heap.size + 1 + 1 + 1, 0, none⟩) (by show w.heap.size ≤ w.heap.size + 1 + 1 + 1; omega) (.bool (negB r))).setCell (p := ⟨w.heap.size + 1 + 1 + 1, 1, none⟩) (by show w.heap.size ≤ w.heap.size + 1 + 1 + 1; omega) (.slice p' l' K')
  have d30 := j3.c0
  have d31 := j3.c1
  have d40 := y4.c0
  have d41 := y4.c1
  have f30 := j3.free 0
  have f31 := j3.free 1
  have f40 := y4.free 0
  have f41 := y4.free 1
  have HC2 := Lib.hid (And.intro z3 z4)
  have HO := Lib.hid (And.intro ou ov)
  clear j3 j4 m3 y4 z3 z4 ou ov hu hv hB hbw HJ; go_wp2_with fail
  have e0 := HC2.out.1.c0
  have e1 := HC2.out.1.c1
  have e2 := HC2.out.2.c0
  have e3 := HC2.out.2.c1
  exact bodyPost_ret (v := .tuple #[.agg #[.bool (negB q), .slice p l K], .agg #[.bool (negB r), .slice p' l' K'], .int .i64 0]) (by simp [results, Tryz.f84, go_sem, e0, e1, e2, e3]) rfl ⟨⟨_, _, rfl, ⟨p, l, K, rfl, HO.out.1⟩, ⟨p', l', K', rfl, HO.out.2⟩⟩, hb3⟩
set_option maxRecDepth 100000 in
set_option maxHeartbeats 2000000 in
theorem wdiv_down_tf {p1 p2 : Option Addr} {l1 l2 K1 K2 m n : Nat} {w : World} (n1 : IsNat w (.slice p1 l1 K1) m) (n2 : IsNat w (.slice p2 l2 K2) n) (hm : m < maxN) (hn : n < maxN) (h0 : 0 < n) (hv : 0 < m % n) (q r : Int) (hq : q = -((m / n + 1 : Nat) : Int)) (hr : r = ((n - m % n : Nat) : Int)) :
    Calls Tryz.prog 84 #[.agg #[.bool true, .slice p1 l1 K1], .agg #[.bool false, .slice p2 l2 K2]] w fun e w' => (∃ u v, e = .returned (.tuple #[u, v, .int .i64 0]) ∧ IsInt w' u q ∧ IsInt w' v r) ∧ Below w.heap.size w w' := by
  have hF := Lib.hid (And.intro hq hr)
  have hr0 : m % n < n := Nat.mod_lt _ h0
  have HM := Lib.hid (And.intro (div_less1 hm hv) (show n - m % n < maxN by omega))
  have hW := four_below w (.cells #[.bool true, .slice p1 l1 K1] 37) (.cells #[.bool false, .slice p2 l2 K2] 37) (.cells #[.bool false, .slice none 0 0] 37) (.cells #[.bool false, .slice none 0 0] 37)
  have C := Lib.hid (div_nat (n1.below hW (Nat.le_refl _)) (n2.below hW (Nat.le_refl _)) hm hn h0)
  have k1 := (((Cell2.made w 37 (.bool true) (.slice p1 l1 K1)).alloc (.cells #[.bool false, .slice p2 l2 K2] 37)).alloc (.cells #[.bool false, .slice none 0 0] 37)).alloc (.cells #[.bool false, .slice none 0 0] 37)
  have k2 := ((Cell2.made (w.alloc (.cells #[.bool true, .slice p1 l1 K1] 37)) 37 (.bool false) (.slice p2 l2 K2)).alloc (.cells #[.bool false, .slice none 0 0] 37)).alloc (.cells #[.bool false, .slice none 0 0] 37)
  have k3 := (Cell2.made ((w.alloc (.cells #[.bool true, .slice p1 l1 K1] 37)).alloc (.cells #[.bool false, .slice p2 l2 K2] 37)) 37 (.bool false) (.slice none 0 0)).alloc (.cells #[.bool false, .slice none 0 0] 37)
  have k4 := Cell2.made (((w.alloc (.cells #[.bool true, .slice p1 l1 K1] 37)).alloc (.cells #[.bool false, .slice p2 l2 K2] 37)).alloc (.cells #[.bool false, .slice none 0 0] 37)) 37 (.bool false) (.slice none 0 0)
  have hs2 : (w.alloc (.cells #[.bool true, .slice p1 l1 K1] 37)).heap.size = w.heap.size + 1 := by simp
  have hs3 : ((w.alloc (.cells #[.bool true, .slice p1 l1 K1] 37)).alloc (.cells #[.bool false, .slice p2 l2 K2] 37)).heap.size = w.heap.size + 1 + 1 := by simp
  have hs4 : (((w.alloc (.cells #[.bool true, .slice p1 l1 K1] 37)).alloc (.cells #[.bool false, .slice p2 l2 K2] 37)).alloc (.cells #[.bool false, .slice none 0 0] 37)).heap.size = w.heap.size + 1 + 1 + 1 := by simp
  rw [hs2] at k2
  rw [hs3] at k3
  rw [hs4] at k4
  have HK := Lib.hid (And.intro k1 (And.intro k2 (And.intro k3 k4)))
  have HN := Lib.hid (And.intro (n2.below hW (Nat.le_refl _)) (And.intro hn (Nat.le_of_lt hr0)))
  have c11 := k1.c1
  have c21 := k2.c1
  have HV := Lib.hid hv
  clear k1 k2 k3 k4 hs2 hs3 hs4 n1 n2 hm hn h0 hq hr hr0 hv
  go_enter Tryz.func84, Tryz.ntmps84
  go_wp2_with fail
  refine C.out.mono ?_
  clear C
  rintro e w1 ⟨⟨v1, v2, rfl, nv1, nv2⟩, hB⟩
  have hbw := hW.trans (hB.mono hW.size)
  have j1 := HK.out.1.below hB HK.out.1.lt
  have j2 := HK.out.2.1.below hB HK.out.2.1.lt
  have j3 := HK.out.2.2.1.below hB HK.out.2.2.1.lt
  have j4 := HK.out.2.2.2.below hB HK.out.2.2.2.lt
  have nb := HN.out.1.below hB (Nat.le_refl _)
  have c10 := j1.c0
  have c20 := j2.c0
  have c21 := j2.c1
  clear hB hW HK c11
  obtain ⟨t, ht⟩ : ∃ t, nbits (m % n) = t := ⟨_, rfl⟩
  have htp : 0 < t := by rw [← ht]; exact (nbits_spec (by have := HV.out; omega)).1
  have htI : (0 : Int) < (t : Int) := by omega
  have htD : decide (0 < t) = true := decide_eq_true htp
  have C := Lib.hid (bits_nat nv2 (Nat.lt_of_le_of_lt HN.out.2.2 HN.out.2.1) ht)
  clear ht
  have HJ := Lib.hid (And.intro j1 (And.intro j2 (And.intro j3 j4)))
  have HD := Lib.hid (And.intro nv1 (And.intro nv2 nb))
  clear j1 j2 j3 j4 nv1 nv2 nb; go_wp2_with fail
  refine C.out.mono ?_
  clear C
  rintro e w2 ⟨rfl, hB⟩
  have nv1 := HD.out.1.below hB (Nat.le_refl _)
  have nv2 := HD.out.2.1.below hB (Nat.le_refl _)
  have nb := HD.out.2.2.below hB (Nat.le_refl _)
  have hbw := hbw.trans (hB.mono hbw.size)
  have j1 := HJ.out.1.below hB HJ.out.1.lt
  have j2 := HJ.out.2.1.below hB HJ.out.2.1.lt
  have j3 := HJ.out.2.2.1.below hB HJ.out.2.2.1.lt
  have j4 := HJ.out.2.2.2.below hB HJ.out.2.2.2.lt
  clear HJ HD c10 c20 c21
  have c10 := j1.c0
  have c20 := j2.c0
  have c21 := j2.c1
  clear hB
  have C := Lib.hid (once_any nv1 nv2 nb HM.out.1 HN.out.2.1 HN.out.2.2)
  have HJ := Lib.hid (And.intro j1 (And.intro j2 (And.intro j3 j4)))
  clear j1 j2 j3 j4 nv1 nv2 nb; go_wp2_with fail
  refine C.out.mono ?_
  clear C
  rintro e w3 ⟨⟨v3, v4, rfl, nv1, nv2⟩, hB⟩
  have hbw := hbw.trans (hB.mono hbw.size)
  have j1 := HJ.out.1.below hB HJ.out.1.lt
  have j2 := HJ.out.2.1.below hB HJ.out.2.1.lt
  have j3 := HJ.out.2.2.1.below hB HJ.out.2.2.1.lt
  have j4 := HJ.out.2.2.2.below hB HJ.out.2.2.2.lt
  have nb := trivial
  clear HJ c10 c20 c21
  have c10 := j1.c0
  have c20 := j2.c0
  clear hB
  have C := Lib.hid (signed_any true nv1 HM.out.1 q hF.out.1)
  have HJ := Lib.hid (And.intro j3 j4)
  have HD := Lib.hid nv2
  clear j1 j2 j3 j4 nv1 nv2 nb; go_wp2_with fail
  refine C.out.mono ?_
  clear C
  rintro e w4 ⟨⟨u, rfl, p, l, K, rfl, hu⟩, hB⟩
  have hbw := hbw.trans (hB.mono hbw.size)
  have C := Lib.hid (signed_any false (HD.out.below hB (Nat.le_refl _)) HM.out.2 r hF.out.2)
  have j3 := HJ.out.1.below hB HJ.out.1.lt
  have j4 := HJ.out.2.below hB HJ.out.2.lt
  clear HJ HD
  have HJ := Lib.hid (And.intro j3 (And.intro j4 hu))
  clear j3 j4 hu hB; go_wp2_with fail
  refine C.out.mono ?_
  clear C
  rintro e w5 ⟨⟨u, rfl, p', l', K', rfl, hv⟩, hB⟩
  have hbw := hbw.trans (hB.mono hbw.size)
  have j3 := HJ.out.1.below hB HJ.out.1.lt
  have j4 := HJ.out.2.1.below hB HJ.out.2.1.lt
  have hu := HJ.out.2.2.below hB (Nat.le_refl _)
  have m3 := j3.set2 (.bool (negB q)) (.slice p l K)
  have y4 := (j4.other (q := ⟨w.heap.size + 1 + 1, 0, none⟩) (by show w.heap.size + 1 + 1 ≠ w.heap.size + 1 + 1 + 1; omega) (.bool (negB q))).other (q := ⟨w.heap.size + 1 + 1, 1, none⟩) (by show w.heap.size + 1 + 1 ≠ w.heap.size + 1 + 1 + 1; omega) (.slice p l K)
  have z3 := (m3.other (q := ⟨w.heap.size + 1 + 1 + 1, 0, none⟩) (by show w.heap.size + 1 + 1 + 1 ≠ w.heap.size + 1 + 1; omega) (.bool (negB r))).other (q := ⟨w.heap.size + 1 + 1 + 1, 1, none⟩) (by show w.heap.size + 1 + 1 + 1 ≠ w.heap.size + 1 + 1; omega) (.slice p' l' K')
  have z4 := y4.set2 (.bool (negB r)) (.slice p' l' K')
  have ou := (hu.set2 j3 (.bool (negB q)) (.slice p l K)).set2 y4 (.bool (negB r)) (.slice p' l' K')
  have ov := (hv.set2 j3 (.bool (negB q)) (.slice p l K)).set2 y4 (.bool (negB r)) (.slice p' l' K')
  have hb3 := (((hbw.setCell (p := ⟨w.heap.size + 1 + 1, 0, none⟩) (by show w.heap.size ≤ w.heap.size + 1 + 1; omega) (.bool (negB q))).setCell (p := ⟨w.heap.size + 1 + 1, 1, none⟩) (by show w.heap.size ≤ w.heap.size + 1 + 1; omega) (.slice p l K)).setCell (p := ⟨w.heap.size + 1 + 1 + 1, 0, none⟩) (by show w.heap.size ≤ w.heap.size + 1 + 1 + 1; omega) (.bool (negB r))).setCell (p := ⟨w.heap.size + 1 + 1 + 1, 1, none⟩) (by show w.heap.size ≤ w.heap.size + 1 + 1 + 1; omega) (.slice p' l' K')
  have d30 := j3.c0
  have d31 := j3.c1
  have d40 := y4.c0
  have d41 := y4.c1
  have f30 := j3.free 0
  have f31 := j3.free 1
  have f40 := y4.free 0
  have f41 := y4.free 1
  have HC2 := Lib.hid (And.intro z3 z4)
  have HO := Lib.hid (And.intro ou ov)
  clear j3 j4 m3 y4 z3 z4 ou ov hu hv hB hbw HJ; go_wp2_with fail
  have e0 := HC2.out.1.c0
  have e1 := HC2.out.1.c1
  have e2 := HC2.out.2.c0
  have e3 := HC2.out.2.c1
  exact bodyPost_ret (v := .tuple #[.agg #[.bool (negB q), .slice p l K], .agg #[.bool (negB r), .slice p' l' K'], .int .i64 0]) (by simp [results, Tryz.f84, go_sem, e0, e1, e2, e3]) rfl ⟨⟨_, _, rfl, ⟨p, l, K, rfl, HO.out.1⟩, ⟨p', l', K', rfl, HO.out.2⟩⟩, hb3⟩
set_option maxRecDepth 100000 in
set_option maxHeartbeats 2000000 in
theorem wdiv_down_tt {p1 p2 : Option Addr} {l1 l2 K1 K2 m n : Nat} {w : World} (n1 : IsNat w (.slice p1 l1 K1) m) (n2 : IsNat w (.slice p2 l2 K2) n) (hm : m < maxN) (hn : n < maxN) (h0 : 0 < n) (hv : 0 < m % n) (q r : Int) (hq : q = ((m / n + 1 : Nat) : Int)) (hr : r = ((n - m % n : Nat) : Int)) :
    Calls Tryz.prog 84 #[.agg #[.bool true, .slice p1 l1 K1], .agg #[.bool true, .slice p2 l2 K2]] w fun e w' => (∃ u v, e = .returned (.tuple #[u, v, .int .i64 0]) ∧ IsInt w' u q ∧ IsInt w' v r) ∧ Below w.heap.size w w' := by
  have hF := Lib.hid (And.intro hq hr)
  have hr0 : m % n < n := Nat.mod_lt _ h0
  have HM := Lib.hid (And.intro (div_less1 hm hv) (show n - m % n < maxN by omega))
  have hW := four_below w (.cells #[.bool true, .slice p1 l1 K1] 37) (.cells #[.bool true, .slice p2 l2 K2] 37) (.cells #[.bool false, .slice none 0 0] 37) (.cells #[.bool false, .slice none 0 0] 37)
  have C := Lib.hid (div_nat (n1.below hW (Nat.le_refl _)) (n2.below hW (Nat.le_refl _)) hm hn h0)
  have k1 := (((Cell2.made w 37 (.bool true) (.slice p1 l1 K1)).alloc (.cells #[.bool true, .slice p2 l2 K2] 37)).alloc (.cells #[.bool false, .slice none 0 0] 37)).alloc (.cells #[.bool false, .slice none 0 0] 37)
  have k2 := ((Cell2.made (w.alloc (.cells #[.bool true, .slice p1 l1 K1] 37)) 37 (.bool true) (.slice p2 l2 K2)).alloc (.cells #[.bool false, .slice none 0 0] 37)).alloc (.cells #[.bool false, .slice none 0 0] 37)
  have k3 := (Cell2.made ((w.alloc (.cells #[.bool true, .slice p1 l1 K1] 37)).alloc (.cells #[.bool true, .slice p2 l2 K2] 37)) 37 (.bool false) (.slice none 0 0)).alloc (.cells #[.bool false, .slice none 0 0] 37)
  have k4 := Cell2.made (((w.alloc (.cells #[.bool true, .slice p1 l1 K1] 37)).alloc (.cells #[.bool true, .slice p2 l2 K2] 37)).alloc (.cells #[.bool false, .slice none 0 0] 37)) 37 (.bool false) (.slice none 0 0)
  have hs2 : (w.alloc (.cells #[.bool true, .slice p1 l1 K1] 37)).heap.size = w.heap.size + 1 := by simp
  have hs3 : ((w.alloc (.cells #[.bool true, .slice p1 l1 K1] 37)).alloc (.cells #[.bool true, .slice p2 l2 K2] 37)).heap.size = w.heap.size + 1 + 1 := by simp
  have hs4 : (((w.alloc (.cells #[.bool true, .slice p1 l1 K1] 37)).alloc (.cells #[.bool true, .slice p2 l2 K2] 37)).alloc (.cells #[.bool false, .slice none 0 0] 37)).heap.size = w.heap.size + 1 + 1 + 1 := by simp
  rw [hs2] at k2
  rw [hs3] at k3
  rw [hs4] at k4
  have HK := Lib.hid (And.intro k1 (And.intro k2 (And.intro k3 k4)))
  have HN := Lib.hid (And.intro (n2.below hW (Nat.le_refl _)) (And.intro hn (Nat.le_of_lt hr0)))
  have c11 := k1.c1
  have c21 := k2.c1
  have HV := Lib.hid hv
  clear k1 k2 k3 k4 hs2 hs3 hs4 n1 n2 hm hn h0 hq hr hr0 hv
  go_enter Tryz.func84, Tryz.ntmps84
  go_wp2_with fail
  refine C.out.mono ?_
  clear C
  rintro e w1 ⟨⟨v1, v2, rfl, nv1, nv2⟩, hB⟩
  have hbw := hW.trans (hB.mono hW.size)
  have j1 := HK.out.1.below hB HK.out.1.lt
  have j2 := HK.out.2.1.below hB HK.out.2.1.lt
  have j3 := HK.out.2.2.1.below hB HK.out.2.2.1.lt
  have j4 := HK.out.2.2.2.below hB HK.out.2.2.2.lt
  have nb := HN.out.1.below hB (Nat.le_refl _)
  have c10 := j1.c0
  have c20 := j2.c0
  have c21 := j2.c1
  clear hB hW HK c11
  obtain ⟨t, ht⟩ : ∃ t, nbits (m % n) = t := ⟨_, rfl⟩
  have htp : 0 < t := by rw [← ht]; exact (nbits_spec (by have := HV.out; omega)).1
  have htI : (0 : Int) < (t : Int) := by omega
  have htD : decide (0 < t) = true := decide_eq_true htp
  have C := Lib.hid (bits_nat nv2 (Nat.lt_of_le_of_lt HN.out.2.2 HN.out.2.1) ht)
  clear ht
  have HJ := Lib.hid (And.intro j1 (And.intro j2 (And.intro j3 j4)))
  have HD := Lib.hid (And.intro nv1 (And.intro nv2 nb))
  clear j1 j2 j3 j4 nv1 nv2 nb; go_wp2_with fail
  refine C.out.mono ?_
  clear C
  rintro e w2 ⟨rfl, hB⟩
  have nv1 := HD.out.1.below hB (Nat.le_refl _)
  have nv2 := HD.out.2.1.below hB (Nat.le_refl _)
  have nb := HD.out.2.2.below hB (Nat.le_refl _)
  have hbw := hbw.trans (hB.mono hbw.size)
  have j1 := HJ.out.1.below hB HJ.out.1.lt
  have j2 := HJ.out.2.1.below hB HJ.out.2.1.lt
  have j3 := HJ.out.2.2.1.below hB HJ.out.2.2.1.lt
  have j4 := HJ.out.2.2.2.below hB HJ.out.2.2.2.lt
  clear HJ HD c10 c20 c21
  have c10 := j1.c0
  have c20 := j2.c0
  have c21 := j2.c1
  clear hB
  have C := Lib.hid (once_any nv1 nv2 nb HM.out.1 HN.out.2.1 HN.out.2.2)
  have HJ := Lib.hid (And.intro j1 (And.intro j2 (And.intro j3 j4)))
  clear j1 j2 j3 j4 nv1 nv2 nb; go_wp2_with fail
  refine C.out.mono ?_
  clear C
  rintro e w3 ⟨⟨v3, v4, rfl, nv1, nv2⟩, hB⟩
  have hbw := hbw.trans (hB.mono hbw.size)
  have j1 := HJ.out.1.below hB HJ.out.1.lt
  have j2 := HJ.out.2.1.below hB HJ.out.2.1.lt
  have j3 := HJ.out.2.2.1.below hB HJ.out.2.2.1.lt
  have j4 := HJ.out.2.2.2.below hB HJ.out.2.2.2.lt
  have nb := trivial
  clear HJ c10 c20 c21
  have c10 := j1.c0
  have c20 := j2.c0
  clear hB
  have C := Lib.hid (signed_any false nv1 HM.out.1 q hF.out.1)
  have HJ := Lib.hid (And.intro j3 j4)
  have HD := Lib.hid nv2
  clear j1 j2 j3 j4 nv1 nv2 nb; go_wp2_with fail
  refine C.out.mono ?_
  clear C
  rintro e w4 ⟨⟨u, rfl, p, l, K, rfl, hu⟩, hB⟩
  have hbw := hbw.trans (hB.mono hbw.size)
  have C := Lib.hid (signed_any false (HD.out.below hB (Nat.le_refl _)) HM.out.2 r hF.out.2)
  have j3 := HJ.out.1.below hB HJ.out.1.lt
  have j4 := HJ.out.2.below hB HJ.out.2.lt
  clear HJ HD
  have HJ := Lib.hid (And.intro j3 (And.intro j4 hu))
  clear j3 j4 hu hB; go_wp2_with fail
  refine C.out.mono ?_
  clear C
  rintro e w5 ⟨⟨u, rfl, p', l', K', rfl, hv⟩, hB⟩
  have hbw := hbw.trans (hB.mono hbw.size)
  have j3 := HJ.out.1.below hB HJ.out.1.lt
  have j4 := HJ.out.2.1.below hB HJ.out.2.1.lt
  have hu := HJ.out.2.2.below hB (Nat.le_refl _)
  have m3 := j3.set2 (.bool (negB q)) (.slice p l K)
  have y4 := (j4.other (q := ⟨w.heap.size + 1 + 1, 0, none⟩) (by show w.heap.size + 1 + 1 ≠ w.heap.size + 1 + 1 + 1; omega) (.bool (negB q))).other (q := ⟨w.heap.size + 1 + 1, 1, none⟩) (by show w.heap.size + 1 + 1 ≠ w.heap.size + 1 + 1 + 1; omega) (.slice p l K)
  have z3 := (m3.other (q := ⟨w.heap.size + 1 + 1 + 1, 0, none⟩) (by show w.heap.size + 1 + 1 + 1 ≠ w.heap.size + 1 + 1; omega) (.bool (negB r))).other (q := ⟨w.heap.size + 1 + 1 + 1, 1, none⟩) (by show w.heap.size + 1 + 1 + 1 ≠ w.heap.size + 1 + 1; omega) (.slice p' l' K')
  have z4 := y4.set2 (.bool (negB r)) (.slice p' l' K')
  have ou := (hu.set2 j3 (.bool (negB q)) (.slice p l K)).set2 y4 (.bool (negB r)) (.slice p' l' K')
  have ov := (hv.set2 j3 (.bool (negB q)) (.slice p l K)).set2 y4 (.bool (negB r)) (.slice p' l' K')
  have hb3 := (((hbw.setCell (p := ⟨w.heap.size + 1 + 1, 0, none⟩) (by show w.heap.size ≤ w.heap.size + 1 + 1; omega) (.bool (negB q))).setCell (p := ⟨w.heap.size + 1 + 1, 1, none⟩) (by show w.heap.size ≤ w.heap.size + 1 + 1; omega) (.slice p l K)).setCell (p := ⟨w.heap.size + 1 + 1 + 1, 0, none⟩) (by show w.heap.size ≤ w.heap.size + 1 + 1 + 1; omega) (.bool (negB r))).setCell (p := ⟨w.heap.size + 1 + 1 + 1, 1, none⟩) (by show w.heap.size ≤ w.heap.size + 1 + 1 + 1; omega) (.slice p' l' K')
  have d30 := j3.c0
  have d31 := j3.c1
  have d40 := y4.c0
  have d41 := y4.c1
  have f30 := j3.free 0
  have f31 := j3.free 1
  have f40 := y4.free 0
  have f41 := y4.free 1
  have HC2 := Lib.hid (And.intro z3 z4)
  have HO := Lib.hid (And.intro ou ov)
  clear j3 j4 m3 y4 z3 z4 ou ov hu hv hB hbw HJ; go_wp2_with fail
  have e0 := HC2.out.1.c0
  have e1 := HC2.out.1.c1
  have e2 := HC2.out.2.c0
  have e3 := HC2.out.2.c1
  exact bodyPost_ret (v := .tuple #[.agg #[.bool (negB q), .slice p l K], .agg #[.bool (negB r), .slice p' l' K'], .int .i64 0]) (by simp [results, Tryz.f84, go_sem, e0, e1, e2, e3]) rfl ⟨⟨_, _, rfl, ⟨p, l, K, rfl, HO.out.1⟩, ⟨p', l', K', rfl, HO.out.2⟩⟩, hb3⟩
theorem iquot {x y q r : Int} (h : x = y * q + r) (h0 : 0 ≤ r) (h1 : r < y.natAbs) : q = x / y ∧ r = x % y := by
  have hy : y ≠ 0 := by intro h; subst h; simp at h1; omega
  have hr : x % y = r := by
    rw [h, Int.mul_add_emod_self_left]
    rcases (show 0 < y ∨ y < 0 by omega) with hp | hp
    · exact Int.emod_eq_of_lt h0 (by omega)
    · rw [← Int.emod_neg]
      exact Int.emod_eq_of_lt h0 (by omega)
  refine ⟨?_, hr.symm⟩
  have h2 := Int.mul_ediv_add_emod x y
  rw [hr] at h2
  have h3 : y * (x / y) = y * q := by omega
  exact (Int.eq_of_mul_eq_mul_left hy h3).symm
theorem wdiv_any {va vb : Value} {x y : Int} {w : World} (ha : IsInt w va x) (hb : IsInt w vb y) (hx : x.natAbs < maxN) (hy : y.natAbs < maxN) (h0 : y ≠ 0) :
    Calls Tryz.prog 84 #[va, vb] w fun e w' => (∃ u v, e = .returned (.tuple #[u, v, .int .i64 0]) ∧ IsInt w' u (x / y) ∧ IsInt w' v (x % y)) ∧ Below w.heap.size w w' := by
  obtain ⟨p1, l1, K1, rfl, n1⟩ := ha
  obtain ⟨p2, l2, K2, rfl, n2⟩ := hb
  obtain ⟨m, hm⟩ : ∃ m, x.natAbs = m := ⟨_, rfl⟩
  obtain ⟨n, hn⟩ : ∃ n, y.natAbs = n := ⟨_, rfl⟩
  rw [hm] at n1 hx
  rw [hn] at n2 hy
  have hnp : 0 < n := by omega
  have e1 : (n : Int) * ((m / n : Nat) : Int) + ((m % n : Nat) : Int) = (m : Int) := by
    have := Nat.div_add_mod m n
    exact_mod_cast this
  have e2 : ((m % n : Nat) : Int) < n := by have := Nat.mod_lt m hnp; omega
  obtain ⟨k, hk⟩ : ∃ k, m / n = k := ⟨_, rfl⟩
  obtain ⟨t, ht⟩ : ∃ t, m % n = t := ⟨_, rfl⟩
  rw [hk, ht] at e1
  rw [ht] at e2
  rcases (show x < 0 ∨ 0 ≤ x by omega) with hx0 | hx0 <;> rcases (show y < 0 ∨ 0 ≤ y by omega) with hy0 | hy0
  · obtain rfl : x = -(m : Int) := by omega
    obtain rfl : y = -(n : Int) := by omega
    rw [negB_pos hx0, negB_pos hy0]
    by_cases hv : m % n = 0
    · obtain ⟨q1, q2⟩ := iquot (x := -(m : Int)) (y := -(n : Int)) (q := (k : Int)) (r := 0) (by rw [Int.neg_mul]; omega) (by omega) (by omega)
      exact wdiv_even_tt n1 n2 hx hy hnp hv _ _ (by rw [← q1, hk]) (by rw [← q2, hv]; rfl)
    · obtain ⟨q1, q2⟩ := iquot (x := -(m : Int)) (y := -(n : Int)) (q := (k : Int) + 1) (r := n - t) (by rw [Int.neg_mul, Int.mul_add]; omega) (by omega) (by omega)
      exact wdiv_down_tt n1 n2 hx hy hnp (by omega) _ _ (by rw [← q1, hk]; omega) (by rw [← q2, ht]; omega)
  · obtain rfl : x = -(m : Int) := by omega
    obtain rfl : y = (n : Int) := by omega
    rw [negB_pos hx0, negB_neg (by omega)]
    by_cases hv : m % n = 0
    · obtain ⟨q1, q2⟩ := iquot (x := -(m : Int)) (y := (n : Int)) (q := -(k : Int)) (r := 0) (by rw [Int.mul_neg]; omega) (by omega) (by omega)
      exact wdiv_even_tf n1 n2 hx hy hnp hv _ _ (by rw [← q1, hk]) (by rw [← q2, hv]; rfl)
    · obtain ⟨q1, q2⟩ := iquot (x := -(m : Int)) (y := (n : Int)) (q := -((k : Int) + 1)) (r := n - t) (by rw [Int.mul_neg, Int.mul_add]; omega) (by omega) (by omega)
      exact wdiv_down_tf n1 n2 hx hy hnp (by omega) _ _ (by rw [← q1, hk]; omega) (by rw [← q2, ht]; omega)
  · obtain rfl : x = (m : Int) := by omega
    obtain rfl : y = -(n : Int) := by omega
    rw [negB_neg (by omega), negB_pos hy0]
    obtain ⟨q1, q2⟩ := iquot (x := (m : Int)) (y := -(n : Int)) (q := -(k : Int)) (r := t) (by rw [Int.neg_mul_neg]; omega) (by omega) (by omega)
    exact wdiv_up_ft n1 n2 hx hy hnp _ _ (by rw [← q1, hk]) (by rw [← q2, ht])
  · obtain rfl : x = (m : Int) := by omega
    obtain rfl : y = (n : Int) := by omega
    rw [negB_neg (by omega), negB_neg (by omega)]
    obtain ⟨q1, q2⟩ := iquot (x := (m : Int)) (y := (n : Int)) (q := (k : Int)) (r := t) (by omega) (by omega) (by omega)
    exact wdiv_up_ff n1 n2 hx hy hnp _ _ (by rw [← q1, hk]) (by rw [← q2, ht])
set_option maxRecDepth 100000 in
set_option maxHeartbeats 4000000 in
theorem wcompare_ne {va vb : Value} {x y : Int} {w : World} (ha : IsInt w va x) (hb : IsInt w vb y) (hx : x.natAbs < maxN) (hy : y.natAbs < maxN) {s t r : Int} (hs : x.sign = s) (ht : y.sign = t) (hne : s ≠ t) (hr : cmpI s t = r) :
    Calls Tryz.prog 52 #[va, vb] w fun e w' => e = .returned (.int .i64 r) ∧ Below w.heap.size w w' := by
  obtain ⟨p1, l1, K1, rfl, n1⟩ := ha
  obtain ⟨p2, l2, K2, rfl, n2⟩ := hb
  obtain ⟨b1, hb1⟩ : ∃ b1, negB x = b1 := ⟨_, rfl⟩
  obtain ⟨b2, hb2⟩ : ∃ b2, negB y = b2 := ⟨_, rfl⟩
  rw [hb1, hb2]
  have hW := two_below w (.cells #[.bool b1, .slice p1 l1 K1] 37) (.cells #[.bool b2, .slice p2 l2 K2] 37)
  have k1 := (Cell2.made w 37 (.bool b1) (.slice p1 l1 K1)).alloc (.cells #[.bool b2, .slice p2 l2 K2] 37)
  have k2 := Cell2.made (w.alloc (.cells #[.bool b1, .slice p1 l1 K1] 37)) 37 (.bool b2) (.slice p2 l2 K2)
  have hs2 : (w.alloc (.cells #[.bool b1, .slice p1 l1 K1] 37)).heap.size = w.heap.size + 1 := by simp
  rw [hs2] at k2
  have m1 := n1.below hW (Nat.le_refl _)
  have m2 := n2.below hW (Nat.le_refl _)
  have hsz := hW.size
  generalize hWW : ((w.alloc (.cells #[.bool b1, .slice p1 l1 K1] 37)).alloc (.cells #[.bool b2, .slice p2 l2 K2] 37)) = W0 at *
  have H1 := Lib.hid (show ∀ W, Below W0.heap.size W0 W → Calls Tryz.prog 65 #[.agg #[.bool b1, .slice p1 l1 K1]] W fun e w' => e = .returned (.int .i64 s) ∧ Below W.heap.size W w' from
    fun W hB => wsign_any ⟨p1, l1, K1, by rw [hb1], m1.below hB (Nat.le_refl _)⟩ hx hs)
  have H2 := Lib.hid (show ∀ W, Below W0.heap.size W0 W → Calls Tryz.prog 65 #[.agg #[.bool b2, .slice p2 l2 K2]] W fun e w' => e = .returned (.int .i64 t) ∧ Below W.heap.size W w' from
    fun W hB => wsign_any ⟨p2, l2, K2, by rw [hb2], m2.below hB (Nat.le_refl _)⟩ hy ht)
  have HK := Lib.hid (And.intro k1 k2)
  have c10 := k1.c0
  have c11 := k1.c1
  have c20 := k2.c0
  have c21 := k2.c1
  have hbx := Below.refl W0.heap.size W0
  clear k1 k2 hs2 n1 n2 m1 m2 hx hy hb1 hb2 hs ht
  go_enter Tryz.func52, Tryz.ntmps52
  go_upto_region 1 with fail
  clear hWW
  go_cut [5, 6] from 7 to 10 (fun s1 s2 wx => s1 = .int .i64 s ∧ s2 = .int .i64 t ∧ Below W0.heap.size W0 wx)
  case first =>
    go_region_with (first
      | (go_at_call_of 65 (Value.agg #[.bool b1, .slice p1 l1 K1]); refine (H1.out _ (by first | exact hbx.drew | exact hbB)).mono ?_; rintro e w1 ⟨rfl, hB1⟩; have hbA := (show Below W0.heap.size W0 w1 by first | exact hbB.trans (hB1.mono hbB.size) | exact hbx.drew.trans hB1); have d20 := (HK.out.2.below hbA HK.out.2.lt).c0; have d21 := (HK.out.2.below hbA HK.out.2.lt).c1)
      | (go_at_call_of 65 (Value.agg #[.bool b2, .slice p2 l2 K2]); refine (H2.out _ (by first | exact hbx.drew | exact hbA)).mono ?_; rintro e w2 ⟨rfl, hB2⟩; have hbB := (show Below W0.heap.size W0 w2 by first | exact hbA.trans (hB2.mono hbA.size) | exact hbx.drew.trans hB2); have d10 := (HK.out.1.below hbB HK.out.1.lt).c0; have d11 := (HK.out.1.below hbB HK.out.1.lt).c1))
    all_goals
      (go_wp2_with fail
       go_meet
       case rel => exact ⟨rfl, rfl, by assumption⟩)
  case rest =>
    clear hbx c10 c11 c20 c21 H1 H2
    obtain ⟨rfl, rfl, hB⟩ := hcut
    have hn : (s != t) = true := by simp [hne]
    go_wp2_with (go_at_call 62; refine (cmp_int _ _ _).mono ?_; rintro e w' ⟨rfl, rfl⟩)
    exact bodyPost_ret (v := .int .i64 r) (by simp [results, Tryz.f52, go_sem]) rfl ⟨rfl, hW.trans (hB.mono hsz)⟩
set_option maxRecDepth 100000 in
set_option maxHeartbeats 4000000 in
theorem wcompare_eq {va vb : Value} {x y : Int} {w : World} (ha : IsInt w va x) (hb : IsInt w vb y) (hx : x.natAbs < maxN) (hy : y.natAbs < maxN) {s t c r : Int} (hs : x.sign = s) (ht : y.sign = t) (hst : s = t) (hc : cmpI x.natAbs y.natAbs = c) (hp1 : -1 ≤ s * c) (hp2 : s * c ≤ 1) (hr : s * c = r) :
    Calls Tryz.prog 52 #[va, vb] w fun e w' => e = .returned (.int .i64 r) ∧ Below w.heap.size w w' := by
  obtain ⟨p1, l1, K1, rfl, n1⟩ := ha
  obtain ⟨p2, l2, K2, rfl, n2⟩ := hb
  obtain ⟨b1, hb1⟩ : ∃ b1, negB x = b1 := ⟨_, rfl⟩
  obtain ⟨b2, hb2⟩ : ∃ b2, negB y = b2 := ⟨_, rfl⟩
  rw [hb1, hb2]
  have hW := two_below w (.cells #[.bool b1, .slice p1 l1 K1] 37) (.cells #[.bool b2, .slice p2 l2 K2] 37)
  have k1 := (Cell2.made w 37 (.bool b1) (.slice p1 l1 K1)).alloc (.cells #[.bool b2, .slice p2 l2 K2] 37)
  have k2 := Cell2.made (w.alloc (.cells #[.bool b1, .slice p1 l1 K1] 37)) 37 (.bool b2) (.slice p2 l2 K2)
  have hs2 : (w.alloc (.cells #[.bool b1, .slice p1 l1 K1] 37)).heap.size = w.heap.size + 1 := by simp
  rw [hs2] at k2
  have m1 := n1.below hW (Nat.le_refl _)
  have m2 := n2.below hW (Nat.le_refl _)
  have hsz := hW.size
  generalize hWW : ((w.alloc (.cells #[.bool b1, .slice p1 l1 K1] 37)).alloc (.cells #[.bool b2, .slice p2 l2 K2] 37)) = W0 at *
  have H1 := Lib.hid (show ∀ W, Below W0.heap.size W0 W → Calls Tryz.prog 65 #[.agg #[.bool b1, .slice p1 l1 K1]] W fun e w' => e = .returned (.int .i64 s) ∧ Below W.heap.size W w' from
    fun W hB => wsign_any ⟨p1, l1, K1, by rw [hb1], m1.below hB (Nat.le_refl _)⟩ hx hs)
  have H2 := Lib.hid (show ∀ W, Below W0.heap.size W0 W → Calls Tryz.prog 65 #[.agg #[.bool b2, .slice p2 l2 K2]] W fun e w' => e = .returned (.int .i64 t) ∧ Below W.heap.size W w' from
    fun W hB => wsign_any ⟨p2, l2, K2, by rw [hb2], m2.below hB (Nat.le_refl _)⟩ hy ht)
  have C := Lib.hid (show ∀ W, Below W0.heap.size W0 W → Calls Tryz.prog 27 #[.slice p1 l1 K1, .slice p2 l2 K2] W fun e w' => e = .returned (.int .i64 c) ∧ Below W.heap.size W w' from
    fun W hB => compare_nat (m1.below hB (Nat.le_refl _)) (m2.below hB (Nat.le_refl _)) hx hy hc)
  clear hc
  subst hst
  have hr := Lib.hid hr
  have HK := Lib.hid (And.intro k1 k2)
  have c10 := k1.c0
  have c11 := k1.c1
  have c20 := k2.c0
  have c21 := k2.c1
  have hbx := Below.refl W0.heap.size W0
  clear k1 k2 hs2 n1 n2 m1 m2 hx hy hb1 hb2 hs ht
  go_enter Tryz.func52, Tryz.ntmps52
  go_upto_region 1 with fail
  clear hWW
  go_cut [5, 6] from 7 to 10 (fun s1 s2 wx => s1 = .int .i64 s ∧ s2 = .int .i64 s ∧ Below W0.heap.size W0 wx)
  case first =>
    go_region_with (first
      | (go_at_call_of 65 (Value.agg #[.bool b1, .slice p1 l1 K1]); refine (H1.out _ (by first | exact hbx.drew | exact hbB)).mono ?_; rintro e w1 ⟨rfl, hB1⟩; have hbA := (show Below W0.heap.size W0 w1 by first | exact hbB.trans (hB1.mono hbB.size) | exact hbx.drew.trans hB1); have d20 := (HK.out.2.below hbA HK.out.2.lt).c0; have d21 := (HK.out.2.below hbA HK.out.2.lt).c1)
      | (go_at_call_of 65 (Value.agg #[.bool b2, .slice p2 l2 K2]); refine (H2.out _ (by first | exact hbx.drew | exact hbA)).mono ?_; rintro e w2 ⟨rfl, hB2⟩; have hbB := (show Below W0.heap.size W0 w2 by first | exact hbA.trans (hB2.mono hbA.size) | exact hbx.drew.trans hB2); have d10 := (HK.out.1.below hbB HK.out.1.lt).c0; have d11 := (HK.out.1.below hbB HK.out.1.lt).c1))
    all_goals
      (go_wp2_with fail
       go_meet
       case rel => exact ⟨rfl, rfl, by assumption⟩)
  case rest =>
    clear hbx c10 c11 c20 c21 H1 H2
    obtain ⟨rfl, rfl, hB⟩ := hcut
    have j1 := HK.out.1.below hB HK.out.1.lt
    have j2 := HK.out.2.below hB HK.out.2.lt
    have c11 := j1.c1
    have c21 := j2.c1
    have C := Lib.hid (C.out _ hB)
    clear j1 j2; go_wp2_with fail
    refine C.out.mono ?_
    clear C
    rintro e w3 ⟨rfl, hB3⟩
    have hb3 := hW.trans ((hB.trans (hB3.mono hB.size)).mono hsz)
    clear hB3 hB hW; go_wp2_with fail
    exact bodyPost_ret (v := .int .i64 r) (by simp [results, Tryz.f52, go_sem]) rfl ⟨rfl, hb3⟩
theorem wcompare_any {va vb : Value} {x y : Int} {w : World} (ha : IsInt w va x) (hb : IsInt w vb y) (hx : x.natAbs < maxN) (hy : y.natAbs < maxN) :
    Calls Tryz.prog 52 #[va, vb] w fun e w' => e = .returned (.int .i64 (cmpI x y)) ∧ Below w.heap.size w w' := by
  have sg : ∀ z : Int, (z < 0 ∧ z.sign = -1) ∨ (z = 0 ∧ z.sign = 0) ∨ (0 < z ∧ z.sign = 1) := fun z => by
    rcases (show z < 0 ∨ z = 0 ∨ 0 < z by omega) with h | h | h
    · exact .inl ⟨h, Int.sign_eq_neg_one_of_neg h⟩
    · exact .inr (.inl ⟨h, by subst h; rfl⟩)
    · exact .inr (.inr ⟨h, Int.sign_eq_one_of_pos h⟩)
  rcases sg x with ⟨h1, e1⟩ | ⟨h1, e1⟩ | ⟨h1, e1⟩ <;> rcases sg y with ⟨h2, e2⟩ | ⟨h2, e2⟩ | ⟨h2, e2⟩
  · exact wcompare_eq ha hb hx hy e1 e2 rfl rfl (by unfold cmpI; (repeat' split) <;> omega) (by unfold cmpI; (repeat' split) <;> omega) (by unfold cmpI; (repeat' split) <;> omega)
  · exact wcompare_ne ha hb hx hy e1 e2 (by decide) (by unfold cmpI; (repeat' split) <;> omega)
  · exact wcompare_ne ha hb hx hy e1 e2 (by decide) (by unfold cmpI; (repeat' split) <;> omega)
  · exact wcompare_ne ha hb hx hy e1 e2 (by decide) (by unfold cmpI; (repeat' split) <;> omega)
  · exact wcompare_eq ha hb hx hy e1 e2 rfl rfl (by rw [Int.zero_mul]; omega) (by rw [Int.zero_mul]; omega) (by unfold cmpI; (repeat' split) <;> omega)
  · exact wcompare_ne ha hb hx hy e1 e2 (by decide) (by unfold cmpI; (repeat' split) <;> omega)
  · exact wcompare_ne ha hb hx hy e1 e2 (by decide) (by unfold cmpI; (repeat' split) <;> omega)
  · exact wcompare_ne ha hb hx hy e1 e2 (by decide) (by unfold cmpI; (repeat' split) <;> omega)
  · exact wcompare_eq ha hb hx hy e1 e2 rfl rfl (by unfold cmpI; (repeat' split) <;> omega) (by unfold cmpI; (repeat' split) <;> omega) (by unfold cmpI; (repeat' split) <;> omega)
theorem check_nat {v : Value} {n : Nat} {w : World} (h : IsNat w v n) (hm : n < maxN) :
    Calls Tryz.prog 18 #[v] w fun e w' => e = .returned (.int .i64 0) ∧ Below w.heap.size w w' := by
  obtain ⟨ds, hv, hc, hn⟩ := h
  have hl : ds.length ≤ 512 := hc.len_max.2 (by rw [hn]; exact hm)
  have hz : checkOf ds = 0 := by unfold checkOf; rw [if_neg (by omega), if_neg (by rw [hc.2]; omega)]
  have := check_any hv (by omega)
  rw [hz] at this
  exact this
set_option maxRecDepth 100000 in
set_option maxHeartbeats 1000000 in
theorem wcheck_any {va : Value} {x : Int} {w : World} (ha : IsInt w va x) (hx : x.natAbs < maxN) :
    Calls Tryz.prog 17 #[va] w fun e w' => e = .returned (.int .i64 0) ∧ Below w.heap.size w w' := by
  obtain ⟨p, l, K, rfl, hn⟩ := ha
  by_cases h0 : x < 0
  · obtain ⟨t, ht⟩ : ∃ t, nbits x.natAbs = t := ⟨_, rfl⟩
    have htp : 0 < t := by rw [← ht]; exact (nbits_spec (by omega)).1
    have htI : ¬ ((t : Int) = 0) := by omega
    have htN : ¬ (t = 0) := by omega
    rw [negB_pos h0]
    have hbw := (Below.refl w.heap.size w).alloc (Nat.le_refl _) (.cells #[.bool true, .slice p l K] 37)
    have n1 := hn.below hbw (Nat.le_refl _)
    have C := Lib.hid (check_nat n1 hx)
    have C2 := Lib.hid (show ∀ W, Below _ _ W → _ from fun W hB => bits_nat (n1.below (w' := W) hB (Nat.le_refl _)) hx ht)
    have HCell := Lib.hid (Cell2.made w 37 (.bool true) (.slice p l K))
    have hsz : w.heap.size < (w.alloc (.cells #[.bool true, .slice p l K] 37)).heap.size := by simp
    have c1 := HCell.out.c1
    clear hn n1 hx ht h0
    go_enter Tryz.func17, Tryz.ntmps17
    go_wp2_with fail
    refine C.out.mono ?_
    clear C
    rintro e w1 ⟨rfl, hB⟩
    have j := HCell.out.below hB hsz
    have d0 := j.c0
    have d1 := j.c1
    have C := Lib.hid (C2.out w1 hB)
    have hb2 := hbw.trans (hB.mono (by simp))
    clear hB hbw HCell hsz c1 j C2; go_wp2_with fail
    refine C.out.mono ?_
    clear C
    rintro e w2 ⟨rfl, hB⟩
    have hb3 := hb2.trans (hB.mono hb2.size)
    clear hB hb2 d0 d1; go_wp2_with fail
    exact bodyPost_ret (v := .int .i64 0) (by simp [results, Tryz.f17, go_sem]) rfl ⟨rfl, hb3⟩
  · rw [negB_neg h0]
    have hbw := (Below.refl w.heap.size w).alloc (Nat.le_refl _) (.cells #[.bool false, .slice p l K] 37)
    have C := Lib.hid (check_nat (hn.below hbw (Nat.le_refl _)) hx)
    have HCell := Lib.hid (Cell2.made w 37 (.bool false) (.slice p l K))
    have hsz : w.heap.size < (w.alloc (.cells #[.bool false, .slice p l K] 37)).heap.size := by simp
    have c1 := HCell.out.c1
    clear hn hx h0
    go_enter Tryz.func17, Tryz.ntmps17
    go_wp2_with fail
    refine C.out.mono ?_
    clear C
    rintro e w1 ⟨rfl, hB⟩
    have d0 := (HCell.out.below hB hsz).c0
    have hb2 := hbw.trans (hB.mono (by simp))
    clear hB hbw HCell hsz c1; go_wp2_with fail
    exact bodyPost_ret (v := .int .i64 0) (by simp [results, Tryz.f17, go_sem]) rfl ⟨rfl, hb2⟩
theorem At.nums {q : IntKind} {w : World} {p : Option Addr} {K : Nat} {ds : List Nat} (h : At q w p K ds) : Nums q w (.slice p ds.length K) ds := ⟨p, K, rfl, h⟩
set_option maxRecDepth 100000 in
set_option maxHeartbeats 1000000 in
theorem wcheck_raw (b : Bool) (p : Option Addr) (K l : Nat) (ds : List Nat) (w : World) (hat : At .u32 w p K ds) (hd : Dig 4294967296 ds) (hl : ds.length = l) (hl5 : l ≤ 512) :
    Calls Tryz.prog 17 #[.agg #[.bool b, .slice p l K]] w fun e w' => (∃ c : Int, e = .returned (.int .i64 c) ∧ Hid (c = 0 → cut ds = ds ∧ (b = true → ds ≠ []))) ∧ Below w.heap.size w w' := by
  subst hl
  have hn := hat.nums
  obtain ⟨l, hl⟩ : ∃ l, ds.length = l := ⟨_, rfl⟩
  have HD := Lib.hid (And.intro hd (And.intro hl5 hl))
  have HA := Lib.hid hat
  rw [hl] at hn
  rw [hl]
  clear hat
  by_cases hz : checkOf ds = 0
  · have hcut : cut ds = ds := by
      unfold checkOf at hz
      rw [if_neg (by omega)] at hz
      split at hz
      · omega
      · rename_i h2
        have := cut_le ds
        exact cut_full ds (by omega)
    have nn : IsNat w (.slice p l K) (val 4294967296 ds) := ⟨ds, hn, ⟨hd, hcut⟩, rfl⟩
    have hmax : val 4294967296 ds < maxN := Can.len_max ⟨hd, hcut⟩ |>.1 hl5
    have HC := Lib.hid (And.intro hcut hmax)
    clear hn hd hl5 hl hz hcut hmax
    cases b with
    | false =>
      have S := (St.start w).alloc 37 [.bool false, .slice p l K] (w.heap.size)
      try simp only [List.nil_append] at S
      replace nn := nn.hold S.hold
      have c0_0 := S.c 0 0 rfl rfl; have c0_1 := S.c 0 1 rfl rfl
      go_enter Tryz.func17, Tryz.ntmps17
      go_wp2_with fail; clear c0_0 c0_1
      refine (S.call (check_nat nn HC.out.2)).mono ?_
      clear S
      rintro e w1 ⟨rfl, S, H⟩
      replace nn := nn.hold H; clear H; have c0_0 := S.c 0 0 rfl rfl; have c0_1 := S.c 0 1 rfl rfl; go_wp2_with fail
      exact bodyPost_ret (v := .int .i64 0) (by simp [results, Tryz.f17, go_sem]) rfl (⟨⟨0, rfl, fun _ => ⟨HC.out.1, fun h => by cases h⟩⟩, S.below⟩)
    | true =>
      obtain ⟨t, ht⟩ : ∃ t, nbits (val 4294967296 ds) = t := ⟨_, rfl⟩
      have HT := Lib.hid ht
      clear ht
      have S := (St.start w).alloc 37 [.bool true, .slice p l K] (w.heap.size)
      try simp only [List.nil_append] at S
      replace nn := nn.hold S.hold
      have c0_0 := S.c 0 0 rfl rfl; have c0_1 := S.c 0 1 rfl rfl
      go_enter Tryz.func17, Tryz.ntmps17
      go_wp2_with fail; clear c0_0 c0_1
      refine (S.call (check_nat nn HC.out.2)).mono ?_
      clear S
      rintro e w1 ⟨rfl, S, H⟩
      replace nn := nn.hold H; clear H; have c0_0 := S.c 0 0 rfl rfl; have c0_1 := S.c 0 1 rfl rfl; go_wp2_with fail; clear c0_0 c0_1
      refine (S.call (bits_nat nn HC.out.2 HT.out)).mono ?_
      clear S
      rintro e w2 ⟨rfl, S, H⟩
      replace nn := nn.hold H; clear H; have c0_0 := S.c 0 0 rfl rfl; have c0_1 := S.c 0 1 rfl rfl
      by_cases h0 : t = 0
      · subst h0
        go_wp2_with fail
        exact bodyPost_ret (v := .int .i64 2) (by simp [results, Tryz.f17, go_sem]) rfl (⟨⟨2, rfl, fun h => by cases h⟩, S.below⟩)
      · have htI : ¬ ((t : Int) = 0) := by omega
        have HE := Lib.hid (show ds ≠ [] from fun e => h0 (by rw [← HT.out, e]; rfl))
        go_wp2_with fail
        exact bodyPost_ret (v := .int .i64 0) (by simp [results, Tryz.f17, go_sem]) rfl (⟨⟨0, rfl, fun _ => ⟨HC.out.1, fun _ => HE.out⟩⟩, S.below⟩)
  · obtain ⟨c, hc⟩ : ∃ c : Int, ((checkOf ds : Nat) : Int) = c := ⟨_, rfl⟩
    have hc0 : (c != 0) = true := by rw [← hc]; simp; omega
    have hc1 : ¬ c = 0 := by rw [← hc]; omega
    have HC := Lib.hid hc
    have H1 := Lib.hid hc1
    clear hn hd hl5 hl hz hc
    have S := (St.start w).alloc 37 [.bool b, .slice p l K] (w.heap.size)
    try simp only [List.nil_append] at S
    have c0_0 := S.c 0 0 rfl rfl; have c0_1 := S.c 0 1 rfl rfl
    go_enter Tryz.func17, Tryz.ntmps17
    go_wp2_with fail; clear c0_0 c0_1
    refine (S.call ((by have := check_any (w := _) (hv := ((HA.out.below S.below (Nat.le_refl _)).nums)) (by have := HD.out.2.1; omega); rw [HD.out.2.2, HC.out] at this; exact this))).mono ?_
    clear S
    rintro e w1 ⟨rfl, S, H⟩
    clear H; have c0_0 := S.c 0 0 rfl rfl; have c0_1 := S.c 0 1 rfl rfl; go_wp2_with fail
    exact bodyPost_ret (v := .int .i64 c) (by simp [results, Tryz.f17, go_sem]) rfl (⟨⟨c, rfl, fun h => absurd h H1.out⟩, S.below⟩)
set_option maxRecDepth 100000 in
set_option maxHeartbeats 1000000 in
theorem wof_nat (n : Nat) (w : World) (hn : n < 9223372036854775808) :
    Calls Tryz.prog 56 #[.int .i64 n] w fun e w' => (∃ u, e = .returned u ∧ IsInt w' u n) ∧ Below w.heap.size w w' := by
  have hbw := (Below.refl w.heap.size w).alloc (Nat.le_refl _) (.cells #[.bool false, .slice none 0 0] 37)
  have HK := Lib.hid (Cell2.made w 37 (.bool false) (.slice none 0 0))
  have hsz : w.heap.size < (w.alloc (.cells #[.bool false, .slice none 0 0] 37)).heap.size := by simp
  have C := Lib.hid (of_any n (w.alloc (.cells #[.bool false, .slice none 0 0] 37)) (by omega))
  have hneg : ¬ ((n : Int) < 0) := by omega
  have hw : IntKind.u64.wrap (n : Int) = n := by
    rw [show IntKind.u64.wrap (n : Int) = (n : Int) % 18446744073709551616 from rfl]
    omega
  clear hn
  go_enter Tryz.func56, Tryz.ntmps56
  go_wp2_with fail
  refine C.out.mono ?_
  clear C
  rintro e w1 ⟨⟨u, rfl, nu⟩, hB⟩
  obtain ⟨p2, l2, K2, rfl⟩ := nu.form
  have j := HK.out.below hB hsz
  have f0 := j.free 0
  have f1 := j.free 1
  have d0 := j.c0
  have d1 := j.c1
  have HC2 := Lib.hid (j.set2 (.bool false) (.slice p2 l2 K2))
  have hu2 := nu.set2 j (.bool false) (.slice p2 l2 K2)
  have hb3 := ((hbw.trans (hB.mono (by simp))).setCell (p := ⟨w.heap.size, 0, none⟩) (Nat.le_refl _) (.bool false)).setCell (p := ⟨w.heap.size, 1, none⟩) (Nat.le_refl _) (.slice p2 l2 K2)
  have HV := Lib.hid hu2
  clear hu2 nu j hbw hB hsz HK; go_wp2_with fail
  have e0 := HC2.out.c0
  have e1 := HC2.out.c1
  refine bodyPost_ret (v := .agg #[.bool false, .slice p2 l2 K2]) (by simp [results, Tryz.f56, go_sem, e0, e1]) rfl ⟨⟨_, rfl, p2, l2, K2, by rw [negB_neg (by omega)], ?_⟩, hb3⟩
  rw [Int.natAbs_natCast]
  exact HV.out
set_option maxRecDepth 100000 in
set_option maxHeartbeats 1000000 in
theorem wof_neg (n : Nat) (w : World) (h0 : 0 < n) (hn : n ≤ 9223372036854775808) (z : Int) (hz : z = -(n : Int)) :
    Calls Tryz.prog 56 #[.int .i64 z] w fun e w' => (∃ u, e = .returned u ∧ IsInt w' u z) ∧ Below w.heap.size w w' := by
  have hneg : z < 0 := by omega
  have hw : IntKind.u64.wrap (-IntKind.u64.wrap z) = n := by
    rw [show IntKind.u64.wrap z = z % 18446744073709551616 from rfl]
    rw [show IntKind.u64.wrap (-(z % 18446744073709551616)) = (-(z % 18446744073709551616)) % 18446744073709551616 from rfl]
    omega
  have HZ := Lib.hid (show negB z = true ∧ z.natAbs = n from ⟨negB_pos hneg, by omega⟩)
  have HN := Lib.hid hn
  clear hz hn h0
  have S := (St.start w).alloc 37 [.bool false, .slice none 0 0] (w.heap.size)
  try simp only [List.nil_append] at S
  have c0_0 := S.c 0 0 rfl rfl; have c0_1 := S.c 0 1 rfl rfl
  go_enter Tryz.func56, Tryz.ntmps56
  go_wp2_with fail; clear c0_0 c0_1
  refine (S.call (of_any n _ (by have := HN.out; omega))).mono ?_
  clear S
  rintro e w1 ⟨⟨u, rfl, nu⟩, S, H⟩
  clear H; have c0_0 := S.c 0 0 rfl rfl; have c0_1 := S.c 0 1 rfl rfl
  obtain ⟨p, l, K, rfl⟩ := nu.form
  have f0_0 := S.f 0 0 rfl
  have H := S.hset 0 0 (.bool true) rfl rfl (by intro q n e; cases e)
  replace S := S.set 0 0 (.bool true) rfl
  replace nu := nu.hold H; clear H; have f0_1 := S.f 0 1 rfl
  have H := S.hset 0 1 (.slice p l K) rfl rfl (by intro q n e; cases e)
  replace S := S.set 0 1 (.slice p l K) rfl
  replace nu := nu.hold H; clear H; go_wp2_with fail; have d0_0 := S.c 0 0 rfl rfl; have d0_1 := S.c 0 1 rfl rfl
  exact bodyPost_ret (v := .agg #[.bool true, .slice p l K]) (by simp [results, Tryz.f56, go_sem, d0_0, d0_1]) rfl (⟨⟨_, rfl, p, l, K, by rw [HZ.out.1], by rw [HZ.out.2]; exact nu⟩, S.below⟩)
theorem wof_any (z : Int) (w : World) (h0 : -9223372036854775808 ≤ z) (h1 : z ≤ 9223372036854775807) :
    Calls Tryz.prog 56 #[.int .i64 z] w fun e w' => (∃ u, e = .returned u ∧ IsInt w' u z) ∧ Below w.heap.size w w' := by
  by_cases h : z < 0
  · exact wof_neg z.natAbs w (by omega) (by omega) z (by omega)
  · have := wof_nat z.natAbs w (by omega)
    rwa [show ((z.natAbs : Nat) : Int) = z by omega] at this
def blk : Nat := 1000000000000000000
theorem blk_eq : blk = 10 ^ 18 := by decide
theorem blk_max : blk < maxN := lt_maxN (by decide)
theorem of_blk (w : World) : Calls Tryz.prog 28 #[.int .u64 1000000000000000000] w fun e w' => (∃ v, e = .returned v ∧ IsNat w' v blk) ∧ Below w.heap.size w w' := of_any 1000000000000000000 w (by decide)
theorem mul_over' {va vb : Value} {m n : Nat} {w : World} (ha : IsNat w va m) (hb : IsNat w vb n) (hm : m < maxN) (hn : n < maxN) (h : maxN ≤ m * n) :
    Calls Tryz.prog 102 #[va, vb] w fun e w' => e = .returned (.tuple #[.slice none 0 0, .int .i64 11]) ∧ Below w.heap.size w w' :=
  (mul_any ha hb hm hn).mono fun e w' ⟨⟨v, c, he, hf⟩, hB⟩ => by
    obtain ⟨rfl, rfl⟩ := hf.2 h
    exact ⟨he, hB⟩
theorem add_over' {va vb : Value} {m n : Nat} {w : World} (ha : IsNat w va m) (hb : IsNat w vb n) (hm : m < maxN) (hn : n < maxN) (h : maxN ≤ m + n) :
    Calls Tryz.prog 104 #[va, vb] w fun e w' => e = .returned (.tuple #[.slice none 0 0, .int .i64 11]) ∧ Below w.heap.size w w' :=
  (add_any ha hb hm hn).mono fun e w' ⟨⟨v, c, he, hf⟩, hB⟩ => by
    obtain ⟨rfl, rfl⟩ := hf.2 h
    exact ⟨he, hB⟩
set_option maxRecDepth 100000 in
set_option maxHeartbeats 1000000 in
theorem behind_fit {va : Value} {m : Nat} {w : World} (ha : IsNat w va m) (b : Nat) (hb : b < 18446744073709551616) (h : m * blk + b < maxN) :
    Calls Tryz.prog 94 #[va, .int .u64 b] w fun e w' => (∃ v, e = .returned (.tuple #[v, .int .i64 0]) ∧ IsNat w' v (m * blk + b)) ∧ Below w.heap.size w w' := by
  have h1 : m * blk < maxN := by omega
  have h2 : m < maxN := Nat.lt_of_le_of_lt (Nat.le_mul_of_pos_right m (by decide)) h1
  have H := Lib.hid (And.intro h (And.intro h1 (And.intro h2 hb)))
  have C1 := Lib.hid (of_blk w)
  clear h h1 h2 hb
  go_enter Tryz.func94, Tryz.ntmps94
  go_wp2_with fail
  refine C1.out.mono ?_
  clear C1
  rintro e w1 ⟨⟨v1, rfl, n1⟩, hB1⟩
  have ha := ha.below hB1 (Nat.le_refl _)
  have C := Lib.hid (mul_fit ha n1 H.out.2.2.1 blk_max H.out.2.1)
  go_wp2_with fail
  refine C.out.mono ?_
  clear C
  rintro e w2 ⟨⟨v2, rfl, n2⟩, hB2⟩
  have hb2 := hB1.trans (hB2.mono hB1.size)
  have C := Lib.hid (fun W => of_any b W H.out.2.2.2)
  clear hB1 hB2 ha n1; go_wp2_with fail
  refine (C.out _).mono ?_
  clear C
  rintro e w3 ⟨⟨v3, rfl, n3⟩, hB3⟩
  have n2 := n2.below hB3 (Nat.le_refl _)
  have hb3 := hb2.trans (hB3.mono hb2.size)
  have C := Lib.hid (add_fit n2 n3 H.out.1)
  clear hb2 hB3; go_wp2_with fail
  refine C.out.mono ?_
  clear C
  rintro e w4 ⟨⟨v4, rfl, n4⟩, hB4⟩
  go_wp2
  go_ret2
  exact ⟨⟨_, rfl, n4⟩, hb3.trans (hB4.mono hb3.size)⟩
set_option maxRecDepth 100000 in
set_option maxHeartbeats 1000000 in
theorem behind_over {va : Value} {m : Nat} {w : World} (ha : IsNat w va m) (hm : m < maxN) (b : Nat) (hb : b < 18446744073709551616) (h : maxN ≤ m * blk + b) :
    Calls Tryz.prog 94 #[va, .int .u64 b] w fun e w' => e = .returned (.tuple #[.slice none 0 0, .int .i64 11]) ∧ Below w.heap.size w w' := by
  have H := Lib.hid (And.intro h (And.intro hm hb))
  have C1 := Lib.hid (of_blk w)
  by_cases h1 : m * blk < maxN
  · have H1 := Lib.hid h1
    clear h hm hb h1
    go_enter Tryz.func94, Tryz.ntmps94
    go_wp2_with fail
    refine C1.out.mono ?_
    clear C1
    rintro e w1 ⟨⟨v1, rfl, n1⟩, hB1⟩
    have ha := ha.below hB1 (Nat.le_refl _)
    have C := Lib.hid (mul_fit ha n1 H.out.2.1 blk_max H1.out)
    go_wp2_with fail
    refine C.out.mono ?_
    clear C
    rintro e w2 ⟨⟨v2, rfl, n2⟩, hB2⟩
    have hb2 := hB1.trans (hB2.mono hB1.size)
    have C := Lib.hid (fun W => of_any b W H.out.2.2)
    clear hB1 hB2 ha n1; go_wp2_with fail
    refine (C.out _).mono ?_
    clear C
    rintro e w3 ⟨⟨v3, rfl, n3⟩, hB3⟩
    have n2 := n2.below hB3 (Nat.le_refl _)
    have hb3 := hb2.trans (hB3.mono hb2.size)
    have hbm : b < maxN := lt_maxN (by have := H.out.2.2; omega)
    have C := Lib.hid (add_over' n2 n3 H1.out hbm H.out.1)
    clear hb2 hB3 hbm; go_wp2_with fail
    refine C.out.mono ?_
    clear C
    rintro e w4 ⟨rfl, hB4⟩
    go_wp2
    go_ret2
    exact ⟨rfl, hb3.trans (hB4.mono hb3.size)⟩
  · have H1 := Lib.hid (Nat.le_of_not_lt h1)
    clear h hm hb h1
    go_enter Tryz.func94, Tryz.ntmps94
    go_wp2_with fail
    refine C1.out.mono ?_
    clear C1
    rintro e w1 ⟨⟨v1, rfl, n1⟩, hB1⟩
    have ha := ha.below hB1 (Nat.le_refl _)
    have C := Lib.hid (mul_over' ha n1 H.out.2.1 blk_max H1.out)
    go_wp2_with fail
    refine C.out.mono ?_
    clear C
    rintro e w2 ⟨rfl, hB2⟩
    go_wp2
    go_ret2
    exact ⟨rfl, hB1.trans (hB2.mono hB1.size)⟩
end Go.Proofs.YtcfgefbkeeedgaaGreat
