/-
  limbs.divideLong: by a number of several digits.
-/
import Derived.Test.YtphhaaofkckobaaLplain
import Derived.Test.YtphhaaofkckobaaShr
import Derived.Test.YtphhaaofkckobaaShl
import Derived.IntWalk
namespace Go.Proofs.Ytphhaaofkckobaa
open Go.RowKit
attribute [local go_sem] Oper.semAt_some

set_option maxRecDepth 100000 in
set_option maxHeartbeats 4000000 in
theorem long_any (nn : Nat) : LongAns nn := by
  intro hbig p1 p2 K1 K2 ds es w at1 at2 hc1 hc2 h2 hv hle hl1 hl2
  subst hv
  obtain ⟨m, hm⟩ : ∃ m, es.length = m + 2 := ⟨es.length - 2, by omega⟩
  have hlen : es.length ≤ ds.length := by
    rcases Nat.lt_or_ge ds.length es.length with h | h
    · have := hc1.lt_of_len (by decide) hc2 h; omega
    · exact h
  have hpl1 := at1.block
  have hpl2 := at2.block
  obtain ⟨b2, o2, rfl, hk2, hb2, hy2⟩ := at2.pos (by omega)
  obtain ⟨n, hn⟩ : ∃ n, 32 - Lib.bitLen (dg es (m + 1)) = n := ⟨_, rfl⟩
  obtain ⟨f1, f2, f3, f4⟩ := norm_facts es (m + 1) n hm hc2 hn.symm
  have hy1 := hy2 (m + 1) (by omega)
  have hd1 := hc2.1.dg (by decide) (m + 1)
  have C52 : ∀ W, Calls Try.prog 67 #[.int .u32 (dg es (m + 1))] W fun e w' => e = .returned (.int .i64 n) ∧ W = w' := fun W => by
    have := lead32 (dg es (m + 1)) W hd1
    rwa [hn] at this
  have C52 := Lib.hid C52
  have HF := Lib.hid (And.intro f2 (And.intro f3 f4))
  have HD := Lib.hid (And.intro hc1 (And.intro hc2 (And.intro hbig hle)))
  have HM := Lib.hid hm
  have hmI : (((es.length : Nat) : Int) - 1).toNat = m + 1 := by omega
  have hmI2 : (1 : Int) ≤ ((es.length : Nat) : Int) := by omega
  have hmI3 : ((es.length : Nat) : Int) - 1 = ((m + 1 : Nat) : Int) := by omega
  have hmI4 : m + 1 < es.length := by omega
  clear hn f2 f3 f4 hc1 hc2 hbig hle hm hy2
  refine calls_marks Try.func52 rfl ?_
  simp only [Try.ntmps52, List.size_toArray, List.length_cons, List.length_nil, Nat.reduceAdd, Nat.reduceSub, Array.replicate_succ, Array.replicate_zero, List.push_toArray, List.append_toArray, List.nil_append, List.cons_append]
  go_wp2_with fail
  refine (C52.out _).mono ?_
  rintro e w1 ⟨rfl, rfl⟩
  clear hmI hmI2 hmI3 hmI4 hy1 C52 hd1
  have HPL := Lib.hid hpl1
  have HP2 := Lib.hid hpl2
  clear hpl1 hpl2
  go_upto_region 3 with (at_make; refine make_nat rfl _ _ rfl _ _ (es.length + 1) rfl rfl ?e1 ?e2 ?e3 w.heap.size _ (Below.refl _ _) ?e4 (fun w2 hr2 hB2 hB2' => ?_))
  case e1 => omega
  case e2 => omega
  case e3 => omega
  case e4 => simp
  obtain ⟨h, hh⟩ : ∃ h, w.heap.size = h := ⟨_, rfl⟩
  have hs1 : (w.alloc (.cells #[.slice none 0 0] 23)).heap.size = h + 1 := by simp [hh]
  rw [hs1] at hr2 hB2'
  rw [hh] at hB2 ⊢
  have k0 : (w.alloc (.cells #[.slice none 0 0] 23)).cell? ⟨h, 0, none⟩ = some (.slice none 0 0) := by rw [← hh]; simp [go_sem]
  have g0 : (w.alloc (.cells #[.slice none 0 0] 23)).frozen? ⟨h, 0, none⟩ = false := by rw [← hh]; simp [go_sem]
  replace k0 := (hB2'.cell (p := ⟨h, 0, none⟩) (Nat.lt_succ_self h)).trans k0
  replace g0 := (hB2'.frozen (p := ⟨h, 0, none⟩) (Nat.lt_succ_self h)).trans g0
  have hBw : Below h w w2 := ((Below.refl h w).alloc (by omega) _).trans hB2
  clear hB2 hB2' hs1
  obtain ⟨s2, hs2⟩ : ∃ s2, w2.heap.size = s2 := ⟨_, rfl⟩
  have hl2 : h + 1 < s2 := by have := hr2.lt; omega
  rw [hs2]
  have HA3 := (Below.refl s2 w2).alloc (by omega) (.cells #[.slice (some ⟨h + 1, 0, none⟩) (es.length + 1) (es.length + 1)] 23)
  have kb : (w2.alloc (.cells #[.slice (some ⟨h + 1, 0, none⟩) (es.length + 1) (es.length + 1)] 23)).cell? ⟨s2, 0, none⟩ = some (.slice (some ⟨h + 1, 0, none⟩) (es.length + 1) (es.length + 1)) := by rw [← hs2]; simp [go_sem]
  have gb : (w2.alloc (.cells #[.slice (some ⟨h + 1, 0, none⟩) (es.length + 1) (es.length + 1)] 23)).frozen? ⟨s2, 0, none⟩ = false := by rw [← hs2]; simp [go_sem]
  have hs3 : (w2.alloc (.cells #[.slice (some ⟨h + 1, 0, none⟩) (es.length + 1) (es.length + 1)] 23)).heap.size = s2 + 1 := by simp [hs2]
  generalize w2.alloc (.cells #[.slice (some ⟨h + 1, 0, none⟩) (es.length + 1) (es.length + 1)] 23) = w3 at *
  replace k0 := (HA3.cell (p := ⟨h, 0, none⟩) (by show h < s2; omega)).trans k0
  replace g0 := (HA3.frozen (p := ⟨h, 0, none⟩) (by show h < s2; omega)).trans g0
  have hr3 := hr2.below HA3 hl2
  replace hBw := hBw.trans (HA3.mono (by omega))
  have HA1 := Lib.hid at1; have HA2 := Lib.hid at2
  have HH := Lib.hid hh
  have at2' := at2.below hBw (by omega)
  clear at1 at2
  clear hr2 HA3 hs2 hh w2
  have C := Lib.hid (shl_any (h + 1) 0 (es.length + 1) n K2 (es.length + 1) (some ⟨b2, o2, none⟩) es w3 (by rw [Nat.zero_add]; exact hr3) HD.out.2.1.1 f1 (by omega) rfl at2' (fun a ha => by have := HP2.out a ha; have := HH.out; omega))
  go_wp2_with fail
  refine C.out.mono ?_
  clear C
  rintro e w4 ⟨⟨v4, rfl⟩, cs, hcl, hcd, hcv, hr4, hO4⟩
  clear hr3 at2'
  rw [Nat.zero_add] at hcl
  simp only [Nat.pow_zero, Nat.one_mul] at hcv
  have hs4 := hO4.size
  replace k0 := (hO4.cell (a := ⟨h, 0, none⟩) (by show h < _; omega) (by show h ≠ h + 1; omega)).trans k0
  replace g0 := (World.frozen?_of_block (a := ⟨h, 0, none⟩) (hO4.block h (by omega) (by omega))).trans g0
  replace kb := (hO4.cell (a := ⟨s2, 0, none⟩) (by show s2 < _; omega) (by show s2 ≠ h + 1; omega)).trans kb
  replace gb := (World.frozen?_of_block (a := ⟨s2, 0, none⟩) (hO4.block s2 (by omega) (by omega))).trans gb
  replace hBw := hO4.below hBw (by omega) (by omega)
  have hs24 : s2 < w4.heap.size := by omega
  have HCS := Lib.hid (And.intro hcl (And.intro hcd hcv))
  clear hO4 hs4 hs3 w3 hcl hcd hcv
  go_upto_region 5 with fail
  have kb5 : (w4.setCell ⟨s2, 0, none⟩ (.slice (some ⟨h + 1, 0, none⟩) es.length (es.length + 1))).cell? ⟨s2, 0, none⟩ = some (.slice (some ⟨h + 1, 0, none⟩) es.length (es.length + 1)) := World.cell?_setCell_same' _ _ _ (by rw [kb]; rfl)
  have gb5 : (w4.setCell ⟨s2, 0, none⟩ (.slice (some ⟨h + 1, 0, none⟩) es.length (es.length + 1))).frozen? ⟨s2, 0, none⟩ = false := by rw [World.frozen?_setCell]; exact gb
  have k05 := (World.cell?_setCell_other w4 ⟨s2, 0, none⟩ ⟨h, 0, none⟩ (.slice (some ⟨h + 1, 0, none⟩) es.length (es.length + 1)) (by intro e; have := congrArg Addr.block e; simp at this; omega)).trans k0
  have g05 : (w4.setCell ⟨s2, 0, none⟩ (.slice (some ⟨h + 1, 0, none⟩) es.length (es.length + 1))).frozen? ⟨h, 0, none⟩ = false := by rw [World.frozen?_setCell]; exact g0
  have hr5 := hr4.other (show h + 1 ≠ s2 by omega) 0 (.slice (some ⟨h + 1, 0, none⟩) es.length (es.length + 1))
  have hB5 := hBw.setCell (p := ⟨s2, 0, none⟩) (show h ≤ s2 by omega) (.slice (some ⟨h + 1, 0, none⟩) es.length (es.length + 1))
  have hz5 : (w4.setCell ⟨s2, 0, none⟩ (.slice (some ⟨h + 1, 0, none⟩) es.length (es.length + 1))).heap.size = w4.heap.size := by simp
  clear kb gb k0 g0 hr4 hBw
  obtain ⟨w5, hw5⟩ : ∃ w5, w4.setCell ⟨s2, 0, none⟩ (.slice (some ⟨h + 1, 0, none⟩) es.length (es.length + 1)) = w5 := ⟨_, rfl⟩
  rw [hw5] at kb5 gb5 k05 g05 hr5 hB5 hz5 ⊢
  rw [← hz5] at hs24
  clear hw5 hz5
  obtain ⟨R, hR⟩ : ∃ R, w5.heap.size = R := ⟨_, rfl⟩
  go_upto_region 6 with (at_make; refine make_nat rfl _ _ rfl _ _ (ds.length + 1) rfl rfl ?e5 ?e6 ?e7 R w5 (Below.refl _ _) ?e8 (fun w6 hr6 hB6 hB6' => ?_))
  case e5 => omega
  case e6 => omega
  case e7 => omega
  case e8 => omega
  rw [hR] at hr6 hs24
  clear hB6'
  obtain ⟨R2, hR2⟩ : ∃ R2, w6.heap.size = R2 := ⟨_, rfl⟩
  have hRR : R < R2 := by have := hr6.lt; omega
  rw [hR2]
  have HA7 := (Below.refl R2 w6).alloc (by omega) (.cells #[.slice (some ⟨R, 0, none⟩) (ds.length + 1) (ds.length + 1)] 23)
  have kr : (w6.alloc (.cells #[.slice (some ⟨R, 0, none⟩) (ds.length + 1) (ds.length + 1)] 23)).cell? ⟨R2, 0, none⟩ = some (.slice (some ⟨R, 0, none⟩) (ds.length + 1) (ds.length + 1)) := by rw [← hR2]; simp [go_sem]
  have hs7 : (w6.alloc (.cells #[.slice (some ⟨R, 0, none⟩) (ds.length + 1) (ds.length + 1)] 23)).heap.size = R2 + 1 := by simp [hR2]
  generalize w6.alloc (.cells #[.slice (some ⟨R, 0, none⟩) (ds.length + 1) (ds.length + 1)] 23) = w7 at *
  have HX7 := hB6.trans (HA7.mono (by omega))
  have hr7 := hr6.below HA7 hRR
  replace k05 := (HX7.cell (p := ⟨h, 0, none⟩) (by show h < R; omega)).trans k05
  replace g05 := (HX7.frozen (p := ⟨h, 0, none⟩) (by show h < R; omega)).trans g05
  replace kb5 := (HX7.cell (p := ⟨s2, 0, none⟩) (by show s2 < R; omega)).trans kb5
  replace hr5 := hr5.below HX7 (by omega)
  replace hB5 := hB5.trans (HX7.mono (by omega))
  have at1' := HA1.out.below hB5 (by rw [HH.out]; exact Nat.le_refl _)
  clear gb5 hr6 HA7 HX7 hB6 hR2 w6 hR w5 w4
  have C := Lib.hid (shl_any R 0 (ds.length + 1) n K1 (ds.length + 1) p1 ds w7 (by rw [Nat.zero_add]; exact hr7) HD.out.1.1 f1 (by omega) rfl at1' (fun a ha => by have := HPL.out a ha; have := HH.out; omega))
  go_wp2_with fail
  refine C.out.mono ?_
  clear C
  rintro e w8 ⟨⟨v8, rfl⟩, xs, hxl, hxd, hxv, hr8, hO8⟩
  clear hr7 at1'
  rw [Nat.zero_add] at hxl
  simp only [Nat.pow_zero, Nat.one_mul] at hxv
  have hs8 := hO8.size
  replace k05 := (hO8.cell (a := ⟨h, 0, none⟩) (by show h < _; omega) (by show h ≠ R; omega)).trans k05
  replace g05 := (World.frozen?_of_block (a := ⟨h, 0, none⟩) (hO8.block h (by omega) (by omega))).trans g05
  replace kb5 := (hO8.cell (a := ⟨s2, 0, none⟩) (by show s2 < _; omega) (by show s2 ≠ R; omega)).trans kb5
  replace kr := (hO8.cell (a := ⟨R2, 0, none⟩) (by show R2 < _; omega) (by show R2 ≠ R; omega)).trans kr
  replace hr5 := hr5.keep (hO8.block (h + 1) (by omega) (by omega))
  replace hB5 := hO8.below hB5 (by omega) (by omega)
  have HXS := Lib.hid (And.intro hxl (And.intro hxd hxv))
  have hR28 : R2 < w8.heap.size := by omega
  clear hO8 hs8 hs7 w7 hxl hxd hxv
  obtain ⟨N, hN⟩ : ∃ N, ds.length + 1 = N + es.length := ⟨ds.length + 1 - es.length, by omega⟩
  have hNI : ((ds.length : Nat) : Int) - ((es.length : Nat) : Int) + 1 = (N : Int) := by omega
  have HNI := Lib.hid hNI
  obtain ⟨Q, hQ⟩ : ∃ Q, w8.heap.size = Q := ⟨_, rfl⟩
  have HN := Lib.hid hN
  have hNl : N ≤ 513 := by omega
  clear hNI hN
  have hhQ : h < w8.heap.size := by omega
  go_upto_region 8 with (at_make; refine make_nat rfl _ _ rfl _ _ N rfl rfl HNI.out HNI.out (by omega) w8.heap.size w8 (Below.refl _ _) (Nat.le_refl _) ?_; intro w9 hr9 hB9 hB9'; have k06 := (hB9.cell (p := ⟨h, 0, none⟩) hhQ).trans k05; have g06 := (hB9.frozen (p := ⟨h, 0, none⟩) hhQ).trans g05)
  rw [hQ] at hr9 hR28 hB9
  clear hB9' k05 g05 hhQ
  have k05 := k06; have g05 := g06
  clear k06 g06
  have hQ9 := hr9.lt
  replace kb5 := (hB9.cell (p := ⟨s2, 0, none⟩) (by show s2 < Q; omega)).trans kb5
  replace kr := (hB9.cell (p := ⟨R2, 0, none⟩) (by show R2 < Q; omega)).trans kr
  replace hr5 := hr5.below hB9 (by omega)
  replace hr8 := hr8.below hB9 (by omega)
  replace hB5 := hB5.trans (hB9.mono (by omega))
  have k0 : (w9.setCell ⟨h, 0, none⟩ (.slice (some ⟨Q, 0, none⟩) N N)).cell? ⟨h, 0, none⟩ = some (.slice (some ⟨Q, 0, none⟩) N N) := World.cell?_setCell_same' _ _ _ (by rw [k05]; rfl)
  have g0 : (w9.setCell ⟨h, 0, none⟩ (.slice (some ⟨Q, 0, none⟩) N N)).frozen? ⟨h, 0, none⟩ = false := by rw [World.frozen?_setCell]; exact g05
  have kb := (World.cell?_setCell_other w9 ⟨h, 0, none⟩ ⟨s2, 0, none⟩ (.slice (some ⟨Q, 0, none⟩) N N) (by intro e; have := congrArg Addr.block e; simp at this; omega)).trans kb5
  have kr := (World.cell?_setCell_other w9 ⟨h, 0, none⟩ ⟨R2, 0, none⟩ (.slice (some ⟨Q, 0, none⟩) N N) (by intro e; have := congrArg Addr.block e; simp at this; omega)).trans kr
  have hrb := hr5.other (show h + 1 ≠ h by omega) 0 (.slice (some ⟨Q, 0, none⟩) N N)
  have hrr := hr8.other (show R ≠ h by omega) 0 (.slice (some ⟨Q, 0, none⟩) N N)
  have hrq := hr9.other (show Q ≠ h by omega) 0 (.slice (some ⟨Q, 0, none⟩) N N)
  have hB := hB5.setCell (p := ⟨h, 0, none⟩) (Nat.le_refl h) (.slice (some ⟨Q, 0, none⟩) N N)
  obtain ⟨w10, hw10⟩ : ∃ w10, w9.setCell ⟨h, 0, none⟩ (.slice (some ⟨Q, 0, none⟩) N N) = w10 := ⟨_, rfl⟩
  rw [hw10] at k0 g0 kb kr hrb hrr hrq hB ⊢
  clear hw10 k05 g05 kb5 hr5 hr8 hr9 hB5 hB9 hQ9 hQ
  go_wp2_with (go_at_call 54; refine (down_any _ _ _ _).mono ?_; rintro e w' ⟨rfl, rfl⟩)
  obtain ⟨D1, hD1⟩ : ∃ D1, w10.heap.size = D1 := ⟨_, rfl⟩
  have hQD : Q < D1 := by have := hrq.lt; omega
  have kd : (w10.alloc (.cells #[.slice (some ⟨Q, 0, none⟩) N N] 23)).cell? ⟨D1, 0, none⟩ = some (.slice (some ⟨Q, 0, none⟩) N N) := by rw [← hD1]; simp [go_sem]
  have hs11 : (w10.alloc (.cells #[.slice (some ⟨Q, 0, none⟩) N N] 23)).heap.size = D1 + 1 := by simp [hD1]
  have HA11 := (Below.refl D1 w10).alloc (by omega) (.cells #[.slice (some ⟨Q, 0, none⟩) N N] 23)
  rw [hD1]
  generalize w10.alloc (.cells #[.slice (some ⟨Q, 0, none⟩) N N] 23) = w11 at *
  replace k0 := (HA11.cell (p := ⟨h, 0, none⟩) (by show h < D1; omega)).trans k0
  replace g0 := (HA11.frozen (p := ⟨h, 0, none⟩) (by show h < D1; omega)).trans g0
  replace kb := (HA11.cell (p := ⟨s2, 0, none⟩) (by show s2 < D1; omega)).trans kb
  replace kr := (HA11.cell (p := ⟨R2, 0, none⟩) (by show R2 < D1; omega)).trans kr
  replace hrb := hrb.below HA11 (by omega)
  replace hrr := hrr.below HA11 (by omega)
  replace hrq := hrq.below HA11 hQD
  replace hB := hB.trans (HA11.mono (by omega))
  clear HA11 hD1
  -- what is kept
  obtain ⟨Y, hY⟩ : ∃ Y, val 4294967296 (cs.take es.length) = Y := ⟨_, rfl⟩
  have hYv : Y = 2 ^ n * val 4294967296 es := by
    rw [← hY, top_zero HCS.out.1 (by rw [HCS.out.2.2, HM.out]; exact HF.out.2.1), HCS.out.2.2]
  have hYl : Y < 4294967296 ^ es.length := by rw [hYv, HM.out]; exact HF.out.2.1
  have hY0 : 0 < Y := by
    have h1 := HF.out.1
    have h2 := Nat.pow_pos (n := m + 1) (show 0 < 4294967296 by decide)
    omega
  have hStart : LongInv xs xs (List.replicate N 0) N N Y := LongInv.start (lb := es.length) (la := ds.length) (n := n) (A := val 4294967296 ds) (b := val 4294967296 es) HXS.out.2.1 (by rw [HXS.out.1]; exact HN.out.symm) HXS.out.1 HXS.out.2.2 (val_lt HD.out.1.1) hYv (by omega) (by
    rw [show es.length - 1 = m + 1 by have := HM.out; omega]; exact HF.out.2.2)
  have HY := Lib.hid (And.intro hY (And.intro hYv (And.intro hYl hY0)))
  clear hY hYv hYl hY0
  refine rangePlain (gf := 70) (lb := #[.pointer (some ⟨D1, 0, none⟩)]) rfl (enters_of Try.func70 (by kernel_rfl) rfl) N (fun k => #[.int .i64 ((N - 1 - k : Nat) : Int), .int .u32 0]) (fun _ => rfl)
    (fun k W => Turns (fun b => b = R ∨ b = Q) w11 W ∧ ∃ rs qs, LongInv xs rs qs (N - k) N Y ∧ Hid (∀ j, j < N - k → dg qs j = 0) ∧ Row .u32 36 W R rs ∧ Row .u32 36 W Q qs)
    (fun _ _ _ => False)
    (fun s W W' row hs' hg hr => by
      obtain ⟨h1, rs, qs, h2, h3, h4, h5⟩ := hs'
      exact ⟨h1.grown hg (fun r e => (hr r e).1), rs, qs, h2, h3, h4.grown hg (fun r e => (hr r e).2), h5.grown hg (fun r e => (hr r e).2)⟩)
    (fun _ _ _ _ _ hs _ _ => hs)
    ⟨Turns.refl _ _, xs, List.replicate N 0, by rw [Nat.sub_zero]; exact hStart, fun j _ => dg_zeros N j, hrr, hrq⟩
    (down1_is 2 D1 Q 0 N N (fun _ => 0) (by omega) _ fun k W hi => ?own)
    ?round ?done ?stop
  case own =>
    obtain ⟨hT, rs, qs, hI, hz, hR, hQr⟩ := hi
    refine ⟨(hT.cell (a := ⟨D1, 0, none⟩) (by show D1 < _; omega) (by show ¬ (D1 = R ∨ D1 = Q); omega)).trans kd, fun hk => ?_⟩
    have h1 := hQr.cell (j := N - 1 - k) (by rw [hI.ql]; omega)
    rw [hz.out _ (by omega)] at h1
    rw [Nat.zero_add]
    exact h1
  case round =>
    rintro l k W Wb hk ⟨hT, rs, qs, hI, hz, hR, hQr⟩
    obtain ⟨i, hi, hi'⟩ : ∃ i, N - 1 - k = i ∧ i < N := ⟨_, rfl, by omega⟩
    have hk1 : N - k = i + 1 := by omega
    have hk2 : N - (k + 1) = i := by omega
    rw [hi]
    rw [hk1] at hI hz
    have s0 := (hT.cell (a := ⟨h, 0, none⟩) (by show h < _; omega) (by show ¬ (h = R ∨ h = Q); omega)).trans k0
    have s1 := (hT.cell (a := ⟨s2, 0, none⟩) (by show s2 < _; omega) (by show ¬ (s2 = R ∨ s2 = Q); omega)).trans kb
    have s3 := (hT.cell (a := ⟨R2, 0, none⟩) (by show R2 < _; omega) (by show ¬ (R2 = R ∨ R2 = Q); omega)).trans kr
    have hrbW := hrb.keep (hT.block (h + 1) (by omega) (by show ¬ (h + 1 = R ∨ h + 1 = Q); omega))
    have hmix : (Try.prog).follows .mixedOrders = true := by kernel_rfl
    have HI := Lib.hid hI; have HZ := Lib.hid hz; have HT := Lib.hid hT; have HR := Lib.hid hR; have HQ := Lib.hid hQr; have HRB := Lib.hid hrbW
    have HK2 := Lib.hid hk2
    have HIN := Lib.hid hi'
    have HS11 := Lib.hid hs11
    have hiN : (i : Int) < (N : Int) := by omega
    have hi513 : i ≤ 512 := by omega
    have hfit : Hid (i + es.length + 1 ≤ ds.length + 1) := by show _ ≤ _; have := HN.out; omega
    clear hI hz hT hR hQr hrbW hk1 hk2 hi hi' hk k0 g0 kb kr kd hrb hrr hrq hB hStart hs11
    gi_wp2
    refine ⟨trivial, ?_⟩
    gi_wp2
    have e1 : IntKind.i64.wrap ((i : Int) + ((es.length : Nat) : Int)) = (i : Int) + ((es.length : Nat) : Int) := IntWalk.i64_in _ (by omega)
    have e2 : IntKind.i64.wrap ((i : Int) + ((es.length : Nat) : Int) + 1) = (i : Int) + ((es.length : Nat) : Int) + 1 := IntWalk.i64_in _ (by omega)
    have e3 : (0 : Int) ≤ (i : Int) + ((es.length : Nat) : Int) + 1 := by omega
    have e4 : ((i : Int) + ((es.length : Nat) : Int) + 1).toNat = i + es.length + 1 := by omega
    have e5 : (i : Int) ≤ (i : Int) + ((es.length : Nat) : Int) + 1 := by omega
    have e6 : (i : Int) + ((es.length : Nat) : Int) + 1 ≤ ((ds.length : Nat) : Int) + 1 := by have := hfit.out; omega
    have e7 : i + es.length + 1 - i = es.length + 1 := by omega
    have e8 : i ≤ i + es.length + 1 := by omega
    have e9 : i + es.length ≤ ds.length := by have := hfit.out; omega
    have e10 : ¬ ds.length + 1 = i := by have := hfit.out; omega
    refine round_held (fun W => W.cell? ⟨h, 0, none⟩ = some (.slice (some ⟨Q, 0, none⟩) N N) ∧ W.cell? ⟨s2, 0, none⟩ = some (.slice (some ⟨h + 1, 0, none⟩) es.length (es.length + 1)) ∧ W.cell? ⟨R2, 0, none⟩ = some (.slice (some ⟨R, 0, none⟩) (ds.length + 1) (ds.length + 1))) hmix (by kernel_rfl) (fun _ _ h => h) ⟨s0, s1, s3⟩ (fun hS => ?_)
    refine wpAnyH_take (i := 0) (v := .slice (some ⟨Q, 0, none⟩) N N) ((List.getElem?_toArray ..).trans rfl) (by kernel_rfl) (by kernel_rfl) (by kernel_rfl) (fun _ _ _ h => h) (Or.inl ⟨rfl, fun W hW => ?_⟩) hS ?_
    · obtain ⟨hW0, hW1, hW2⟩ := hW
      go_simp
    try simp only [Act.put, List.setIfInBounds_toArray, List.set_cons_zero, List.set_cons_succ]
    refine wpAnyH_take (i := 1) (v := .int .i64 i) ((List.getElem?_toArray ..).trans rfl) (by kernel_rfl) (by kernel_rfl) (by kernel_rfl) (fun _ _ _ h => h) (Or.inl ⟨rfl, fun W hW => ?_⟩) hS ?_
    · go_simp
    try simp only [Act.put, List.setIfInBounds_toArray, List.set_cons_zero, List.set_cons_succ]
    refine wpAnyH_take (i := 2) (v := .slice (some ⟨R, 0, none⟩) (ds.length + 1) (ds.length + 1)) ((List.getElem?_toArray ..).trans rfl) (by kernel_rfl) (by kernel_rfl) (by kernel_rfl) (fun _ _ _ h => h) (Or.inl ⟨rfl, fun W hW => ?_⟩) hS ?_
    · obtain ⟨hW0, hW1, hW2⟩ := hW
      go_simp
    try simp only [Act.put, List.setIfInBounds_toArray, List.set_cons_zero, List.set_cons_succ]
    refine wpAnyH_take (i := 3) (v := .int .i64 i) ((List.getElem?_toArray ..).trans rfl) (by kernel_rfl) (by kernel_rfl) (by kernel_rfl) (fun _ _ _ h => h) (Or.inl ⟨rfl, fun W hW => ?_⟩) hS ?_
    · go_simp
    try simp only [Act.put, List.setIfInBounds_toArray, List.set_cons_zero, List.set_cons_succ]
    refine wpAnyH_take (i := 4) (v := .int .i64 i) ((List.getElem?_toArray ..).trans rfl) (by kernel_rfl) (by kernel_rfl) (by kernel_rfl) (fun _ _ _ h => h) (Or.inl ⟨rfl, fun W hW => ?_⟩) hS ?_
    · go_simp
    try simp only [Act.put, List.setIfInBounds_toArray, List.set_cons_zero, List.set_cons_succ]
    refine wpAnyH_take (i := 5) (v := .slice (some ⟨h + 1, 0, none⟩) es.length (es.length + 1)) ((List.getElem?_toArray ..).trans rfl) (by kernel_rfl) (by kernel_rfl) (by kernel_rfl) (fun _ _ _ h => h) (Or.inl ⟨rfl, fun W hW => ?_⟩) hS ?_
    · obtain ⟨hW0, hW1, hW2⟩ := hW
      go_simp
    try simp only [Act.put, List.setIfInBounds_toArray, List.set_cons_zero, List.set_cons_succ]
    refine wpAnyH_take (i := 6) (v := .int .i64 ((es.length : Nat) : Int)) ((List.getElem?_toArray ..).trans rfl) (by kernel_rfl) (by kernel_rfl) (by kernel_rfl) (fun _ _ _ h => h) (Or.inl ⟨rfl, fun W hW => ?_⟩) hS ?_
    · go_simp
    try simp only [Act.put, List.setIfInBounds_toArray, List.set_cons_zero, List.set_cons_succ]
    refine wpAnyH_take (i := 7) (v := .int .i64 ((i : Int) + ((es.length : Nat) : Int))) ((List.getElem?_toArray ..).trans rfl) (by kernel_rfl) (by kernel_rfl) (by kernel_rfl) (fun _ _ _ h => h) (Or.inl ⟨rfl, fun W hW => ?_⟩) hS ?_
    · go_simp
    try simp only [Act.put, List.setIfInBounds_toArray, List.set_cons_zero, List.set_cons_succ]
    refine wpAnyH_take (i := 8) (v := .int .i64 ((i : Int) + ((es.length : Nat) : Int) + 1)) ((List.getElem?_toArray ..).trans rfl) (by kernel_rfl) (by kernel_rfl) (by kernel_rfl) (fun _ _ _ h => h) (Or.inl ⟨rfl, fun W hW => ?_⟩) hS ?_
    · go_simp
    try simp only [Act.put, List.setIfInBounds_toArray, List.set_cons_zero, List.set_cons_succ]
    refine wpAnyH_take (i := 9) (v := .slice (some ⟨R, i, none⟩) (es.length + 1) (ds.length + 1 - i)) ((List.getElem?_toArray ..).trans rfl) (by kernel_rfl) (by kernel_rfl) (by kernel_rfl) (fun _ _ _ h => h) (Or.inl ⟨rfl, fun W hW => ?_⟩) hS ?_
    · go_simp
    try simp only [Act.put, List.setIfInBounds_toArray, List.set_cons_zero, List.set_cons_succ]
    refine wpAnyH_take (i := 10) (v := .slice (some ⟨h + 1, 0, none⟩) es.length (es.length + 1)) ((List.getElem?_toArray ..).trans rfl) (by kernel_rfl) (by kernel_rfl) (by kernel_rfl) (fun _ _ _ h => h) (Or.inl ⟨rfl, fun W hW => ?_⟩) hS ?_
    · obtain ⟨hW0, hW1, hW2⟩ := hW
      go_simp
    try simp only [Act.put, List.setIfInBounds_toArray, List.set_cons_zero, List.set_cons_succ]
    clear e1 e2 e3 e4 e5 e6 e7 e8 e9 e10
    have HS := Lib.hid hS
    clear s0 s1 s3 hS
    obtain ⟨WD, hWD⟩ : ∃ WD, Wb.drew = WD := ⟨_, rfl⟩
    have hRD := HR.out.keep (w' := WD) (by rw [← hWD]; rfl)
    have hQD' := HQ.out.keep (w' := WD) (by rw [← hWD]; rfl)
    have hbD := HRB.out.keep (w' := WD) (by rw [← hWD]; rfl)
    obtain ⟨g1, g2, g3⟩ := HI.out.seg (lb := es.length) HIN.out (by rw [HXS.out.1]; exact HN.out.symm) (by have := HY.out.2.2.1; omega)
    have hsplit : rs = rs.take i ++ ((rs.drop i).take (es.length + 1) ++ rs.drop (i + (es.length + 1))) := by
      conv => lhs; rw [← List.take_append_drop i rs, ← List.take_append_drop (es.length + 1) (rs.drop i), List.drop_drop]
    have hyl : (cs.take es.length).length = m + 2 := by have := HCS.out.1; have := HM.out; simp; omega
    have hST := step_any R i (ds.length + 1 - i) (es.length + 1) (h + 1) 0 m (rs.take i) ((rs.drop i).take (es.length + 1)) (rs.drop (i + (es.length + 1))) (cs.take es.length) WD
      (by have := HI.out.rl; have := hfit.out; have := HXS.out.1; simp; omega) (by rw [← hsplit]; exact hRD) (by rw [g1, HM.out]) hyl ((HI.out.rd.drop i).take _) (HCS.out.2.1.take _) (by have := HM.out; omega)
      (norm_top _ (m + 1) hyl (HCS.out.2.1.take _) (by rw [HY.out.1, HY.out.2.1]; exact HF.out.1)) (by rw [HY.out.1]; exact g3) hbD.lt (by omega) (fun j hj => by
        have h1 := hbD.cell (j := j) (by rw [hyl] at hj; have := HCS.out.1; have := HM.out; omega)
        rw [Nat.zero_add, h1, dg_take _ (by rw [hyl] at hj; have := HM.out; omega)])
    rw [show m + 3 = es.length + 1 by have := HM.out; omega, ← HM.out] at hST
    obtain ⟨S, hS0⟩ : ∃ S, val 4294967296 ((rs.drop i).take (es.length + 1)) = S := ⟨_, rfl⟩
    have HS0 := Lib.hid hS0
    have HST := Lib.hid hST
    have HS3 := Lib.hid g3
    have HWD := Lib.hid hWD
    have HRD := Lib.hid hRD; have HQD := Lib.hid hQD'
    rw [hWD] at HS ⊢
    clear hST hS0 g1 g2 g3 hsplit hyl hWD hRD hQD' hbD
    refine wpAnyH_ready (rs := [11]) (by kernel_rfl) (by simp) (AllReadyH.cons ((List.getElem?_toArray ..).trans rfl) (fun K hK => ?_) AllReadyH.nil)
    go_simp
    refine HST.out.mono ?_
    rintro e w' ⟨rfl, seg', q1, q2, q3, q4, q5⟩
    rw [HY.out.1] at q3 ⊢
    rw [HS0.out] at q3 ⊢
    have HSeg := Lib.hid (And.intro q1 (And.intro q2 q3))
    clear HST q1 q2 q3
    have hs5 := q5.size
    have hsz : ∀ x, x < D1 → x < WD.heap.size := fun x hx => by
      have h1 := HT.out.size
      have h2 := HS11.out
      rw [← HWD.out]
      show x < Wb.heap.size
      omega
    have t0 := (q5.cell (a := ⟨h, 0, none⟩) (hsz h (by omega)) (by show h ≠ R; omega)).trans HS.out.1
    have t1 := (q5.cell (a := ⟨s2, 0, none⟩) (hsz s2 (by omega)) (by show s2 ≠ R; omega)).trans HS.out.2.1
    have t3 := (q5.cell (a := ⟨R2, 0, none⟩) (hsz R2 (by omega)) (by show R2 ≠ R; omega)).trans HS.out.2.2
    have HQ2 := HQD.out.keep (q5.block Q (hsz Q hQD) (by omega))
    have ho := HQ2.cell (j := i) (by have := HI.out.ql; have := HIN.out; omega)
    have hf := HQ2.free i
    have HQ3 := Lib.hid HQ2
    have HR3 := Lib.hid q4
    have HO := Lib.hid q5
    clear HQ2 q4 q5 hsz
    go_wp2_with fail
    refine hK.out _ _ ⟨t0, t1, t3⟩ (fun hS2 => ?_)
    clear hK K
    try simp only [Act.put, List.setIfInBounds_toArray, List.set_cons_zero, List.set_cons_succ]
    refine wpAnyH_take (i := 12) (v := .pointer (some ⟨Q, i, none⟩)) ((List.getElem?_toArray ..).trans rfl) (by kernel_rfl) (by kernel_rfl) (by kernel_rfl) (fun _ _ _ h => h) (Or.inl ⟨rfl, fun W hW => ?_⟩) hS2 ?_
    · go_simp
    try simp only [Act.put, List.setIfInBounds_toArray, List.set_cons_zero, List.set_cons_succ]
    refine wpAnyH_ready (rs := [13]) (by kernel_rfl) (by simp) (AllReadyH.cons ((List.getElem?_toArray ..).trans rfl) (fun K hK => ?_) AllReadyH.nil)
    go_simp
    have nQ : ∀ (x j : Nat), x ≠ Q → (⟨x, 0, none⟩ : Addr) ≠ ⟨Q, j, none⟩ := fun x j hx e => hx (congrArg Addr.block e)
    refine hK.out _ _ ⟨(World.cell?_setCell_other _ _ _ _ (by intro e; have := congrArg Addr.block e; simp at this; omega)).trans hS2.1, (World.cell?_setCell_other _ _ _ _ (by intro e; have := congrArg Addr.block e; simp at this; omega)).trans hS2.2.1, (World.cell?_setCell_other _ _ _ _ (by intro e; have := congrArg Addr.block e; simp at this; omega)).trans hS2.2.2⟩ (fun hS3 => ?_)
    clear hK K
    try simp only [Act.put, List.setIfInBounds_toArray, List.set_cons_zero, List.set_cons_succ]
    refine wpAnyH_done (by kernel_rfl) ?_ _
    rw [← Int.natCast_ediv]
    have hRQ : R ≠ Q := by omega
    have hTD : Turns (fun b => b = R ∨ b = Q) w11 WD := by rw [← HWD.out]; exact HT.out.drew
    have hTO : Turns (fun b => b = R ∨ b = Q) w11 w' := hTD.trans ⟨HO.out.os, HO.out.tape, HO.out.output, HO.out.size, fun k hk hn => HO.out.block k hk (fun e => hn (Or.inl e))⟩
    have hTF := hTO.set (p := ⟨Q, i, none⟩) (Or.inr rfl) (.int .u32 ((S / Y : Nat) : Int))
    have hKO : KeepsOthers Wb w' := by
      refine ⟨Nat.le_trans (by rw [← HWD.out]; exact Nat.le_refl _) HO.out.size, fun k o hk ho => ?_⟩
      have hkR : k ≠ R := by
        rintro rfl
        have h1 : Wb.heap[k]? = some (.cells (cellsOf .u32 rs).toArray 36 (0, 0)) := HR.out
        rw [h1] at hk
        cases hk
        cases ho
      have hkl : k < WD.heap.size := by
        have h1 := (Array.getElem?_eq_some_iff.1 hk).1
        rw [← HWD.out]
        exact h1
      rw [HO.out.block k hkl hkR, ← HWD.out]
      exact hk
    refine ⟨(hKO.trans (KeepsOthers.setCell _ _ _)).from _, hTF, _, qs.set i (S / Y), ?_, ?_, HR3.out.other hRQ i _, HQ3.out.set i (S / Y) (by have := HI.out.ql; have := HIN.out; omega)⟩
    · rw [HK2.out]
      exact HI.out.step (lb := es.length) HIN.out (by rw [HXS.out.1]; exact HN.out.symm) (by have := HY.out.2.2.1; omega) HY.out.2.2.2 HS0.out.symm
        (by rw [HSeg.out.1]; have := HI.out.rl; have := hfit.out; have := HXS.out.1; simp; omega) HSeg.out.2.1 HSeg.out.2.2
    · show ∀ _, _
      intro j hj
      rw [HK2.out] at hj
      rw [dg_set _ _ _ _ (by have := HI.out.ql; have := HIN.out; omega), if_neg (by omega)]
      exact HZ.out j (by omega)
  case done =>
    rintro D W hD ⟨hT, rs, qs, hI, hz, hR, hQr⟩ hK
    rw [Nat.sub_self] at hI
    have c0 := (hT.cell (a := ⟨h, 0, none⟩) (by show h < _; omega) (by show ¬ (h = R ∨ h = Q); omega)).trans k0
    have f0 := (hT.frozen (a := ⟨h, 0, none⟩) (by show h < _; omega) (by show ¬ (h = R ∨ h = Q); omega)).trans g0
    have cr := (hT.cell (a := ⟨R2, 0, none⟩) (by show R2 < _; omega) (by show ¬ (R2 = R ∨ R2 = Q); omega)).trans kr
    have hBW : Below h w W := ⟨hT.os.trans hB.os, hT.tape.trans hB.tape, hT.output.trans hB.output, Nat.le_trans hB.size hT.size, fun k hk => (hT.block k (by omega) (by omega)).trans (hB.block k hk)⟩
    have hWs := hT.size
    have HRes := Lib.hid (hI.fin (A := val 4294967296 ds) (b := val 4294967296 es) (lb := es.length) HXS.out.2.2 HY.out.2.1 (by have := HY.out.2.2.1; omega))
    have HI := Lib.hid hI
    have hDl : D < W.heap.size := (Array.getElem?_eq_some_iff.1 hK).1
    have hlW : es.length ≤ rs.length := by have := hI.rl; have := HXS.out.1; have := HN.out; omega
    have hrl : rs.length = ds.length + 1 := by have := hI.rl; have := HXS.out.1; omega
    have hK' := Lib.hid hK
    have hql := hI.ql
    have hqd := hI.qd
    clear hI hz hK hT hB k0 g0 kb kr kd hrb hrr hrq hStart
    go_upto_region 12 with (at_make; refine make_nat rfl _ _ rfl _ _ es.length rfl rfl rfl rfl (by omega) W.heap.size W (Below.refl _ _) (Nat.le_refl _) (fun w12 hr12 hB12 hB12' => ?_))
    clear hB12'
    obtain ⟨L0, hL0⟩ : ∃ L0, W.heap.size = L0 := ⟨_, rfl⟩
    rw [hL0] at hr12 hB12 hDl hWs
    have hL12 := hr12.lt
    replace c0 := (hB12.cell (p := ⟨h, 0, none⟩) (by show h < L0; omega)).trans c0
    replace f0 := (hB12.frozen (p := ⟨h, 0, none⟩) (by show h < L0; omega)).trans f0
    replace cr := (hB12.cell (p := ⟨R2, 0, none⟩) (by show R2 < L0; omega)).trans cr
    have hR12 := hR.below hB12 (by omega)
    have hQ12 := hQr.below hB12 (by omega)
    have hK12 := (hB12.block D hDl).trans hK'.out
    have hBx := hBW.trans (hB12.mono (by omega))
    have hat := hR12.at 0 es.length (ds.length + 1) (by omega) (by omega)
    rw [List.drop_zero] at hat
    have htl : (rs.take es.length).length = es.length := by simp; omega
    have C := shr_any L0 es.length n (ds.length + 1) (some ⟨R, 0, none⟩) (rs.take es.length) (List.replicate es.length 0) w12 hr12 (by rw [htl]; simp) (fun y hy => by simp at hy; omega) (HI.out.rd.take _) f1 (by omega) hat (fun a ha => by cases ha; show R ≠ L0; omega)
    rw [htl] at C
    have HC := Lib.hid C
    have hK12' := Lib.hid hK12
    clear C hat htl hlW hR hQr hK' hBW hB12 hr12 hK12
    go_wp2_with fail
    refine HC.out.mono ?_
    clear HC
    rintro e w13 ⟨⟨v13, rfl⟩, ⟨zs, hzl, hzd, hzv, hrz⟩, hO13⟩
    have hs13 := hO13.size
    rw [hL0]
    replace c0 := (hO13.cell (a := ⟨h, 0, none⟩) (by show h < _; omega) (by show h ≠ L0; omega)).trans c0
    replace f0 := (World.frozen?_of_block (a := ⟨h, 0, none⟩) (hO13.block h (by omega) (by omega))).trans f0
    have hQ13 := hQ12.keep (hO13.block Q (by omega) (by omega))
    have hK13 := Lib.hid ((hO13.block D (by omega)  (by omega)).trans hK12'.out)
    have hB13 := hO13.below hBx (by omega) (by have := hBx.size; have := HH.out; omega)
    have hD13 : D < w13.heap.size := by omega
    have hq := hQ13.all N (by omega)
    rw [hql] at hq
    have hz13 := hrz.all es.length (by omega)
    rw [hzl] at hz13
    have H1 := Lib.hid (trim_any hq (by omega))
    have HV := Lib.hid (And.intro hzl (And.intro hzd hzv))
    have hh13 : h < w13.heap.size := by omega
    clear hq hO13 hs13 hQ12 hK12' hBx hrz hzl hzd hzv hR12 cr hL0
    go_wp2_with fail
    refine H1.out.mono ?_
    clear H1
    rintro e w14 ⟨⟨v1, rfl, hv1⟩, hB14⟩
    have hz14 := hz13.below hB14 (Nat.le_refl _)
    have H2 := Lib.hid (trim_any hz14 (by have := HV.out.1; omega))
    replace c0 := (hB14.cell (p := ⟨h, 0, none⟩) hh13).trans c0
    replace f0 := (hB14.frozen (p := ⟨h, 0, none⟩) hh13).trans f0
    have hK14 := Lib.hid ((hB14.block D hD13).trans hK13.out)
    have hs14 := hB14.size
    have hh14 : h < w14.heap.size := by omega
    have hD14 : D < w14.heap.size := by omega
    have hB2 := hB13.trans (hB14.mono (by omega))
    clear hz13 hz14 hK13 hB13 hB14 hs14
    go_wp2_with fail
    refine H2.out.mono ?_
    clear H2
    rintro e w15 ⟨⟨v2, rfl, hv2⟩, hB15⟩
    have hv1' := hv1.below hB15 (Nat.le_refl _)
    replace c0 := (hB15.cell (p := ⟨h, 0, none⟩) hh14).trans c0
    replace f0 := (hB15.frozen (p := ⟨h, 0, none⟩) hh14).trans f0
    have hK15 := (hB15.block D hD14).trans hK14.out
    have hB3 := hB2.trans (hB15.mono (by omega))
    have HK15 := Lib.hid hK15
    clear hv1 hK14 hB2 hB15 hK15
    obtain ⟨q1, L1, rfl, at1⟩ := hv1'
    obtain ⟨q2, L2, rfl, at2⟩ := hv2
    go_wp2_with fail
    have hK4 := (KeepsOthers.setCell w15 ⟨h, 0, none⟩ (.slice q1 (cut qs).length L1)).same D _ HK15.out rfl
    have hc5 := put_cell hK4 (World.cell?_setCell_same' w15 ⟨h, 0, none⟩ (.slice q1 (cut qs).length L1) (by rw [c0]; rfl))
    have hB5 := hB3.setCell (p := ⟨h, 0, none⟩) (Nat.le_refl h) (.slice q1 (cut qs).length L1)
    have hP := put_below (show h ≤ D by omega) hK4 (by have := hB5.size; have := HH.out; omega)
    refine marks_ret (v := .tuple #[.slice q1 (cut qs).length L1, .slice q2 (cut zs).length L2]) hK4 ?_ ⟨⟨_, _, rfl, ?_, ?_⟩, ?_⟩
    · simp [results, Try.f52, go_sem, hc5]
    · exact ⟨cut qs, ⟨q1, L1, rfl, (at1.other _ c0 (by intro n h; cases h)).put hK4⟩, can_cut hqd, by rw [val_cut]; exact HRes.out.1⟩
    · exact ⟨cut zs, ⟨q2, L2, rfl, (at2.other _ c0 (by intro n h; cases h)).put hK4⟩, can_cut HV.out.2.1, by rw [val_cut, HV.out.2.2]; exact HRes.out.2⟩
    · rw [HH.out]
      exact hB5.trans hP
  case stop => exact fun _ _ _ _ _ _ hf => hf.elim

end Go.Proofs.Ytphhaaofkckobaa
