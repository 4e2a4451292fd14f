/-
  What the statement stands on.
-/
import Derived.Test.YtcfgefbkeeedgaaGreatM22
import Derived.Test.YtcfgefbkeeedgaaGreatM38
namespace Go.Proofs.YtcfgefbkeeedgaaGreat
open Go.RowKit
set_option maxRecDepth 100000 in
set_option maxHeartbeats 8000000 in
theorem wholeNumbers_any (vc vg : Value) (xs : List RawQ) (xss : List (List RawQ)) (vb : Value) (ys : List RawQ) (w : World) (hC : Raws w vc xs) (hG : RTab w vg xss) (hY : Raws w vb ys) :
    Calls Tryz.prog 3 #[.agg #[vc, vg], vb] w fun e w' => e = .returned (.bool true) ∧ Below w.heap.size w w' := by
  obtain ⟨pc, cc, rfl⟩ := hC.form
  obtain ⟨pg, cg, rfl⟩ := hG.form
  obtain ⟨py, cy, rfl⟩ := hY.form
  obtain ⟨n, hn⟩ : ∃ l, xs.length = l := ⟨_, rfl⟩
  obtain ⟨m, hm⟩ : ∃ l, xss.length = l := ⟨_, rfl⟩
  obtain ⟨l, hl⟩ : ∃ l, ys.length = l := ⟨_, rfl⟩
  rw [hn] at hC ⊢
  rw [hm] at hG ⊢
  rw [hl] at hY ⊢
  have HR := Lib.hid (And.intro hC (And.intro hG (And.intro hY (And.intro hn (And.intro hm hl)))))
  clear hC hG hY hn hm hl
  have S := (St.start w).alloc 25 [.slice pc n cc, .slice pg m cg] (w.heap.size)
  try simp only [List.nil_append] at S
  have c0_0 := S.c 0 0 rfl rfl; have c0_1 := S.c 0 1 rfl rfl
  go_enter Tryz.func3, Tryz.ntmps3
  clear c0_0 c0_1; go_wp2_with fail
  refine (S.call (scan_num (s := ⟨#[49]⟩) one_text (by decide) _)).mono ?_
  clear S
  rintro e w1 ⟨⟨g1, c1, rfl, hg1, k0, k2⟩, S, H⟩
  clear H; clear hg1 k0 k2
  have H := S.hnew 29 [.int .i64 0, .int .i64 0]
  replace S := S.al 29 [.int .i64 0, .int .i64 0] (w1.heap.size)
  clear H; have c1_0 := S.c 1 0 rfl rfl; have c1_1 := S.c 1 1 rfl rfl; go_wp2_with fail; clear c1_0 c1_1
  refine (S.call (vzero_any 2 (by decide) _)).mono ?_
  clear S
  rintro e w2 ⟨⟨_, rfl, g4, vs4, rfl, hg4, hh4, r4⟩, S, H⟩
  clear H; have c1_0 := S.c 1 0 rfl rfl; have c1_1 := S.c 1 1 rfl rfl; clear hg4 hh4 r4
  rw [List.length_replicate]
  clear c1_0 c1_1; have c0_0 := S.c 0 0 rfl rfl; have c0_1 := S.c 0 1 rfl rfl
  by_cases h4 : 4 < n
  · have h4' : (4 : Int) < ((n : Nat) : Int) := by omega
    go_wp2_with fail
    exact bodyPost_ret (v := .bool true) (by simp [results, Tryz.f3, go_sem]) rfl (⟨rfl, S.below⟩)
  have h4' : ¬ (4 : Int) < ((n : Nat) : Int) := by omega
  by_cases h5 : 4 < m
  · have h5' : (4 : Int) < ((m : Nat) : Int) := by omega
    go_wp2_with fail
    exact bodyPost_ret (v := .bool true) (by simp [results, Tryz.f3, go_sem]) rfl (⟨rfl, S.below⟩)
  have h5' : ¬ (4 : Int) < ((m : Nat) : Int) := by omega
  by_cases h6 : l = m
  rotate_left
  · have h6' : (((l : Nat) : Int) != ((m : Nat) : Int)) = true := by simp; omega
    go_wp2_with fail
    exact bodyPost_ret (v := .bool true) (by simp [results, Tryz.f3, go_sem]) rfl (⟨rfl, S.below⟩)
  have h6' : (((l : Nat) : Int) != ((m : Nat) : Int)) = false := by simp; omega
  have HN := Lib.hid (And.intro (show n ≤ 4 ∧ m ≤ 4 by omega) h6)
  clear h4 h5 h6
  go_upto_region 7 with fail
  clear c0_0 c0_1 h4' h5' h6'
  replace S := S.take 1 rfl
  generalize decide (4 < ((n : Nat) : Int)) = d1
  generalize decide (4 < ((m : Nat) : Int)) = d2
  obtain ⟨W0, hW0⟩ : ∃ W, W = w2 := ⟨_, rfl⟩
  rw [← hW0] at S ⊢
  clear hW0
  have hG0 := HR.out.2.1.to S.below
  obtain ⟨us, hul, hus⟩ := hG0.vals
  have hpg : pg = none → cg = 0 := fun e => by
    obtain ⟨_, _, e', h, _⟩ := HR.out.2.1
    cases e'
    exact h e
  have hmc : m ≤ cg := by
    obtain ⟨_, _, e', _, h, _⟩ := HR.out.2.1
    cases e'
    have := HR.out.2.2.2.2.1; omega
  have hlit : (W0.alloc (.cells #[.slice pc n cc] 22)).ownsRow W0.heap.size 22 1 (.slice (some ⟨W0.heap.size, 0, none⟩) 1 1) 1 [.slice pc n cc] := by
    simpa using World.ownsRow_lit (e := 22) (size := 1) (base := W0.heap.size) W0 #[.slice pc n cc] 1 (Nat.le_refl _) (by decide) rfl
  have hbl : Below W0.heap.size W0 (W0.alloc (.cells #[.slice pc n cc] 22)) := (Below.refl _ W0).alloc (Nat.le_refl _) _
  have hat : ∀ (j : Nat) u, us[j]? = some u → u.oneCell' = true ∧ ∃ g off, pg = some ⟨g, off, none⟩ ∧ (W0.alloc (.cells #[.slice pc n cc] 22)).cell? ⟨g, off + j, none⟩ = some u := fun j u hj => by
    obtain ⟨h1, g, off, _, _, h2, h3, h4, _⟩ := hus j u hj
    exact ⟨h1, g, off, h2, (hbl.cell (p := ⟨g, off + j, none⟩) h3).trans h4⟩
  have hn9 : 1 + m ≤ 100000 := by have := HN.out.1.2; omega
  have c0_0 := S.c 0 0 rfl rfl; have c0_1 := S.c 0 1 rfl rfl
  have c0_2 := (S.to hbl).c 0 1 rfl rfl
  go_upto_region 8 with (at_builtin; refine append_tabs rfl _ _ rfl W0.heap.size _ 1 _ rfl hlit pg m cg us rfl hul hpg hat hmc hn9 hbl.size W0.heap.size W0 hbl (Nat.le_refl _) (fun v10 w10 ho10 hB10 _ => ?_); obtain ⟨pb, cb, rfl, b1, b2, b3⟩ := lists_arr ho10)
  have hW10 : Below w.heap.size w w10 := S.below.trans (hB10.mono S.below.size)
  have hLS : ∀ (j : Nat) zs, (xs :: xss)[j]? = some zs → ∃ v, ([Value.slice pc n cc] ++ us)[j]? = some v ∧ Raws w10 v zs := fun j zs hj => by
    match j, hj with
    | 0, hj => cases hj; exact ⟨_, rfl, HR.out.1.to hW10⟩
    | j + 1, hj =>
      have hjl : j < us.length := by
        have h1 := (List.getElem?_eq_some_iff.1 hj).1
        have h2 := HR.out.2.2.2.2.1
        simp at h1
        omega
      have hu : us[j]? = some (us[j]'hjl) := List.getElem?_eq_getElem _
      obtain ⟨_, g, off, zs', h1, _, _, _, h2⟩ := hus j _ hu
      have e : zs' = zs := by
        have h3 : xss[j]? = some zs := by simpa using hj
        rw [h1] at h3
        exact Option.some.inj h3
      subst e
      exact ⟨_, by simp, h2.to hB10⟩
  have HLS := Lib.hid hLS
  have HO := Lib.hid (And.intro b1 (And.intro b2 b3))
  have HX10 := Lib.hid (S.to hB10)
  clear hG0 hul hus hpg hmc hlit hbl hat hn9 c0_0 c0_1 c0_2 b1 b2 b3 ho10 hLS S hB10
  go_loopw [65] (fun si wr => ∃ k : Nat, k ≤ m + 1 ∧ si = .int .i64 k ∧ Hid (∀ (j : Nat) zs, j < k → (xs :: xss)[j]? = some zs → zs.length = n ∧ ∀ x, x ∈ zs → x.Tried 3) ∧ Below w10.heap.size w10 wr) (fun si _ => m + 1 - (intOf si).toNat)
  case atStart => exact ⟨0, by omega, rfl, fun j v h => by omega, Below.refl _ _⟩
  case round =>
    obtain ⟨k, hk, rfl, hz, hB2⟩ := hrel
    by_cases hlt : k < m + 1
    · have hj : (xs :: xss)[k]? = some ((xs :: xss)[k]'(by have := HR.out.2.2.2.2.1; simp; omega)) := List.getElem?_eq_getElem _
      generalize (xs :: xss)[k]'(by have := HR.out.2.2.2.2.1; simp; omega) = zs at hj
      obtain ⟨v, hv, hR⟩ := HLS.out k zs hj
      obtain ⟨q1, d1', rfl⟩ := hR.form
      obtain ⟨t, ht⟩ : ∃ t, zs.length = t := ⟨_, rfl⟩
      rw [ht] at hR hv
      cases pb with
      | none => have := (HO.out.1 rfl).2; omega
      | some ab =>
        obtain ⟨gb, ob, sb⟩ := ab
        obtain ⟨rfl, ha, hgb⟩ := HO.out.2.2 gb ob sb rfl
        have a1 := (hB2.cell (p := ⟨gb, ob + k, none⟩) hgb).trans (ha k _ hv)
        have S : St w10 wr [] := ⟨hB2, trivial⟩
        have hki : (k : Int) < ((1 + m : Nat) : Int) := by omega
        have hk9 : (k : Int) ≤ 5 := by have := HN.out.1; omega
        have HQ := Lib.hid (And.intro hlt (And.intro hj (And.intro ht (hR.to hB2))))
        clear hlt hj ht hR hk hv ha hB2 hgb; go_wp2_with fail; clear a1
        refine (S.callB (vcheck_raw HQ.out.2.2.2 n (by have := HN.out.1; omega))).mono ?_
        clear S
        rintro e w11 ⟨⟨r, rfl, hr⟩, S, HB⟩
        have HQ2 := Lib.hid (HQ.out.2.2.2.to HB)
        clear HB
        by_cases h0 : r = 0
        rotate_left
        · have h0' : (r != 0) = true := by simpa using h0
          clear hr h0; go_wp2_with fail
          exact bodyPost_ret (v := .bool true) (by simp [results, Tryz.f3, go_sem]) rfl (⟨rfl, hW10.trans (S.below.mono hW10.size)⟩)
        have h0' : (r != 0) = false := by rw [h0]; rfl
        have HV := Lib.hid (hr.out h0)
        clear h0 hr
        have htn : n = t := HV.out.1.symm
        subst htn
        go_upto_region 13 with fail
        generalize decide ((k : Int) < 1 + ((m : Nat) : Int)) = d3
        clear hki h0'
        go_loopw [75] (fun si wr => ∃ i : Nat, i ≤ n ∧ si = .int .i64 i ∧ Hid (∀ (j : Nat) x, j < i → zs[j]? = some x → x.ds.length ≤ 3 ∧ x.es.length ≤ 3) ∧ Below w11.heap.size w11 wr) (fun si _ => n - (intOf si).toNat)
        case atStart => exact ⟨0, by omega, rfl, fun j x h => by omega, Below.refl _ _⟩
        case round =>
          obtain ⟨i, hi, rfl, hy, hB3⟩ := hrel
          have S1 := S.to hB3
          by_cases hil : i < n
          · obtain ⟨g2, off, b1, p1', l1', K1, p2', l2', K2, es1, es2, rfl, hg, a0, a1, a2, hx, hl1, hl2, _, _, _, _⟩ := HQ2.out.get hil
            replace a0 := (hB3.cell (p := ⟨g2, off + i * 3, none⟩) hg).trans a0
            replace a1 := (hB3.cell (p := ⟨g2, off + i * 3 + 1, none⟩) hg).trans a1
            replace a2 := (hB3.cell (p := ⟨g2, off + i * 3 + 2, none⟩) hg).trans a2
            have hii : (i : Int) < ((n : Nat) : Int) := by omega
            have hi9 : (i : Int) ≤ 4 := by have := HN.out.1; omega
            have HX := Lib.hid (And.intro hx (And.intro hl1 (And.intro hl2 hil)))
            clear hx hl1 hl2 hg hil hi
            have HB4 := hB3.alloc hB3.size (.cells #[.bool b1, .slice p1' l1' K1, .slice p2' l2' K2] 39)
            replace S1 := S1.alloc 39 [.bool b1, .slice p1' l1' K1, .slice p2' l2' K2] (wr.heap.size)
            try simp only [List.nil_append] at S1
            obtain ⟨c0_0, c0_1, c0_2⟩ := S1.c3 0 rfl
            by_cases h31 : 3 < l1'
            · have h31' : (3 : Int) < ((l1' : Nat) : Int) := by omega
              clear S
              have S := S1
              go_wp2_with fail
              exact bodyPost_ret (v := .bool true) (by simp [results, Tryz.f3, go_sem]) rfl (⟨rfl, hW10.trans (S.below.mono hW10.size)⟩)
            have h31' : ¬ (3 : Int) < ((l1' : Nat) : Int) := by omega
            by_cases h32 : 3 < l2'
            · have h32' : (3 : Int) < ((l2' : Nat) : Int) := by omega
              clear S
              have S := S1
              go_wp2_with fail
              exact bodyPost_ret (v := .bool true) (by simp [results, Tryz.f3, go_sem]) rfl (⟨rfl, hW10.trans (S.below.mono hW10.size)⟩)
            have h32' : ¬ (3 : Int) < ((l2' : Nat) : Int) := by omega
            have H3 := Lib.hid (And.intro h31 h32)
            clear h31 h32; go_wp2_with fail
            go_roundw
            case rel =>
              refine ⟨i + 1, by have := HX.out.2.2.2; omega, by go_num, fun j x hj hx => ?_, HB4⟩
              by_cases e : j = i
              · subst e
                rw [HX.out.1] at hx
                cases hx
                have := HX.out.2.1
                have := HX.out.2.2.1
                have := H3.out
                exact ⟨by show es1.length ≤ 3; omega, by show es2.length ≤ 3; omega⟩
              · exact hy.out j x (by omega) hx
            case measure => have := HX.out.2.2.2; simp [intOf]; omega
          · have hii : ¬ (i : Int) < ((n : Nat) : Int) := by omega
            have hin : n = i := by omega
            clear S1; go_wp2_with fail
            go_roundw
            case rel =>
              refine ⟨k + 1, by have := HQ.out.1; omega, by go_num, fun j zs' hj' hv' => ?_, (S.to hB3).below⟩
              by_cases e : j = k
              · subst e
                rw [HQ.out.2.1] at hv'
                cases hv'
                refine ⟨HQ.out.2.2.1, fun x hx => ?_⟩
                obtain ⟨t, ht⟩ := List.getElem?_of_mem hx
                have htl := (List.getElem?_eq_some_iff.1 ht).1
                have := HQ.out.2.2.1
                obtain ⟨e1, e2⟩ := hy.out t x (by omega) ht
                exact ⟨e1, e2, HV.out.2 t x ht⟩
              · exact hz.out j zs' (by omega) hv'
            case measure => have := HQ.out.1; simp [intOf]; omega
    · have hki : ¬ (k : Int) < ((1 + m : Nat) : Int) := by omega
      have hkn : m + 1 = k := by omega
      subst hkn
      clear hlt hk
      have HT := Lib.hid (fun (j : Nat) zs (h : (xs :: xss)[j]? = some zs) => hz.out j zs (by have := (List.getElem?_eq_some_iff.1 h).1; have := HR.out.2.2.2.2.1; simp at *; omega) h)
      clear hz
      go_upto_region 20 with fail
      generalize decide (((m + 1 : Nat) : Int) < 1 + ((m : Nat) : Int)) = d3
      have HY := Lib.hid (HR.out.2.2.1.to hW10)
      clear hki
      go_loopw [94] (fun si wr => ∃ i : Nat, i ≤ l ∧ si = .int .i64 i ∧ Hid (∀ (j : Nat) x, j < i → ys[j]? = some x → x.Tried 3) ∧ St w10 wr []) (fun si _ => l - (intOf si).toNat)
      case atStart => exact ⟨0, by omega, rfl, fun j x h => by omega, ⟨hB2, trivial⟩⟩
      case round =>
        clear hB2
        obtain ⟨i, hi, rfl, hy, S⟩ := hrel
        by_cases hil : i < l
        · obtain ⟨g2, off, b1, p1', l1', K1, p2', l2', K2, es1, es2, rfl, hg, a0, a1, a2, hx, hl1, hl2, at1, at2, dd1, dd2⟩ := HY.out.get hil
          replace a0 := (S.below.cell (p := ⟨g2, off + i * 3, none⟩) hg).trans a0
          replace a1 := (S.below.cell (p := ⟨g2, off + i * 3 + 1, none⟩) hg).trans a1
          replace a2 := (S.below.cell (p := ⟨g2, off + i * 3 + 2, none⟩) hg).trans a2
          replace at1 := at1.below S.below (Nat.le_refl _)
          replace at2 := at2.below S.below (Nat.le_refl _)
          have hii : (i : Int) < ((l : Nat) : Int) := by omega
          have hi9 : (i : Int) ≤ 4 := by have := HN.out; omega
          have HX := Lib.hid (And.intro hx (And.intro hl1 (And.intro hl2 hil)))
          clear hx hl1 hl2 hg hil hi
          have H := S.hnew 39 [.bool b1, .slice p1' l1' K1, .slice p2' l2' K2]
          replace S := S.al 39 [.bool b1, .slice p1' l1' K1, .slice p2' l2' K2] (wr.heap.size)
          replace at1 := at1.hold H; replace at2 := at2.hold H
          clear H; obtain ⟨c0_0, c0_1, c0_2⟩ := S.c3 0 rfl; go_wp2_with fail; clear c0_0 c0_1 c0_2
          refine (S.call (rcheck_all b1 p1' p2' K1 K2 l1' l2' es1 es2 _ at1 at2 dd1 dd2 HX.out.2.1 HX.out.2.2.1)).mono ?_
          clear S
          rintro e w17 ⟨⟨c, rfl, hc⟩, S, H⟩
          clear H at1 at2 dd1 dd2 a0 a1 a2; obtain ⟨c0_0, c0_1, c0_2⟩ := S.c3 0 rfl
          by_cases h0 : c = 0
          rotate_left
          · have h0' : (c != 0) = true := by simpa using h0
            clear hc; go_wp2_with fail
            exact bodyPost_ret (v := .bool true) (by simp [results, Tryz.f3, go_sem]) rfl (⟨rfl, hW10.trans (S.below.mono hW10.size)⟩)
          have h0' : (c != 0) = false := by rw [h0]; rfl
          have hv := Lib.hid (hc.out h0)
          clear h0 hc
          by_cases h31 : 3 < l1'
          · have h31' : (3 : Int) < ((l1' : Nat) : Int) := by omega
            go_wp2_with fail
            exact bodyPost_ret (v := .bool true) (by simp [results, Tryz.f3, go_sem]) rfl (⟨rfl, hW10.trans (S.below.mono hW10.size)⟩)
          have h31' : ¬ (3 : Int) < ((l1' : Nat) : Int) := by omega
          by_cases h32 : 3 < l2'
          · have h32' : (3 : Int) < ((l2' : Nat) : Int) := by omega
            go_wp2_with fail
            exact bodyPost_ret (v := .bool true) (by simp [results, Tryz.f3, go_sem]) rfl (⟨rfl, hW10.trans (S.below.mono hW10.size)⟩)
          have h32' : ¬ (3 : Int) < ((l2' : Nat) : Int) := by omega
          have HT3 : Hid (TriedR 3 b1 es1 es2) := ⟨by have := HX.out.2.1; omega, by have := HX.out.2.2.1; omega, hv.out⟩
          clear h31 h32 hv; go_wp2_with fail
          replace S := S.take 0 (L := []) rfl
          go_roundw
          case rel =>
            refine ⟨i + 1, by have := HX.out.2.2.2; omega, by go_num, fun j x hj hx => ?_, S⟩
            by_cases e : j = i
            · subst e
              rw [HX.out.1] at hx
              cases hx
              exact HT3.out
            · exact hy.out j x (by omega) hx
          case measure => have := HX.out.2.2.2; simp [intOf]; omega
        · have hii : ¬ (i : Int) < ((l : Nat) : Int) := by omega
          have hil2 : l = i := by omega
          obtain ⟨xr, hxr⟩ := allQ_ex (k := 3) (xs := xs) fun x hx => ⟨(HT.out 0 xs rfl).2 x hx, HR.out.1.dig x hx⟩
          obtain ⟨br, hbr⟩ := allQ_ex (k := 3) (xs := ys) fun x hx => ⟨by
            obtain ⟨t, ht⟩ := List.getElem?_of_mem hx
            have h1 := (List.getElem?_eq_some_iff.1 ht).1
            have h2 := HR.out.2.2.2.2.2
            exact hy.out t x (by omega) ht, HR.out.2.2.1.dig x hx⟩
          obtain ⟨A, hAl, hAq⟩ := list_of (P := fun j r => ∀ zs, xss[j]? = some zs → AllQ 3 zs r) m fun j hj => by
            have hz : xss[j]? = some (xss[j]'(by have := HR.out.2.2.2.2.1; omega)) := List.getElem?_eq_getElem _
            obtain ⟨v, _, hR⟩ := HLS.out (j + 1) _ hz
            obtain ⟨r, hr⟩ := allQ_ex (k := 3) (xs := xss[j]'(by have := HR.out.2.2.2.2.1; omega)) fun x hx => ⟨(HT.out (j + 1) _ hz).2 x hx, hR.dig x hx⟩
            refine ⟨r, fun zs h => ?_⟩
            rw [hz] at h
            cases h
            exact hr
          have hAm : ∀ r, r ∈ A → r.length = n ∧ ∀ q, q ∈ r → RB q 3 := fun r hr => by
            obtain ⟨j, hj⟩ := List.getElem?_of_mem hr
            have h1 := (List.getElem?_eq_some_iff.1 hj).1
            have hz : xss[j]? = some (xss[j]'(by have := HR.out.2.2.2.2.1; omega)) := List.getElem?_eq_getElem _
            have h2 := hAq j r hj _ hz
            exact ⟨h2.1.symm.trans (HT.out (j + 1) _ hz).1, h2.rb⟩
          have HC := Lib.hid (And.intro (HR.out.1.rats hxr) (And.intro (hxr.1.symm.trans HR.out.2.2.2.1) hxr.rb))
          have HB := Lib.hid (And.intro (HR.out.2.2.1.rats hbr) (And.intro ((hbr.1.symm.trans HR.out.2.2.2.2.2).trans HN.out.2) hbr.rb))
          have HG := Lib.hid (And.intro (HR.out.2.1.tabs (hAl.trans HR.out.2.2.2.2.1.symm) fun j zs r h1 h2 => hAq j r h2 zs h1) (And.intro hAl (And.intro (fun r hr => (hAm r hr).1) fun r hr => (hAm r hr).2)))
          clear hxr hbr hAl hAq hAm hy hil hi hil2
          have S9 := HX10.out.to S.below
          clear S
          have S := S9
          clear S9; have c0_0 := S.c 0 0 rfl rfl; have c0_1 := S.c 0 1 rfl rfl; go_wp2_with fail; clear c0_0 c0_1
          refine (S.call (point_any (HC.out.1.to S.below) (HG.out.1.to S.below) (HB.out.1.to S.below) n m HC.out.2.1 HG.out.2.1 HB.out.2.1 HN.out.1.2 HN.out.1.1 HG.out.2.2.1 HC.out.2.2 HG.out.2.2.2 HB.out.2.2)).mono ?_
          clear S
          rintro e w31 ⟨⟨p, lp, cp, r, rfl, hr1, hr2⟩, S, H⟩
          clear H; have c0_0 := S.c 0 0 rfl rfl; have c0_1 := S.c 0 1 rfl rfl; clear c0_0 c0_1
          by_cases h0 : r = 0
          rotate_left
          · have h0' : (r != 0) = true := by simpa using h0
            have hlp := hr1.out h0
            subst hlp
            clear hr1 hr2 h0; go_wp2_with fail
            exact bodyPost_ret (v := .bool true) (by simp [results, Tryz.f3, go_sem]) rfl (⟨rfl, S.below⟩)
          have h0' : (r != 0) = false := by rw [h0]; rfl
          obtain ⟨hlp, qs, hql, hqb, hP⟩ := hr2.out h0
          have hlp' : n = lp := hlp.symm
          subst hlp'
          have HP := Lib.hid (And.intro hP (And.intro hql (And.intro hqb S.below)))
          clear hr1 hr2 h0 hlp hP hql hqb hii
          go_upto_region 29 with fail
          clear h0'
          have SW := Lib.hid S
          go_loopw [128] (fun si wr => ∃ i : Nat, i ≤ n ∧ si = .int .i64 i ∧ Below w31.heap.size w31 wr) (fun si _ => n - (intOf si).toNat)
          case atStart => exact ⟨0, by omega, rfl, Below.refl _ _⟩
          case round =>
            clear S
            obtain ⟨i, hi, rfl, hB5⟩ := hrel
            have S : St w31 wr [] := ⟨hB5, trivial⟩
            by_cases hil : i < n
            · obtain ⟨g, off, q, v0, v1, v2, rfl, hg, hq, a0, a1, a2, b, p1, l1, K1, p2, l2, K2, rfl, rfl, rfl, hs, n1, n2⟩ := HP.out.1.get hil
              replace a0 := (hB5.cell (p := ⟨g, off + i * 3, none⟩) hg).trans a0
              replace a1 := (hB5.cell (p := ⟨g, off + i * 3 + 1, none⟩) hg).trans a1
              replace a2 := (hB5.cell (p := ⟨g, off + i * 3 + 2, none⟩) hg).trans a2
              replace n1 := n1.below hB5 (Nat.le_refl _)
              replace n2 := n2.below hB5 (Nat.le_refl _)
              have HQ := Lib.hid (And.intro (HP.out.2.2.1 q (List.mem_of_getElem? hq)) hil)
              have hii : (i : Int) < ((n : Nat) : Int) := by omega
              have hi9 : (i : Int) ≤ 4 := by have := HN.out.1.1; omega
              clear hg hq hil hi
              have H := S.hnew 39 [.bool b, .slice p1 l1 K1, .slice p2 l2 K2]
              replace S := S.al 39 [.bool b, .slice p1 l1 K1, .slice p2 l2 K2] (wr.heap.size)
              replace n1 := n1.hold H; replace n2 := n2.hold H
              clear H; obtain ⟨c0_0, c0_1, c0_2⟩ := S.c3 0 rfl; go_wp2_with fail; clear c0_0 c0_1 c0_2
              refine (S.call (rtext_any ⟨b, p1, l1, K1, p2, l2, K2, rfl, hs, n1, n2⟩ (rb_max HQ.out.1 (by decide)))).mono ?_
              clear S
              rintro e w41 ⟨⟨s, rfl, hs9⟩, S, H⟩
              replace n1 := n1.hold H; replace n2 := n2.hold H
              clear H; obtain ⟨c0_0, c0_1, c0_2⟩ := S.c3 0 rfl
              have HS := Lib.hid (And.intro hs9 (text_short31 HQ.out.1 hs9))
              clear hs9 a0 a1 a2; go_wp2_with fail; clear c0_0 c0_1 c0_2
              refine (S.call (scan_num HS.out.1 (by have := HS.out.2; omega) _)).mono ?_
              clear S
              rintro e w42 ⟨⟨g6, c6, rfl, hg6, k0, k2⟩, S, H⟩
              replace n1 := n1.hold H; replace n2 := n2.hold H
              clear H; obtain ⟨c0_0, c0_1, c0_2⟩ := S.c3 0 rfl
              have HKA := (Below.refl w42.heap.size w42).alloc (Nat.le_refl _) (.cells #[.int .i64 0, .int .i64 0] 29)
              replace k0 := (HKA.cell (p := ⟨g6, 0, none⟩) hg6).trans k0
              replace k2 := (HKA.cell (p := ⟨g6, 2, none⟩) hg6).trans k2
              clear HKA hg6
              have H := S.hnew 29 [.int .i64 0, .int .i64 0]
              replace S := S.al 29 [.int .i64 0, .int .i64 0] (w42.heap.size)
              replace n1 := n1.hold H; replace n2 := n2.hold H
              clear H; clear c0_0 c0_1 c0_2; obtain ⟨c0_0, c0_1, c0_2⟩ := S.c3 0 rfl; have c1_0 := S.c 1 0 rfl rfl; have c1_1 := S.c 1 1 rfl rfl; go_wp2_with fail; clear c0_0 c0_1 c0_2 c1_0 c1_1
              refine (S.call (rparse_any s _ HS.out.2 q 0 (parse_text HS.out.1))).mono ?_
              clear S
              rintro e w43 ⟨⟨_, rfl, b5, p5, l5, K5, q5, j5, J5, rfl, h5, n5, d5⟩, S, H⟩
              replace n1 := n1.hold H; replace n2 := n2.hold H
              clear H; obtain ⟨c0_0, c0_1, c0_2⟩ := S.c3 0 rfl; have c1_0 := S.c 1 0 rfl rfl; have c1_1 := S.c 1 1 rfl rfl; clear k0 k2
              have H := S.hnew 39 [.bool b5, .slice p5 l5 K5, .slice q5 j5 J5]
              replace S := S.al 39 [.bool b5, .slice p5 l5 K5, .slice q5 j5 J5] (w43.heap.size)
              refine iv4 H n1 n2 n5 d5 ?_; clear n1 n2 n5 d5; intro n1 n2 n5 d5
              clear H; clear c0_0 c0_1 c0_2 c1_0 c1_1; obtain ⟨k0_0, k0_1, k0_2⟩ := S.c3 0 rfl
              have H := S.hnew 39 [.bool b, .slice p1 l1 K1, .slice p2 l2 K2]
              replace S := S.al 39 [.bool b, .slice p1 l1 K1, .slice p2 l2 K2] (w43.heap.size + 1)
              refine iv4 H n1 n2 n5 d5 ?_; clear n1 n2 n5 d5; intro n1 n2 n5 d5
              clear H; obtain ⟨k2_0, k2_1, k2_2⟩ := S.c3 2 rfl
              have H := S.hnew 39 [.bool b5, .slice p5 l5 K5, .slice q5 j5 J5]
              replace S := S.al 39 [.bool b5, .slice p5 l5 K5, .slice q5 j5 J5] (w43.heap.size + 1 + 1)
              refine iv4 H n1 n2 n5 d5 ?_; clear n1 n2 n5 d5; intro n1 n2 n5 d5
              clear H; go_wp2_with fail
              refine (S.call (vsame_any (S.rats 3 rfl (qs := [q]) ⟨⟨b, p1, l1, K1, p2, l2, K2, rfl, rfl, rfl, hs, n1, n2⟩, trivial⟩ (n := 1) (c := 1) rfl (by decide)) (S.rats 4 rfl (qs := [q]) ⟨⟨b5, p5, l5, K5, q5, j5, J5, rfl, rfl, rfl, h5, n5, d5⟩, trivial⟩ (n := 1) (c := 1) rfl (by decide)) 1 rfl rfl (by decide) (fun x hx => by rw [List.mem_singleton.1 hx]; exact rb_max HQ.out.1 (by decide)) (r := true) (decide_eq_true rfl))).mono ?_
              clear S
              rintro e w44 ⟨rfl, S, H⟩
              refine iv4 H n1 n2 n5 d5 ?_; clear n1 n2 n5 d5; intro n1 n2 n5 d5
              clear H; obtain ⟨c0_0, c0_1, c0_2⟩ := S.c3 0 rfl; have c1_0 := S.c 1 0 rfl rfl; have c1_1 := S.c 1 1 rfl rfl; obtain ⟨c2_0, c2_1, c2_2⟩ := S.c3 2 rfl; obtain ⟨c3_0, c3_1, c3_2⟩ := S.c3 3 rfl; obtain ⟨c4_0, c4_1, c4_2⟩ := S.c3 4 rfl; go_wp2_with fail; clear c0_0 c0_1 c0_2 c1_0 c1_1 c2_0 c2_1 c2_2 c3_0 c3_1 c3_2 c4_0 c4_1 c4_2; clear k0_0 k0_1 k0_2 k2_0 k2_1 k2_2
              replace S := S.take 0 (L := []) rfl
              go_roundw
              case rel => exact ⟨i + 1, HQ.out.2, by go_num, S.below⟩
              case measure => have := HQ.out.2; simp [intOf]; omega
            · have hii : ¬ (i : Int) < ((n : Nat) : Int) := by omega
              clear hil hi; go_wp2_with fail
              exact bodyPost_ret (v := .bool true) (by simp [results, Tryz.f3, go_sem]) rfl (⟨rfl, HP.out.2.2.2.trans (S.below.mono HP.out.2.2.2.size)⟩)
end Go.Proofs.YtcfgefbkeeedgaaGreat
