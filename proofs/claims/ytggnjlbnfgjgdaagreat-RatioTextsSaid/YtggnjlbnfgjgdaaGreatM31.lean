/-
  ratio.Parse. Some small ratios. girdlelaw04.parts: a half and a third. Ratios' texts, as plain lists: what is read is bounded, and what is written is read again. Where a ratio's text has a stroke; a ratio's text with both numbers times another one; strings.Contains at one byte. girdlelaw04.RatioTexts, as a walk: whatever the ratio and the number, it returns true.
-/
import Derived.Test.YtggnjlbnfgjgdaaGreatM20
import Derived.Test.YtggnjlbnfgjgdaaGreatM29
import Derived.Test.YtggnjlbnfgjgdaaGreatM30

namespace Go.Proofs.YtggnjlbnfgjgdaaGreat
open Go.RowKit

/-- What a text is read as: a ratio, and the number of the error. -/
def parseR (l : List Nat) : Rat × Int :=
  match posOf 47 l with
  | some i => ratioOf (l.take i) (l.drop (i + 1))
  | none => match posOf 46 l with
    | some i => placesOf (l.take i) (l.drop (i + 1))
    | none => if onlyB (restI l) = true then (((parseI l : Int) : Rat), 0) else (0, 2)
theorem bs_cut1 (s : ByteArray) (i : Nat) : bs (s.extract 0 i) = (bs s).take i := by rw [bs_extract]; simp
theorem bs_cut2 (s : ByteArray) (i : Nat) : bs (s.extract (i + 1) s.size) = (bs s).drop (i + 1) := by
  rw [bs_extract]; exact List.take_of_length_le (by rw [List.length_drop, bs_len]; omega)

set_option maxRecDepth 100000 in
set_option maxHeartbeats 4000000 in
theorem rparse_any (s : ByteArray) (w : World) (hs : s.size ≤ 1000) (q : Rat) (c : Int) (h : parseR (bs s) = (q, c)) :
    Calls Tryz.prog 7 #[.string s] w fun e w' => (∃ u, e = .returned (.tuple #[u, .int .i64 c]) ∧ IsRat w' u q) ∧ Below w.heap.size w w' := by
  cases h1 : posOf 47 (bs s) with
  | some i =>
    have hq : ratioOf ((bs s).take i) ((bs s).drop (i + 1)) = (q, c) := by unfold parseR at h; rw [h1] at h; exact h
    have H1 := Lib.hid (scut_yes s 47 · i h1 (by omega))
    have H2 := Lib.hid (fun W => parseRatio_any (s.extract 0 i) (s.extract (i + 1) s.size) W (by rw [← bs_len, bs_cut1, List.length_take, bs_len]; omega) (by rw [← bs_len, bs_cut2, List.length_drop, bs_len]; omega) q c (by rw [bs_cut1, bs_cut2]; exact hq))
    clear h h1 hq
    have S := (St.start w).alloc 27 [.bool false, .slice none 0 0, .slice none 0 0] (w.heap.size)
    have c0_0 := S.c 0 0 rfl rfl
    have c0_1 := S.c 0 1 rfl rfl
    have c0_2 := S.c 0 2 rfl rfl
    go_enter Tryz.func7, Tryz.ntmps7
    go_wp2_with fail
    clear c0_0 c0_1 c0_2
    refine (S.call (H1.out _)).mono ?_
    clear S
    rintro e w1 ⟨rfl, S, H⟩
    clear H
    have c0_0 := S.c 0 0 rfl rfl
    have c0_1 := S.c 0 1 rfl rfl
    have c0_2 := S.c 0 2 rfl rfl
    go_wp2_with fail
    clear c0_0 c0_1 c0_2
    refine (S.call (H2.out _)).mono ?_
    clear S
    rintro e w2 ⟨⟨_, rfl, b, p, l, K, q', j, J, rfl, hb, nz, dz⟩, S, H⟩
    clear H
    have c0_0 := S.c 0 0 rfl rfl
    have c0_1 := S.c 0 1 rfl rfl
    have c0_2 := S.c 0 2 rfl rfl
    have f0_0 := S.f 0 0 rfl
    have H := S.hset 0 0 (.bool b) rfl rfl (by intro q n e; cases e)
    replace S := S.set 0 0 (.bool b) rfl
    replace nz := nz.hold H
    replace dz := dz.hold H
    clear H
    have f0_1 := S.f 0 1 rfl
    have H := S.hset 0 1 (.slice p l K) rfl rfl (by intro q n e; cases e)
    replace S := S.set 0 1 (.slice p l K) rfl
    replace nz := nz.hold H
    replace dz := dz.hold H
    clear H
    have f0_2 := S.f 0 2 rfl
    have H := S.hset 0 2 (.slice q' j J) rfl rfl (by intro q n e; cases e)
    replace S := S.set 0 2 (.slice q' j J) rfl
    replace nz := nz.hold H
    replace dz := dz.hold H
    clear H
    go_wp2_with fail
    have d0_0 := S.c 0 0 rfl rfl
    have d0_1 := S.c 0 1 rfl rfl
    have d0_2 := S.c 0 2 rfl rfl
    exact bodyPost_ret (v := .tuple #[.agg #[.bool b, .slice p l K, .slice q' j J], .int .i64 c]) (by simp [results, Tryz.f7, go_sem, d0_0, d0_1, d0_2]) rfl (⟨⟨_, rfl, b, p, l, K, q', j, J, rfl, hb, nz, dz⟩, S.below⟩)
  | none =>
    have H1 := Lib.hid (scut_no s 47 · h1)
    cases h2 : posOf 46 (bs s) with
    | some i =>
      have hq : placesOf ((bs s).take i) ((bs s).drop (i + 1)) = (q, c) := by unfold parseR at h; rw [h1] at h; simp only [h2] at h; exact h
      have H2 := Lib.hid (scut_yes s 46 · i h2 (by omega))
      have H3 := Lib.hid (fun W => parsePlaces_any (s.extract 0 i) (s.extract (i + 1) s.size) W (by rw [← bs_len, bs_cut1, List.length_take, bs_len]; omega) (by rw [← bs_len, bs_cut2, List.length_drop, bs_len]; omega) q c (by rw [bs_cut1, bs_cut2]; exact hq))
      clear h h1 h2 hq
      have S := (St.start w).alloc 27 [.bool false, .slice none 0 0, .slice none 0 0] (w.heap.size)
      have c0_0 := S.c 0 0 rfl rfl
      have c0_1 := S.c 0 1 rfl rfl
      have c0_2 := S.c 0 2 rfl rfl
      go_enter Tryz.func7, Tryz.ntmps7
      go_wp2_with fail
      clear c0_0 c0_1 c0_2
      refine (S.call (H1.out _)).mono ?_
      clear S
      rintro e w1 ⟨rfl, S, H⟩
      clear H
      have c0_0 := S.c 0 0 rfl rfl
      have c0_1 := S.c 0 1 rfl rfl
      have c0_2 := S.c 0 2 rfl rfl
      go_wp2_with fail
      clear c0_0 c0_1 c0_2
      refine (S.call (H2.out _)).mono ?_
      clear S
      rintro e w2 ⟨rfl, S, H⟩
      clear H
      have c0_0 := S.c 0 0 rfl rfl
      have c0_1 := S.c 0 1 rfl rfl
      have c0_2 := S.c 0 2 rfl rfl
      go_wp2_with fail
      clear c0_0 c0_1 c0_2
      refine (S.call (H3.out _)).mono ?_
      clear S
      rintro e w3 ⟨⟨_, rfl, b, p, l, K, q', j, J, rfl, hb, nz, dz⟩, S, H⟩
      clear H
      have c0_0 := S.c 0 0 rfl rfl
      have c0_1 := S.c 0 1 rfl rfl
      have c0_2 := S.c 0 2 rfl rfl
      have f0_0 := S.f 0 0 rfl
      have H := S.hset 0 0 (.bool b) rfl rfl (by intro q n e; cases e)
      replace S := S.set 0 0 (.bool b) rfl
      replace nz := nz.hold H
      replace dz := dz.hold H
      clear H
      have f0_1 := S.f 0 1 rfl
      have H := S.hset 0 1 (.slice p l K) rfl rfl (by intro q n e; cases e)
      replace S := S.set 0 1 (.slice p l K) rfl
      replace nz := nz.hold H
      replace dz := dz.hold H
      clear H
      have f0_2 := S.f 0 2 rfl
      have H := S.hset 0 2 (.slice q' j J) rfl rfl (by intro q n e; cases e)
      replace S := S.set 0 2 (.slice q' j J) rfl
      replace nz := nz.hold H
      replace dz := dz.hold H
      clear H
      go_wp2_with fail
      have d0_0 := S.c 0 0 rfl rfl
      have d0_1 := S.c 0 1 rfl rfl
      have d0_2 := S.c 0 2 rfl rfl
      exact bodyPost_ret (v := .tuple #[.agg #[.bool b, .slice p l K, .slice q' j J], .int .i64 c]) (by simp [results, Tryz.f7, go_sem, d0_0, d0_1, d0_2]) rfl (⟨⟨_, rfl, b, p, l, K, q', j, J, rfl, hb, nz, dz⟩, S.below⟩)
    | none =>
      have H2 := Lib.hid (scut_no s 46 · h2)
      have hl1 : (restI (bs s)).length ≤ 4900 := by have := restI_len (bs s); rw [bs_len] at this; omega
      cases h3 : onlyB (restI (bs s)) with
      | true =>
        obtain ⟨n, hn⟩ : ∃ n, parseI (bs s) = n := ⟨_, rfl⟩
        have hnm : n.natAbs < maxN := by rw [← hn]; exact parseI_max h3 (by rw [bs_len]; omega)
        obtain ⟨hq, rfl⟩ : ((n : Int) : Rat) = q ∧ 0 = c := by unfold parseR at h; rw [h1] at h; simp only [h2, h3, hn] at h; simpa using h
        have H3 := Lib.hid (fun W => wparse_to s W n h3 hl1 hn)
        have H4 := Lib.hid (And.intro hnm hq)
        clear h h1 h2 h3 hl1 hnm hn hq
        have S := (St.start w).alloc 27 [.bool false, .slice none 0 0, .slice none 0 0] (w.heap.size)
        have c0_0 := S.c 0 0 rfl rfl
        have c0_1 := S.c 0 1 rfl rfl
        have c0_2 := S.c 0 2 rfl rfl
        go_enter Tryz.func7, Tryz.ntmps7
        go_wp2_with fail
        clear c0_0 c0_1 c0_2
        refine (S.call (H1.out _)).mono ?_
        clear S
        rintro e w1 ⟨rfl, S, H⟩
        clear H
        have c0_0 := S.c 0 0 rfl rfl
        have c0_1 := S.c 0 1 rfl rfl
        have c0_2 := S.c 0 2 rfl rfl
        go_wp2_with fail
        clear c0_0 c0_1 c0_2
        refine (S.call (H2.out _)).mono ?_
        clear S
        rintro e w2 ⟨rfl, S, H⟩
        clear H
        have c0_0 := S.c 0 0 rfl rfl
        have c0_1 := S.c 0 1 rfl rfl
        have c0_2 := S.c 0 2 rfl rfl
        go_wp2_with fail
        clear c0_0 c0_1 c0_2
        refine (S.call (H3.out _)).mono ?_
        clear S
        rintro e w3 ⟨⟨_, rfl, pn, ln, Kn, rfl, nn⟩, S, H⟩
        clear H
        have c0_0 := S.c 0 0 rfl rfl
        have c0_1 := S.c 0 1 rfl rfl
        have c0_2 := S.c 0 2 rfl rfl
        have H := S.hnew 25 [.bool (negB n), .slice pn ln Kn]
        replace S := S.alloc 25 [.bool (negB n), .slice pn ln Kn] (w3.heap.size)
        replace nn := nn.hold H
        clear H
        clear c0_0 c0_1 c0_2
        have c0_0 := S.c 0 0 rfl rfl
        have c0_1 := S.c 0 1 rfl rfl
        have c0_2 := S.c 0 2 rfl rfl
        have c1_0 := S.c 1 0 rfl rfl
        have c1_1 := S.c 1 1 rfl rfl
        go_wp2_with fail
        clear c0_0 c0_1 c0_2 c1_0 c1_1
        refine (S.call (rwhole_any ⟨_, _, _, rfl, nn⟩ H4.out.1 q H4.out.2.symm)).mono ?_
        clear S
        rintro e w4 ⟨⟨_, rfl, b, p, l, K, q', j, J, rfl, hb, nz, dz⟩, S, H⟩
        replace nn := nn.hold H
        clear H
        have c0_0 := S.c 0 0 rfl rfl
        have c0_1 := S.c 0 1 rfl rfl
        have c0_2 := S.c 0 2 rfl rfl
        have c1_0 := S.c 1 0 rfl rfl
        have c1_1 := S.c 1 1 rfl rfl
        have f0_0 := S.f 0 0 rfl
        have H := S.hset 0 0 (.bool b) rfl rfl (by intro q n e; cases e)
        replace S := S.set 0 0 (.bool b) rfl
        replace nn := nn.hold H
        replace nz := nz.hold H
        replace dz := dz.hold H
        clear H
        have f0_1 := S.f 0 1 rfl
        have H := S.hset 0 1 (.slice p l K) rfl rfl (by intro q n e; cases e)
        replace S := S.set 0 1 (.slice p l K) rfl
        replace nn := nn.hold H
        replace nz := nz.hold H
        replace dz := dz.hold H
        clear H
        have f0_2 := S.f 0 2 rfl
        have H := S.hset 0 2 (.slice q' j J) rfl rfl (by intro q n e; cases e)
        replace S := S.set 0 2 (.slice q' j J) rfl
        replace nn := nn.hold H
        replace nz := nz.hold H
        replace dz := dz.hold H
        clear H
        go_wp2_with fail
        have d0_0 := S.c 0 0 rfl rfl
        have d0_1 := S.c 0 1 rfl rfl
        have d0_2 := S.c 0 2 rfl rfl
        exact bodyPost_ret (v := .tuple #[.agg #[.bool b, .slice p l K, .slice q' j J], .int .i64 0]) (by simp [results, Tryz.f7, go_sem, d0_0, d0_1, d0_2]) rfl (⟨⟨_, rfl, b, p, l, K, q', j, J, rfl, hb, nz, dz⟩, S.below⟩)
      | false =>
        obtain ⟨hq, rfl⟩ : 0 = q ∧ 2 = c := by unfold parseR at h; rw [h1] at h; simp only [h2, h3] at h; simpa using h
        have H3 := Lib.hid (fun W => wparse_bad s W h3)
        have H4 := Lib.hid hq
        clear h h1 h2 h3 hl1 hq
        have S := (St.start w).alloc 27 [.bool false, .slice none 0 0, .slice none 0 0] (w.heap.size)
        have c0_0 := S.c 0 0 rfl rfl
        have c0_1 := S.c 0 1 rfl rfl
        have c0_2 := S.c 0 2 rfl rfl
        go_enter Tryz.func7, Tryz.ntmps7
        go_wp2_with fail
        clear c0_0 c0_1 c0_2
        refine (S.call (H1.out _)).mono ?_
        clear S
        rintro e w1 ⟨rfl, S, H⟩
        clear H
        have c0_0 := S.c 0 0 rfl rfl
        have c0_1 := S.c 0 1 rfl rfl
        have c0_2 := S.c 0 2 rfl rfl
        go_wp2_with fail
        clear c0_0 c0_1 c0_2
        refine (S.call (H2.out _)).mono ?_
        clear S
        rintro e w2 ⟨rfl, S, H⟩
        clear H
        have c0_0 := S.c 0 0 rfl rfl
        have c0_1 := S.c 0 1 rfl rfl
        have c0_2 := S.c 0 2 rfl rfl
        go_wp2_with fail
        clear c0_0 c0_1 c0_2
        refine (S.call (H3.out _)).mono ?_
        clear S
        rintro e w3 ⟨⟨_, rfl, pn, ln, Kn, rfl, nn⟩, S, H⟩
        clear H
        have c0_0 := S.c 0 0 rfl rfl
        have c0_1 := S.c 0 1 rfl rfl
        have c0_2 := S.c 0 2 rfl rfl
        have H := S.hnew 25 [.bool (negB 0), .slice pn ln Kn]
        replace S := S.alloc 25 [.bool (negB 0), .slice pn ln Kn] (w3.heap.size)
        replace nn := nn.hold H
        clear H
        clear c0_0 c0_1 c0_2
        have c0_0 := S.c 0 0 rfl rfl
        have c0_1 := S.c 0 1 rfl rfl
        have c0_2 := S.c 0 2 rfl rfl
        have c1_0 := S.c 1 0 rfl rfl
        have c1_1 := S.c 1 1 rfl rfl
        go_wp2_with fail
        clear c0_0 c0_1 c0_2 c1_0 c1_1
        refine (S.call (rwhole_any (x := 0) ⟨_, _, _, rfl, nn⟩ (lt_maxN (by decide)) q (by rw [← H4.out]; rfl))).mono ?_
        clear S
        rintro e w4 ⟨⟨_, rfl, b, p, l, K, q', j, J, rfl, hb, nz, dz⟩, S, H⟩
        replace nn := nn.hold H
        clear H
        have c0_0 := S.c 0 0 rfl rfl
        have c0_1 := S.c 0 1 rfl rfl
        have c0_2 := S.c 0 2 rfl rfl
        have c1_0 := S.c 1 0 rfl rfl
        have c1_1 := S.c 1 1 rfl rfl
        have f0_0 := S.f 0 0 rfl
        have H := S.hset 0 0 (.bool b) rfl rfl (by intro q n e; cases e)
        replace S := S.set 0 0 (.bool b) rfl
        replace nn := nn.hold H
        replace nz := nz.hold H
        replace dz := dz.hold H
        clear H
        have f0_1 := S.f 0 1 rfl
        have H := S.hset 0 1 (.slice p l K) rfl rfl (by intro q n e; cases e)
        replace S := S.set 0 1 (.slice p l K) rfl
        replace nn := nn.hold H
        replace nz := nz.hold H
        replace dz := dz.hold H
        clear H
        have f0_2 := S.f 0 2 rfl
        have H := S.hset 0 2 (.slice q' j J) rfl rfl (by intro q n e; cases e)
        replace S := S.set 0 2 (.slice q' j J) rfl
        replace nn := nn.hold H
        replace nz := nz.hold H
        replace dz := dz.hold H
        clear H
        go_wp2_with fail
        have d0_0 := S.c 0 0 rfl rfl
        have d0_1 := S.c 0 1 rfl rfl
        have d0_2 := S.c 0 2 rfl rfl
        exact bodyPost_ret (v := .tuple #[.agg #[.bool b, .slice p l K, .slice q' j J], .int .i64 2]) (by simp [results, Tryz.f7, go_sem, d0_0, d0_1, d0_2]) rfl (⟨⟨_, rfl, b, p, l, K, q', j, J, rfl, hb, nz, dz⟩, S.below⟩)

end Go.Proofs.YtggnjlbnfgjgdaaGreat

namespace Go.Proofs.YtggnjlbnfgjgdaaGreat
open Go.RowKit

theorem IsRText.uniq {l m : List Nat} {x : Rat} (h : IsRText l x) (g : IsRText m x) : l = m := by
  rcases h with ⟨h0, h1⟩ | ⟨h0, t, u, rfl, h1, h2⟩ <;> rcases g with ⟨g0, g1⟩ | ⟨g0, t', u', rfl, g1, g2⟩
  · exact h1.uniq g1
  · exact absurd h0 g0
  · exact absurd g0 h0
  · rw [h1.uniq g1, h2.uniq g2]
theorem rtext_lit {va : Value} {x : Rat} {w : World} (ha : IsRat w va x) (s : ByteArray) (hx : x.num.natAbs < maxN ∧ x.den < maxN) (hs : IsRText (bs s) x) :
    Calls Tryz.prog 6 #[va] w fun e w' => e = .returned (.string s) ∧ Below w.heap.size w w' :=
  (rtext_any ha hx).mono fun _ _ h => ⟨by obtain ⟨t, h1, h2⟩ := h.1; rw [h1, bs_inj (h2.uniq hs)], h.2⟩
theorem rb_one {x : Rat} (h1 : x.num.natAbs < 4294967296) (h2 : x.den < 4294967296) : RB x 1 := ⟨by rw [NB_one]; exact h1, by rw [NB_one]; exact h2⟩
theorem rtext_frac (n : Int) (d : Nat) (x : Rat) (hn : x.num = n) (hd : x.den = d) (t u l : List Nat) (hl : l = t ++ 47 :: u) (h1 : d ≠ 1) (ht : IsIText t n) (hu : IsText u d) : IsRText l x :=
  .inr ⟨by rw [hd]; exact h1, t, u, hl, by rw [hn]; exact ht, by rw [hd]; exact hu⟩

def rA : Rat := mkRat 1 2
def rB : Rat := mkRat (-1) 3
def rS : Rat := mkRat 1 6
def rD : Rat := mkRat 5 6
def rP : Rat := mkRat (-1) 6
def rQ : Rat := mkRat (-3) 2
def rT : Rat := mkRat 2 3
def rX : Rat := mkRat (-1) 4
def rBn : Rat := mkRat 1 3
def rAn : Rat := mkRat (-1) 2
theorem rA_is : rA = Rat.divInt 1 2 := by decide +kernel
theorem rB_is : rB = Rat.divInt (-2) 6 := by decide +kernel
theorem rS_is : rA + rB = rS := by decide +kernel
theorem rD_is : rA - rB = rD := by decide +kernel
theorem rP_is : rA * rB = rP := by decide +kernel
theorem rQ_is : rA / rB = rQ := by decide +kernel
theorem rT_is : rA + rA + rB = rT := by decide +kernel
theorem rX_is : parseR (bs ⟨#[45, 48, 46, 50, 53]⟩) = (rX, 0) := by decide +kernel
theorem rBn_is : rB.abs = rBn := by decide +kernel
theorem rAn_is : -rA = rAn := by decide +kernel
theorem rQ_floor : rQ.floor = -2 := by decide +kernel
theorem rQ_ceil : rQ.ceil = -1 := by decide +kernel
theorem rAB_cmp : cmpR rA rB = 1 := by decide +kernel
theorem rA_rb : RB rA 1 := rb_one (by decide +kernel) (by decide +kernel)
theorem rA_max : rA.num.natAbs < maxN ∧ rA.den < maxN := rb_max rA_rb (by decide)
theorem rB_rb : RB rB 1 := rb_one (by decide +kernel) (by decide +kernel)
theorem rB_max : rB.num.natAbs < maxN ∧ rB.den < maxN := rb_max rB_rb (by decide)
theorem rS_rb : RB rS 1 := rb_one (by decide +kernel) (by decide +kernel)
theorem rS_max : rS.num.natAbs < maxN ∧ rS.den < maxN := rb_max rS_rb (by decide)
theorem rD_rb : RB rD 1 := rb_one (by decide +kernel) (by decide +kernel)
theorem rD_max : rD.num.natAbs < maxN ∧ rD.den < maxN := rb_max rD_rb (by decide)
theorem rP_rb : RB rP 1 := rb_one (by decide +kernel) (by decide +kernel)
theorem rP_max : rP.num.natAbs < maxN ∧ rP.den < maxN := rb_max rP_rb (by decide)
theorem rQ_rb : RB rQ 1 := rb_one (by decide +kernel) (by decide +kernel)
theorem rQ_max : rQ.num.natAbs < maxN ∧ rQ.den < maxN := rb_max rQ_rb (by decide)
theorem rT_rb : RB rT 1 := rb_one (by decide +kernel) (by decide +kernel)
theorem rT_max : rT.num.natAbs < maxN ∧ rT.den < maxN := rb_max rT_rb (by decide)
theorem rX_rb : RB rX 1 := rb_one (by decide +kernel) (by decide +kernel)
theorem rX_max : rX.num.natAbs < maxN ∧ rX.den < maxN := rb_max rX_rb (by decide)
theorem rBn_rb : RB rBn 1 := rb_one (by decide +kernel) (by decide +kernel)
theorem rBn_max : rBn.num.natAbs < maxN ∧ rBn.den < maxN := rb_max rBn_rb (by decide)
theorem rAn_rb : RB rAn 1 := rb_one (by decide +kernel) (by decide +kernel)
theorem rAn_max : rAn.num.natAbs < maxN ∧ rAn.den < maxN := rb_max rAn_rb (by decide)
theorem rS_text : IsRText (bs ⟨#[49, 47, 54]⟩) rS := rtext_frac (1) 6 rS (by decide +kernel) (by decide +kernel) [49] [54] _ rfl (by decide) (itext_pos (by decide) ⟨by decide, by decide, by decide, by decide⟩) ⟨by decide, by decide, by decide, by decide⟩
theorem rD_text : IsRText (bs ⟨#[53, 47, 54]⟩) rD := rtext_frac (5) 6 rD (by decide +kernel) (by decide +kernel) [53] [54] _ rfl (by decide) (itext_pos (by decide) ⟨by decide, by decide, by decide, by decide⟩) ⟨by decide, by decide, by decide, by decide⟩
theorem rP_text : IsRText (bs ⟨#[45, 49, 47, 54]⟩) rP := rtext_frac (-1) 6 rP (by decide +kernel) (by decide +kernel) [45, 49] [54] _ rfl (by decide) (itext_neg (by decide) rfl ⟨by decide, by decide, by decide, by decide⟩) ⟨by decide, by decide, by decide, by decide⟩
theorem rQ_text : IsRText (bs ⟨#[45, 51, 47, 50]⟩) rQ := rtext_frac (-3) 2 rQ (by decide +kernel) (by decide +kernel) [45, 51] [50] _ rfl (by decide) (itext_neg (by decide) rfl ⟨by decide, by decide, by decide, by decide⟩) ⟨by decide, by decide, by decide, by decide⟩
theorem rT_text : IsRText (bs ⟨#[50, 47, 51]⟩) rT := rtext_frac (2) 3 rT (by decide +kernel) (by decide +kernel) [50] [51] _ rfl (by decide) (itext_pos (by decide) ⟨by decide, by decide, by decide, by decide⟩) ⟨by decide, by decide, by decide, by decide⟩
theorem rX_text : IsRText (bs ⟨#[45, 49, 47, 52]⟩) rX := rtext_frac (-1) 4 rX (by decide +kernel) (by decide +kernel) [45, 49] [52] _ rfl (by decide) (itext_neg (by decide) rfl ⟨by decide, by decide, by decide, by decide⟩) ⟨by decide, by decide, by decide, by decide⟩
theorem rBn_text : IsRText (bs ⟨#[49, 47, 51]⟩) rBn := rtext_frac (1) 3 rBn (by decide +kernel) (by decide +kernel) [49] [51] _ rfl (by decide) (itext_pos (by decide) ⟨by decide, by decide, by decide, by decide⟩) ⟨by decide, by decide, by decide, by decide⟩
theorem rAn_text : IsRText (bs ⟨#[45, 49, 47, 50]⟩) rAn := rtext_frac (-1) 2 rAn (by decide +kernel) (by decide +kernel) [45, 49] [50] _ rfl (by decide) (itext_neg (by decide) rfl ⟨by decide, by decide, by decide, by decide⟩) ⟨by decide, by decide, by decide, by decide⟩
theorem r4_text : IsRText (bs ⟨#[52]⟩) ((4 : Int) : Rat) := .inl ⟨rfl, itext_pos (by decide) ⟨by decide, by decide, by decide, by decide⟩⟩
theorem r4_max : ((4 : Int) : Rat).num.natAbs < maxN ∧ ((4 : Int) : Rat).den < maxN := rb_max (rb_one (by decide) (by decide)) (by decide)

set_option maxRecDepth 100000 in
set_option maxHeartbeats 4000000 in
theorem rcheck_empty (w : World) :
    Calls Tryz.prog 31 #[.agg #[.bool false, .slice none 0 0, .slice none 0 0]] w fun e w' => e = .returned (.int .i64 2) ∧ Below w.heap.size w w' := by
  have S := (St.start w).alloc 27 [.bool false, .slice none 0 0, .slice none 0 0] (w.heap.size)
  have c0_0 := S.c 0 0 rfl rfl
  have c0_1 := S.c 0 1 rfl rfl
  have c0_2 := S.c 0 2 rfl rfl
  go_enter Tryz.func31, Tryz.ntmps31
  go_upto_region 1 with fail
  clear c0_0 c0_1 c0_2
  generalize (w.alloc (.cells #[.bool false, .slice none 0 0, .slice none 0 0] 27)) = w1 at S  ⊢
  have HH := Hold.drew w1
  replace S := S.drew
  refine wp_region_held_drew (S := fun W => W.cell? ⟨w.heap.size, 0, none⟩ = some (.bool false) ∧ W.cell? ⟨w.heap.size, 1, none⟩ = some (.slice none 0 0) ∧ W.cell? ⟨w.heap.size, 2, none⟩ = some (.slice none 0 0)) (by kernel_rfl) ⟨S.c 0 0 rfl rfl, S.c 0 1 rfl rfl, S.c 0 2 rfl rfl⟩ (fun hS => ?_)
  generalize w1.drew = w2 at S  HH hS ⊢
  refine wpAnyH_take (i := 0) (v := ?_) ((List.getElem?_toArray ..).trans rfl) (by kernel_rfl) (by kernel_rfl) (by kernel_rfl) (fun _ _ _ h => h) (Or.inl ⟨rfl, fun W hW => ?_⟩) hS ?_
  rotate_left
  · obtain ⟨hW0, hW1, hW2⟩ := hW; go_simp; try first | rfl | (rw [if_neg (by first | omega | (simp only [ByteArray.size_append]; first | omega | (have h1 : (ByteArray.mk #[47]).size = 1 := rfl; omega)))]; try rfl) | kernel_rfl
  try simp only [Act.put, List.setIfInBounds_toArray, List.set_cons_zero, List.set_cons_succ]
  refine wpAnyH_take (i := 1) (v := ?_) ((List.getElem?_toArray ..).trans rfl) (by kernel_rfl) (by kernel_rfl) (by kernel_rfl) (fun _ _ _ h => h) (Or.inl ⟨rfl, fun W hW => ?_⟩) hS ?_
  rotate_left
  · obtain ⟨hW0, hW1, hW2⟩ := hW; go_simp; try first | rfl | (rw [if_neg (by first | omega | (simp only [ByteArray.size_append]; first | omega | (have h1 : (ByteArray.mk #[47]).size = 1 := rfl; omega)))]; try rfl) | kernel_rfl
  try simp only [Act.put, List.setIfInBounds_toArray, List.set_cons_zero, List.set_cons_succ]
  refine wpAnyH_take (i := 3) (v := ?_) ((List.getElem?_toArray ..).trans rfl) (by kernel_rfl) (by kernel_rfl) (by kernel_rfl) (fun _ _ _ h => h) (Or.inl ⟨rfl, fun W hW => ?_⟩) hS ?_
  rotate_left
  · obtain ⟨hW0, hW1, hW2⟩ := hW; go_simp; try first | rfl | (rw [if_neg (by first | omega | (simp only [ByteArray.size_append]; first | omega | (have h1 : (ByteArray.mk #[47]).size = 1 := rfl; omega)))]; try rfl) | kernel_rfl
  try simp only [Act.put, List.setIfInBounds_toArray, List.set_cons_zero, List.set_cons_succ]
  refine wpAnyH_take (i := 4) (v := ?_) ((List.getElem?_toArray ..).trans rfl) (by kernel_rfl) (by kernel_rfl) (by kernel_rfl) (fun _ _ _ h => h) (Or.inl ⟨rfl, fun W hW => ?_⟩) hS ?_
  rotate_left
  · obtain ⟨hW0, hW1, hW2⟩ := hW; go_simp; try first | rfl | (rw [if_neg (by first | omega | (simp only [ByteArray.size_append]; first | omega | (have h1 : (ByteArray.mk #[47]).size = 1 := rfl; omega)))]; try rfl) | kernel_rfl
  try simp only [Act.put, List.setIfInBounds_toArray, List.set_cons_zero, List.set_cons_succ]
  refine wpAnyH_ready (rs := [2]) (by kernel_rfl) (by simp) (AllReadyH.cons ((List.getElem?_toArray ..).trans rfl) (fun KK hKK => ?_) AllReadyH.nil)
  go_simp
  clear hS
  refine (S.call (wcheck_any (IsInt.zero _) (lit_max _ (by decide)))).mono ?_
  clear S
  rintro e w3 ⟨rfl, S, H⟩
  replace HH := HH.trans H
  clear H
  go_wp2_with fail
  refine hKK.out _ _ ⟨S.c 0 0 rfl rfl, S.c 0 1 rfl rfl, S.c 0 2 rfl rfl⟩ (fun hS => ?_)
  clear hKK KK
  try simp only [Act.put, List.setIfInBounds_toArray, List.set_cons_zero, List.set_cons_succ]
  refine wpAnyH_ready (rs := [5]) (by kernel_rfl) (by simp) (AllReadyH.cons ((List.getElem?_toArray ..).trans rfl) (fun KK hKK => ?_) AllReadyH.nil)
  go_simp
  clear hS
  refine (S.call (check_nat (n := 0) ⟨[], .nil _ _, Can.nil _, rfl⟩ (lit_max _ (by decide)))).mono ?_
  clear S
  rintro e w4 ⟨rfl, S, H⟩
  replace HH := HH.trans H
  clear H
  go_wp2_with fail
  refine hKK.out _ _ ⟨S.c 0 0 rfl rfl, S.c 0 1 rfl rfl, S.c 0 2 rfl rfl⟩ (fun hS => ?_)
  clear hKK KK
  try simp only [Act.put, List.setIfInBounds_toArray, List.set_cons_zero, List.set_cons_succ]
  refine wpAnyH_ready (rs := [6]) (by kernel_rfl) (by simp) (AllReadyH.cons ((List.getElem?_toArray ..).trans rfl) (fun KK hKK => ?_) AllReadyH.nil)
  go_simp
  clear hS
  have H := S.hnew 31 [.int .i64 0, .int .i64 0]
  replace S := S.alloc 31 [.int .i64 0, .int .i64 0] (w4.heap.size)
  replace HH := HH.trans H
  clear H
  refine hKK.out _ _ ⟨S.c 0 0 rfl rfl, S.c 0 1 rfl rfl, S.c 0 2 rfl rfl⟩ (fun hS => ?_)
  generalize (w4.alloc (.cells #[.int .i64 0, .int .i64 0] 31)) = w5 at S  HH hS ⊢
  clear hKK KK
  try simp only [Act.put, List.setIfInBounds_toArray, List.set_cons_zero, List.set_cons_succ]
  refine wpAnyH_ready (rs := [7]) (by kernel_rfl) (by simp) (AllReadyH.cons ((List.getElem?_toArray ..).trans rfl) (fun KK hKK => ?_) AllReadyH.nil)
  go_simp
  clear hS
  refine (S.call (or_two S 1 rfl)).mono ?_
  clear S
  rintro e w6 ⟨rfl, S, H⟩
  replace HH := HH.trans H
  clear H
  go_wp2_with fail
  refine hKK.out _ _ ⟨S.c 0 0 rfl rfl, S.c 0 1 rfl rfl, S.c 0 2 rfl rfl⟩ (fun hS => ?_)
  clear hKK KK
  try simp only [Act.put, List.setIfInBounds_toArray, List.set_cons_zero, List.set_cons_succ]
  refine wpAnyH_ready (rs := [8]) (by kernel_rfl) (by simp) (AllReadyH.cons ((List.getElem?_toArray ..).trans rfl) (fun KK hKK => ?_) AllReadyH.nil)
  go_simp
  refine hKK.out _ _ hS (fun hS => ?_)
  clear hKK KK
  try simp only [Act.put, List.setIfInBounds_toArray, List.set_cons_zero, List.set_cons_succ]
  refine wpAnyH_done (by kernel_rfl) ?_ _
  clear hS HH
  have c0_0 := S.c 0 0 rfl rfl
  have c0_1 := S.c 0 1 rfl rfl
  have c0_2 := S.c 0 2 rfl rfl
  go_wp2_with fail
  clear c0_0 c0_1 c0_2
  refine (S.call (bits_nat (m := 0) (t := 0) ⟨[], .nil _ _, Can.nil _, rfl⟩ (lit_max _ (by decide)) rfl)).mono ?_
  clear S
  rintro e w7 ⟨rfl, S, H⟩
  clear H
  have c0_0 := S.c 0 0 rfl rfl
  have c0_1 := S.c 0 1 rfl rfl
  have c0_2 := S.c 0 2 rfl rfl
  go_wp2_with fail
  exact bodyPost_ret (v := .int .i64 2) (by simp [results, Tryz.f31, go_sem]) rfl (⟨rfl, S.below⟩)

theorem rabs_to {va : Value} {x : Rat} {w : World} (ha : IsRat w va x) (hx : x.num.natAbs < maxN ∧ x.den < maxN) (q : Rat) (hq : x.abs = q) :
    Calls Tryz.prog 26 #[va] w fun e w' => (∃ u, e = .returned u ∧ IsRat w' u q) ∧ Below w.heap.size w w' := by
  rw [← hq]; exact rabs_any ha hx

end Go.Proofs.YtggnjlbnfgjgdaaGreat

namespace Go.Proofs.YtggnjlbnfgjgdaaGreat
open Go.RowKit

set_option maxRecDepth 100000 in
set_option maxHeartbeats 16000000 in
theorem parts_any (w : World) : Calls Tryz.prog 4 #[] w fun e w' => e = .returned (.bool true) ∧ Below w.heap.size w w' := by
  have S := St.start w
  go_enter Tryz.func4, Tryz.ntmps4
  go_wp2_with fail
  refine (S.call (rof_any 1 2 _ (by decide) (by decide) (by decide) (by decide) (by decide) rA rA_is)).mono ?_
  clear S
  rintro e w1 ⟨⟨_, rfl, bA, pA, lA, KA, qA, jA, JA, rfl, hA, nA, dA⟩, S, H⟩
  clear H
  go_wp2_with fail
  refine (S.call (rof_any (-2) 6 _ (by decide) (by decide) (by decide) (by decide) (by decide) rB rB_is)).mono ?_
  clear S
  rintro e w2 ⟨⟨_, rfl, bB, pB, lB, KB, qB, jB, JB, rfl, hB, nB, dB⟩, S, H⟩
  replace nA := nA.hold H
  replace dA := dA.hold H
  clear H
  have H := S.hnew 27 [.bool bA, .slice pA lA KA, .slice qA jA JA]
  replace S := S.alloc 27 [.bool bA, .slice pA lA KA, .slice qA jA JA] (w2.heap.size)
  replace nA := nA.hold H
  replace dA := dA.hold H
  replace nB := nB.hold H
  replace dB := dB.hold H
  clear H
  have H := S.hnew 27 [.bool bB, .slice pB lB KB, .slice qB jB JB]
  replace S := S.alloc 27 [.bool bB, .slice pB lB KB, .slice qB jB JB] (w2.heap.size + 1)
  replace nA := nA.hold H
  replace dA := dA.hold H
  replace nB := nB.hold H
  replace dB := dB.hold H
  clear H
  have c0_0 := S.c 0 0 rfl rfl
  have c0_1 := S.c 0 1 rfl rfl
  have c0_2 := S.c 0 2 rfl rfl
  have c1_0 := S.c 1 0 rfl rfl
  have c1_1 := S.c 1 1 rfl rfl
  have c1_2 := S.c 1 2 rfl rfl
  go_wp2_with fail
  clear c0_0 c0_1 c0_2 c1_0 c1_1 c1_2
  refine (S.call (radd_any ⟨bA, pA, lA, KA, qA, jA, JA, rfl, hA, nA, dA⟩ ⟨bB, pB, lB, KB, qB, jB, JB, rfl, hB, nB, dB⟩ rA_rb rB_rb (by decide) rS rS_is)).mono ?_
  clear S
  rintro e w3 ⟨⟨_, rfl, bS, pS, lS, KS, qS, jS, JS, rfl, hS, nS, dS⟩, S, H⟩
  replace nA := nA.hold H
  replace dA := dA.hold H
  replace nB := nB.hold H
  replace dB := dB.hold H
  clear H
  have c0_0 := S.c 0 0 rfl rfl
  have c0_1 := S.c 0 1 rfl rfl
  have c0_2 := S.c 0 2 rfl rfl
  have c1_0 := S.c 1 0 rfl rfl
  have c1_1 := S.c 1 1 rfl rfl
  have c1_2 := S.c 1 2 rfl rfl
  have H := S.hnew 27 [.bool bS, .slice pS lS KS, .slice qS jS JS]
  replace S := S.alloc 27 [.bool bS, .slice pS lS KS, .slice qS jS JS] (w3.heap.size)
  replace nA := nA.hold H
  replace dA := dA.hold H
  replace nB := nB.hold H
  replace dB := dB.hold H
  replace nS := nS.hold H
  replace dS := dS.hold H
  clear H
  clear c0_0 c0_1 c0_2 c1_0 c1_1 c1_2
  have c0_0 := S.c 0 0 rfl rfl
  have c0_1 := S.c 0 1 rfl rfl
  have c0_2 := S.c 0 2 rfl rfl
  have c1_0 := S.c 1 0 rfl rfl
  have c1_1 := S.c 1 1 rfl rfl
  have c1_2 := S.c 1 2 rfl rfl
  go_wp2_with fail
  generalize (.tuple #[.agg #[.bool bS, .slice pS lS KS, .slice qS jS JS], .int .i64 0] : Value) = g1
  clear c0_0 c0_1 c0_2 c1_0 c1_1 c1_2
  refine (S.call (rsub_any ⟨bA, pA, lA, KA, qA, jA, JA, rfl, hA, nA, dA⟩ ⟨bB, pB, lB, KB, qB, jB, JB, rfl, hB, nB, dB⟩ rA_rb rB_rb (by decide) rD rD_is)).mono ?_
  clear S
  rintro e w4 ⟨⟨_, rfl, bD, pD, lD, KD, qD, jD, JD, rfl, hD, nD, dD⟩, S, H⟩
  replace nA := nA.hold H
  replace dA := dA.hold H
  replace nB := nB.hold H
  replace dB := dB.hold H
  replace nS := nS.hold H
  replace dS := dS.hold H
  clear H
  have c0_0 := S.c 0 0 rfl rfl
  have c0_1 := S.c 0 1 rfl rfl
  have c0_2 := S.c 0 2 rfl rfl
  have c1_0 := S.c 1 0 rfl rfl
  have c1_1 := S.c 1 1 rfl rfl
  have c1_2 := S.c 1 2 rfl rfl
  have H := S.hnew 27 [.bool bD, .slice pD lD KD, .slice qD jD JD]
  replace S := S.alloc 27 [.bool bD, .slice pD lD KD, .slice qD jD JD] (w4.heap.size)
  replace nA := nA.hold H
  replace dA := dA.hold H
  replace nB := nB.hold H
  replace dB := dB.hold H
  replace nS := nS.hold H
  replace dS := dS.hold H
  replace nD := nD.hold H
  replace dD := dD.hold H
  clear H
  clear c0_0 c0_1 c0_2 c1_0 c1_1 c1_2
  have c0_0 := S.c 0 0 rfl rfl
  have c0_1 := S.c 0 1 rfl rfl
  have c0_2 := S.c 0 2 rfl rfl
  have c1_0 := S.c 1 0 rfl rfl
  have c1_1 := S.c 1 1 rfl rfl
  have c1_2 := S.c 1 2 rfl rfl
  go_wp2_with fail
  generalize (.tuple #[.agg #[.bool bD, .slice pD lD KD, .slice qD jD JD], .int .i64 0] : Value) = g2
  clear c0_0 c0_1 c0_2 c1_0 c1_1 c1_2
  refine (S.call (rmul_any ⟨bA, pA, lA, KA, qA, jA, JA, rfl, hA, nA, dA⟩ ⟨bB, pB, lB, KB, qB, jB, JB, rfl, hB, nB, dB⟩ rA_rb rB_rb (by decide) rP rP_is)).mono ?_
  clear S
  rintro e w5 ⟨⟨_, rfl, bP, pP, lP, KP, qP, jP, JP, rfl, hP, nP, dP⟩, S, H⟩
  replace nA := nA.hold H
  replace dA := dA.hold H
  replace nB := nB.hold H
  replace dB := dB.hold H
  replace nS := nS.hold H
  replace dS := dS.hold H
  replace nD := nD.hold H
  replace dD := dD.hold H
  clear H
  have c0_0 := S.c 0 0 rfl rfl
  have c0_1 := S.c 0 1 rfl rfl
  have c0_2 := S.c 0 2 rfl rfl
  have c1_0 := S.c 1 0 rfl rfl
  have c1_1 := S.c 1 1 rfl rfl
  have c1_2 := S.c 1 2 rfl rfl
  have H := S.hnew 27 [.bool bP, .slice pP lP KP, .slice qP jP JP]
  replace S := S.alloc 27 [.bool bP, .slice pP lP KP, .slice qP jP JP] (w5.heap.size)
  replace nA := nA.hold H
  replace dA := dA.hold H
  replace nB := nB.hold H
  replace dB := dB.hold H
  replace nS := nS.hold H
  replace dS := dS.hold H
  replace nD := nD.hold H
  replace dD := dD.hold H
  replace nP := nP.hold H
  replace dP := dP.hold H
  clear H
  clear c0_0 c0_1 c0_2 c1_0 c1_1 c1_2
  have c0_0 := S.c 0 0 rfl rfl
  have c0_1 := S.c 0 1 rfl rfl
  have c0_2 := S.c 0 2 rfl rfl
  have c1_0 := S.c 1 0 rfl rfl
  have c1_1 := S.c 1 1 rfl rfl
  have c1_2 := S.c 1 2 rfl rfl
  go_wp2_with fail
  generalize (.tuple #[.agg #[.bool bP, .slice pP lP KP, .slice qP jP JP], .int .i64 0] : Value) = g3
  clear c0_0 c0_1 c0_2 c1_0 c1_1 c1_2
  refine (S.call (rdiv_any ⟨bA, pA, lA, KA, qA, jA, JA, rfl, hA, nA, dA⟩ ⟨bB, pB, lB, KB, qB, jB, JB, rfl, hB, nB, dB⟩ rA_rb rB_rb (by decide) (by decide +kernel) rQ rQ_is)).mono ?_
  clear S
  rintro e w6 ⟨⟨_, rfl, bQ, pQ, lQ, KQ, qQ, jQ, JQ, rfl, hQ, nQ, dQ⟩, S, H⟩
  replace nA := nA.hold H
  replace dA := dA.hold H
  replace nB := nB.hold H
  replace dB := dB.hold H
  replace nS := nS.hold H
  replace dS := dS.hold H
  replace nD := nD.hold H
  replace dD := dD.hold H
  replace nP := nP.hold H
  replace dP := dP.hold H
  clear H
  have c0_0 := S.c 0 0 rfl rfl
  have c0_1 := S.c 0 1 rfl rfl
  have c0_2 := S.c 0 2 rfl rfl
  have c1_0 := S.c 1 0 rfl rfl
  have c1_1 := S.c 1 1 rfl rfl
  have c1_2 := S.c 1 2 rfl rfl
  have H := S.hnew 27 [.bool bQ, .slice pQ lQ KQ, .slice qQ jQ JQ]
  replace S := S.alloc 27 [.bool bQ, .slice pQ lQ KQ, .slice qQ jQ JQ] (w6.heap.size)
  replace nA := nA.hold H
  replace dA := dA.hold H
  replace nB := nB.hold H
  replace dB := dB.hold H
  replace nS := nS.hold H
  replace dS := dS.hold H
  replace nD := nD.hold H
  replace dD := dD.hold H
  replace nP := nP.hold H
  replace dP := dP.hold H
  replace nQ := nQ.hold H
  replace dQ := dQ.hold H
  clear H
  clear c0_0 c0_1 c0_2 c1_0 c1_1 c1_2
  have c0_0 := S.c 0 0 rfl rfl
  have c0_1 := S.c 0 1 rfl rfl
  have c0_2 := S.c 0 2 rfl rfl
  have c1_0 := S.c 1 0 rfl rfl
  have c1_1 := S.c 1 1 rfl rfl
  have c1_2 := S.c 1 2 rfl rfl
  have H := S.hnew 27 [.bool bA, .slice pA lA KA, .slice qA jA JA, .bool bA, .slice pA lA KA, .slice qA jA JA, .bool bB, .slice pB lB KB, .slice qB jB JB]
  replace S := S.alloc 27 [.bool bA, .slice pA lA KA, .slice qA jA JA, .bool bA, .slice pA lA KA, .slice qA jA JA, .bool bB, .slice pB lB KB, .slice qB jB JB] (w6.heap.size + 1)
  replace nA := nA.hold H
  replace dA := dA.hold H
  replace nB := nB.hold H
  replace dB := dB.hold H
  replace nS := nS.hold H
  replace dS := dS.hold H
  replace nD := nD.hold H
  replace dD := dD.hold H
  replace nP := nP.hold H
  replace dP := dP.hold H
  replace nQ := nQ.hold H
  replace dQ := dQ.hold H
  clear H
  go_wp2_with fail
  generalize (.tuple #[.agg #[.bool bQ, .slice pQ lQ KQ, .slice qQ jQ JQ], .int .i64 0] : Value) = g4
  clear c0_0 c0_1 c0_2 c1_0 c1_1 c1_2
  refine (S.call (rsum3 (rats3 S 6 rfl hA hA hB nA dA nA dA nB dB) 1 rA_rb rA_rb rB_rb (by decide) rT rT_is)).mono ?_
  clear S
  rintro e w7 ⟨⟨_, rfl, bT, pT, lT, KT, qT, jT, JT, rfl, hT, nT, dT⟩, S, H⟩
  replace nA := nA.hold H
  replace dA := dA.hold H
  replace nB := nB.hold H
  replace dB := dB.hold H
  replace nS := nS.hold H
  replace dS := dS.hold H
  replace nD := nD.hold H
  replace dD := dD.hold H
  replace nP := nP.hold H
  replace dP := dP.hold H
  replace nQ := nQ.hold H
  replace dQ := dQ.hold H
  clear H
  have c0_0 := S.c 0 0 rfl rfl
  have c0_1 := S.c 0 1 rfl rfl
  have c0_2 := S.c 0 2 rfl rfl
  have c1_0 := S.c 1 0 rfl rfl
  have c1_1 := S.c 1 1 rfl rfl
  have c1_2 := S.c 1 2 rfl rfl
  have H := S.hnew 27 [.bool bT, .slice pT lT KT, .slice qT jT JT]
  replace S := S.alloc 27 [.bool bT, .slice pT lT KT, .slice qT jT JT] (w7.heap.size)
  replace nA := nA.hold H
  replace dA := dA.hold H
  replace nB := nB.hold H
  replace dB := dB.hold H
  replace nS := nS.hold H
  replace dS := dS.hold H
  replace nD := nD.hold H
  replace dD := dD.hold H
  replace nP := nP.hold H
  replace dP := dP.hold H
  replace nQ := nQ.hold H
  replace dQ := dQ.hold H
  replace nT := nT.hold H
  replace dT := dT.hold H
  clear H
  clear c0_0 c0_1 c0_2 c1_0 c1_1 c1_2
  have c0_0 := S.c 0 0 rfl rfl
  have c0_1 := S.c 0 1 rfl rfl
  have c0_2 := S.c 0 2 rfl rfl
  have c1_0 := S.c 1 0 rfl rfl
  have c1_1 := S.c 1 1 rfl rfl
  have c1_2 := S.c 1 2 rfl rfl
  go_wp2_with fail
  generalize (.tuple #[.agg #[.bool bT, .slice pT lT KT, .slice qT jT JT], .int .i64 0] : Value) = g5
  clear c0_0 c0_1 c0_2 c1_0 c1_1 c1_2
  refine (S.call (rcompare_any ⟨bA, pA, lA, KA, qA, jA, JA, rfl, hA, nA, dA⟩ ⟨bB, pB, lB, KB, qB, jB, JB, rfl, hB, nB, dB⟩ rA_rb rB_rb (by decide) 1 rAB_cmp)).mono ?_
  clear S
  rintro e w8 ⟨rfl, S, H⟩
  replace nA := nA.hold H
  replace dA := dA.hold H
  replace nB := nB.hold H
  replace dB := dB.hold H
  replace nS := nS.hold H
  replace dS := dS.hold H
  replace nD := nD.hold H
  replace dD := dD.hold H
  replace nP := nP.hold H
  replace dP := dP.hold H
  replace nQ := nQ.hold H
  replace dQ := dQ.hold H
  replace nT := nT.hold H
  replace dT := dT.hold H
  clear H
  have c0_0 := S.c 0 0 rfl rfl
  have c0_1 := S.c 0 1 rfl rfl
  have c0_2 := S.c 0 2 rfl rfl
  have c1_0 := S.c 1 0 rfl rfl
  have c1_1 := S.c 1 1 rfl rfl
  have c1_2 := S.c 1 2 rfl rfl
  go_wp2_with fail
  clear c0_0 c0_1 c0_2 c1_0 c1_1 c1_2
  refine (S.call (rparse_any ⟨#[45, 48, 46, 50, 53]⟩ _ (by decide) rX 0 rX_is)).mono ?_
  clear S
  rintro e w9 ⟨⟨_, rfl, bX, pX, lX, KX, qX, jX, JX, rfl, hX, nX, dX⟩, S, H⟩
  replace nA := nA.hold H
  replace dA := dA.hold H
  replace nB := nB.hold H
  replace dB := dB.hold H
  replace nS := nS.hold H
  replace dS := dS.hold H
  replace nD := nD.hold H
  replace dD := dD.hold H
  replace nP := nP.hold H
  replace dP := dP.hold H
  replace nQ := nQ.hold H
  replace dQ := dQ.hold H
  replace nT := nT.hold H
  replace dT := dT.hold H
  clear H
  have H := S.hnew 27 [.bool bX, .slice pX lX KX, .slice qX jX JX]
  replace S := S.alloc 27 [.bool bX, .slice pX lX KX, .slice qX jX JX] (w9.heap.size)
  replace nA := nA.hold H
  replace dA := dA.hold H
  replace nB := nB.hold H
  replace dB := dB.hold H
  replace nS := nS.hold H
  replace dS := dS.hold H
  replace nD := nD.hold H
  replace dD := dD.hold H
  replace nP := nP.hold H
  replace dP := dP.hold H
  replace nQ := nQ.hold H
  replace dQ := dQ.hold H
  replace nT := nT.hold H
  replace dT := dT.hold H
  replace nX := nX.hold H
  replace dX := dX.hold H
  clear H
  have c0_0 := S.c 0 0 rfl rfl
  have c0_1 := S.c 0 1 rfl rfl
  have c0_2 := S.c 0 2 rfl rfl
  go_upto_region 9 with fail
  clear c0_0 c0_1 c0_2
  generalize (.tuple #[.agg #[.bool bX, .slice pX lX KX, .slice qX jX JX], .int .i64 0] : Value) = x6
  generalize (w9.alloc (.cells #[.bool bX, .slice pX lX KX, .slice qX jX JX] 27)) = w10 at S nA dA nB dB nS dS nD dD nP dP nQ dQ nT dT nX dX ⊢
  go_cut [18] (fun s18 wx => s18 = .int .i64 10 ∧ St w wx [(w2.heap.size, 27, [.bool bA, .slice pA lA KA, .slice qA jA JA]), (w2.heap.size + 1, 27, [.bool bB, .slice pB lB KB, .slice qB jB JB]), (w3.heap.size, 27, [.bool bS, .slice pS lS KS, .slice qS jS JS]), (w4.heap.size, 27, [.bool bD, .slice pD lD KD, .slice qD jD JD]), (w5.heap.size, 27, [.bool bP, .slice pP lP KP, .slice qP jP JP]), (w6.heap.size, 27, [.bool bQ, .slice pQ lQ KQ, .slice qQ jQ JQ]), (w6.heap.size + 1, 27, [.bool bA, .slice pA lA KA, .slice qA jA JA, .bool bA, .slice pA lA KA, .slice qA jA JA, .bool bB, .slice pB lB KB, .slice qB jB JB]), (w7.heap.size, 27, [.bool bT, .slice pT lT KT, .slice qT jT JT]), (w9.heap.size, 27, [.bool bX, .slice pX lX KX, .slice qX jX JX])] ∧ Hold w10 wx)
  case first =>
    have HH := Hold.drew w10
    replace nA := nA.hold HH
    replace dA := dA.hold HH
    replace nB := nB.hold HH
    replace dB := dB.hold HH
    replace nS := nS.hold HH
    replace dS := dS.hold HH
    replace nD := nD.hold HH
    replace dD := dD.hold HH
    replace nP := nP.hold HH
    replace dP := dP.hold HH
    replace nQ := nQ.hold HH
    replace dQ := dQ.hold HH
    replace nT := nT.hold HH
    replace dT := dT.hold HH
    replace nX := nX.hold HH
    replace dX := dX.hold HH
    replace S := S.drew
    refine wp_region_held_drew (S := fun W => W.cell? ⟨w2.heap.size, 0, none⟩ = some (.bool bA) ∧ W.cell? ⟨w2.heap.size, 1, none⟩ = some (.slice pA lA KA) ∧ W.cell? ⟨w2.heap.size, 2, none⟩ = some (.slice qA jA JA)) (by kernel_rfl) ⟨S.c 0 0 rfl rfl, S.c 0 1 rfl rfl, S.c 0 2 rfl rfl⟩ (fun hS => ?_)
    generalize w10.drew = w11 at S nA dA nB dB nS dS nD dD nP dP nQ dQ nT dT nX dX HH hS ⊢
    refine wpAnyH_take (i := 0) (v := ?_) ((List.getElem?_toArray ..).trans rfl) (by kernel_rfl) (by kernel_rfl) (by kernel_rfl) (fun _ _ _ h => h) (Or.inl ⟨rfl, fun W hW => ?_⟩) hS ?_
    rotate_left
    · obtain ⟨hW0, hW1, hW2⟩ := hW; go_simp; try first | rfl | (rw [if_neg (by first | omega | (simp only [ByteArray.size_append]; first | omega | (have h1 : (ByteArray.mk #[47]).size = 1 := rfl; omega)))]; try rfl) | kernel_rfl
    try simp only [Act.put, List.setIfInBounds_toArray, List.set_cons_zero, List.set_cons_succ]
    refine wpAnyH_ready (rs := [1, 6]) (by kernel_rfl) (by simp) (AllReadyH.cons ((List.getElem?_toArray ..).trans rfl) (fun KK hKK => ?_) (AllReadyH.cons ((List.getElem?_toArray ..).trans rfl) (fun KK hKK => ?_) AllReadyH.nil))
    ·
      go_simp
      clear hS
      refine (S.call (rzero_any _)).mono ?_
      clear S
      rintro e w12 ⟨⟨_, rfl, b0, p0, l0, K0, q0, j0, J0, rfl, h0, n0, d0⟩, S, H⟩
      replace nA := nA.hold H
      replace dA := dA.hold H
      replace nB := nB.hold H
      replace dB := dB.hold H
      replace nS := nS.hold H
      replace dS := dS.hold H
      replace nD := nD.hold H
      replace dD := dD.hold H
      replace nP := nP.hold H
      replace dP := dP.hold H
      replace nQ := nQ.hold H
      replace dQ := dQ.hold H
      replace nT := nT.hold H
      replace dT := dT.hold H
      replace nX := nX.hold H
      replace dX := dX.hold H
      replace HH := HH.trans H
      clear H
      go_wp2_with fail
      refine hKK.out _ _ ⟨S.c 0 0 rfl rfl, S.c 0 1 rfl rfl, S.c 0 2 rfl rfl⟩ (fun hS => ?_)
      clear hKK KK
      try simp only [Act.put, List.setIfInBounds_toArray, List.set_cons_zero, List.set_cons_succ]
      refine wpAnyH_ready (rs := [2, 6]) (by kernel_rfl) (by simp) (AllReadyH.cons ((List.getElem?_toArray ..).trans rfl) (fun KK hKK => ?_) (AllReadyH.cons ((List.getElem?_toArray ..).trans rfl) (fun KK hKK => ?_) AllReadyH.nil))
      ·
        go_simp
        clear hS
        refine (S.call (rdiv_zero ⟨bA, pA, lA, KA, qA, jA, JA, rfl, hA, nA, dA⟩ ⟨b0, p0, l0, K0, q0, j0, J0, rfl, h0, n0, d0⟩)).mono ?_
        clear S
        rintro e w13 ⟨⟨_, rfl, b9, p9, l9, K9, q9, j9, J9, rfl, h9, n9, d9⟩, S, H⟩
        replace nA := nA.hold H
        replace dA := dA.hold H
        replace nB := nB.hold H
        replace dB := dB.hold H
        replace nS := nS.hold H
        replace dS := dS.hold H
        replace nD := nD.hold H
        replace dD := dD.hold H
        replace nP := nP.hold H
        replace dP := dP.hold H
        replace nQ := nQ.hold H
        replace dQ := dQ.hold H
        replace nT := nT.hold H
        replace dT := dT.hold H
        replace nX := nX.hold H
        replace dX := dX.hold H
        replace n0 := n0.hold H
        replace d0 := d0.hold H
        replace HH := HH.trans H
        clear H
        go_wp2_with fail
        refine hKK.out _ _ ⟨S.c 0 0 rfl rfl, S.c 0 1 rfl rfl, S.c 0 2 rfl rfl⟩ (fun hS => ?_)
        clear hKK KK
        try simp only [Act.put, List.setIfInBounds_toArray, List.set_cons_zero, List.set_cons_succ]
        refine wpAnyH_take (i := 3) (v := ?_) ((List.getElem?_toArray ..).trans rfl) (by kernel_rfl) (by kernel_rfl) (by kernel_rfl) (fun _ _ _ h => h) (Or.inl ⟨rfl, fun W hW => ?_⟩) hS ?_
        rotate_left
        · obtain ⟨hW0, hW1, hW2⟩ := hW; go_simp; try first | rfl | (rw [if_neg (by first | omega | (simp only [ByteArray.size_append]; first | omega | (have h1 : (ByteArray.mk #[47]).size = 1 := rfl; omega)))]; try rfl) | kernel_rfl
        try simp only [Act.put, List.setIfInBounds_toArray, List.set_cons_zero, List.set_cons_succ]
        refine wpAnyH_take (i := 4) (v := ?_) ((List.getElem?_toArray ..).trans rfl) (by kernel_rfl) (by kernel_rfl) (by kernel_rfl) (fun _ _ _ h => h) (Or.inl ⟨rfl, fun W hW => ?_⟩) hS ?_
        rotate_left
        · obtain ⟨hW0, hW1, hW2⟩ := hW; go_simp; try first | rfl | (rw [if_neg (by first | omega | (simp only [ByteArray.size_append]; first | omega | (have h1 : (ByteArray.mk #[47]).size = 1 := rfl; omega)))]; try rfl) | kernel_rfl
        try simp only [Act.put, List.setIfInBounds_toArray, List.set_cons_zero, List.set_cons_succ]
        refine wpAnyH_take (i := 5) (v := ?_) ((List.getElem?_toArray ..).trans rfl) (by kernel_rfl) (by kernel_rfl) (by kernel_rfl) (fun _ _ _ h => h) (Or.inl ⟨rfl, fun W hW => ?_⟩) hS ?_
        rotate_left
        · obtain ⟨hW0, hW1, hW2⟩ := hW; go_simp; try first | rfl | (rw [if_neg (by first | omega | (simp only [ByteArray.size_append]; first | omega | (have h1 : (ByteArray.mk #[47]).size = 1 := rfl; omega)))]; try rfl) | kernel_rfl
        try simp only [Act.put, List.setIfInBounds_toArray, List.set_cons_zero, List.set_cons_succ]
        refine wpAnyH_ready (rs := [6]) (by kernel_rfl) (by simp) (AllReadyH.cons ((List.getElem?_toArray ..).trans rfl) (fun KK hKK => ?_) AllReadyH.nil)
        go_simp
        clear hS
        have H := S.hnew 27 [.bool false, .slice none 0 0, .slice none 0 0]
        replace S := S.alloc 27 [.bool false, .slice none 0 0, .slice none 0 0] (w13.heap.size)
        replace nA := nA.hold H
        replace dA := dA.hold H
        replace nB := nB.hold H
        replace dB := dB.hold H
        replace nS := nS.hold H
        replace dS := dS.hold H
        replace nD := nD.hold H
        replace dD := dD.hold H
        replace nP := nP.hold H
        replace dP := dP.hold H
        replace nQ := nQ.hold H
        replace dQ := dQ.hold H
        replace nT := nT.hold H
        replace dT := dT.hold H
        replace nX := nX.hold H
        replace dX := dX.hold H
        replace n0 := n0.hold H
        replace d0 := d0.hold H
        replace n9 := n9.hold H
        replace d9 := d9.hold H
        replace HH := HH.trans H
        clear H
        refine hKK.out _ _ ⟨S.c 0 0 rfl rfl, S.c 0 1 rfl rfl, S.c 0 2 rfl rfl⟩ (fun hS => ?_)
        generalize (w13.alloc (.cells #[.bool false, .slice none 0 0, .slice none 0 0] 27)) = w14 at S nA dA nB dB nS dS nD dD nP dP nQ dQ nT dT nX dX n0 d0 n9 d9 HH hS ⊢
        clear hKK KK
        try simp only [Act.put, List.setIfInBounds_toArray, List.set_cons_zero, List.set_cons_succ]
        refine wpAnyH_ready (rs := [7]) (by kernel_rfl) (by simp) (AllReadyH.cons ((List.getElem?_toArray ..).trans rfl) (fun KK hKK => ?_) AllReadyH.nil)
        have c0 := S.c 9 0 rfl rfl
        have f0 := S.f 9 0 rfl
        have c1 := S.c 9 1 rfl rfl
        have f1 := S.f 9 1 rfl
        have c2 := S.c 9 2 rfl rfl
        have f2 := S.f 9 2 rfl
        go_simp
        clear hS c0 f0 c1 f1 c2 f2
        have H := S.hset 9 0 (.bool b9) rfl rfl (by intro q n e; cases e)
        replace S := S.set 9 0 (.bool b9) rfl
        replace nA := nA.hold H
        replace dA := dA.hold H
        replace nB := nB.hold H
        replace dB := dB.hold H
        replace nS := nS.hold H
        replace dS := dS.hold H
        replace nD := nD.hold H
        replace dD := dD.hold H
        replace nP := nP.hold H
        replace dP := dP.hold H
        replace nQ := nQ.hold H
        replace dQ := dQ.hold H
        replace nT := nT.hold H
        replace dT := dT.hold H
        replace nX := nX.hold H
        replace dX := dX.hold H
        replace n0 := n0.hold H
        replace d0 := d0.hold H
        replace n9 := n9.hold H
        replace d9 := d9.hold H
        replace HH := HH.trans H
        clear H
        have H := S.hset 9 1 (.slice p9 l9 K9) rfl rfl (by intro q n e; cases e)
        replace S := S.set 9 1 (.slice p9 l9 K9) rfl
        replace nA := nA.hold H
        replace dA := dA.hold H
        replace nB := nB.hold H
        replace dB := dB.hold H
        replace nS := nS.hold H
        replace dS := dS.hold H
        replace nD := nD.hold H
        replace dD := dD.hold H
        replace nP := nP.hold H
        replace dP := dP.hold H
        replace nQ := nQ.hold H
        replace dQ := dQ.hold H
        replace nT := nT.hold H
        replace dT := dT.hold H
        replace nX := nX.hold H
        replace dX := dX.hold H
        replace n0 := n0.hold H
        replace d0 := d0.hold H
        replace n9 := n9.hold H
        replace d9 := d9.hold H
        replace HH := HH.trans H
        clear H
        have H := S.hset 9 2 (.slice q9 j9 J9) rfl rfl (by intro q n e; cases e)
        replace S := S.set 9 2 (.slice q9 j9 J9) rfl
        replace nA := nA.hold H
        replace dA := dA.hold H
        replace nB := nB.hold H
        replace dB := dB.hold H
        replace nS := nS.hold H
        replace dS := dS.hold H
        replace nD := nD.hold H
        replace dD := dD.hold H
        replace nP := nP.hold H
        replace dP := dP.hold H
        replace nQ := nQ.hold H
        replace dQ := dQ.hold H
        replace nT := nT.hold H
        replace dT := dT.hold H
        replace nX := nX.hold H
        replace dX := dX.hold H
        replace n0 := n0.hold H
        replace d0 := d0.hold H
        replace n9 := n9.hold H
        replace d9 := d9.hold H
        replace HH := HH.trans H
        clear H
        refine hKK.out _ _ ⟨S.c 0 0 rfl rfl, S.c 0 1 rfl rfl, S.c 0 2 rfl rfl⟩ (fun hS => ?_)
        generalize (((w14.setCell ⟨w13.heap.size, 0, none⟩ (.bool b9)).setCell ⟨w13.heap.size, 1, none⟩ (.slice p9 l9 K9)).setCell ⟨w13.heap.size, 2, none⟩ (.slice q9 j9 J9)) = w15 at S nA dA nB dB nS dS nD dD nP dP nQ dQ nT dT nX dX n0 d0 n9 d9 HH hS ⊢
        clear hKK KK
        try simp only [Act.put, List.setIfInBounds_toArray, List.set_cons_zero, List.set_cons_succ]
        refine wpAnyH_ready (rs := [8]) (by kernel_rfl) (by simp) (AllReadyH.cons ((List.getElem?_toArray ..).trans rfl) (fun KK hKK => ?_) AllReadyH.nil)
        go_simp
        refine hKK.out _ _ hS (fun hS => ?_)
        clear hKK KK
        try simp only [Act.put, List.setIfInBounds_toArray, List.set_cons_zero, List.set_cons_succ]
        refine wpAnyH_done (by kernel_rfl) ?_ _
        go_wp2_with fail
        go_meet
        case rel => exact ⟨rfl, S.sub (.cons_cons _ (.cons_cons _ (.cons_cons _ (.cons_cons _ (.cons_cons _ (.cons_cons _ (.cons_cons _ (.cons_cons _ (.cons_cons _ (.cons _ (.slnil))))))))))), HH⟩
      ·
        go_simp
        clear hS
        have H := S.hnew 27 [.bool false, .slice none 0 0, .slice none 0 0]
        replace S := S.alloc 27 [.bool false, .slice none 0 0, .slice none 0 0] (w12.heap.size)
        replace nA := nA.hold H
        replace dA := dA.hold H
        replace nB := nB.hold H
        replace dB := dB.hold H
        replace nS := nS.hold H
        replace dS := dS.hold H
        replace nD := nD.hold H
        replace dD := dD.hold H
        replace nP := nP.hold H
        replace dP := dP.hold H
        replace nQ := nQ.hold H
        replace dQ := dQ.hold H
        replace nT := nT.hold H
        replace dT := dT.hold H
        replace nX := nX.hold H
        replace dX := dX.hold H
        replace n0 := n0.hold H
        replace d0 := d0.hold H
        replace HH := HH.trans H
        clear H
        refine hKK.out _ _ ⟨S.c 0 0 rfl rfl, S.c 0 1 rfl rfl, S.c 0 2 rfl rfl⟩ (fun hS => ?_)
        generalize (w12.alloc (.cells #[.bool false, .slice none 0 0, .slice none 0 0] 27)) = w16 at S nA dA nB dB nS dS nD dD nP dP nQ dQ nT dT nX dX n0 d0 HH hS ⊢
        clear hKK KK
        try simp only [Act.put, List.setIfInBounds_toArray, List.set_cons_zero, List.set_cons_succ]
        refine wpAnyH_ready (rs := [2]) (by kernel_rfl) (by simp) (AllReadyH.cons ((List.getElem?_toArray ..).trans rfl) (fun KK hKK => ?_) AllReadyH.nil)
        go_simp
        clear hS
        refine (S.call (rdiv_zero ⟨bA, pA, lA, KA, qA, jA, JA, rfl, hA, nA, dA⟩ ⟨b0, p0, l0, K0, q0, j0, J0, rfl, h0, n0, d0⟩)).mono ?_
        clear S
        rintro e w17 ⟨⟨_, rfl, b9, p9, l9, K9, q9, j9, J9, rfl, h9, n9, d9⟩, S, H⟩
        replace nA := nA.hold H
        replace dA := dA.hold H
        replace nB := nB.hold H
        replace dB := dB.hold H
        replace nS := nS.hold H
        replace dS := dS.hold H
        replace nD := nD.hold H
        replace dD := dD.hold H
        replace nP := nP.hold H
        replace dP := dP.hold H
        replace nQ := nQ.hold H
        replace dQ := dQ.hold H
        replace nT := nT.hold H
        replace dT := dT.hold H
        replace nX := nX.hold H
        replace dX := dX.hold H
        replace n0 := n0.hold H
        replace d0 := d0.hold H
        replace HH := HH.trans H
        clear H
        go_wp2_with fail
        refine hKK.out _ _ ⟨S.c 0 0 rfl rfl, S.c 0 1 rfl rfl, S.c 0 2 rfl rfl⟩ (fun hS => ?_)
        clear hKK KK
        try simp only [Act.put, List.setIfInBounds_toArray, List.set_cons_zero, List.set_cons_succ]
        refine wpAnyH_take (i := 3) (v := ?_) ((List.getElem?_toArray ..).trans rfl) (by kernel_rfl) (by kernel_rfl) (by kernel_rfl) (fun _ _ _ h => h) (Or.inl ⟨rfl, fun W hW => ?_⟩) hS ?_
        rotate_left
        · obtain ⟨hW0, hW1, hW2⟩ := hW; go_simp; try first | rfl | (rw [if_neg (by first | omega | (simp only [ByteArray.size_append]; first | omega | (have h1 : (ByteArray.mk #[47]).size = 1 := rfl; omega)))]; try rfl) | kernel_rfl
        try simp only [Act.put, List.setIfInBounds_toArray, List.set_cons_zero, List.set_cons_succ]
        refine wpAnyH_take (i := 4) (v := ?_) ((List.getElem?_toArray ..).trans rfl) (by kernel_rfl) (by kernel_rfl) (by kernel_rfl) (fun _ _ _ h => h) (Or.inl ⟨rfl, fun W hW => ?_⟩) hS ?_
        rotate_left
        · obtain ⟨hW0, hW1, hW2⟩ := hW; go_simp; try first | rfl | (rw [if_neg (by first | omega | (simp only [ByteArray.size_append]; first | omega | (have h1 : (ByteArray.mk #[47]).size = 1 := rfl; omega)))]; try rfl) | kernel_rfl
        try simp only [Act.put, List.setIfInBounds_toArray, List.set_cons_zero, List.set_cons_succ]
        refine wpAnyH_take (i := 5) (v := ?_) ((List.getElem?_toArray ..).trans rfl) (by kernel_rfl) (by kernel_rfl) (by kernel_rfl) (fun _ _ _ h => h) (Or.inl ⟨rfl, fun W hW => ?_⟩) hS ?_
        rotate_left
        · obtain ⟨hW0, hW1, hW2⟩ := hW; go_simp; try first | rfl | (rw [if_neg (by first | omega | (simp only [ByteArray.size_append]; first | omega | (have h1 : (ByteArray.mk #[47]).size = 1 := rfl; omega)))]; try rfl) | kernel_rfl
        try simp only [Act.put, List.setIfInBounds_toArray, List.set_cons_zero, List.set_cons_succ]
        refine wpAnyH_ready (rs := [7]) (by kernel_rfl) (by simp) (AllReadyH.cons ((List.getElem?_toArray ..).trans rfl) (fun KK hKK => ?_) AllReadyH.nil)
        have c0 := S.c 9 0 rfl rfl
        have f0 := S.f 9 0 rfl
        have c1 := S.c 9 1 rfl rfl
        have f1 := S.f 9 1 rfl
        have c2 := S.c 9 2 rfl rfl
        have f2 := S.f 9 2 rfl
        go_simp
        clear hS c0 f0 c1 f1 c2 f2
        have H := S.hset 9 0 (.bool b9) rfl rfl (by intro q n e; cases e)
        replace S := S.set 9 0 (.bool b9) rfl
        replace nA := nA.hold H
        replace dA := dA.hold H
        replace nB := nB.hold H
        replace dB := dB.hold H
        replace nS := nS.hold H
        replace dS := dS.hold H
        replace nD := nD.hold H
        replace dD := dD.hold H
        replace nP := nP.hold H
        replace dP := dP.hold H
        replace nQ := nQ.hold H
        replace dQ := dQ.hold H
        replace nT := nT.hold H
        replace dT := dT.hold H
        replace nX := nX.hold H
        replace dX := dX.hold H
        replace n0 := n0.hold H
        replace d0 := d0.hold H
        replace n9 := n9.hold H
        replace d9 := d9.hold H
        replace HH := HH.trans H
        clear H
        have H := S.hset 9 1 (.slice p9 l9 K9) rfl rfl (by intro q n e; cases e)
        replace S := S.set 9 1 (.slice p9 l9 K9) rfl
        replace nA := nA.hold H
        replace dA := dA.hold H
        replace nB := nB.hold H
        replace dB := dB.hold H
        replace nS := nS.hold H
        replace dS := dS.hold H
        replace nD := nD.hold H
        replace dD := dD.hold H
        replace nP := nP.hold H
        replace dP := dP.hold H
        replace nQ := nQ.hold H
        replace dQ := dQ.hold H
        replace nT := nT.hold H
        replace dT := dT.hold H
        replace nX := nX.hold H
        replace dX := dX.hold H
        replace n0 := n0.hold H
        replace d0 := d0.hold H
        replace n9 := n9.hold H
        replace d9 := d9.hold H
        replace HH := HH.trans H
        clear H
        have H := S.hset 9 2 (.slice q9 j9 J9) rfl rfl (by intro q n e; cases e)
        replace S := S.set 9 2 (.slice q9 j9 J9) rfl
        replace nA := nA.hold H
        replace dA := dA.hold H
        replace nB := nB.hold H
        replace dB := dB.hold H
        replace nS := nS.hold H
        replace dS := dS.hold H
        replace nD := nD.hold H
        replace dD := dD.hold H
        replace nP := nP.hold H
        replace dP := dP.hold H
        replace nQ := nQ.hold H
        replace dQ := dQ.hold H
        replace nT := nT.hold H
        replace dT := dT.hold H
        replace nX := nX.hold H
        replace dX := dX.hold H
        replace n0 := n0.hold H
        replace d0 := d0.hold H
        replace n9 := n9.hold H
        replace d9 := d9.hold H
        replace HH := HH.trans H
        clear H
        refine hKK.out _ _ ⟨S.c 0 0 rfl rfl, S.c 0 1 rfl rfl, S.c 0 2 rfl rfl⟩ (fun hS => ?_)
        generalize (((w17.setCell ⟨w12.heap.size, 0, none⟩ (.bool b9)).setCell ⟨w12.heap.size, 1, none⟩ (.slice p9 l9 K9)).setCell ⟨w12.heap.size, 2, none⟩ (.slice q9 j9 J9)) = w18 at S nA dA nB dB nS dS nD dD nP dP nQ dQ nT dT nX dX n0 d0 n9 d9 HH hS ⊢
        clear hKK KK
        try simp only [Act.put, List.setIfInBounds_toArray, List.set_cons_zero, List.set_cons_succ]
        refine wpAnyH_ready (rs := [8]) (by kernel_rfl) (by simp) (AllReadyH.cons ((List.getElem?_toArray ..).trans rfl) (fun KK hKK => ?_) AllReadyH.nil)
        go_simp
        refine hKK.out _ _ hS (fun hS => ?_)
        clear hKK KK
        try simp only [Act.put, List.setIfInBounds_toArray, List.set_cons_zero, List.set_cons_succ]
        refine wpAnyH_done (by kernel_rfl) ?_ _
        go_wp2_with fail
        go_meet
        case rel => exact ⟨rfl, S.sub (.cons_cons _ (.cons_cons _ (.cons_cons _ (.cons_cons _ (.cons_cons _ (.cons_cons _ (.cons_cons _ (.cons_cons _ (.cons_cons _ (.cons _ (.slnil))))))))))), HH⟩
    ·
      go_simp
      clear hS
      have H := S.hnew 27 [.bool false, .slice none 0 0, .slice none 0 0]
      replace S := S.alloc 27 [.bool false, .slice none 0 0, .slice none 0 0] (w11.heap.size)
      replace nA := nA.hold H
      replace dA := dA.hold H
      replace nB := nB.hold H
      replace dB := dB.hold H
      replace nS := nS.hold H
      replace dS := dS.hold H
      replace nD := nD.hold H
      replace dD := dD.hold H
      replace nP := nP.hold H
      replace dP := dP.hold H
      replace nQ := nQ.hold H
      replace dQ := dQ.hold H
      replace nT := nT.hold H
      replace dT := dT.hold H
      replace nX := nX.hold H
      replace dX := dX.hold H
      replace HH := HH.trans H
      clear H
      refine hKK.out _ _ ⟨S.c 0 0 rfl rfl, S.c 0 1 rfl rfl, S.c 0 2 rfl rfl⟩ (fun hS => ?_)
      generalize (w11.alloc (.cells #[.bool false, .slice none 0 0, .slice none 0 0] 27)) = w19 at S nA dA nB dB nS dS nD dD nP dP nQ dQ nT dT nX dX HH hS ⊢
      clear hKK KK
      try simp only [Act.put, List.setIfInBounds_toArray, List.set_cons_zero, List.set_cons_succ]
      refine wpAnyH_ready (rs := [1]) (by kernel_rfl) (by simp) (AllReadyH.cons ((List.getElem?_toArray ..).trans rfl) (fun KK hKK => ?_) AllReadyH.nil)
      go_simp
      clear hS
      refine (S.call (rzero_any _)).mono ?_
      clear S
      rintro e w20 ⟨⟨_, rfl, b0, p0, l0, K0, q0, j0, J0, rfl, h0, n0, d0⟩, S, H⟩
      replace nA := nA.hold H
      replace dA := dA.hold H
      replace nB := nB.hold H
      replace dB := dB.hold H
      replace nS := nS.hold H
      replace dS := dS.hold H
      replace nD := nD.hold H
      replace dD := dD.hold H
      replace nP := nP.hold H
      replace dP := dP.hold H
      replace nQ := nQ.hold H
      replace dQ := dQ.hold H
      replace nT := nT.hold H
      replace dT := dT.hold H
      replace nX := nX.hold H
      replace dX := dX.hold H
      replace HH := HH.trans H
      clear H
      go_wp2_with fail
      refine hKK.out _ _ ⟨S.c 0 0 rfl rfl, S.c 0 1 rfl rfl, S.c 0 2 rfl rfl⟩ (fun hS => ?_)
      clear hKK KK
      try simp only [Act.put, List.setIfInBounds_toArray, List.set_cons_zero, List.set_cons_succ]
      refine wpAnyH_ready (rs := [2]) (by kernel_rfl) (by simp) (AllReadyH.cons ((List.getElem?_toArray ..).trans rfl) (fun KK hKK => ?_) AllReadyH.nil)
      go_simp
      clear hS
      refine (S.call (rdiv_zero ⟨bA, pA, lA, KA, qA, jA, JA, rfl, hA, nA, dA⟩ ⟨b0, p0, l0, K0, q0, j0, J0, rfl, h0, n0, d0⟩)).mono ?_
      clear S
      rintro e w21 ⟨⟨_, rfl, b9, p9, l9, K9, q9, j9, J9, rfl, h9, n9, d9⟩, S, H⟩
      replace nA := nA.hold H
      replace dA := dA.hold H
      replace nB := nB.hold H
      replace dB := dB.hold H
      replace nS := nS.hold H
      replace dS := dS.hold H
      replace nD := nD.hold H
      replace dD := dD.hold H
      replace nP := nP.hold H
      replace dP := dP.hold H
      replace nQ := nQ.hold H
      replace dQ := dQ.hold H
      replace nT := nT.hold H
      replace dT := dT.hold H
      replace nX := nX.hold H
      replace dX := dX.hold H
      replace n0 := n0.hold H
      replace d0 := d0.hold H
      replace HH := HH.trans H
      clear H
      go_wp2_with fail
      refine hKK.out _ _ ⟨S.c 0 0 rfl rfl, S.c 0 1 rfl rfl, S.c 0 2 rfl rfl⟩ (fun hS => ?_)
      clear hKK KK
      try simp only [Act.put, List.setIfInBounds_toArray, List.set_cons_zero, List.set_cons_succ]
      refine wpAnyH_take (i := 3) (v := ?_) ((List.getElem?_toArray ..).trans rfl) (by kernel_rfl) (by kernel_rfl) (by kernel_rfl) (fun _ _ _ h => h) (Or.inl ⟨rfl, fun W hW => ?_⟩) hS ?_
      rotate_left
      · obtain ⟨hW0, hW1, hW2⟩ := hW; go_simp; try first | rfl | (rw [if_neg (by first | omega | (simp only [ByteArray.size_append]; first | omega | (have h1 : (ByteArray.mk #[47]).size = 1 := rfl; omega)))]; try rfl) | kernel_rfl
      try simp only [Act.put, List.setIfInBounds_toArray, List.set_cons_zero, List.set_cons_succ]
      refine wpAnyH_take (i := 4) (v := ?_) ((List.getElem?_toArray ..).trans rfl) (by kernel_rfl) (by kernel_rfl) (by kernel_rfl) (fun _ _ _ h => h) (Or.inl ⟨rfl, fun W hW => ?_⟩) hS ?_
      rotate_left
      · obtain ⟨hW0, hW1, hW2⟩ := hW; go_simp; try first | rfl | (rw [if_neg (by first | omega | (simp only [ByteArray.size_append]; first | omega | (have h1 : (ByteArray.mk #[47]).size = 1 := rfl; omega)))]; try rfl) | kernel_rfl
      try simp only [Act.put, List.setIfInBounds_toArray, List.set_cons_zero, List.set_cons_succ]
      refine wpAnyH_take (i := 5) (v := ?_) ((List.getElem?_toArray ..).trans rfl) (by kernel_rfl) (by kernel_rfl) (by kernel_rfl) (fun _ _ _ h => h) (Or.inl ⟨rfl, fun W hW => ?_⟩) hS ?_
      rotate_left
      · obtain ⟨hW0, hW1, hW2⟩ := hW; go_simp; try first | rfl | (rw [if_neg (by first | omega | (simp only [ByteArray.size_append]; first | omega | (have h1 : (ByteArray.mk #[47]).size = 1 := rfl; omega)))]; try rfl) | kernel_rfl
      try simp only [Act.put, List.setIfInBounds_toArray, List.set_cons_zero, List.set_cons_succ]
      refine wpAnyH_ready (rs := [7]) (by kernel_rfl) (by simp) (AllReadyH.cons ((List.getElem?_toArray ..).trans rfl) (fun KK hKK => ?_) AllReadyH.nil)
      have c0 := S.c 9 0 rfl rfl
      have f0 := S.f 9 0 rfl
      have c1 := S.c 9 1 rfl rfl
      have f1 := S.f 9 1 rfl
      have c2 := S.c 9 2 rfl rfl
      have f2 := S.f 9 2 rfl
      go_simp
      clear hS c0 f0 c1 f1 c2 f2
      have H := S.hset 9 0 (.bool b9) rfl rfl (by intro q n e; cases e)
      replace S := S.set 9 0 (.bool b9) rfl
      replace nA := nA.hold H
      replace dA := dA.hold H
      replace nB := nB.hold H
      replace dB := dB.hold H
      replace nS := nS.hold H
      replace dS := dS.hold H
      replace nD := nD.hold H
      replace dD := dD.hold H
      replace nP := nP.hold H
      replace dP := dP.hold H
      replace nQ := nQ.hold H
      replace dQ := dQ.hold H
      replace nT := nT.hold H
      replace dT := dT.hold H
      replace nX := nX.hold H
      replace dX := dX.hold H
      replace n0 := n0.hold H
      replace d0 := d0.hold H
      replace n9 := n9.hold H
      replace d9 := d9.hold H
      replace HH := HH.trans H
      clear H
      have H := S.hset 9 1 (.slice p9 l9 K9) rfl rfl (by intro q n e; cases e)
      replace S := S.set 9 1 (.slice p9 l9 K9) rfl
      replace nA := nA.hold H
      replace dA := dA.hold H
      replace nB := nB.hold H
      replace dB := dB.hold H
      replace nS := nS.hold H
      replace dS := dS.hold H
      replace nD := nD.hold H
      replace dD := dD.hold H
      replace nP := nP.hold H
      replace dP := dP.hold H
      replace nQ := nQ.hold H
      replace dQ := dQ.hold H
      replace nT := nT.hold H
      replace dT := dT.hold H
      replace nX := nX.hold H
      replace dX := dX.hold H
      replace n0 := n0.hold H
      replace d0 := d0.hold H
      replace n9 := n9.hold H
      replace d9 := d9.hold H
      replace HH := HH.trans H
      clear H
      have H := S.hset 9 2 (.slice q9 j9 J9) rfl rfl (by intro q n e; cases e)
      replace S := S.set 9 2 (.slice q9 j9 J9) rfl
      replace nA := nA.hold H
      replace dA := dA.hold H
      replace nB := nB.hold H
      replace dB := dB.hold H
      replace nS := nS.hold H
      replace dS := dS.hold H
      replace nD := nD.hold H
      replace dD := dD.hold H
      replace nP := nP.hold H
      replace dP := dP.hold H
      replace nQ := nQ.hold H
      replace dQ := dQ.hold H
      replace nT := nT.hold H
      replace dT := dT.hold H
      replace nX := nX.hold H
      replace dX := dX.hold H
      replace n0 := n0.hold H
      replace d0 := d0.hold H
      replace n9 := n9.hold H
      replace d9 := d9.hold H
      replace HH := HH.trans H
      clear H
      refine hKK.out _ _ ⟨S.c 0 0 rfl rfl, S.c 0 1 rfl rfl, S.c 0 2 rfl rfl⟩ (fun hS => ?_)
      generalize (((w21.setCell ⟨w11.heap.size, 0, none⟩ (.bool b9)).setCell ⟨w11.heap.size, 1, none⟩ (.slice p9 l9 K9)).setCell ⟨w11.heap.size, 2, none⟩ (.slice q9 j9 J9)) = w22 at S nA dA nB dB nS dS nD dD nP dP nQ dQ nT dT nX dX n0 d0 n9 d9 HH hS ⊢
      clear hKK KK
      try simp only [Act.put, List.setIfInBounds_toArray, List.set_cons_zero, List.set_cons_succ]
      refine wpAnyH_ready (rs := [8]) (by kernel_rfl) (by simp) (AllReadyH.cons ((List.getElem?_toArray ..).trans rfl) (fun KK hKK => ?_) AllReadyH.nil)
      go_simp
      refine hKK.out _ _ hS (fun hS => ?_)
      clear hKK KK
      try simp only [Act.put, List.setIfInBounds_toArray, List.set_cons_zero, List.set_cons_succ]
      refine wpAnyH_done (by kernel_rfl) ?_ _
      go_wp2_with fail
      go_meet
      case rel => exact ⟨rfl, S.sub (.cons_cons _ (.cons_cons _ (.cons_cons _ (.cons_cons _ (.cons_cons _ (.cons_cons _ (.cons_cons _ (.cons_cons _ (.cons_cons _ (.cons _ (.slnil))))))))))), HH⟩
  case rest =>
    obtain ⟨rfl, S, HH⟩ := hcut
    obtain ⟨w23, rfl⟩ : ∃ W : World, W = wc := ⟨_, rfl⟩
    replace nA := nA.hold HH
    replace dA := dA.hold HH
    replace nB := nB.hold HH
    replace dB := dB.hold HH
    replace nS := nS.hold HH
    replace dS := dS.hold HH
    replace nD := nD.hold HH
    replace dD := dD.hold HH
    replace nP := nP.hold HH
    replace dP := dP.hold HH
    replace nQ := nQ.hold HH
    replace dQ := dQ.hold HH
    replace nT := nT.hold HH
    replace dT := dT.hold HH
    replace nX := nX.hold HH
    replace dX := dX.hold HH
    clear HH
    have c2_0 := S.c 2 0 rfl rfl
    have c2_1 := S.c 2 1 rfl rfl
    have c2_2 := S.c 2 2 rfl rfl
    go_wp2_with fail
    clear c2_0 c2_1 c2_2
    refine (S.call (rtext_lit ⟨bS, pS, lS, KS, qS, jS, JS, rfl, hS, nS, dS⟩ ⟨#[49, 47, 54]⟩ rS_max rS_text)).mono ?_
    clear S
    rintro e w24 ⟨rfl, S, H⟩
    replace nA := nA.hold H
    replace dA := dA.hold H
    replace nB := nB.hold H
    replace dB := dB.hold H
    replace nS := nS.hold H
    replace dS := dS.hold H
    replace nD := nD.hold H
    replace dD := dD.hold H
    replace nP := nP.hold H
    replace dP := dP.hold H
    replace nQ := nQ.hold H
    replace dQ := dQ.hold H
    replace nT := nT.hold H
    replace dT := dT.hold H
    replace nX := nX.hold H
    replace dX := dX.hold H
    clear H
    have c3_0 := S.c 3 0 rfl rfl
    have c3_1 := S.c 3 1 rfl rfl
    have c3_2 := S.c 3 2 rfl rfl
    go_wp2_with fail
    clear c3_0 c3_1 c3_2
    refine (S.call (rtext_lit ⟨bD, pD, lD, KD, qD, jD, JD, rfl, hD, nD, dD⟩ ⟨#[53, 47, 54]⟩ rD_max rD_text)).mono ?_
    clear S
    rintro e w25 ⟨rfl, S, H⟩
    replace nA := nA.hold H
    replace dA := dA.hold H
    replace nB := nB.hold H
    replace dB := dB.hold H
    replace nS := nS.hold H
    replace dS := dS.hold H
    replace nD := nD.hold H
    replace dD := dD.hold H
    replace nP := nP.hold H
    replace dP := dP.hold H
    replace nQ := nQ.hold H
    replace dQ := dQ.hold H
    replace nT := nT.hold H
    replace dT := dT.hold H
    replace nX := nX.hold H
    replace dX := dX.hold H
    clear H
    have c4_0 := S.c 4 0 rfl rfl
    have c4_1 := S.c 4 1 rfl rfl
    have c4_2 := S.c 4 2 rfl rfl
    go_wp2_with fail
    clear c4_0 c4_1 c4_2
    refine (S.call (rtext_lit ⟨bP, pP, lP, KP, qP, jP, JP, rfl, hP, nP, dP⟩ ⟨#[45, 49, 47, 54]⟩ rP_max rP_text)).mono ?_
    clear S
    rintro e w26 ⟨rfl, S, H⟩
    replace nA := nA.hold H
    replace dA := dA.hold H
    replace nB := nB.hold H
    replace dB := dB.hold H
    replace nS := nS.hold H
    replace dS := dS.hold H
    replace nD := nD.hold H
    replace dD := dD.hold H
    replace nP := nP.hold H
    replace dP := dP.hold H
    replace nQ := nQ.hold H
    replace dQ := dQ.hold H
    replace nT := nT.hold H
    replace dT := dT.hold H
    replace nX := nX.hold H
    replace dX := dX.hold H
    clear H
    have c5_0 := S.c 5 0 rfl rfl
    have c5_1 := S.c 5 1 rfl rfl
    have c5_2 := S.c 5 2 rfl rfl
    go_wp2_with fail
    clear c5_0 c5_1 c5_2
    refine (S.call (rtext_lit ⟨bQ, pQ, lQ, KQ, qQ, jQ, JQ, rfl, hQ, nQ, dQ⟩ ⟨#[45, 51, 47, 50]⟩ rQ_max rQ_text)).mono ?_
    clear S
    rintro e w27 ⟨rfl, S, H⟩
    replace nA := nA.hold H
    replace dA := dA.hold H
    replace nB := nB.hold H
    replace dB := dB.hold H
    replace nS := nS.hold H
    replace dS := dS.hold H
    replace nD := nD.hold H
    replace dD := dD.hold H
    replace nP := nP.hold H
    replace dP := dP.hold H
    replace nQ := nQ.hold H
    replace dQ := dQ.hold H
    replace nT := nT.hold H
    replace dT := dT.hold H
    replace nX := nX.hold H
    replace dX := dX.hold H
    clear H
    have c7_0 := S.c 7 0 rfl rfl
    have c7_1 := S.c 7 1 rfl rfl
    have c7_2 := S.c 7 2 rfl rfl
    go_wp2_with fail
    clear c7_0 c7_1 c7_2
    refine (S.call (rtext_lit ⟨bT, pT, lT, KT, qT, jT, JT, rfl, hT, nT, dT⟩ ⟨#[50, 47, 51]⟩ rT_max rT_text)).mono ?_
    clear S
    rintro e w28 ⟨rfl, S, H⟩
    replace nA := nA.hold H
    replace dA := dA.hold H
    replace nB := nB.hold H
    replace dB := dB.hold H
    replace nS := nS.hold H
    replace dS := dS.hold H
    replace nD := nD.hold H
    replace dD := dD.hold H
    replace nP := nP.hold H
    replace dP := dP.hold H
    replace nQ := nQ.hold H
    replace dQ := dQ.hold H
    replace nT := nT.hold H
    replace dT := dT.hold H
    replace nX := nX.hold H
    replace dX := dX.hold H
    clear H
    have c8_0 := S.c 8 0 rfl rfl
    have c8_1 := S.c 8 1 rfl rfl
    have c8_2 := S.c 8 2 rfl rfl
    go_wp2_with fail
    clear c8_0 c8_1 c8_2
    refine (S.call (rtext_lit ⟨bX, pX, lX, KX, qX, jX, JX, rfl, hX, nX, dX⟩ ⟨#[45, 49, 47, 52]⟩ rX_max rX_text)).mono ?_
    clear S
    rintro e w29 ⟨rfl, S, H⟩
    replace nA := nA.hold H
    replace dA := dA.hold H
    replace nB := nB.hold H
    replace dB := dB.hold H
    replace nS := nS.hold H
    replace dS := dS.hold H
    replace nD := nD.hold H
    replace dD := dD.hold H
    replace nP := nP.hold H
    replace dP := dP.hold H
    replace nQ := nQ.hold H
    replace dQ := dQ.hold H
    replace nT := nT.hold H
    replace dT := dT.hold H
    replace nX := nX.hold H
    replace dX := dX.hold H
    clear H
    have c1_0 := S.c 1 0 rfl rfl
    have c1_1 := S.c 1 1 rfl rfl
    have c1_2 := S.c 1 2 rfl rfl
    go_wp2_with fail
    clear c1_0 c1_1 c1_2
    refine (S.call (rsign_any ⟨bB, pB, lB, KB, qB, jB, JB, rfl, hB, nB, dB⟩ rB_max.1 (s := -1) (by decide +kernel))).mono ?_
    clear S
    rintro e w30 ⟨rfl, S, H⟩
    replace nA := nA.hold H
    replace dA := dA.hold H
    replace nB := nB.hold H
    replace dB := dB.hold H
    replace nS := nS.hold H
    replace dS := dS.hold H
    replace nD := nD.hold H
    replace dD := dD.hold H
    replace nP := nP.hold H
    replace dP := dP.hold H
    replace nQ := nQ.hold H
    replace dQ := dQ.hold H
    replace nT := nT.hold H
    replace dT := dT.hold H
    replace nX := nX.hold H
    replace dX := dX.hold H
    clear H
    have c1_0 := S.c 1 0 rfl rfl
    have c1_1 := S.c 1 1 rfl rfl
    have c1_2 := S.c 1 2 rfl rfl
    go_wp2_with fail
    clear c1_0 c1_1 c1_2
    refine (S.call (rabs_to ⟨bB, pB, lB, KB, qB, jB, JB, rfl, hB, nB, dB⟩ rB_max rBn rBn_is)).mono ?_
    clear S
    rintro e w31 ⟨⟨_, rfl, bY, pY, lY, KY, qY, jY, JY, rfl, hY, nY, dY⟩, S, H⟩
    replace nA := nA.hold H
    replace dA := dA.hold H
    replace nB := nB.hold H
    replace dB := dB.hold H
    replace nS := nS.hold H
    replace dS := dS.hold H
    replace nD := nD.hold H
    replace dD := dD.hold H
    replace nP := nP.hold H
    replace dP := dP.hold H
    replace nQ := nQ.hold H
    replace dQ := dQ.hold H
    replace nT := nT.hold H
    replace dT := dT.hold H
    replace nX := nX.hold H
    replace dX := dX.hold H
    clear H
    go_wp2_with fail
    refine (S.call (rtext_lit ⟨bY, pY, lY, KY, qY, jY, JY, rfl, hY, nY, dY⟩ ⟨#[49, 47, 51]⟩ rBn_max rBn_text)).mono ?_
    clear S
    rintro e w32 ⟨rfl, S, H⟩
    replace nA := nA.hold H
    replace dA := dA.hold H
    replace nB := nB.hold H
    replace dB := dB.hold H
    replace nS := nS.hold H
    replace dS := dS.hold H
    replace nD := nD.hold H
    replace dD := dD.hold H
    replace nP := nP.hold H
    replace dP := dP.hold H
    replace nQ := nQ.hold H
    replace dQ := dQ.hold H
    replace nT := nT.hold H
    replace dT := dT.hold H
    replace nX := nX.hold H
    replace dX := dX.hold H
    replace nY := nY.hold H
    replace dY := dY.hold H
    clear H
    have c0_0 := S.c 0 0 rfl rfl
    have c0_1 := S.c 0 1 rfl rfl
    have c0_2 := S.c 0 2 rfl rfl
    go_wp2_with fail
    clear c0_0 c0_1 c0_2
    refine (S.call (rneg_any ⟨bA, pA, lA, KA, qA, jA, JA, rfl, hA, nA, dA⟩ rA_max rAn rAn_is)).mono ?_
    clear S
    rintro e w33 ⟨⟨_, rfl, bZ, pZ, lZ, KZ, qZ, jZ, JZ, rfl, hZ, nZ, dZ⟩, S, H⟩
    replace nA := nA.hold H
    replace dA := dA.hold H
    replace nB := nB.hold H
    replace dB := dB.hold H
    replace nS := nS.hold H
    replace dS := dS.hold H
    replace nD := nD.hold H
    replace dD := dD.hold H
    replace nP := nP.hold H
    replace dP := dP.hold H
    replace nQ := nQ.hold H
    replace dQ := dQ.hold H
    replace nT := nT.hold H
    replace dT := dT.hold H
    replace nX := nX.hold H
    replace dX := dX.hold H
    replace nY := nY.hold H
    replace dY := dY.hold H
    clear H
    go_wp2_with fail
    refine (S.call (rtext_lit ⟨bZ, pZ, lZ, KZ, qZ, jZ, JZ, rfl, hZ, nZ, dZ⟩ ⟨#[45, 49, 47, 50]⟩ rAn_max rAn_text)).mono ?_
    clear S
    rintro e w34 ⟨rfl, S, H⟩
    replace nA := nA.hold H
    replace dA := dA.hold H
    replace nB := nB.hold H
    replace dB := dB.hold H
    replace nS := nS.hold H
    replace dS := dS.hold H
    replace nD := nD.hold H
    replace dD := dD.hold H
    replace nP := nP.hold H
    replace dP := dP.hold H
    replace nQ := nQ.hold H
    replace dQ := dQ.hold H
    replace nT := nT.hold H
    replace dT := dT.hold H
    replace nX := nX.hold H
    replace dX := dX.hold H
    replace nY := nY.hold H
    replace dY := dY.hold H
    replace nZ := nZ.hold H
    replace dZ := dZ.hold H
    clear H
    have c5_0 := S.c 5 0 rfl rfl
    have c5_1 := S.c 5 1 rfl rfl
    have c5_2 := S.c 5 2 rfl rfl
    go_wp2_with fail
    clear c5_0 c5_1 c5_2
    refine (S.call (rfloor_any ⟨bQ, pQ, lQ, KQ, qQ, jQ, JQ, rfl, hQ, nQ, dQ⟩ rQ_max (-2) rQ_floor)).mono ?_
    clear S
    rintro e w35 ⟨⟨_, rfl, pf, lf, Kf, rfl, nf⟩, S, H⟩
    replace nA := nA.hold H
    replace dA := dA.hold H
    replace nB := nB.hold H
    replace dB := dB.hold H
    replace nS := nS.hold H
    replace dS := dS.hold H
    replace nD := nD.hold H
    replace dD := dD.hold H
    replace nP := nP.hold H
    replace dP := dP.hold H
    replace nQ := nQ.hold H
    replace dQ := dQ.hold H
    replace nT := nT.hold H
    replace dT := dT.hold H
    replace nX := nX.hold H
    replace dX := dX.hold H
    replace nY := nY.hold H
    replace dY := dY.hold H
    replace nZ := nZ.hold H
    replace dZ := dZ.hold H
    clear H
    go_wp2_with fail
    refine (S.call (wtext_lit ⟨_, _, _, rfl, nf⟩ ⟨#[45, 50]⟩ (lit_max _ (by decide)) (itext_neg (by decide) rfl ⟨by decide, by decide, by decide, by decide⟩))).mono ?_
    clear S
    rintro e w36 ⟨rfl, S, H⟩
    replace nA := nA.hold H
    replace dA := dA.hold H
    replace nB := nB.hold H
    replace dB := dB.hold H
    replace nS := nS.hold H
    replace dS := dS.hold H
    replace nD := nD.hold H
    replace dD := dD.hold H
    replace nP := nP.hold H
    replace dP := dP.hold H
    replace nQ := nQ.hold H
    replace dQ := dQ.hold H
    replace nT := nT.hold H
    replace dT := dT.hold H
    replace nX := nX.hold H
    replace dX := dX.hold H
    replace nY := nY.hold H
    replace dY := dY.hold H
    replace nZ := nZ.hold H
    replace dZ := dZ.hold H
    replace nf := nf.hold H
    clear H
    have c5_0 := S.c 5 0 rfl rfl
    have c5_1 := S.c 5 1 rfl rfl
    have c5_2 := S.c 5 2 rfl rfl
    go_wp2_with fail
    clear c5_0 c5_1 c5_2
    refine (S.call (rceil_any ⟨bQ, pQ, lQ, KQ, qQ, jQ, JQ, rfl, hQ, nQ, dQ⟩ rQ_max (-1) rQ_ceil)).mono ?_
    clear S
    rintro e w37 ⟨⟨_, rfl, pg, lg, Kg, rfl, ng⟩, S, H⟩
    replace nA := nA.hold H
    replace dA := dA.hold H
    replace nB := nB.hold H
    replace dB := dB.hold H
    replace nS := nS.hold H
    replace dS := dS.hold H
    replace nD := nD.hold H
    replace dD := dD.hold H
    replace nP := nP.hold H
    replace dP := dP.hold H
    replace nQ := nQ.hold H
    replace dQ := dQ.hold H
    replace nT := nT.hold H
    replace dT := dT.hold H
    replace nX := nX.hold H
    replace dX := dX.hold H
    replace nY := nY.hold H
    replace dY := dY.hold H
    replace nZ := nZ.hold H
    replace dZ := dZ.hold H
    replace nf := nf.hold H
    clear H
    go_wp2_with fail
    refine (S.call (wtext_lit ⟨_, _, _, rfl, ng⟩ ⟨#[45, 49]⟩ (lit_max _ (by decide)) (itext_neg (by decide) rfl ⟨by decide, by decide, by decide, by decide⟩))).mono ?_
    clear S
    rintro e w38 ⟨rfl, S, H⟩
    replace nA := nA.hold H
    replace dA := dA.hold H
    replace nB := nB.hold H
    replace dB := dB.hold H
    replace nS := nS.hold H
    replace dS := dS.hold H
    replace nD := nD.hold H
    replace dD := dD.hold H
    replace nP := nP.hold H
    replace dP := dP.hold H
    replace nQ := nQ.hold H
    replace dQ := dQ.hold H
    replace nT := nT.hold H
    replace dT := dT.hold H
    replace nX := nX.hold H
    replace dX := dX.hold H
    replace nY := nY.hold H
    replace dY := dY.hold H
    replace nZ := nZ.hold H
    replace dZ := dZ.hold H
    replace nf := nf.hold H
    replace ng := ng.hold H
    clear H
    go_wp2_with fail
    refine (S.call (wof_any 4 _ (by decide) (by decide))).mono ?_
    clear S
    rintro e w39 ⟨⟨_, rfl, p4, l4, K4, rfl, n4⟩, S, H⟩
    replace nA := nA.hold H
    replace dA := dA.hold H
    replace nB := nB.hold H
    replace dB := dB.hold H
    replace nS := nS.hold H
    replace dS := dS.hold H
    replace nD := nD.hold H
    replace dD := dD.hold H
    replace nP := nP.hold H
    replace dP := dP.hold H
    replace nQ := nQ.hold H
    replace dQ := dQ.hold H
    replace nT := nT.hold H
    replace dT := dT.hold H
    replace nX := nX.hold H
    replace dX := dX.hold H
    replace nY := nY.hold H
    replace dY := dY.hold H
    replace nZ := nZ.hold H
    replace dZ := dZ.hold H
    replace nf := nf.hold H
    replace ng := ng.hold H
    clear H
    go_wp2_with fail
    refine (S.call (rwhole_any ⟨_, _, _, rfl, n4⟩ (lit_max _ (by decide)) ((4 : Int) : Rat) rfl)).mono ?_
    clear S
    rintro e w40 ⟨⟨_, rfl, b5, p5, l5, K5, q5, j5, J5, rfl, h5, n5, d5⟩, S, H⟩
    replace nA := nA.hold H
    replace dA := dA.hold H
    replace nB := nB.hold H
    replace dB := dB.hold H
    replace nS := nS.hold H
    replace dS := dS.hold H
    replace nD := nD.hold H
    replace dD := dD.hold H
    replace nP := nP.hold H
    replace dP := dP.hold H
    replace nQ := nQ.hold H
    replace dQ := dQ.hold H
    replace nT := nT.hold H
    replace dT := dT.hold H
    replace nX := nX.hold H
    replace dX := dX.hold H
    replace nY := nY.hold H
    replace dY := dY.hold H
    replace nZ := nZ.hold H
    replace dZ := dZ.hold H
    replace nf := nf.hold H
    replace ng := ng.hold H
    replace n4 := n4.hold H
    clear H
    go_wp2_with fail
    refine (S.call (rtext_lit ⟨b5, p5, l5, K5, q5, j5, J5, rfl, h5, n5, d5⟩ ⟨#[52]⟩ r4_max r4_text)).mono ?_
    clear S
    rintro e w41 ⟨rfl, S, H⟩
    replace nA := nA.hold H
    replace dA := dA.hold H
    replace nB := nB.hold H
    replace dB := dB.hold H
    replace nS := nS.hold H
    replace dS := dS.hold H
    replace nD := nD.hold H
    replace dD := dD.hold H
    replace nP := nP.hold H
    replace dP := dP.hold H
    replace nQ := nQ.hold H
    replace dQ := dQ.hold H
    replace nT := nT.hold H
    replace dT := dT.hold H
    replace nX := nX.hold H
    replace dX := dX.hold H
    replace nY := nY.hold H
    replace dY := dY.hold H
    replace nZ := nZ.hold H
    replace dZ := dZ.hold H
    replace nf := nf.hold H
    replace ng := ng.hold H
    replace n4 := n4.hold H
    replace n5 := n5.hold H
    replace d5 := d5.hold H
    clear H
    have c0_0 := S.c 0 0 rfl rfl
    have c0_1 := S.c 0 1 rfl rfl
    have c0_2 := S.c 0 2 rfl rfl
    go_wp2_with fail
    clear c0_0 c0_1 c0_2
    refine (S.call (rcheck_any ⟨bA, pA, lA, KA, qA, jA, JA, rfl, hA, nA, dA⟩ rA_max)).mono ?_
    clear S
    rintro e w42 ⟨rfl, S, H⟩
    replace nA := nA.hold H
    replace dA := dA.hold H
    replace nB := nB.hold H
    replace dB := dB.hold H
    replace nS := nS.hold H
    replace dS := dS.hold H
    replace nD := nD.hold H
    replace dD := dD.hold H
    replace nP := nP.hold H
    replace dP := dP.hold H
    replace nQ := nQ.hold H
    replace dQ := dQ.hold H
    replace nT := nT.hold H
    replace dT := dT.hold H
    replace nX := nX.hold H
    replace dX := dX.hold H
    replace nY := nY.hold H
    replace dY := dY.hold H
    replace nZ := nZ.hold H
    replace dZ := dZ.hold H
    replace nf := nf.hold H
    replace ng := ng.hold H
    replace n4 := n4.hold H
    replace n5 := n5.hold H
    replace d5 := d5.hold H
    clear H
    go_wp2_with fail
    refine (S.call (rcheck_empty _)).mono ?_
    clear S
    rintro e w43 ⟨rfl, S, H⟩
    replace nA := nA.hold H
    replace dA := dA.hold H
    replace nB := nB.hold H
    replace dB := dB.hold H
    replace nS := nS.hold H
    replace dS := dS.hold H
    replace nD := nD.hold H
    replace dD := dD.hold H
    replace nP := nP.hold H
    replace dP := dP.hold H
    replace nQ := nQ.hold H
    replace dQ := dQ.hold H
    replace nT := nT.hold H
    replace dT := dT.hold H
    replace nX := nX.hold H
    replace dX := dX.hold H
    replace nY := nY.hold H
    replace dY := dY.hold H
    replace nZ := nZ.hold H
    replace dZ := dZ.hold H
    replace nf := nf.hold H
    replace ng := ng.hold H
    replace n4 := n4.hold H
    replace n5 := n5.hold H
    replace d5 := d5.hold H
    clear H
    go_wp2_with fail
    exact bodyPost_ret (v := .bool true) (by simp [results, Tryz.f4, go_sem]) rfl (⟨rfl, S.below⟩)

end Go.Proofs.YtggnjlbnfgjgdaaGreat

namespace Go.Proofs.YtggnjlbnfgjgdaaGreat
open Go.RowKit

theorem parse_codes {l : List Nat} {q : Rat} {c : Int} (h : parseR l = (q, c)) (hc : c ≠ 0) : q = 0 ∧ (c = 2 ∨ c = 10) := by
  unfold parseR ratioOf placesOf at h
  repeat' split at h
  all_goals
    simp only [Prod.mk.injEq] at h
    obtain ⟨h1, h2⟩ := h
    subst h2
    first
      | exact absurd rfl hc
      | exact ⟨h1.symm, .inl rfl⟩
      | exact ⟨h1.symm, .inr rfl⟩

theorem parseI_tens {l : List Nat} (h : onlyB (restI l) = true) : (parseI l).natAbs < 10 ^ l.length := by
  have h1 := dv_lt (onlyB_out h).1
  have h2 := pow_mono10 (restI_len l)
  unfold restI at h1 h2
  unfold parseI
  split at h1
  · rename_i e; rw [if_pos e] at h2 ⊢; rw [Int.natAbs_neg, Int.natAbs_natCast]; omega
  · rename_i e; rw [if_neg e, Int.natAbs_natCast]; exact h1
theorem parse_tens {l : List Nat} {q : Rat} {k : Nat} (h : parseR l = (q, 0)) (hl : l.length ≤ k) : q.num.natAbs < 10 ^ k ∧ q.den ≤ 10 ^ k := by
  have hp : 0 < 10 ^ k := Nat.pow_pos (by decide)
  have e2 : ¬ (2 : Int) = 0 := by decide
  have e10 : ¬ (10 : Int) = 0 := by decide
  unfold parseR at h
  split at h
  · rename_i i hi
    have hlt := posOf_lt hi
    unfold ratioOf at h
    split at h
    · simp only [Prod.mk.injEq] at h; exact absurd h.2 e2
    · split at h
      · simp only [Prod.mk.injEq] at h; exact absurd h.2 e2
      · split at h
        · simp only [Prod.mk.injEq] at h; exact absurd h.2 e10
        · rename_i h1 h2 h3
          simp only [Prod.mk.injEq] at h
          have h1' : onlyB (restI (l.take i)) = true := by simpa using h1
          have h2' : onlyB (l.drop (i + 1)) = true := by simpa using h2
          have hb := divInt_le (parseI (l.take i)) (dv (l.drop (i + 1)) : Int) (by omega)
          rw [h.1] at hb
          have a1 := parseI_tens h1'
          have a2 := dv_lt (onlyB_out h2').1
          have a3 := pow_mono10 (show (l.take i).length ≤ k by rw [List.length_take]; omega)
          have a4 := pow_mono10 (show (l.drop (i + 1)).length ≤ k by rw [List.length_drop]; omega)
          rw [Int.natAbs_natCast] at hb
          omega
  · split at h
    · rename_i i hi
      have hlt := posOf_lt hi
      unfold placesOf at h
      split at h
      · simp only [Prod.mk.injEq] at h; exact absurd h.2 e2
      · split at h
        · simp only [Prod.mk.injEq] at h; exact absurd h.2 e2
        · rename_i h1 h2
          simp only [Prod.mk.injEq] at h
          have h1' : onlyB (restI (l.take i)) = true := by simpa using h1
          have h2' : onlyB (l.drop (i + 1)) = true := by simpa using h2
          have h3 : onlyB (restI (l.take i ++ l.drop (i + 1))) = true := by rw [restI_app (onlyB_out h1').2]; exact onlyB_app h1' h2'
          have hpp : 0 < 10 ^ (l.drop (i + 1)).length := Nat.pow_pos (by decide)
          have hb := divInt_le (parseI (l.take i ++ l.drop (i + 1))) ((10 ^ (l.drop (i + 1)).length : Nat) : Int) (by omega)
          rw [h.1] at hb
          have a1 := parseI_tens h3
          have a3 := pow_mono10 (show (l.take i ++ l.drop (i + 1)).length ≤ k by rw [List.length_append, List.length_take, List.length_drop]; omega)
          have a4 := pow_mono10 (show (l.drop (i + 1)).length ≤ k by rw [List.length_drop]; omega)
          rw [Int.natAbs_natCast] at hb
          omega
    · split at h
      · rename_i h1
        simp only [Prod.mk.injEq] at h
        have a1 := parseI_tens h1
        have a3 := pow_mono10 hl
        rw [← h.1]
        exact ⟨by show (parseI l).natAbs < _; omega, by show 1 ≤ _; omega⟩
      · simp only [Prod.mk.injEq] at h; exact absurd h.2 e2

theorem text_tens {t : List Nat} {n k : Nat} (h : IsText t n) (hn : n ≤ 10 ^ k) : t.length ≤ k + 1 := by
  rcases Nat.lt_or_ge 1 t.length with h1 | h1
  · have h2 := h.low h1
    have h3 : 10 ^ (t.length - 1) ≤ 10 ^ k := Nat.le_trans h2 hn
    have h4 := (Nat.pow_le_pow_iff_right (by decide : 1 < 10)).1 h3
    omega
  · omega
theorem itext_tens {t : List Nat} {x : Int} {k : Nat} (h : IsIText t x) (hx : x.natAbs ≤ 10 ^ k) : t.length ≤ k + 2 := by
  rcases h with ⟨_, t', rfl, h2⟩ | ⟨_, h2⟩
  · have := text_tens h2 hx; simp; omega
  · have := text_tens h2 hx; omega
theorem rtext_tens {t : List Nat} {q : Rat} {k : Nat} (h : IsRText t q) (hn : q.num.natAbs ≤ 10 ^ k) (hd : q.den ≤ 10 ^ k) : t.length ≤ 2 * k + 4 := by
  rcases h with ⟨_, h1⟩ | ⟨_, a, b, rfl, h1, h2⟩
  · have := itext_tens h1 hn; omega
  · have := itext_tens h1 hn
    have := text_tens h2 hd
    simp; omega

theorem itext_read {l : List Nat} {x : Int} (h : IsIText l x) : onlyB (restI l) = true ∧ parseI l = x ∧ 47 ∉ l ∧ 46 ∉ l := by
  rcases h with ⟨h0, t, rfl, h2⟩ | ⟨h0, h2⟩
  · have e : (45 :: t).head? = some 45 := rfl
    refine ⟨?_, ?_, ?_, ?_⟩
    · unfold restI; rw [if_pos e]; exact onlyB_pos h2.1 h2.2.2.1
    · unfold parseI; rw [if_pos e]; show -((dv t : Nat) : Int) = x; rw [h2.2.1]; omega
    · intro hm
      rcases List.mem_cons.1 hm with h | h
      · omega
      · have := h2.1 _ h; omega
    · intro hm
      rcases List.mem_cons.1 hm with h | h
      · omega
      · have := h2.1 _ h; omega
  · have e : l.head? ≠ some 45 := by
      cases l with
      | nil => simp
      | cons a l => have := h2.1 a (by simp); simp; omega
    refine ⟨?_, ?_, ?_, ?_⟩
    · unfold restI; rw [if_neg e]; exact onlyB_pos h2.1 h2.2.2.1
    · unfold parseI; rw [if_neg e]; rw [h2.2.1]; omega
    · intro hm; have := h2.1 _ hm; omega
    · intro hm; have := h2.1 _ hm; omega
theorem parse_over {a b : List Nat} {x : Int} {d : Nat} (ha : IsIText a x) (hb : IsText b d) (hd : d ≠ 0) : parseR (a ++ 47 :: b) = (Rat.divInt x d, 0) := by
  have h1 := itext_read ha
  have e1 : posOf 47 (a ++ 47 :: b) = some a.length := posOf_append b h1.2.2.1
  have e2 : onlyB b = true := onlyB_pos hb.1 hb.2.2.1
  unfold parseR
  rw [e1]
  show ratioOf ((a ++ 47 :: b).take a.length) ((a ++ 47 :: b).drop (a.length + 1)) = _
  have e3 : (a ++ 47 :: b).take a.length = a := by simp
  have e4 : (a ++ 47 :: b).drop (a.length + 1) = b := by simp
  rw [e3, e4]
  unfold ratioOf
  rw [if_neg (by rw [h1.1]; decide), if_neg (by rw [e2]; decide), if_neg (by rw [hb.2.1]; exact hd), h1.2.1, hb.2.1]
theorem parse_text {t : List Nat} {q : Rat} (h : IsRText t q) : parseR t = (q, 0) := by
  rcases h with ⟨hd, h1⟩ | ⟨hd, a, b, rfl, h1, h2⟩
  · have h3 := itext_read h1
    unfold parseR
    rw [posOf_of_not h3.2.2.1]
    show (match posOf 46 t with | some i => placesOf (t.take i) (t.drop (i + 1)) | none => if onlyB (restI t) = true then (((parseI t : Int) : Rat), 0) else (0, 2)) = _
    rw [posOf_of_not h3.2.2.2]
    show (if onlyB (restI t) = true then (((parseI t : Int) : Rat), 0) else (0, 2)) = _
    rw [if_pos h3.1, h3.2.1, ← den_one hd]
  · rw [parse_over h1 h2 q.den_nz, Rat.num_divInt_den]

theorem parse_small {s : ByteArray} {q : Rat} {k m : Nat} (h : parseR (bs s) = (q, 0)) (hs : s.size ≤ k) (hk : k = 300) (hm : m = 4900) : (q.num.natAbs < maxN ∧ q.den < maxN) ∧ ∀ t : ByteArray, IsRText (bs t) q → t.size ≤ 1000 := by
  have h1 := parse_tens h (k := k) (by rw [bs_len]; exact hs)
  have h2 := pow_mono10 (show k ≤ m by omega)
  have h3 := ten_max m 49 100 hm rfl rfl
  refine ⟨by omega, fun t ht => ?_⟩
  have h4 := rtext_tens ht (Nat.le_of_lt h1.1) h1.2
  rw [bs_len] at h4
  omega

end Go.Proofs.YtggnjlbnfgjgdaaGreat

namespace Go.Proofs.YtggnjlbnfgjgdaaGreat
open Go.RowKit

theorem slash_in {l : List Nat} {q : Rat} (h : IsRText l q) : (q.den = 1 ∧ posI 47 l = -1) ∨ (q.den ≠ 1 ∧ ∃ i : Nat, posI 47 l = i) := by
  rcases h with ⟨hd, h1⟩ | ⟨hd, a, b, rfl, h1, h2⟩
  · refine .inl ⟨hd, ?_⟩
    unfold posI
    rw [posOf_of_not (itext_read h1).2.2.1]
  · refine .inr ⟨hd, a.length, ?_⟩
    unfold posI
    rw [posOf_append b (itext_read h1).2.2.1]
theorem text_times {a b : List Nat} {q : Rat} {n : Nat} {x : Int} {y : Nat} (hn : 1 ≤ n) (hx : q.num * (n : Int) = x) (hy : q.den * n = y) (ha : IsIText a x) (hb : IsText b y) : parseR (a ++ 47 :: b) = (q, 0) := by
  have hy0 : y ≠ 0 := by rw [← hy]; exact Nat.pos_iff_ne_zero.1 (Nat.mul_pos q.den_pos hn)
  rw [parse_over ha hb hy0]
  congr 1
  conv => rhs; rw [← Rat.num_divInt_den q]
  have := q.den_nz
  refine (Rat.divInt_eq_divInt_iff (by omega) (by omega)).2 ?_
  rw [← hx, ← hy, Int.natCast_mul]
  rw [Int.mul_assoc, Int.mul_comm (n : Int)]
theorem nb22_tens (a b : Nat) (ha : a = 22) (hb : b = 220) : NB a ≤ 10 ^ b := by subst ha hb; unfold NB; decide +kernel
theorem text_sum {s t : ByteArray} {x : Int} {y : Nat} (hx : x.natAbs < NB 22) (hy : y < NB 22) (ha : IsIText (bs s) x) (hb : IsText (bs t) y) : s.size ≤ 222 ∧ t.size ≤ 221 := by
  obtain ⟨k, hk⟩ : ∃ k, k = 220 := ⟨_, rfl⟩
  have h1 := nb22_tens 22 k rfl hk
  have h2 := itext_tens (k := k) ha (by omega)
  have h3 := text_tens (k := k) hb (by omega)
  rw [bs_len] at h2 h3
  omega

set_option maxRecDepth 100000 in
theorem strindex_any (s : ByteArray) (c : UInt8) (w : World) (z : Int) (hz : posI c.toNat (bs s) = z) :
    Calls Tryz.prog 37 #[.string s, .string ⟨#[c]⟩] w fun e w' => e = .returned (.int .i64 z) ∧ w' = w := by
  have H := Lib.hid (sidx_any s c w z hz)
  clear hz
  go_enter Tryz.func37, Tryz.ntmps37
  go_wp2_with (go_at_call 68; refine H.out.mono ?_; rintro e w1 ⟨rfl, rfl⟩)
  go_ret
  exact ⟨rfl, rfl⟩
set_option maxRecDepth 100000 in
theorem contains_any (s : ByteArray) (c : UInt8) (w : World) (z : Int) (hz : posI c.toNat (bs s) = z) (b : Bool) (hb : decide (0 ≤ z) = b) :
    Calls Tryz.prog 9 #[.string s, .string ⟨#[c]⟩] w fun e w' => e = .returned (.bool b) ∧ Below w.heap.size w w' := by
  have H := Lib.hid (strindex_any s c w z hz)
  subst hb
  clear hz
  go_enter Tryz.func9, Tryz.ntmps9
  go_wp2_with (go_at_call 37; refine H.out.mono ?_; rintro e w1 ⟨rfl, rfl⟩)
  go_ret
  exact ⟨rfl, Below.refl _ _⟩

end Go.Proofs.YtggnjlbnfgjgdaaGreat

namespace Go.Proofs.YtggnjlbnfgjgdaaGreat
open Go.RowKit

set_option maxRecDepth 100000 in
set_option maxHeartbeats 16000000 in
theorem ratioTexts_any (bA : Bool) (pA qA : Option Addr) (KA JA : Nat) (dsA esA : List Nat) (n : Int) (w : World) (atA : At .u32 w pA KA dsA) (ctA : At .u32 w qA JA esA) (ddA : Dig 4294967296 dsA) (deA : Dig 4294967296 esA) (hn0 : -9223372036854775808 ≤ n) (hn1 : n ≤ 9223372036854775807) :
    Calls Tryz.prog 3 #[.agg #[.bool bA, .slice pA dsA.length KA, .slice qA esA.length JA], .int .i64 n] w fun e w' => e = .returned (.bool true) ∧ Below w.heap.size w w' := by
  have HDA := Lib.hid (And.intro ddA deA)
  obtain ⟨lA, hlA⟩ : ∃ l, dsA.length = l := ⟨_, rfl⟩
  obtain ⟨jA, hjA⟩ : ∃ l, esA.length = l := ⟨_, rfl⟩
  have HLA := Lib.hid (And.intro hlA hjA)
  rw [hlA, hjA]
  clear ddA deA hlA hjA
  have S := (St.start w).alloc 27 [.bool bA, .slice pA lA KA, .slice qA jA JA] (w.heap.size)
  try simp only [List.cons_append, List.nil_append] at S
  replace atA := atA.hold S.hold
  replace ctA := ctA.hold S.hold
  have c0_0 := S.c 0 0 rfl rfl
  have c0_1 := S.c 0 1 rfl rfl
  have c0_2 := S.c 0 2 rfl rfl
  go_enter Tryz.func3, Tryz.ntmps3
  go_wp2_with fail
  clear c0_0 c0_1 c0_2
  refine (S.call (parts_any _)).mono ?_
  clear S
  rintro e w1 ⟨rfl, S, H⟩
  replace atA := atA.hold H
  replace ctA := ctA.hold H
  clear H
  have c0_0 := S.c 0 0 rfl rfl
  have c0_1 := S.c 0 1 rfl rfl
  have c0_2 := S.c 0 2 rfl rfl
  have H := S.hnew 27 [.bool bA, .slice pA lA KA, .slice qA jA JA]
  replace S := S.alloc 27 [.bool bA, .slice pA lA KA, .slice qA jA JA] (w1.heap.size)
  try simp only [List.cons_append, List.nil_append] at S
  replace atA := atA.hold H
  replace ctA := ctA.hold H
  clear H
  go_wp2_with fail
  clear c0_0 c0_1 c0_2
  refine (S.call (rfit_any _ 1 _ _ _ _ _ _ _ _ (S.lt 1 rfl) (by decide) (rraws1 S 1 rfl HLA.out.1 HLA.out.2 atA ctA HDA.out.1 HDA.out.2))).mono ?_
  clear S
  rintro e w2 ⟨⟨ok, rfl, hok⟩, S, H⟩
  replace atA := atA.hold H
  replace ctA := ctA.hold H
  clear H
  have c0_0 := S.c 0 0 rfl rfl
  have c0_1 := S.c 0 1 rfl rfl
  have c0_2 := S.c 0 2 rfl rfl
  cases ok with
  | false =>
    go_wp2_with fail
    exact bodyPost_ret (v := .bool true) (by simp [results, Tryz.f3, go_sem]) rfl (⟨rfl, S.below⟩)
  | true =>
    have t := hok.out rfl
    obtain ⟨zA, hA, rA, nA, dA⟩ := tried_rat (b := bA) (t 0 (by decide)) HDA.out.1 HDA.out.2 HLA.out.1 HLA.out.2 atA ctA
    have RA := Lib.hid rA
    clear atA ctA
    clear t hok rA
    have hmaxA : zA.num.natAbs < maxN ∧ zA.den < maxN := rb_max RA.out (by decide)
    have HM := Lib.hid hmaxA
    clear hmaxA
    clear c0_0 c0_1 c0_2
    have c0_0 := S.c 0 0 rfl rfl
    have c0_1 := S.c 0 1 rfl rfl
    have c0_2 := S.c 0 2 rfl rfl
    go_wp2_with fail
    clear c0_0 c0_1 c0_2
    refine (S.call (rtext_any ⟨bA, pA, lA, KA, qA, jA, JA, rfl, hA, nA, dA⟩ HM.out)).mono ?_
    clear S
    rintro e w3 ⟨⟨s, rfl, hs⟩, S, H⟩
    replace nA := nA.hold H
    replace dA := dA.hold H
    clear H
    have c0_0 := S.c 0 0 rfl rfl
    have c0_1 := S.c 0 1 rfl rfl
    have c0_2 := S.c 0 2 rfl rfl
    have hq := parse_text hs
    have hsz : s.size ≤ 1000 := by
      obtain ⟨k, hk⟩ : ∃ k, k = 220 := ⟨_, rfl⟩
      have h1 := nb22_tens 22 k rfl hk
      have h2 := NB_mono (show 20 ≤ 22 by decide)
      have h3 := rtext_tens (k := k) hs (by have := RA.out.1; omega) (by have := RA.out.2; omega)
      rw [bs_len] at h3
      omega
    have HS := Lib.hid (And.intro hq hsz)
    have HC := Lib.hid (slash_in hs)
    clear hq hsz hs
    go_wp2_with fail
    clear c0_0 c0_1 c0_2
    refine (S.call (rparse_any s _ HS.out.2 zA 0 HS.out.1)).mono ?_
    clear S
    rintro e w4 ⟨⟨_, rfl, bB, pB, lB, KB, qB, jB, JB, rfl, hB, nB, dB⟩, S, H⟩
    replace nA := nA.hold H
    replace dA := dA.hold H
    clear H
    have c0_0 := S.c 0 0 rfl rfl
    have c0_1 := S.c 0 1 rfl rfl
    have c0_2 := S.c 0 2 rfl rfl
    have H := S.hnew 27 [.bool bB, .slice pB lB KB, .slice qB jB JB]
    replace S := S.alloc 27 [.bool bB, .slice pB lB KB, .slice qB jB JB] (w4.heap.size)
    try simp only [List.cons_append, List.nil_append] at S
    replace nA := nA.hold H
    replace dA := dA.hold H
    replace nB := nB.hold H
    replace dB := dB.hold H
    clear H
    clear c0_0 c0_1 c0_2
    have c0_0 := S.c 0 0 rfl rfl
    have c0_1 := S.c 0 1 rfl rfl
    have c0_2 := S.c 0 2 rfl rfl
    have c2_0 := S.c 2 0 rfl rfl
    have c2_1 := S.c 2 1 rfl rfl
    have c2_2 := S.c 2 2 rfl rfl
    obtain ⟨c, b, hcb, hc1, hc2⟩ : ∃ (c : Int) (b : Bool), ((c = 0 ∧ b = false) ∨ (c = 1 ∧ b = true)) ∧ cmpI (zA.den : Int) ((1 : Nat) : Int) = c ∧ ∃ z : Int, posI 47 (bs s) = z ∧ decide (0 ≤ z) = b := by
      rcases HC.out with ⟨h1, h2⟩ | ⟨h1, i, h2⟩
      · exact ⟨0, false, .inl ⟨rfl, rfl⟩, by rw [h1]; rfl, -1, h2, rfl⟩
      · exact ⟨1, true, .inr ⟨rfl, rfl⟩, by have := zA.den_nz; unfold cmpI; rw [if_neg (by omega), if_pos (by omega)], i, h2, decide_eq_true (by omega)⟩
    obtain ⟨z, hz1, hz2⟩ := hc2
    have HZ := Lib.hid (And.intro hc1 (And.intro hz1 hz2))
    have HN := Lib.hid (And.intro hn0 hn1)
    clear hc1 hz1 hz2 HC
    rcases hcb with ⟨rfl, rfl⟩ | ⟨rfl, rfl⟩
    all_goals
      go_upto_region 7 with fail
      clear c0_0 c0_1 c0_2 c2_0 c2_1 c2_2
      replace nA := nA.hold (Hold.drew _)
      replace dA := dA.hold (Hold.drew _)
      replace nB := nB.hold (Hold.drew _)
      replace dB := dB.hold (Hold.drew _)
      replace S := S.drew
      refine wp_region_held_drew (S := fun W => W.cell? ⟨w.heap.size, 0, none⟩ = some (.bool bA) ∧ W.cell? ⟨w.heap.size, 1, none⟩ = some (.slice pA lA KA) ∧ W.cell? ⟨w.heap.size, 2, none⟩ = some (.slice qA jA JA) ∧ W.cell? ⟨w4.heap.size, 0, none⟩ = some (.bool bB) ∧ W.cell? ⟨w4.heap.size, 1, none⟩ = some (.slice pB lB KB) ∧ W.cell? ⟨w4.heap.size, 2, none⟩ = some (.slice qB jB JB)) (by kernel_rfl) ⟨S.c 0 0 rfl rfl, S.c 0 1 rfl rfl, S.c 0 2 rfl rfl, S.c 2 0 rfl rfl, S.c 2 1 rfl rfl, S.c 2 2 rfl rfl⟩ (fun hS => ?_)
      refine wpAnyH_take (i := 0) (v := ?_) ((List.getElem?_toArray ..).trans rfl) (by kernel_rfl) (by kernel_rfl) (by kernel_rfl) (fun _ _ _ h => h) (Or.inl ⟨rfl, fun W hW => ?_⟩) hS ?_
      rotate_left
      · obtain ⟨hW0, hW1, hW2, hW3, hW4, hW5⟩ := hW; go_simp; try first | rfl | (rw [if_neg (by first | omega | (simp only [ByteArray.size_append]; first | omega | (have h1 : (ByteArray.mk #[47]).size = 1 := rfl; omega)))]; try rfl) | kernel_rfl
      try simp only [Act.put, List.setIfInBounds_toArray, List.set_cons_zero, List.set_cons_succ]
      refine wpAnyH_take (i := 1) (v := ?_) ((List.getElem?_toArray ..).trans rfl) (by kernel_rfl) (by kernel_rfl) (by kernel_rfl) (fun _ _ _ h => h) (Or.inl ⟨rfl, fun W hW => ?_⟩) hS ?_
      rotate_left
      · obtain ⟨hW0, hW1, hW2, hW3, hW4, hW5⟩ := hW; go_simp; try first | rfl | (rw [if_neg (by first | omega | (simp only [ByteArray.size_append]; first | omega | (have h1 : (ByteArray.mk #[47]).size = 1 := rfl; omega)))]; try rfl) | kernel_rfl
      try simp only [Act.put, List.setIfInBounds_toArray, List.set_cons_zero, List.set_cons_succ]
      refine wpAnyH_take (i := 2) (v := ?_) ((List.getElem?_toArray ..).trans rfl) (by kernel_rfl) (by kernel_rfl) (by kernel_rfl) (fun _ _ _ h => h) (Or.inl ⟨rfl, fun W hW => ?_⟩) hS ?_
      rotate_left
      · obtain ⟨hW0, hW1, hW2, hW3, hW4, hW5⟩ := hW; go_simp; try first | rfl | (rw [if_neg (by first | omega | (simp only [ByteArray.size_append]; first | omega | (have h1 : (ByteArray.mk #[47]).size = 1 := rfl; omega)))]; try rfl) | kernel_rfl
      try simp only [Act.put, List.setIfInBounds_toArray, List.set_cons_zero, List.set_cons_succ]
      refine wpAnyH_take (i := 3) (v := ?_) ((List.getElem?_toArray ..).trans rfl) (by kernel_rfl) (by kernel_rfl) (by kernel_rfl) (fun _ _ _ h => h) (Or.inl ⟨rfl, fun W hW => ?_⟩) hS ?_
      rotate_left
      · obtain ⟨hW0, hW1, hW2, hW3, hW4, hW5⟩ := hW; go_simp; try first | rfl | (rw [if_neg (by first | omega | (simp only [ByteArray.size_append]; first | omega | (have h1 : (ByteArray.mk #[47]).size = 1 := rfl; omega)))]; try rfl) | kernel_rfl
      try simp only [Act.put, List.setIfInBounds_toArray, List.set_cons_zero, List.set_cons_succ]
      refine wpAnyH_take (i := 4) (v := ?_) ((List.getElem?_toArray ..).trans rfl) (by kernel_rfl) (by kernel_rfl) (by kernel_rfl) (fun _ _ _ h => h) (Or.inl ⟨rfl, fun W hW => ?_⟩) hS ?_
      rotate_left
      · obtain ⟨hW0, hW1, hW2, hW3, hW4, hW5⟩ := hW; go_simp; try first | rfl | (rw [if_neg (by first | omega | (simp only [ByteArray.size_append]; first | omega | (have h1 : (ByteArray.mk #[47]).size = 1 := rfl; omega)))]; try rfl) | kernel_rfl
      try simp only [Act.put, List.setIfInBounds_toArray, List.set_cons_zero, List.set_cons_succ]
      refine wpAnyH_ready (rs := [5]) (by kernel_rfl) (by simp) (AllReadyH.cons ((List.getElem?_toArray ..).trans rfl) (fun KK hKK => ?_) AllReadyH.nil)
      go_simp
      refine (S.call (same_any ⟨bA, pA, lA, KA, qA, jA, JA, rfl, hA, nA, dA⟩ ⟨bB, pB, lB, KB, qB, jB, JB, rfl, hB, nB, dB⟩ HM.out HM.out (r := true) (by simp))).mono ?_; clear S; rintro e w5 ⟨rfl, S, H⟩; replace nA := nA.hold H; replace dA := dA.hold H; replace nB := nB.hold H; replace dB := dB.hold H; clear H
      go_wp2_with fail
      refine hKK.out _ _ ⟨S.c 0 0 rfl rfl, S.c 0 1 rfl rfl, S.c 0 2 rfl rfl, S.c 2 0 rfl rfl, S.c 2 1 rfl rfl, S.c 2 2 rfl rfl⟩ (fun hS => ?_)
      clear hKK KK
      try simp only [Act.put, List.setIfInBounds_toArray, List.set_cons_zero, List.set_cons_succ]
      refine wpAnyH_take (i := 6) (v := ?_) ((List.getElem?_toArray ..).trans rfl) (by kernel_rfl) (by kernel_rfl) (by kernel_rfl) (fun _ _ _ h => h) (Or.inl ⟨rfl, fun W hW => ?_⟩) hS ?_
      rotate_left
      · obtain ⟨hW0, hW1, hW2, hW3, hW4, hW5⟩ := hW; go_simp; try first | rfl | (rw [if_neg (by first | omega | (simp only [ByteArray.size_append]; first | omega | (have h1 : (ByteArray.mk #[47]).size = 1 := rfl; omega)))]; try rfl) | kernel_rfl
      try simp only [Act.put, List.setIfInBounds_toArray, List.set_cons_zero, List.set_cons_succ]
      refine wpAnyH_take (i := 7) (v := ?_) ((List.getElem?_toArray ..).trans rfl) (by kernel_rfl) (by kernel_rfl) (by kernel_rfl) (fun _ _ _ h => h) (Or.inl ⟨rfl, fun W hW => ?_⟩) hS ?_
      rotate_left
      · obtain ⟨hW0, hW1, hW2, hW3, hW4, hW5⟩ := hW; go_simp; try first | rfl | (rw [if_neg (by first | omega | (simp only [ByteArray.size_append]; first | omega | (have h1 : (ByteArray.mk #[47]).size = 1 := rfl; omega)))]; try rfl) | kernel_rfl
      try simp only [Act.put, List.setIfInBounds_toArray, List.set_cons_zero, List.set_cons_succ]
      refine wpAnyH_take (i := 8) (v := ?_) ((List.getElem?_toArray ..).trans rfl) (by kernel_rfl) (by kernel_rfl) (by kernel_rfl) (fun _ _ _ h => h) (Or.inl ⟨rfl, fun W hW => ?_⟩) hS ?_
      rotate_left
      · obtain ⟨hW0, hW1, hW2, hW3, hW4, hW5⟩ := hW; go_simp; try first | rfl | (rw [if_neg (by first | omega | (simp only [ByteArray.size_append]; first | omega | (have h1 : (ByteArray.mk #[47]).size = 1 := rfl; omega)))]; try rfl) | kernel_rfl
      try simp only [Act.put, List.setIfInBounds_toArray, List.set_cons_zero, List.set_cons_succ]
      refine wpAnyH_take (i := 9) (v := ?_) ((List.getElem?_toArray ..).trans rfl) (by kernel_rfl) (by kernel_rfl) (by kernel_rfl) (fun _ _ _ h => h) (Or.inl ⟨rfl, fun W hW => ?_⟩) hS ?_
      rotate_left
      · obtain ⟨hW0, hW1, hW2, hW3, hW4, hW5⟩ := hW; go_simp; try first | rfl | (rw [if_neg (by first | omega | (simp only [ByteArray.size_append]; first | omega | (have h1 : (ByteArray.mk #[47]).size = 1 := rfl; omega)))]; try rfl) | kernel_rfl
      try simp only [Act.put, List.setIfInBounds_toArray, List.set_cons_zero, List.set_cons_succ]
      refine wpAnyH_take (i := 11) (v := ?_) ((List.getElem?_toArray ..).trans rfl) (by kernel_rfl) (by kernel_rfl) (by kernel_rfl) (fun _ _ _ h => h) (Or.inl ⟨rfl, fun W hW => ?_⟩) hS ?_
      rotate_left
      · obtain ⟨hW0, hW1, hW2, hW3, hW4, hW5⟩ := hW; go_simp; try first | rfl | (rw [if_neg (by first | omega | (simp only [ByteArray.size_append]; first | omega | (have h1 : (ByteArray.mk #[47]).size = 1 := rfl; omega)))]; try rfl) | kernel_rfl
      try simp only [Act.put, List.setIfInBounds_toArray, List.set_cons_zero, List.set_cons_succ]
      refine wpAnyH_take (i := 12) (v := ?_) ((List.getElem?_toArray ..).trans rfl) (by kernel_rfl) (by kernel_rfl) (by kernel_rfl) (fun _ _ _ h => h) (Or.inl ⟨rfl, fun W hW => ?_⟩) hS ?_
      rotate_left
      · obtain ⟨hW0, hW1, hW2, hW3, hW4, hW5⟩ := hW; go_simp; try first | rfl | (rw [if_neg (by first | omega | (simp only [ByteArray.size_append]; first | omega | (have h1 : (ByteArray.mk #[47]).size = 1 := rfl; omega)))]; try rfl) | kernel_rfl
      try simp only [Act.put, List.setIfInBounds_toArray, List.set_cons_zero, List.set_cons_succ]
      refine wpAnyH_ready (rs := [10]) (by kernel_rfl) (by simp) (AllReadyH.cons ((List.getElem?_toArray ..).trans rfl) (fun KK hKK => ?_) AllReadyH.nil)
      go_simp
      refine (S.call (contains_any s 47 _ z HZ.out.2.1 _ HZ.out.2.2)).mono ?_; clear S; rintro e w6 ⟨rfl, S, H⟩; replace nA := nA.hold H; replace dA := dA.hold H; replace nB := nB.hold H; replace dB := dB.hold H; clear H
      go_wp2_with fail
      refine hKK.out _ _ ⟨S.c 0 0 rfl rfl, S.c 0 1 rfl rfl, S.c 0 2 rfl rfl, S.c 2 0 rfl rfl, S.c 2 1 rfl rfl, S.c 2 2 rfl rfl⟩ (fun hS => ?_)
      clear hKK KK
      try simp only [Act.put, List.setIfInBounds_toArray, List.set_cons_zero, List.set_cons_succ]
      refine wpAnyH_ready (rs := [13]) (by kernel_rfl) (by simp) (AllReadyH.cons ((List.getElem?_toArray ..).trans rfl) (fun KK hKK => ?_) AllReadyH.nil)
      go_simp
      refine (S.call (of_any 1 _ (by decide))).mono ?_; clear S; rintro e w7 ⟨⟨_, rfl, n1⟩, S, H⟩; replace nA := nA.hold H; replace dA := dA.hold H; replace nB := nB.hold H; replace dB := dB.hold H; clear H
      go_wp2_with fail
      refine hKK.out _ _ ⟨S.c 0 0 rfl rfl, S.c 0 1 rfl rfl, S.c 0 2 rfl rfl, S.c 2 0 rfl rfl, S.c 2 1 rfl rfl, S.c 2 2 rfl rfl⟩ (fun hS => ?_)
      clear hKK KK
      try simp only [Act.put, List.setIfInBounds_toArray, List.set_cons_zero, List.set_cons_succ]
      refine wpAnyH_ready (rs := [14]) (by kernel_rfl) (by simp) (AllReadyH.cons ((List.getElem?_toArray ..).trans rfl) (fun KK hKK => ?_) AllReadyH.nil)
      go_simp
      refine (S.call (compare_nat dA n1 HM.out.2 (lit_max 1 (by decide)) HZ.out.1)).mono ?_; clear S; rintro e w8 ⟨rfl, S, H⟩; replace nA := nA.hold H; replace dA := dA.hold H; replace nB := nB.hold H; replace dB := dB.hold H; replace n1 := n1.hold H; clear H
      go_wp2_with fail
      refine hKK.out _ _ ⟨S.c 0 0 rfl rfl, S.c 0 1 rfl rfl, S.c 0 2 rfl rfl, S.c 2 0 rfl rfl, S.c 2 1 rfl rfl, S.c 2 2 rfl rfl⟩ (fun hS => ?_)
      clear hKK KK
      try simp only [Act.put, List.setIfInBounds_toArray, List.set_cons_zero, List.set_cons_succ]
      refine wpAnyH_take (i := 15) (v := ?_) ((List.getElem?_toArray ..).trans rfl) (by kernel_rfl) (by kernel_rfl) (by kernel_rfl) (fun _ _ _ h => h) (Or.inl ⟨rfl, fun W hW => ?_⟩) hS ?_
      rotate_left
      · obtain ⟨hW0, hW1, hW2, hW3, hW4, hW5⟩ := hW; go_simp; try first | rfl | (rw [if_neg (by first | omega | (simp only [ByteArray.size_append]; first | omega | (have h1 : (ByteArray.mk #[47]).size = 1 := rfl; omega)))]; try rfl) | kernel_rfl
      try simp only [Act.put, List.setIfInBounds_toArray, List.set_cons_zero, List.set_cons_succ]
      refine wpAnyH_take (i := 16) (v := ?_) ((List.getElem?_toArray ..).trans rfl) (by kernel_rfl) (by kernel_rfl) (by kernel_rfl) (fun _ _ _ h => h) (Or.inl ⟨rfl, fun W hW => ?_⟩) hS ?_
      rotate_left
      · obtain ⟨hW0, hW1, hW2, hW3, hW4, hW5⟩ := hW; go_simp; try first | rfl | (rw [if_neg (by first | omega | (simp only [ByteArray.size_append]; first | omega | (have h1 : (ByteArray.mk #[47]).size = 1 := rfl; omega)))]; try rfl) | kernel_rfl
      try simp only [Act.put, List.setIfInBounds_toArray, List.set_cons_zero, List.set_cons_succ]
      refine wpAnyH_take (i := 17) (v := ?_) ((List.getElem?_toArray ..).trans rfl) (by kernel_rfl) (by kernel_rfl) (by kernel_rfl) (fun _ _ _ h => h) (Or.inl ⟨rfl, fun W hW => ?_⟩) hS ?_
      rotate_left
      · obtain ⟨hW0, hW1, hW2, hW3, hW4, hW5⟩ := hW; go_simp; try first | rfl | (rw [if_neg (by first | omega | (simp only [ByteArray.size_append]; first | omega | (have h1 : (ByteArray.mk #[47]).size = 1 := rfl; omega)))]; try rfl) | kernel_rfl
      try simp only [Act.put, List.setIfInBounds_toArray, List.set_cons_zero, List.set_cons_succ]
      refine wpAnyH_done (by kernel_rfl) ?_ _
      by_cases hn : n < 1
      ·
        go_wp2_with fail
        exact bodyPost_ret (v := .bool true) (by simp [results, Tryz.f3, go_sem]) rfl (⟨rfl, S.below⟩)
      · obtain ⟨m, hm⟩ : ∃ m : Nat, (m : Int) = n := ⟨n.toNat, by omega⟩
        subst hm
        have hm1 : 1 ≤ m := by omega
        have hm2 : m < 18446744073709551616 := by have := HN.out.2; omega
        have hmi : (m : Int) ≤ 9223372036854775807 := HN.out.2
        have hwu : IntKind.u64.wrap (m : Int) = (m : Int) := by rw [show IntKind.u64.wrap (m : Int) = (m : Int) % 18446744073709551616 from rfl]; omega
        have hmb : m < NB 2 := by rw [show NB 2 = NB 1 * NB 1 from NB_add 1 1, NB_one]; omega
        obtain ⟨x, hx⟩ : ∃ x, zA.num * (m : Int) = x := ⟨_, rfl⟩
        obtain ⟨y, hy⟩ : ∃ y, zA.den * m = y := ⟨_, rfl⟩
        have hxb : x.natAbs < NB 22 := by rw [← hx, Int.natAbs_mul, Int.natAbs_natCast]; exact nb_mul RA.out.1 hmb
        have hyb : y < NB 22 := by rw [← hy]; exact nb_mul RA.out.2 hmb
        have HX := Lib.hid (And.intro hx (And.intro hxb (And.intro hy (And.intro hyb (And.intro hm1 hm2)))))
        have HY := Lib.hid hmb
        have HI := Lib.hid hmi
        clear hm1 hm2 hmb hx hy hxb hyb hmi
        have c0_0 := S.c 0 0 rfl rfl
        have c0_1 := S.c 0 1 rfl rfl
        have c0_2 := S.c 0 2 rfl rfl
        go_upto_region 11 with fail
        clear c0_0 c0_1 c0_2
        go_cut [8, 9] (fun s8 s9 wx => ∃ g8 px lx Kx, s8 = .pointer (some ⟨g8, 0, none⟩) ∧ s9 = .int .i64 0 ∧ St w wx [(w.heap.size, 27, [.bool bA, .slice pA lA KA, .slice qA jA JA]), (w1.heap.size, 27, [.bool bA, .slice pA lA KA, .slice qA jA JA]), (w4.heap.size, 27, [.bool bB, .slice pB lB KB, .slice qB jB JB]), (g8, 25, [.bool (negB x), .slice px lx Kx])] ∧ IsNat wx (.slice px lx Kx) x.natAbs ∧ Hold w8 wx)
        case first =>
          have HH := Hold.drew w8
          replace nA := nA.hold HH
          replace dA := dA.hold HH
          replace nB := nB.hold HH
          replace dB := dB.hold HH
          replace n1 := n1.hold HH
          replace S := S.drew
          refine wp_region_held_drew (S := fun W => W.cell? ⟨w.heap.size, 0, none⟩ = some (.bool bA) ∧ W.cell? ⟨w.heap.size, 1, none⟩ = some (.slice pA lA KA)) (by kernel_rfl) ⟨S.c 0 0 rfl rfl, S.c 0 1 rfl rfl⟩ (fun hS => ?_)
          generalize w8.drew = w9 at S nA dA nB dB n1 HH hS ⊢
          refine wpAnyH_take (i := 0) (v := ?_) ((List.getElem?_toArray ..).trans rfl) (by kernel_rfl) (by kernel_rfl) (by kernel_rfl) (fun _ _ _ h => h) (Or.inl ⟨rfl, fun W hW => ?_⟩) hS ?_
          rotate_left
          · obtain ⟨hW0, hW1⟩ := hW; go_simp; try first | rfl | (rw [if_neg (by first | omega | (simp only [ByteArray.size_append]; first | omega | (have h1 : (ByteArray.mk #[47]).size = 1 := rfl; omega)))]; try rfl) | kernel_rfl
          try simp only [Act.put, List.setIfInBounds_toArray, List.set_cons_zero, List.set_cons_succ]
          refine wpAnyH_take (i := 1) (v := ?_) ((List.getElem?_toArray ..).trans rfl) (by kernel_rfl) (by kernel_rfl) (by kernel_rfl) (fun _ _ _ h => h) (Or.inl ⟨rfl, fun W hW => ?_⟩) hS ?_
          rotate_left
          · obtain ⟨hW0, hW1⟩ := hW; go_simp; try first | rfl | (rw [if_neg (by first | omega | (simp only [ByteArray.size_append]; first | omega | (have h1 : (ByteArray.mk #[47]).size = 1 := rfl; omega)))]; try rfl) | kernel_rfl
          try simp only [Act.put, List.setIfInBounds_toArray, List.set_cons_zero, List.set_cons_succ]
          refine wpAnyH_take (i := 2) (v := ?_) ((List.getElem?_toArray ..).trans rfl) (by kernel_rfl) (by kernel_rfl) (by kernel_rfl) (fun _ _ _ h => h) (Or.inl ⟨rfl, fun W hW => ?_⟩) hS ?_
          rotate_left
          · obtain ⟨hW0, hW1⟩ := hW; go_simp; try first | rfl | (rw [if_neg (by first | omega | (simp only [ByteArray.size_append]; first | omega | (have h1 : (ByteArray.mk #[47]).size = 1 := rfl; omega)))]; try rfl) | kernel_rfl
          try simp only [Act.put, List.setIfInBounds_toArray, List.set_cons_zero, List.set_cons_succ]
          refine wpAnyH_ready (rs := [3, 8]) (by kernel_rfl) (by simp) (AllReadyH.cons ((List.getElem?_toArray ..).trans rfl) (fun KK hKK => ?_) (AllReadyH.cons ((List.getElem?_toArray ..).trans rfl) (fun KK hKK => ?_) AllReadyH.nil))
          ·
            go_simp
            clear hS
            refine (S.call (wof_any (m : Int) _ (by omega) HI.out)).mono ?_
            clear S
            rintro e w10 ⟨⟨_, rfl, pm, lm, Km, rfl, nm⟩, S, H⟩
            replace nA := nA.hold H
            replace dA := dA.hold H
            replace nB := nB.hold H
            replace dB := dB.hold H
            replace n1 := n1.hold H
            replace HH := HH.trans H
            clear H
            go_wp2_with fail
            refine hKK.out _ _ ⟨S.c 0 0 rfl rfl, S.c 0 1 rfl rfl⟩ (fun hS => ?_)
            clear hKK KK
            try simp only [Act.put, List.setIfInBounds_toArray, List.set_cons_zero, List.set_cons_succ]
            refine wpAnyH_ready (rs := [4, 8]) (by kernel_rfl) (by simp) (AllReadyH.cons ((List.getElem?_toArray ..).trans rfl) (fun KK hKK => ?_) (AllReadyH.cons ((List.getElem?_toArray ..).trans rfl) (fun KK hKK => ?_) AllReadyH.nil))
            ·
              go_simp
              clear hS
              refine (S.call (wmul_to ⟨_, _, _, by rw [hA.out], nA⟩ ⟨_, _, _, rfl, nm⟩ HM.out.1 (by have := nb_max HY.out (by decide); omega) x HX.out.1 (nb_max HX.out.2.1 (by decide)))).mono ?_
              clear S
              rintro e w11 ⟨⟨_, rfl, px, lx, Kx, rfl, nx⟩, S, H⟩
              replace nA := nA.hold H
              replace dA := dA.hold H
              replace nB := nB.hold H
              replace dB := dB.hold H
              replace n1 := n1.hold H
              replace nm := nm.hold H
              replace HH := HH.trans H
              clear H
              go_wp2_with fail
              refine hKK.out _ _ ⟨S.c 0 0 rfl rfl, S.c 0 1 rfl rfl⟩ (fun hS => ?_)
              clear hKK KK
              try simp only [Act.put, List.setIfInBounds_toArray, List.set_cons_zero, List.set_cons_succ]
              refine wpAnyH_take (i := 5) (v := ?_) ((List.getElem?_toArray ..).trans rfl) (by kernel_rfl) (by kernel_rfl) (by kernel_rfl) (fun _ _ _ h => h) (Or.inl ⟨rfl, fun W hW => ?_⟩) hS ?_
              rotate_left
              · obtain ⟨hW0, hW1⟩ := hW; go_simp; try first | rfl | (rw [if_neg (by first | omega | (simp only [ByteArray.size_append]; first | omega | (have h1 : (ByteArray.mk #[47]).size = 1 := rfl; omega)))]; try rfl) | kernel_rfl
              try simp only [Act.put, List.setIfInBounds_toArray, List.set_cons_zero, List.set_cons_succ]
              refine wpAnyH_take (i := 6) (v := ?_) ((List.getElem?_toArray ..).trans rfl) (by kernel_rfl) (by kernel_rfl) (by kernel_rfl) (fun _ _ _ h => h) (Or.inl ⟨rfl, fun W hW => ?_⟩) hS ?_
              rotate_left
              · obtain ⟨hW0, hW1⟩ := hW; go_simp; try first | rfl | (rw [if_neg (by first | omega | (simp only [ByteArray.size_append]; first | omega | (have h1 : (ByteArray.mk #[47]).size = 1 := rfl; omega)))]; try rfl) | kernel_rfl
              try simp only [Act.put, List.setIfInBounds_toArray, List.set_cons_zero, List.set_cons_succ]
              refine wpAnyH_take (i := 7) (v := ?_) ((List.getElem?_toArray ..).trans rfl) (by kernel_rfl) (by kernel_rfl) (by kernel_rfl) (fun _ _ _ h => h) (Or.inl ⟨rfl, fun W hW => ?_⟩) hS ?_
              rotate_left
              · obtain ⟨hW0, hW1⟩ := hW; go_simp; try first | rfl | (rw [if_neg (by first | omega | (simp only [ByteArray.size_append]; first | omega | (have h1 : (ByteArray.mk #[47]).size = 1 := rfl; omega)))]; try rfl) | kernel_rfl
              try simp only [Act.put, List.setIfInBounds_toArray, List.set_cons_zero, List.set_cons_succ]
              refine wpAnyH_ready (rs := [8]) (by kernel_rfl) (by simp) (AllReadyH.cons ((List.getElem?_toArray ..).trans rfl) (fun KK hKK => ?_) AllReadyH.nil)
              go_simp
              clear hS
              have H := S.hnew 25 [.bool false, .slice none 0 0]
              replace S := S.alloc 25 [.bool false, .slice none 0 0] (w11.heap.size)
              try simp only [List.cons_append, List.nil_append] at S
              replace nA := nA.hold H
              replace dA := dA.hold H
              replace nB := nB.hold H
              replace dB := dB.hold H
              replace n1 := n1.hold H
              replace nm := nm.hold H
              replace nx := nx.hold H
              replace HH := HH.trans H
              clear H
              refine hKK.out _ _ ⟨S.c 0 0 rfl rfl, S.c 0 1 rfl rfl⟩ (fun hS => ?_)
              generalize (w11.alloc (.cells #[.bool false, .slice none 0 0] 25)) = w12 at S nA dA nB dB n1 nm nx HH hS ⊢
              clear hKK KK
              try simp only [Act.put, List.setIfInBounds_toArray, List.set_cons_zero, List.set_cons_succ]
              refine wpAnyH_ready (rs := [9]) (by kernel_rfl) (by simp) (AllReadyH.cons ((List.getElem?_toArray ..).trans rfl) (fun KK hKK => ?_) AllReadyH.nil)
              have c0 := S.c 3 0 rfl rfl
              have f0 := S.f 3 0 rfl
              have c1 := S.c 3 1 rfl rfl
              have f1 := S.f 3 1 rfl
              go_simp
              clear hS c0 f0 c1 f1
              have H := S.hset 3 0 (.bool (negB x)) rfl rfl (by intro q n e; cases e)
              replace S := S.set 3 0 (.bool (negB x)) rfl
              replace nA := nA.hold H
              replace dA := dA.hold H
              replace nB := nB.hold H
              replace dB := dB.hold H
              replace n1 := n1.hold H
              replace nm := nm.hold H
              replace nx := nx.hold H
              replace HH := HH.trans H
              clear H
              have H := S.hset 3 1 (.slice px lx Kx) rfl rfl (by intro q n e; cases e)
              replace S := S.set 3 1 (.slice px lx Kx) rfl
              replace nA := nA.hold H
              replace dA := dA.hold H
              replace nB := nB.hold H
              replace dB := dB.hold H
              replace n1 := n1.hold H
              replace nm := nm.hold H
              replace nx := nx.hold H
              replace HH := HH.trans H
              clear H
              refine hKK.out _ _ ⟨S.c 0 0 rfl rfl, S.c 0 1 rfl rfl⟩ (fun hS => ?_)
              generalize ((w12.setCell ⟨w11.heap.size, 0, none⟩ (.bool (negB x))).setCell ⟨w11.heap.size, 1, none⟩ (.slice px lx Kx)) = w13 at S nA dA nB dB n1 nm nx HH hS ⊢
              clear hKK KK
              try simp only [Act.put, List.setIfInBounds_toArray, List.set_cons_zero, List.set_cons_succ]
              refine wpAnyH_ready (rs := [10]) (by kernel_rfl) (by simp) (AllReadyH.cons ((List.getElem?_toArray ..).trans rfl) (fun KK hKK => ?_) AllReadyH.nil)
              go_simp
              refine hKK.out _ _ hS (fun hS => ?_)
              clear hKK KK
              try simp only [Act.put, List.setIfInBounds_toArray, List.set_cons_zero, List.set_cons_succ]
              refine wpAnyH_done (by kernel_rfl) ?_ _
              go_wp2_with fail
              go_meet
              case rel => exact ⟨w11.heap.size, px, lx, Kx, rfl, rfl, S, nx, HH⟩
            ·
              go_simp
              clear hS
              have H := S.hnew 25 [.bool false, .slice none 0 0]
              replace S := S.alloc 25 [.bool false, .slice none 0 0] (w10.heap.size)
              try simp only [List.cons_append, List.nil_append] at S
              replace nA := nA.hold H
              replace dA := dA.hold H
              replace nB := nB.hold H
              replace dB := dB.hold H
              replace n1 := n1.hold H
              replace nm := nm.hold H
              replace HH := HH.trans H
              clear H
              refine hKK.out _ _ ⟨S.c 0 0 rfl rfl, S.c 0 1 rfl rfl⟩ (fun hS => ?_)
              generalize (w10.alloc (.cells #[.bool false, .slice none 0 0] 25)) = w14 at S nA dA nB dB n1 nm HH hS ⊢
              clear hKK KK
              try simp only [Act.put, List.setIfInBounds_toArray, List.set_cons_zero, List.set_cons_succ]
              refine wpAnyH_ready (rs := [4]) (by kernel_rfl) (by simp) (AllReadyH.cons ((List.getElem?_toArray ..).trans rfl) (fun KK hKK => ?_) AllReadyH.nil)
              go_simp
              clear hS
              refine (S.call (wmul_to ⟨_, _, _, by rw [hA.out], nA⟩ ⟨_, _, _, rfl, nm⟩ HM.out.1 (by have := nb_max HY.out (by decide); omega) x HX.out.1 (nb_max HX.out.2.1 (by decide)))).mono ?_
              clear S
              rintro e w15 ⟨⟨_, rfl, px, lx, Kx, rfl, nx⟩, S, H⟩
              replace nA := nA.hold H
              replace dA := dA.hold H
              replace nB := nB.hold H
              replace dB := dB.hold H
              replace n1 := n1.hold H
              replace nm := nm.hold H
              replace HH := HH.trans H
              clear H
              go_wp2_with fail
              refine hKK.out _ _ ⟨S.c 0 0 rfl rfl, S.c 0 1 rfl rfl⟩ (fun hS => ?_)
              clear hKK KK
              try simp only [Act.put, List.setIfInBounds_toArray, List.set_cons_zero, List.set_cons_succ]
              refine wpAnyH_take (i := 5) (v := ?_) ((List.getElem?_toArray ..).trans rfl) (by kernel_rfl) (by kernel_rfl) (by kernel_rfl) (fun _ _ _ h => h) (Or.inl ⟨rfl, fun W hW => ?_⟩) hS ?_
              rotate_left
              · obtain ⟨hW0, hW1⟩ := hW; go_simp; try first | rfl | (rw [if_neg (by first | omega | (simp only [ByteArray.size_append]; first | omega | (have h1 : (ByteArray.mk #[47]).size = 1 := rfl; omega)))]; try rfl) | kernel_rfl
              try simp only [Act.put, List.setIfInBounds_toArray, List.set_cons_zero, List.set_cons_succ]
              refine wpAnyH_take (i := 6) (v := ?_) ((List.getElem?_toArray ..).trans rfl) (by kernel_rfl) (by kernel_rfl) (by kernel_rfl) (fun _ _ _ h => h) (Or.inl ⟨rfl, fun W hW => ?_⟩) hS ?_
              rotate_left
              · obtain ⟨hW0, hW1⟩ := hW; go_simp; try first | rfl | (rw [if_neg (by first | omega | (simp only [ByteArray.size_append]; first | omega | (have h1 : (ByteArray.mk #[47]).size = 1 := rfl; omega)))]; try rfl) | kernel_rfl
              try simp only [Act.put, List.setIfInBounds_toArray, List.set_cons_zero, List.set_cons_succ]
              refine wpAnyH_take (i := 7) (v := ?_) ((List.getElem?_toArray ..).trans rfl) (by kernel_rfl) (by kernel_rfl) (by kernel_rfl) (fun _ _ _ h => h) (Or.inl ⟨rfl, fun W hW => ?_⟩) hS ?_
              rotate_left
              · obtain ⟨hW0, hW1⟩ := hW; go_simp; try first | rfl | (rw [if_neg (by first | omega | (simp only [ByteArray.size_append]; first | omega | (have h1 : (ByteArray.mk #[47]).size = 1 := rfl; omega)))]; try rfl) | kernel_rfl
              try simp only [Act.put, List.setIfInBounds_toArray, List.set_cons_zero, List.set_cons_succ]
              refine wpAnyH_ready (rs := [9]) (by kernel_rfl) (by simp) (AllReadyH.cons ((List.getElem?_toArray ..).trans rfl) (fun KK hKK => ?_) AllReadyH.nil)
              have c0 := S.c 3 0 rfl rfl
              have f0 := S.f 3 0 rfl
              have c1 := S.c 3 1 rfl rfl
              have f1 := S.f 3 1 rfl
              go_simp
              clear hS c0 f0 c1 f1
              have H := S.hset 3 0 (.bool (negB x)) rfl rfl (by intro q n e; cases e)
              replace S := S.set 3 0 (.bool (negB x)) rfl
              replace nA := nA.hold H
              replace dA := dA.hold H
              replace nB := nB.hold H
              replace dB := dB.hold H
              replace n1 := n1.hold H
              replace nm := nm.hold H
              replace nx := nx.hold H
              replace HH := HH.trans H
              clear H
              have H := S.hset 3 1 (.slice px lx Kx) rfl rfl (by intro q n e; cases e)
              replace S := S.set 3 1 (.slice px lx Kx) rfl
              replace nA := nA.hold H
              replace dA := dA.hold H
              replace nB := nB.hold H
              replace dB := dB.hold H
              replace n1 := n1.hold H
              replace nm := nm.hold H
              replace nx := nx.hold H
              replace HH := HH.trans H
              clear H
              refine hKK.out _ _ ⟨S.c 0 0 rfl rfl, S.c 0 1 rfl rfl⟩ (fun hS => ?_)
              generalize ((w15.setCell ⟨w10.heap.size, 0, none⟩ (.bool (negB x))).setCell ⟨w10.heap.size, 1, none⟩ (.slice px lx Kx)) = w16 at S nA dA nB dB n1 nm nx HH hS ⊢
              clear hKK KK
              try simp only [Act.put, List.setIfInBounds_toArray, List.set_cons_zero, List.set_cons_succ]
              refine wpAnyH_ready (rs := [10]) (by kernel_rfl) (by simp) (AllReadyH.cons ((List.getElem?_toArray ..).trans rfl) (fun KK hKK => ?_) AllReadyH.nil)
              go_simp
              refine hKK.out _ _ hS (fun hS => ?_)
              clear hKK KK
              try simp only [Act.put, List.setIfInBounds_toArray, List.set_cons_zero, List.set_cons_succ]
              refine wpAnyH_done (by kernel_rfl) ?_ _
              go_wp2_with fail
              go_meet
              case rel => exact ⟨w10.heap.size, px, lx, Kx, rfl, rfl, S, nx, HH⟩
          ·
            go_simp
            clear hS
            have H := S.hnew 25 [.bool false, .slice none 0 0]
            replace S := S.alloc 25 [.bool false, .slice none 0 0] (w9.heap.size)
            try simp only [List.cons_append, List.nil_append] at S
            replace nA := nA.hold H
            replace dA := dA.hold H
            replace nB := nB.hold H
            replace dB := dB.hold H
            replace n1 := n1.hold H
            replace HH := HH.trans H
            clear H
            refine hKK.out _ _ ⟨S.c 0 0 rfl rfl, S.c 0 1 rfl rfl⟩ (fun hS => ?_)
            generalize (w9.alloc (.cells #[.bool false, .slice none 0 0] 25)) = w17 at S nA dA nB dB n1 HH hS ⊢
            clear hKK KK
            try simp only [Act.put, List.setIfInBounds_toArray, List.set_cons_zero, List.set_cons_succ]
            refine wpAnyH_ready (rs := [3]) (by kernel_rfl) (by simp) (AllReadyH.cons ((List.getElem?_toArray ..).trans rfl) (fun KK hKK => ?_) AllReadyH.nil)
            go_simp
            clear hS
            refine (S.call (wof_any (m : Int) _ (by omega) HI.out)).mono ?_
            clear S
            rintro e w18 ⟨⟨_, rfl, pm, lm, Km, rfl, nm⟩, S, H⟩
            replace nA := nA.hold H
            replace dA := dA.hold H
            replace nB := nB.hold H
            replace dB := dB.hold H
            replace n1 := n1.hold H
            replace HH := HH.trans H
            clear H
            go_wp2_with fail
            refine hKK.out _ _ ⟨S.c 0 0 rfl rfl, S.c 0 1 rfl rfl⟩ (fun hS => ?_)
            clear hKK KK
            try simp only [Act.put, List.setIfInBounds_toArray, List.set_cons_zero, List.set_cons_succ]
            refine wpAnyH_ready (rs := [4]) (by kernel_rfl) (by simp) (AllReadyH.cons ((List.getElem?_toArray ..).trans rfl) (fun KK hKK => ?_) AllReadyH.nil)
            go_simp
            clear hS
            refine (S.call (wmul_to ⟨_, _, _, by rw [hA.out], nA⟩ ⟨_, _, _, rfl, nm⟩ HM.out.1 (by have := nb_max HY.out (by decide); omega) x HX.out.1 (nb_max HX.out.2.1 (by decide)))).mono ?_
            clear S
            rintro e w19 ⟨⟨_, rfl, px, lx, Kx, rfl, nx⟩, S, H⟩
            replace nA := nA.hold H
            replace dA := dA.hold H
            replace nB := nB.hold H
            replace dB := dB.hold H
            replace n1 := n1.hold H
            replace nm := nm.hold H
            replace HH := HH.trans H
            clear H
            go_wp2_with fail
            refine hKK.out _ _ ⟨S.c 0 0 rfl rfl, S.c 0 1 rfl rfl⟩ (fun hS => ?_)
            clear hKK KK
            try simp only [Act.put, List.setIfInBounds_toArray, List.set_cons_zero, List.set_cons_succ]
            refine wpAnyH_take (i := 5) (v := ?_) ((List.getElem?_toArray ..).trans rfl) (by kernel_rfl) (by kernel_rfl) (by kernel_rfl) (fun _ _ _ h => h) (Or.inl ⟨rfl, fun W hW => ?_⟩) hS ?_
            rotate_left
            · obtain ⟨hW0, hW1⟩ := hW; go_simp; try first | rfl | (rw [if_neg (by first | omega | (simp only [ByteArray.size_append]; first | omega | (have h1 : (ByteArray.mk #[47]).size = 1 := rfl; omega)))]; try rfl) | kernel_rfl
            try simp only [Act.put, List.setIfInBounds_toArray, List.set_cons_zero, List.set_cons_succ]
            refine wpAnyH_take (i := 6) (v := ?_) ((List.getElem?_toArray ..).trans rfl) (by kernel_rfl) (by kernel_rfl) (by kernel_rfl) (fun _ _ _ h => h) (Or.inl ⟨rfl, fun W hW => ?_⟩) hS ?_
            rotate_left
            · obtain ⟨hW0, hW1⟩ := hW; go_simp; try first | rfl | (rw [if_neg (by first | omega | (simp only [ByteArray.size_append]; first | omega | (have h1 : (ByteArray.mk #[47]).size = 1 := rfl; omega)))]; try rfl) | kernel_rfl
            try simp only [Act.put, List.setIfInBounds_toArray, List.set_cons_zero, List.set_cons_succ]
            refine wpAnyH_take (i := 7) (v := ?_) ((List.getElem?_toArray ..).trans rfl) (by kernel_rfl) (by kernel_rfl) (by kernel_rfl) (fun _ _ _ h => h) (Or.inl ⟨rfl, fun W hW => ?_⟩) hS ?_
            rotate_left
            · obtain ⟨hW0, hW1⟩ := hW; go_simp; try first | rfl | (rw [if_neg (by first | omega | (simp only [ByteArray.size_append]; first | omega | (have h1 : (ByteArray.mk #[47]).size = 1 := rfl; omega)))]; try rfl) | kernel_rfl
            try simp only [Act.put, List.setIfInBounds_toArray, List.set_cons_zero, List.set_cons_succ]
            refine wpAnyH_ready (rs := [9]) (by kernel_rfl) (by simp) (AllReadyH.cons ((List.getElem?_toArray ..).trans rfl) (fun KK hKK => ?_) AllReadyH.nil)
            have c0 := S.c 3 0 rfl rfl
            have f0 := S.f 3 0 rfl
            have c1 := S.c 3 1 rfl rfl
            have f1 := S.f 3 1 rfl
            go_simp
            clear hS c0 f0 c1 f1
            have H := S.hset 3 0 (.bool (negB x)) rfl rfl (by intro q n e; cases e)
            replace S := S.set 3 0 (.bool (negB x)) rfl
            replace nA := nA.hold H
            replace dA := dA.hold H
            replace nB := nB.hold H
            replace dB := dB.hold H
            replace n1 := n1.hold H
            replace nm := nm.hold H
            replace nx := nx.hold H
            replace HH := HH.trans H
            clear H
            have H := S.hset 3 1 (.slice px lx Kx) rfl rfl (by intro q n e; cases e)
            replace S := S.set 3 1 (.slice px lx Kx) rfl
            replace nA := nA.hold H
            replace dA := dA.hold H
            replace nB := nB.hold H
            replace dB := dB.hold H
            replace n1 := n1.hold H
            replace nm := nm.hold H
            replace nx := nx.hold H
            replace HH := HH.trans H
            clear H
            refine hKK.out _ _ ⟨S.c 0 0 rfl rfl, S.c 0 1 rfl rfl⟩ (fun hS => ?_)
            generalize ((w19.setCell ⟨w9.heap.size, 0, none⟩ (.bool (negB x))).setCell ⟨w9.heap.size, 1, none⟩ (.slice px lx Kx)) = w20 at S nA dA nB dB n1 nm nx HH hS ⊢
            clear hKK KK
            try simp only [Act.put, List.setIfInBounds_toArray, List.set_cons_zero, List.set_cons_succ]
            refine wpAnyH_ready (rs := [10]) (by kernel_rfl) (by simp) (AllReadyH.cons ((List.getElem?_toArray ..).trans rfl) (fun KK hKK => ?_) AllReadyH.nil)
            go_simp
            refine hKK.out _ _ hS (fun hS => ?_)
            clear hKK KK
            try simp only [Act.put, List.setIfInBounds_toArray, List.set_cons_zero, List.set_cons_succ]
            refine wpAnyH_done (by kernel_rfl) ?_ _
            go_wp2_with fail
            go_meet
            case rel => exact ⟨w9.heap.size, px, lx, Kx, rfl, rfl, S, nx, HH⟩
        case rest =>
          obtain ⟨g8, px, lx, Kx, rfl, rfl, S, nx, HH⟩ := hcut
          obtain ⟨w21, rfl⟩ : ∃ W : World, W = wc := ⟨_, rfl⟩
          replace nA := nA.hold HH
          replace dA := dA.hold HH
          replace nB := nB.hold HH
          replace dB := dB.hold HH
          replace n1 := n1.hold HH
          clear HH
          have c0_0 := S.c 0 0 rfl rfl
          have c0_1 := S.c 0 1 rfl rfl
          have c0_2 := S.c 0 2 rfl rfl
          go_upto_region 12 with fail
          clear c0_0 c0_1 c0_2
          replace nA := nA.hold (Hold.drew _)
          replace dA := dA.hold (Hold.drew _)
          replace nB := nB.hold (Hold.drew _)
          replace dB := dB.hold (Hold.drew _)
          replace n1 := n1.hold (Hold.drew _)
          replace nx := nx.hold (Hold.drew _)
          replace S := S.drew
          refine wp_region_held_drew (S := fun W => W.cell? ⟨w.heap.size, 1, none⟩ = some (.slice pA lA KA) ∧ W.cell? ⟨w.heap.size, 2, none⟩ = some (.slice qA jA JA)) (by kernel_rfl) ⟨S.c 0 1 rfl rfl, S.c 0 2 rfl rfl⟩ (fun hS => ?_)
          refine wpAnyH_take (i := 0) (v := ?_) ((List.getElem?_toArray ..).trans rfl) (by kernel_rfl) (by kernel_rfl) (by kernel_rfl) (fun _ _ _ h => h) (Or.inl ⟨rfl, fun W hW => ?_⟩) hS ?_
          rotate_left
          · obtain ⟨hW0, hW1⟩ := hW; go_simp; try first | rfl | (rw [if_neg (by first | omega | (simp only [ByteArray.size_append]; first | omega | (have h1 : (ByteArray.mk #[47]).size = 1 := rfl; omega)))]; try rfl) | kernel_rfl
          try simp only [Act.put, List.setIfInBounds_toArray, List.set_cons_zero, List.set_cons_succ]
          refine wpAnyH_take (i := 1) (v := ?_) ((List.getElem?_toArray ..).trans rfl) (by kernel_rfl) (by kernel_rfl) (by kernel_rfl) (fun _ _ _ h => h) (Or.inl ⟨rfl, fun W hW => ?_⟩) hS ?_
          rotate_left
          · obtain ⟨hW0, hW1⟩ := hW; go_simp; try first | rfl | (rw [if_neg (by first | omega | (simp only [ByteArray.size_append]; first | omega | (have h1 : (ByteArray.mk #[47]).size = 1 := rfl; omega)))]; try rfl) | kernel_rfl
          try simp only [Act.put, List.setIfInBounds_toArray, List.set_cons_zero, List.set_cons_succ]
          refine wpAnyH_take (i := 2) (v := ?_) ((List.getElem?_toArray ..).trans rfl) (by kernel_rfl) (by kernel_rfl) (by kernel_rfl) (fun _ _ _ h => h) (Or.inl ⟨rfl, fun W hW => ?_⟩) hS ?_
          rotate_left
          · obtain ⟨hW0, hW1⟩ := hW; go_simp; try first | rfl | (rw [if_neg (by first | omega | (simp only [ByteArray.size_append]; first | omega | (have h1 : (ByteArray.mk #[47]).size = 1 := rfl; omega)))]; try rfl) | kernel_rfl
          try simp only [Act.put, List.setIfInBounds_toArray, List.set_cons_zero, List.set_cons_succ]
          refine wpAnyH_take (i := 3) (v := ?_) ((List.getElem?_toArray ..).trans rfl) (by kernel_rfl) (by kernel_rfl) (by kernel_rfl) (fun _ _ _ h => h) (Or.inl ⟨rfl, fun W hW => ?_⟩) hS ?_
          rotate_left
          · obtain ⟨hW0, hW1⟩ := hW; go_simp; try first | rfl | (rw [if_neg (by first | omega | (simp only [ByteArray.size_append]; first | omega | (have h1 : (ByteArray.mk #[47]).size = 1 := rfl; omega)))]; try rfl) | kernel_rfl
          try simp only [Act.put, List.setIfInBounds_toArray, List.set_cons_zero, List.set_cons_succ]
          refine wpAnyH_ready (rs := [4]) (by kernel_rfl) (by simp) (AllReadyH.cons ((List.getElem?_toArray ..).trans rfl) (fun KK hKK => ?_) AllReadyH.nil)
          go_simp
          refine (S.call (of_any m _ HX.out.2.2.2.2.2)).mono ?_; clear S; rintro e w22 ⟨⟨vm, rfl, nm⟩, S, H⟩; replace nA := nA.hold H; replace dA := dA.hold H; replace nB := nB.hold H; replace dB := dB.hold H; replace n1 := n1.hold H; replace nx := nx.hold H; clear H
          go_wp2_with fail
          refine hKK.out _ _ ⟨S.c 0 1 rfl rfl, S.c 0 2 rfl rfl⟩ (fun hS => ?_)
          clear hKK KK
          try simp only [Act.put, List.setIfInBounds_toArray, List.set_cons_zero, List.set_cons_succ]
          refine wpAnyH_ready (rs := [5]) (by kernel_rfl) (by simp) (AllReadyH.cons ((List.getElem?_toArray ..).trans rfl) (fun KK hKK => ?_) AllReadyH.nil)
          go_simp
          refine (S.call (mul_fit dA nm HM.out.2 (nb_max HY.out (by decide)) (by rw [HX.out.2.2.1]; exact nb_max HX.out.2.2.2.1 (by decide)))).mono ?_; clear S; rintro e w23 ⟨⟨vy, rfl, ny⟩, S, H⟩; replace nA := nA.hold H; replace dA := dA.hold H; replace nB := nB.hold H; replace dB := dB.hold H; replace n1 := n1.hold H; replace nx := nx.hold H; replace nm := nm.hold H; clear H; rw [HX.out.2.2.1] at ny
          go_wp2_with fail
          refine hKK.out _ _ ⟨S.c 0 1 rfl rfl, S.c 0 2 rfl rfl⟩ (fun hS => ?_)
          clear hKK KK
          try simp only [Act.put, List.setIfInBounds_toArray, List.set_cons_zero, List.set_cons_succ]
          refine wpAnyH_take (i := 6) (v := ?_) ((List.getElem?_toArray ..).trans rfl) (by kernel_rfl) (by kernel_rfl) (by kernel_rfl) (fun _ _ _ h => h) (Or.inl ⟨rfl, fun W hW => ?_⟩) hS ?_
          rotate_left
          · obtain ⟨hW0, hW1⟩ := hW; go_simp; try first | rfl | (rw [if_neg (by first | omega | (simp only [ByteArray.size_append]; first | omega | (have h1 : (ByteArray.mk #[47]).size = 1 := rfl; omega)))]; try rfl) | kernel_rfl
          try simp only [Act.put, List.setIfInBounds_toArray, List.set_cons_zero, List.set_cons_succ]
          refine wpAnyH_take (i := 7) (v := ?_) ((List.getElem?_toArray ..).trans rfl) (by kernel_rfl) (by kernel_rfl) (by kernel_rfl) (fun _ _ _ h => h) (Or.inl ⟨rfl, fun W hW => ?_⟩) hS ?_
          rotate_left
          · obtain ⟨hW0, hW1⟩ := hW; go_simp; try first | rfl | (rw [if_neg (by first | omega | (simp only [ByteArray.size_append]; first | omega | (have h1 : (ByteArray.mk #[47]).size = 1 := rfl; omega)))]; try rfl) | kernel_rfl
          try simp only [Act.put, List.setIfInBounds_toArray, List.set_cons_zero, List.set_cons_succ]
          refine wpAnyH_take (i := 8) (v := ?_) ((List.getElem?_toArray ..).trans rfl) (by kernel_rfl) (by kernel_rfl) (by kernel_rfl) (fun _ _ _ h => h) (Or.inl ⟨rfl, fun W hW => ?_⟩) hS ?_
          rotate_left
          · obtain ⟨hW0, hW1⟩ := hW; go_simp; try first | rfl | (rw [if_neg (by first | omega | (simp only [ByteArray.size_append]; first | omega | (have h1 : (ByteArray.mk #[47]).size = 1 := rfl; omega)))]; try rfl) | kernel_rfl
          try simp only [Act.put, List.setIfInBounds_toArray, List.set_cons_zero, List.set_cons_succ]
          refine wpAnyH_ready (rs := [9]) (by kernel_rfl) (by simp) (AllReadyH.cons ((List.getElem?_toArray ..).trans rfl) (fun KK hKK => ?_) AllReadyH.nil)
          go_simp
          refine hKK.out _ _ ⟨S.c 0 1 rfl rfl, S.c 0 2 rfl rfl⟩ (fun hS => ?_)
          clear hKK KK
          try simp only [Act.put, List.setIfInBounds_toArray, List.set_cons_zero, List.set_cons_succ]
          refine wpAnyH_ready (rs := [10]) (by kernel_rfl) (by simp) (AllReadyH.cons ((List.getElem?_toArray ..).trans rfl) (fun KK hKK => ?_) AllReadyH.nil)
          go_simp
          refine hKK.out _ _ ⟨S.c 0 1 rfl rfl, S.c 0 2 rfl rfl⟩ (fun hS => ?_)
          clear hKK KK
          try simp only [Act.put, List.setIfInBounds_toArray, List.set_cons_zero, List.set_cons_succ]
          refine wpAnyH_done (by kernel_rfl) ?_ _
          have c3_0 := S.c 3 0 rfl rfl
          have c3_1 := S.c 3 1 rfl rfl
          go_wp2_with fail
          clear c3_0 c3_1
          refine (S.call (wtext_sz ⟨_, _, _, rfl, nx⟩ (nb_max HX.out.2.1 (by decide)))).mono ?_
          clear S
          rintro e w24 ⟨⟨t, rfl, ht0, ht⟩, S, H⟩
          replace nA := nA.hold H
          replace dA := dA.hold H
          replace nB := nB.hold H
          replace dB := dB.hold H
          replace n1 := n1.hold H
          replace nx := nx.hold H
          replace nm := nm.hold H
          replace ny := ny.hold H
          clear H
          have c3_0 := S.c 3 0 rfl rfl
          have c3_1 := S.c 3 1 rfl rfl
          go_wp2_with fail
          clear c3_0 c3_1
          refine (S.call (text_sz ny (nb_max HX.out.2.2.2.1 (by decide)))).mono ?_
          clear S
          rintro e w25 ⟨⟨u, rfl, hu0, hu⟩, S, H⟩
          replace nA := nA.hold H
          replace dA := dA.hold H
          replace nB := nB.hold H
          replace dB := dB.hold H
          replace n1 := n1.hold H
          replace nx := nx.hold H
          replace nm := nm.hold H
          replace ny := ny.hold H
          clear H
          have c3_0 := S.c 3 0 rfl rfl
          have c3_1 := S.c 3 1 rfl rfl
          obtain ⟨htl, hul⟩ := text_sum HX.out.2.1 HX.out.2.2.2.1 ht.out hu.out
          have hT := Lib.hid (show parseR (bs (t ++ ⟨#[47]⟩ ++ u)) = (zA, 0) from by
            rw [bs_add, bs_add, show bs ⟨#[47]⟩ = [47] from rfl, List.append_assoc]
            exact text_times HX.out.2.2.2.2.1 HX.out.1 HX.out.2.2.1 ht.out hu.out)
          have h47 : (⟨#[47]⟩ : ByteArray).size = 1 := rfl
          have hall : (t ++ ⟨#[47]⟩ ++ u).size ≤ 1000 := by rw [ByteArray.size_append, ByteArray.size_append, h47]; omega
          have HALL := Lib.hid hall
          clear hall ht0 hu0
          clear c3_0 c3_1
          go_wp2_with fail
          refine (S.call (rparse_any _ _ HALL.out zA 0 hT.out)).mono ?_
          clear S
          rintro e w26 ⟨⟨_, rfl, bC, pC, lC, KC, qC, jC, JC, rfl, hC, nC, dC⟩, S, H⟩
          replace nA := nA.hold H
          replace dA := dA.hold H
          replace nB := nB.hold H
          replace dB := dB.hold H
          replace n1 := n1.hold H
          replace nx := nx.hold H
          replace nm := nm.hold H
          replace ny := ny.hold H
          clear H
          have H := S.hnew 27 [.bool bC, .slice pC lC KC, .slice qC jC JC]
          replace S := S.alloc 27 [.bool bC, .slice pC lC KC, .slice qC jC JC] (w26.heap.size)
          try simp only [List.cons_append, List.nil_append] at S
          replace nA := nA.hold H
          replace dA := dA.hold H
          replace nB := nB.hold H
          replace dB := dB.hold H
          replace n1 := n1.hold H
          replace nx := nx.hold H
          replace nm := nm.hold H
          replace ny := ny.hold H
          replace nC := nC.hold H
          replace dC := dC.hold H
          clear H
          have c0_0 := S.c 0 0 rfl rfl
          have c0_1 := S.c 0 1 rfl rfl
          have c0_2 := S.c 0 2 rfl rfl
          have c4_0 := S.c 4 0 rfl rfl
          have c4_1 := S.c 4 1 rfl rfl
          have c4_2 := S.c 4 2 rfl rfl
          go_wp2_with fail
          clear c0_0 c0_1 c0_2 c4_0 c4_1 c4_2
          refine (S.call (same_any ⟨bA, pA, lA, KA, qA, jA, JA, rfl, hA, nA, dA⟩ ⟨bC, pC, lC, KC, qC, jC, JC, rfl, hC, nC, dC⟩ HM.out HM.out (r := true) (by simp))).mono ?_
          clear S
          rintro e w27 ⟨rfl, S, H⟩
          replace nA := nA.hold H
          replace dA := dA.hold H
          replace nB := nB.hold H
          replace dB := dB.hold H
          replace n1 := n1.hold H
          replace nx := nx.hold H
          replace nm := nm.hold H
          replace ny := ny.hold H
          replace nC := nC.hold H
          replace dC := dC.hold H
          clear H
          have c0_0 := S.c 0 0 rfl rfl
          have c0_1 := S.c 0 1 rfl rfl
          have c0_2 := S.c 0 2 rfl rfl
          have c4_0 := S.c 4 0 rfl rfl
          have c4_1 := S.c 4 1 rfl rfl
          have c4_2 := S.c 4 2 rfl rfl
          go_wp2_with fail
          exact bodyPost_ret (v := .bool true) (by simp [results, Tryz.f3, go_sem]) rfl (⟨rfl, S.below⟩)

end Go.Proofs.YtggnjlbnfgjgdaaGreat
