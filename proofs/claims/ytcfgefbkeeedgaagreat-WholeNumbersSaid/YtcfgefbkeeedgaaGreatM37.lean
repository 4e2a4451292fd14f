/-
  What the statement stands on.
-/
import Derived.Test.YtcfgefbkeeedgaaGreatM35
import Derived.Test.YtcfgefbkeeedgaaGreatM36
namespace Go.Proofs.YtcfgefbkeeedgaaGreat
open Go.RowKit
def parseR (l : List Nat) : Rat × Int :=
  match posOf 47 l with
  | some i => ratioOf (l.take i) (l.drop (i + 1))
  | none => match posOf 46 l with
    | some i => placesOf (l.take i) (l.drop (i + 1))
    | none => if onlyB (restI l) = true then (((parseI l : Int) : Rat), 0) else (0, 2)
theorem bs_cut1 (s : ByteArray) (i : Nat) : bs (s.extract 0 i) = (bs s).take i := by rw [bs_extract]; simp
theorem bs_cut2 (s : ByteArray) (i : Nat) : bs (s.extract (i + 1) s.size) = (bs s).drop (i + 1) := by
  rw [bs_extract]; exact List.take_of_length_le (by rw [List.length_drop, bs_len]; omega)
set_option maxRecDepth 100000 in
set_option maxHeartbeats 4000000 in
theorem rparse_any (s : ByteArray) (w : World) (hs : s.size ≤ 1000) (q : Rat) (c : Int) (h : parseR (bs s) = (q, c)) :
    Calls Tryz.prog 10 #[.string s] w fun e w' => (∃ u, e = .returned (.tuple #[u, .int .i64 c]) ∧ IsRat w' u q) ∧ Below w.heap.size w w' := by
  cases h1 : posOf 47 (bs s) with
  | some i =>
    have hq : ratioOf ((bs s).take i) ((bs s).drop (i + 1)) = (q, c) := by unfold parseR at h; rw [h1] at h; exact h
    have H1 := Lib.hid (scut_yes s 47 · i h1 (by omega))
    have H2 := Lib.hid (fun W => parseRatio_any (s.extract 0 i) (s.extract (i + 1) s.size) W (by rw [← bs_len, bs_cut1, List.length_take, bs_len]; omega) (by rw [← bs_len, bs_cut2, List.length_drop, bs_len]; omega) q c (by rw [bs_cut1, bs_cut2]; exact hq))
    clear h h1 hq
    have S := (St.start w).alloc 39 [.bool false, .slice none 0 0, .slice none 0 0] (w.heap.size)
    obtain ⟨c0_0, c0_1, c0_2⟩ := S.c3 0 rfl
    go_enter Tryz.func10, Tryz.ntmps10
    go_wp2_with fail; clear c0_0 c0_1 c0_2
    refine (S.call (H1.out _)).mono ?_
    clear S
    rintro e w1 ⟨rfl, S, H⟩
    clear H; obtain ⟨c0_0, c0_1, c0_2⟩ := S.c3 0 rfl; go_wp2_with fail; clear c0_0 c0_1 c0_2
    refine (S.call (H2.out _)).mono ?_
    clear S
    rintro e w2 ⟨⟨_, rfl, b, p, l, K, q', j, J, rfl, hb, nz, dz⟩, S, H⟩
    clear H; obtain ⟨c0_0, c0_1, c0_2⟩ := S.c3 0 rfl; have f0_0 := S.f 0 0 rfl
    have H := S.hset 0 0 (.bool b) rfl rfl (by intro q n e; cases e)
    replace S := S.set 0 0 (.bool b) rfl
    replace nz := nz.hold H; replace dz := dz.hold H; clear H; have f0_1 := S.f 0 1 rfl
    have H := S.hset 0 1 (.slice p l K) rfl rfl (by intro q n e; cases e)
    replace S := S.set 0 1 (.slice p l K) rfl
    replace nz := nz.hold H; replace dz := dz.hold H; clear H; have f0_2 := S.f 0 2 rfl
    have H := S.hset 0 2 (.slice q' j J) rfl rfl (by intro q n e; cases e)
    replace S := S.set 0 2 (.slice q' j J) rfl
    replace nz := nz.hold H; replace dz := dz.hold H; clear H; go_wp2_with fail; obtain ⟨d0_0, d0_1, d0_2⟩ := S.c3 0 rfl
    exact bodyPost_ret (v := .tuple #[.agg #[.bool b, .slice p l K, .slice q' j J], .int .i64 c]) (by simp [results, Tryz.f10, go_sem, d0_0, d0_1, d0_2]) rfl (⟨⟨_, rfl, b, p, l, K, q', j, J, rfl, hb, nz, dz⟩, S.below⟩)
  | none =>
    have H1 := Lib.hid (scut_no s 47 · h1)
    cases h2 : posOf 46 (bs s) with
    | some i =>
      have hq : placesOf ((bs s).take i) ((bs s).drop (i + 1)) = (q, c) := by unfold parseR at h; rw [h1] at h; simp only [h2] at h; exact h
      have H2 := Lib.hid (scut_yes s 46 · i h2 (by omega))
      have H3 := Lib.hid (fun W => parsePlaces_any (s.extract 0 i) (s.extract (i + 1) s.size) W (by rw [← bs_len, bs_cut1, List.length_take, bs_len]; omega) (by rw [← bs_len, bs_cut2, List.length_drop, bs_len]; omega) q c (by rw [bs_cut1, bs_cut2]; exact hq))
      clear h h1 h2 hq
      have S := (St.start w).alloc 39 [.bool false, .slice none 0 0, .slice none 0 0] (w.heap.size)
      obtain ⟨c0_0, c0_1, c0_2⟩ := S.c3 0 rfl
      go_enter Tryz.func10, Tryz.ntmps10
      go_wp2_with fail; clear c0_0 c0_1 c0_2
      refine (S.call (H1.out _)).mono ?_
      clear S
      rintro e w1 ⟨rfl, S, H⟩
      clear H; obtain ⟨c0_0, c0_1, c0_2⟩ := S.c3 0 rfl; go_wp2_with fail; clear c0_0 c0_1 c0_2
      refine (S.call (H2.out _)).mono ?_
      clear S
      rintro e w2 ⟨rfl, S, H⟩
      clear H; obtain ⟨c0_0, c0_1, c0_2⟩ := S.c3 0 rfl; go_wp2_with fail; clear c0_0 c0_1 c0_2
      refine (S.call (H3.out _)).mono ?_
      clear S
      rintro e w3 ⟨⟨_, rfl, b, p, l, K, q', j, J, rfl, hb, nz, dz⟩, S, H⟩
      clear H; obtain ⟨c0_0, c0_1, c0_2⟩ := S.c3 0 rfl; have f0_0 := S.f 0 0 rfl
      have H := S.hset 0 0 (.bool b) rfl rfl (by intro q n e; cases e)
      replace S := S.set 0 0 (.bool b) rfl
      replace nz := nz.hold H; replace dz := dz.hold H; clear H; have f0_1 := S.f 0 1 rfl
      have H := S.hset 0 1 (.slice p l K) rfl rfl (by intro q n e; cases e)
      replace S := S.set 0 1 (.slice p l K) rfl
      replace nz := nz.hold H; replace dz := dz.hold H; clear H; have f0_2 := S.f 0 2 rfl
      have H := S.hset 0 2 (.slice q' j J) rfl rfl (by intro q n e; cases e)
      replace S := S.set 0 2 (.slice q' j J) rfl
      replace nz := nz.hold H; replace dz := dz.hold H; clear H; go_wp2_with fail; obtain ⟨d0_0, d0_1, d0_2⟩ := S.c3 0 rfl
      exact bodyPost_ret (v := .tuple #[.agg #[.bool b, .slice p l K, .slice q' j J], .int .i64 c]) (by simp [results, Tryz.f10, go_sem, d0_0, d0_1, d0_2]) rfl (⟨⟨_, rfl, b, p, l, K, q', j, J, rfl, hb, nz, dz⟩, S.below⟩)
    | none =>
      have H2 := Lib.hid (scut_no s 46 · h2)
      have hl1 : (restI (bs s)).length ≤ 4900 := by have := restI_len (bs s); rw [bs_len] at this; omega
      cases h3 : onlyB (restI (bs s)) with
      | true =>
        obtain ⟨n, hn⟩ : ∃ n, parseI (bs s) = n := ⟨_, rfl⟩
        have hnm : n.natAbs < maxN := by rw [← hn]; exact parseI_max h3 (by rw [bs_len]; omega)
        obtain ⟨hq, rfl⟩ : ((n : Int) : Rat) = q ∧ 0 = c := by unfold parseR at h; rw [h1] at h; simp only [h2, h3, hn] at h; simpa using h
        have H3 := Lib.hid (fun W => wparse_to s W n h3 hl1 hn)
        have H4 := Lib.hid (And.intro hnm hq)
        clear h h1 h2 h3 hl1 hnm hn hq
        have S := (St.start w).alloc 39 [.bool false, .slice none 0 0, .slice none 0 0] (w.heap.size)
        obtain ⟨c0_0, c0_1, c0_2⟩ := S.c3 0 rfl
        go_enter Tryz.func10, Tryz.ntmps10
        go_wp2_with fail; clear c0_0 c0_1 c0_2
        refine (S.call (H1.out _)).mono ?_
        clear S
        rintro e w1 ⟨rfl, S, H⟩
        clear H; obtain ⟨c0_0, c0_1, c0_2⟩ := S.c3 0 rfl; go_wp2_with fail; clear c0_0 c0_1 c0_2
        refine (S.call (H2.out _)).mono ?_
        clear S
        rintro e w2 ⟨rfl, S, H⟩
        clear H; obtain ⟨c0_0, c0_1, c0_2⟩ := S.c3 0 rfl; go_wp2_with fail; clear c0_0 c0_1 c0_2
        refine (S.call (H3.out _)).mono ?_
        clear S
        rintro e w3 ⟨⟨_, rfl, pn, ln, Kn, rfl, nn⟩, S, H⟩
        clear H; obtain ⟨c0_0, c0_1, c0_2⟩ := S.c3 0 rfl
        have H := S.hnew 37 [.bool (negB n), .slice pn ln Kn]
        replace S := S.alloc 37 [.bool (negB n), .slice pn ln Kn] (w3.heap.size)
        replace nn := nn.hold H; clear H; clear c0_0 c0_1 c0_2; obtain ⟨c0_0, c0_1, c0_2⟩ := S.c3 0 rfl; have c1_0 := S.c 1 0 rfl rfl; have c1_1 := S.c 1 1 rfl rfl; go_wp2_with fail; clear c0_0 c0_1 c0_2 c1_0 c1_1
        refine (S.call (rwhole_any ⟨_, _, _, rfl, nn⟩ H4.out.1 q H4.out.2.symm)).mono ?_
        clear S
        rintro e w4 ⟨⟨_, rfl, b, p, l, K, q', j, J, rfl, hb, nz, dz⟩, S, H⟩
        replace nn := nn.hold H; clear H; obtain ⟨c0_0, c0_1, c0_2⟩ := S.c3 0 rfl; have c1_0 := S.c 1 0 rfl rfl; have c1_1 := S.c 1 1 rfl rfl; have f0_0 := S.f 0 0 rfl
        have H := S.hset 0 0 (.bool b) rfl rfl (by intro q n e; cases e)
        replace S := S.set 0 0 (.bool b) rfl
        refine iv3 H nn nz dz ?_; clear nn nz dz; intro nn nz dz; clear H; have f0_1 := S.f 0 1 rfl
        have H := S.hset 0 1 (.slice p l K) rfl rfl (by intro q n e; cases e)
        replace S := S.set 0 1 (.slice p l K) rfl
        refine iv3 H nn nz dz ?_; clear nn nz dz; intro nn nz dz; clear H; have f0_2 := S.f 0 2 rfl
        have H := S.hset 0 2 (.slice q' j J) rfl rfl (by intro q n e; cases e)
        replace S := S.set 0 2 (.slice q' j J) rfl
        refine iv3 H nn nz dz ?_; clear nn nz dz; intro nn nz dz; clear H; go_wp2_with fail; obtain ⟨d0_0, d0_1, d0_2⟩ := S.c3 0 rfl
        exact bodyPost_ret (v := .tuple #[.agg #[.bool b, .slice p l K, .slice q' j J], .int .i64 0]) (by simp [results, Tryz.f10, go_sem, d0_0, d0_1, d0_2]) rfl (⟨⟨_, rfl, b, p, l, K, q', j, J, rfl, hb, nz, dz⟩, S.below⟩)
      | false =>
        obtain ⟨hq, rfl⟩ : 0 = q ∧ 2 = c := by unfold parseR at h; rw [h1] at h; simp only [h2, h3] at h; simpa using h
        have H3 := Lib.hid (fun W => wparse_bad s W h3)
        have H4 := Lib.hid hq
        clear h h1 h2 h3 hl1 hq
        have S := (St.start w).alloc 39 [.bool false, .slice none 0 0, .slice none 0 0] (w.heap.size)
        obtain ⟨c0_0, c0_1, c0_2⟩ := S.c3 0 rfl
        go_enter Tryz.func10, Tryz.ntmps10
        go_wp2_with fail; clear c0_0 c0_1 c0_2
        refine (S.call (H1.out _)).mono ?_
        clear S
        rintro e w1 ⟨rfl, S, H⟩
        clear H; obtain ⟨c0_0, c0_1, c0_2⟩ := S.c3 0 rfl; go_wp2_with fail; clear c0_0 c0_1 c0_2
        refine (S.call (H2.out _)).mono ?_
        clear S
        rintro e w2 ⟨rfl, S, H⟩
        clear H; obtain ⟨c0_0, c0_1, c0_2⟩ := S.c3 0 rfl; go_wp2_with fail; clear c0_0 c0_1 c0_2
        refine (S.call (H3.out _)).mono ?_
        clear S
        rintro e w3 ⟨⟨_, rfl, pn, ln, Kn, rfl, nn⟩, S, H⟩
        clear H; obtain ⟨c0_0, c0_1, c0_2⟩ := S.c3 0 rfl
        have H := S.hnew 37 [.bool (negB 0), .slice pn ln Kn]
        replace S := S.alloc 37 [.bool (negB 0), .slice pn ln Kn] (w3.heap.size)
        replace nn := nn.hold H; clear H; clear c0_0 c0_1 c0_2; obtain ⟨c0_0, c0_1, c0_2⟩ := S.c3 0 rfl; have c1_0 := S.c 1 0 rfl rfl; have c1_1 := S.c 1 1 rfl rfl; go_wp2_with fail; clear c0_0 c0_1 c0_2 c1_0 c1_1
        refine (S.call (rwhole_any (x := 0) ⟨_, _, _, rfl, nn⟩ (lt_maxN (by decide)) q (by rw [← H4.out]; rfl))).mono ?_
        clear S
        rintro e w4 ⟨⟨_, rfl, b, p, l, K, q', j, J, rfl, hb, nz, dz⟩, S, H⟩
        replace nn := nn.hold H; clear H; obtain ⟨c0_0, c0_1, c0_2⟩ := S.c3 0 rfl; have c1_0 := S.c 1 0 rfl rfl; have c1_1 := S.c 1 1 rfl rfl; have f0_0 := S.f 0 0 rfl
        have H := S.hset 0 0 (.bool b) rfl rfl (by intro q n e; cases e)
        replace S := S.set 0 0 (.bool b) rfl
        refine iv3 H nn nz dz ?_; clear nn nz dz; intro nn nz dz; clear H; have f0_1 := S.f 0 1 rfl
        have H := S.hset 0 1 (.slice p l K) rfl rfl (by intro q n e; cases e)
        replace S := S.set 0 1 (.slice p l K) rfl
        refine iv3 H nn nz dz ?_; clear nn nz dz; intro nn nz dz; clear H; have f0_2 := S.f 0 2 rfl
        have H := S.hset 0 2 (.slice q' j J) rfl rfl (by intro q n e; cases e)
        replace S := S.set 0 2 (.slice q' j J) rfl
        refine iv3 H nn nz dz ?_; clear nn nz dz; intro nn nz dz; clear H; go_wp2_with fail; obtain ⟨d0_0, d0_1, d0_2⟩ := S.c3 0 rfl
        exact bodyPost_ret (v := .tuple #[.agg #[.bool b, .slice p l K, .slice q' j J], .int .i64 2]) (by simp [results, Tryz.f10, go_sem, d0_0, d0_1, d0_2]) rfl (⟨⟨_, rfl, b, p, l, K, q', j, J, rfl, hb, nz, dz⟩, S.below⟩)
theorem text_tens {t : List Nat} {n k : Nat} (h : IsText t n) (hn : n ≤ 10 ^ k) : t.length ≤ k + 1 := by
  rcases Nat.lt_or_ge 1 t.length with h1 | h1
  · have h2 := h.low h1
    have h3 : 10 ^ (t.length - 1) ≤ 10 ^ k := Nat.le_trans h2 hn
    have h4 := (Nat.pow_le_pow_iff_right (by decide : 1 < 10)).1 h3
    omega
  · omega
theorem itext_tens {t : List Nat} {x : Int} {k : Nat} (h : IsIText t x) (hx : x.natAbs ≤ 10 ^ k) : t.length ≤ k + 2 := by
  rcases h with ⟨_, t', rfl, h2⟩ | ⟨_, h2⟩
  · have := text_tens h2 hx; simp; omega
  · have := text_tens h2 hx; omega
theorem rtext_tens {t : List Nat} {q : Rat} {k : Nat} (h : IsRText t q) (hn : q.num.natAbs ≤ 10 ^ k) (hd : q.den ≤ 10 ^ k) : t.length ≤ 2 * k + 4 := by
  rcases h with ⟨_, h1⟩ | ⟨_, a, b, rfl, h1, h2⟩
  · have := itext_tens h1 hn; omega
  · have := itext_tens h1 hn
    have := text_tens h2 hd
    simp; omega
theorem itext_read {l : List Nat} {x : Int} (h : IsIText l x) : onlyB (restI l) = true ∧ parseI l = x ∧ 47 ∉ l ∧ 46 ∉ l := by
  rcases h with ⟨h0, t, rfl, h2⟩ | ⟨h0, h2⟩
  · have e : (45 :: t).head? = some 45 := rfl
    refine ⟨?_, ?_, ?_, ?_⟩
    · unfold restI; rw [if_pos e]; exact onlyB_pos h2.1 h2.2.2.1
    · unfold parseI; rw [if_pos e]; show -((dv t : Nat) : Int) = x; rw [h2.2.1]; omega
    · intro hm
      rcases List.mem_cons.1 hm with h | h
      · omega
      · have := h2.1 _ h; omega
    · intro hm
      rcases List.mem_cons.1 hm with h | h
      · omega
      · have := h2.1 _ h; omega
  · have e : l.head? ≠ some 45 := by
      cases l with
      | nil => simp
      | cons a l => have := h2.1 a (by simp); simp; omega
    refine ⟨?_, ?_, ?_, ?_⟩
    · unfold restI; rw [if_neg e]; exact onlyB_pos h2.1 h2.2.2.1
    · unfold parseI; rw [if_neg e]; rw [h2.2.1]; omega
    · intro hm; have := h2.1 _ hm; omega
    · intro hm; have := h2.1 _ hm; omega
theorem parse_over {a b : List Nat} {x : Int} {d : Nat} (ha : IsIText a x) (hb : IsText b d) (hd : d ≠ 0) : parseR (a ++ 47 :: b) = (Rat.divInt x d, 0) := by
  have h1 := itext_read ha
  have e1 : posOf 47 (a ++ 47 :: b) = some a.length := posOf_append b h1.2.2.1
  have e2 : onlyB b = true := onlyB_pos hb.1 hb.2.2.1
  unfold parseR
  rw [e1]
  show ratioOf ((a ++ 47 :: b).take a.length) ((a ++ 47 :: b).drop (a.length + 1)) = _
  have e3 : (a ++ 47 :: b).take a.length = a := by simp
  have e4 : (a ++ 47 :: b).drop (a.length + 1) = b := by simp
  rw [e3, e4]
  unfold ratioOf
  rw [if_neg (by rw [h1.1]; decide), if_neg (by rw [e2]; decide), if_neg (by rw [hb.2.1]; exact hd), h1.2.1, hb.2.1]
theorem parse_text {t : List Nat} {q : Rat} (h : IsRText t q) : parseR t = (q, 0) := by
  rcases h with ⟨hd, h1⟩ | ⟨hd, a, b, rfl, h1, h2⟩
  · have h3 := itext_read h1
    unfold parseR
    rw [posOf_of_not h3.2.2.1]
    show (match posOf 46 t with | some i => placesOf (t.take i) (t.drop (i + 1)) | none => if onlyB (restI t) = true then (((parseI t : Int) : Rat), 0) else (0, 2)) = _
    rw [posOf_of_not h3.2.2.2]
    show (if onlyB (restI t) = true then (((parseI t : Int) : Rat), 0) else (0, 2)) = _
    rw [if_pos h3.1, h3.2.1, ← den_one hd]
  · rw [parse_over h1 h2 q.den_nz, Rat.num_divInt_den]
end Go.Proofs.YtcfgefbkeeedgaaGreat
