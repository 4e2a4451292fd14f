/-
  What the statement stands on.
-/
import Derived.Test.YtcfgefbkeeedgaaGreatM30
import Derived.Test.YtcfgefbkeeedgaaGreatM34
namespace Go.Proofs.YtcfgefbkeeedgaaGreat
open Go.RowKit
def ratioOf (l m : List Nat) : Rat × Int :=
  if onlyB (restI l) = false then (0, 2) else if onlyB m = false then (0, 2) else if dv m = 0 then (0, 10) else (Rat.divInt (parseI l) (dv m : Int), 0)
def placesOf (l m : List Nat) : Rat × Int :=
  if onlyB (restI l) = false then (0, 2) else if onlyB m = false then (0, 2) else (Rat.divInt (parseI (l ++ m)) ((10 ^ m.length : Nat) : Int), 0)
theorem restI_len (l : List Nat) : (restI l).length ≤ l.length := by unfold restI; split <;> simp
theorem parseI_max {l : List Nat} (h : onlyB (restI l) = true) (hl : l.length ≤ 4900) : (parseI l).natAbs < maxN := by
  have h1 := dv_max (onlyB_out h).1 (by have := restI_len l; omega)
  unfold restI at h1
  unfold parseI
  split at h1
  · rename_i e; rw [if_pos e]; simpa using h1
  · rename_i e; rw [if_neg e]; simpa using h1
set_option maxRecDepth 100000 in
set_option maxHeartbeats 4000000 in
theorem parseRatio_any (s t : ByteArray) (w : World) (hs : s.size ≤ 4000) (ht : t.size ≤ 4000) (q : Rat) (c : Int) (h : ratioOf (bs s) (bs t) = (q, c)) :
    Calls Tryz.prog 32 #[.string s, .string t] w fun e w' => (∃ u, e = .returned (.tuple #[u, .int .i64 c]) ∧ IsRat w' u q) ∧ Below w.heap.size w w' := by
  cases h1 : onlyB (restI (bs s)) with
  | false =>
    obtain ⟨rfl, rfl⟩ : 0 = q ∧ 2 = c := by unfold ratioOf at h; rw [h1] at h; simpa using h
    have H1 := Lib.hid h1
    clear h h1
    have S := (St.start w).alloc 39 [.bool false, .slice none 0 0, .slice none 0 0] (w.heap.size)
    try simp only [List.nil_append] at S
    obtain ⟨c0_0, c0_1, c0_2⟩ := S.c3 0 rfl
    go_enter Tryz.func32, Tryz.ntmps32
    go_wp2_with fail; clear c0_0 c0_1 c0_2
    refine (S.call (wparse_bad s _ H1.out)).mono ?_
    clear S
    rintro e w1 ⟨⟨_, rfl, pn, ln, Kn, rfl, nn⟩, S, H⟩
    clear H; obtain ⟨c0_0, c0_1, c0_2⟩ := S.c3 0 rfl
    have H := S.hnew 37 [.bool (negB 0), .slice pn ln Kn]
    replace S := S.al 37 [.bool (negB 0), .slice pn ln Kn] (w1.heap.size)
    replace nn := nn.hold H; clear H; clear c0_0 c0_1 c0_2; obtain ⟨c0_0, c0_1, c0_2⟩ := S.c3 0 rfl; have c1_0 := S.c 1 0 rfl rfl; have c1_1 := S.c 1 1 rfl rfl; go_wp2_with fail; clear c0_0 c0_1 c0_2 c1_0 c1_1
    refine (S.call (rzero_any _)).mono ?_
    clear S
    rintro e w2 ⟨⟨_, rfl, bz, pz, lz, Kz, qz, jz, Jz, rfl, hbz, nz, dz⟩, S, H⟩
    replace nn := nn.hold H; clear H; obtain ⟨c0_0, c0_1, c0_2⟩ := S.c3 0 rfl; have c1_0 := S.c 1 0 rfl rfl; have c1_1 := S.c 1 1 rfl rfl; have f0_0 := S.f 0 0 rfl
    have H := S.hset 0 0 (.bool bz) rfl rfl (by intro q n e; cases e)
    replace S := S.set 0 0 (.bool bz) rfl
    refine iv3 H nn nz dz ?_; clear nn nz dz; intro nn nz dz; clear H; have f0_1 := S.f 0 1 rfl
    have H := S.hset 0 1 (.slice pz lz Kz) rfl rfl (by intro q n e; cases e)
    replace S := S.set 0 1 (.slice pz lz Kz) rfl
    refine iv3 H nn nz dz ?_; clear nn nz dz; intro nn nz dz; clear H; have f0_2 := S.f 0 2 rfl
    have H := S.hset 0 2 (.slice qz jz Jz) rfl rfl (by intro q n e; cases e)
    replace S := S.set 0 2 (.slice qz jz Jz) rfl
    refine iv3 H nn nz dz ?_; clear nn nz dz; intro nn nz dz; clear H; go_wp2_with fail; obtain ⟨d0_0, d0_1, d0_2⟩ := S.c3 0 rfl
    exact bodyPost_ret (v := .tuple #[.agg #[.bool bz, .slice pz lz Kz, .slice qz jz Jz], .int .i64 2]) (by simp [results, Tryz.f32, go_sem, d0_0, d0_1, d0_2]) rfl (⟨⟨_, rfl, bz, pz, lz, Kz, qz, jz, Jz, rfl, hbz, nz, dz⟩, S.below⟩)
  | true =>
    obtain ⟨n, hn⟩ : ∃ n, parseI (bs s) = n := ⟨_, rfl⟩
    have hl1 : (restI (bs s)).length ≤ 4900 := by have := restI_len (bs s); rw [bs_len] at this; omega
    have hnm : n.natAbs < maxN := by rw [← hn]; exact parseI_max h1 (by rw [bs_len]; omega)
    have H1 := Lib.hid (And.intro h1 (And.intro hl1 (And.intro hn hnm)))
    cases h2 : onlyB (bs t) with
    | false =>
      obtain ⟨rfl, rfl⟩ : 0 = q ∧ 2 = c := by unfold ratioOf at h; rw [h1, h2] at h; simpa using h
      have H2 := Lib.hid h2
      clear h h1 h2 hn hl1 hnm
      have S := (St.start w).alloc 39 [.bool false, .slice none 0 0, .slice none 0 0] (w.heap.size)
      try simp only [List.nil_append] at S
      obtain ⟨c0_0, c0_1, c0_2⟩ := S.c3 0 rfl
      go_enter Tryz.func32, Tryz.ntmps32
      go_wp2_with fail; clear c0_0 c0_1 c0_2
      refine (S.call (wparse_to s _ n H1.out.1 H1.out.2.1 H1.out.2.2.1)).mono ?_
      clear S
      rintro e w1 ⟨⟨_, rfl, pn, ln, Kn, rfl, nn⟩, S, H⟩
      clear H; obtain ⟨c0_0, c0_1, c0_2⟩ := S.c3 0 rfl
      have H := S.hnew 37 [.bool (negB n), .slice pn ln Kn]
      replace S := S.al 37 [.bool (negB n), .slice pn ln Kn] (w1.heap.size)
      replace nn := nn.hold H; clear H; clear c0_0 c0_1 c0_2; obtain ⟨c0_0, c0_1, c0_2⟩ := S.c3 0 rfl; have c1_0 := S.c 1 0 rfl rfl; have c1_1 := S.c 1 1 rfl rfl; go_wp2_with fail; clear c0_0 c0_1 c0_2 c1_0 c1_1
      refine (S.call (parse_bad t _ H2.out)).mono ?_
      clear S
      rintro e w2 ⟨rfl, S, H⟩
      replace nn := nn.hold H; clear H; obtain ⟨c0_0, c0_1, c0_2⟩ := S.c3 0 rfl; have c1_0 := S.c 1 0 rfl rfl; have c1_1 := S.c 1 1 rfl rfl; go_wp2_with fail; clear c0_0 c0_1 c0_2 c1_0 c1_1
      refine (S.call (rzero_any _)).mono ?_
      clear S
      rintro e w3 ⟨⟨_, rfl, bz, pz, lz, Kz, qz, jz, Jz, rfl, hbz, nz, dz⟩, S, H⟩
      replace nn := nn.hold H; clear H; obtain ⟨c0_0, c0_1, c0_2⟩ := S.c3 0 rfl; have c1_0 := S.c 1 0 rfl rfl; have c1_1 := S.c 1 1 rfl rfl; have f0_0 := S.f 0 0 rfl
      have H := S.hset 0 0 (.bool bz) rfl rfl (by intro q n e; cases e)
      replace S := S.set 0 0 (.bool bz) rfl
      refine iv3 H nn nz dz ?_; clear nn nz dz; intro nn nz dz; clear H; have f0_1 := S.f 0 1 rfl
      have H := S.hset 0 1 (.slice pz lz Kz) rfl rfl (by intro q n e; cases e)
      replace S := S.set 0 1 (.slice pz lz Kz) rfl
      refine iv3 H nn nz dz ?_; clear nn nz dz; intro nn nz dz; clear H; have f0_2 := S.f 0 2 rfl
      have H := S.hset 0 2 (.slice qz jz Jz) rfl rfl (by intro q n e; cases e)
      replace S := S.set 0 2 (.slice qz jz Jz) rfl
      refine iv3 H nn nz dz ?_; clear nn nz dz; intro nn nz dz; clear H; go_wp2_with fail; obtain ⟨d0_0, d0_1, d0_2⟩ := S.c3 0 rfl
      exact bodyPost_ret (v := .tuple #[.agg #[.bool bz, .slice pz lz Kz, .slice qz jz Jz], .int .i64 2]) (by simp [results, Tryz.f32, go_sem, d0_0, d0_1, d0_2]) rfl (⟨⟨_, rfl, bz, pz, lz, Kz, qz, jz, Jz, rfl, hbz, nz, dz⟩, S.below⟩)
    | true =>
      obtain ⟨d, hd⟩ : ∃ d, dv (bs t) = d := ⟨_, rfl⟩
      have hdm : d < maxN := by rw [← hd]; exact dv_max (onlyB_out h2).1 (by rw [bs_len]; omega)
      have PT : ∀ W, Calls Tryz.prog 69 #[.string t] W fun e w' => (∃ v, e = .returned (.tuple #[v, .int .i64 0]) ∧ IsNat w' v d) ∧ Below W.heap.size W w' := fun W => by
        rw [← hd]; exact parse_ok t W h2 (by omega)
      have HP := Lib.hid PT
      have HM := Lib.hid hdm
      by_cases h0 : d = 0
      · obtain ⟨rfl, rfl⟩ : 0 = q ∧ 10 = c := by unfold ratioOf at h; rw [h1, h2, hd, if_pos h0] at h; simpa using h
        have MK : ∀ (va vb : Value) (W : World), IsInt W va n → IsInt W vb (d : Int) → Calls Tryz.prog 55 #[va, vb] W fun e w' => (∃ u, e = .returned (.tuple #[u, .int .i64 10]) ∧ IsRat w' u 0) ∧ Below W.heap.size W w'   := fun _ _ _ a b => rmake_zero a (by rw [h0] at b; exact b)
        have HK := Lib.hid MK
        clear MK PT h h1 h2 hn hl1 hnm hd hdm h0
        have S := (St.start w).alloc 39 [.bool false, .slice none 0 0, .slice none 0 0] (w.heap.size)
        try simp only [List.nil_append] at S
        obtain ⟨c0_0, c0_1, c0_2⟩ := S.c3 0 rfl
        go_enter Tryz.func32, Tryz.ntmps32
        go_wp2_with fail; clear c0_0 c0_1 c0_2
        refine (S.call (wparse_to s _ n H1.out.1 H1.out.2.1 H1.out.2.2.1)).mono ?_
        clear S
        rintro e w1 ⟨⟨_, rfl, pn, ln, Kn, rfl, nn⟩, S, H⟩
        clear H; obtain ⟨c0_0, c0_1, c0_2⟩ := S.c3 0 rfl
        have H := S.hnew 37 [.bool (negB n), .slice pn ln Kn]
        replace S := S.al 37 [.bool (negB n), .slice pn ln Kn] (w1.heap.size)
        replace nn := nn.hold H; clear H; clear c0_0 c0_1 c0_2; obtain ⟨c0_0, c0_1, c0_2⟩ := S.c3 0 rfl; have c1_0 := S.c 1 0 rfl rfl; have c1_1 := S.c 1 1 rfl rfl; go_wp2_with fail; clear c0_0 c0_1 c0_2 c1_0 c1_1
        refine (S.call (HP.out _)).mono ?_
        clear S
        rintro e w2 ⟨⟨vd, rfl, nd⟩, S, H⟩
        replace nn := nn.hold H; clear H; obtain ⟨c0_0, c0_1, c0_2⟩ := S.c3 0 rfl; have c1_0 := S.c 1 0 rfl rfl; have c1_1 := S.c 1 1 rfl rfl
        go_upto_region 7 with fail
        clear c0_0 c0_1 c0_2 c1_0 c1_1
        have HH := Hold.drew w2
        replace nn := nn.hold HH; replace nd := nd.hold HH
        replace S := S.drew
        refine wp_region_held_drew (S := fun W => W.cell? ⟨w1.heap.size, 0, none⟩ = some (.bool (negB n)) ∧ W.cell? ⟨w1.heap.size, 1, none⟩ = some (.slice pn ln Kn)) (by kernel_rfl) ⟨S.c 1 0 rfl rfl, S.c 1 1 rfl rfl⟩ (fun hS => ?_)
        generalize w2.drew = w3 at S nn nd HH hS ⊢
        refine wpAnyH_take (i := 0) (v := ?_) (opOf rfl) (by kernel_rfl) (by kernel_rfl) (by kernel_rfl) (fun _ _ _ h => h) (Or.inl ⟨rfl, fun W hW => ?_⟩) hS ?_
        rotate_left
        · obtain ⟨hW0, hW1⟩ := hW; go_simp; try first | rfl | (rw [if_neg (by first | omega | (simp only [ByteArray.size_append]; first | omega | (have h1 : (ByteArray.mk #[47]).size = 1 := rfl; omega)))]; try rfl) | kernel_rfl
        try simp only [Act.put, List.setIfInBounds_toArray, List.set_cons_zero, List.set_cons_succ]
        refine wpAnyH_take (i := 1) (v := ?_) (opOf rfl) (by kernel_rfl) (by kernel_rfl) (by kernel_rfl) (fun _ _ _ h => h) (Or.inl ⟨rfl, fun W hW => ?_⟩) hS ?_
        rotate_left
        · obtain ⟨hW0, hW1⟩ := hW; go_simp; try first | rfl | (rw [if_neg (by first | omega | (simp only [ByteArray.size_append]; first | omega | (have h1 : (ByteArray.mk #[47]).size = 1 := rfl; omega)))]; try rfl) | kernel_rfl
        try simp only [Act.put, List.setIfInBounds_toArray, List.set_cons_zero, List.set_cons_succ]
        refine wpAnyH_ready (rs := [2]) (by kernel_rfl) (by simp) (AllReadyH.cons (opOf rfl) (fun KK hKK => ?_) AllReadyH.nil)
        go_simp; clear hS
        refine (S.call (wnat_any nd HM.out (d : Int) rfl)).mono ?_
        clear S
        rintro e w4 ⟨⟨_, rfl, pa, la, Ka, rfl, na⟩, S, H⟩
        replace nn := nn.hold H; replace nd := nd.hold H; replace HH := HH.trans H; clear H; go_wp2_with fail
        refine ho hKK ⟨S.c 1 0 rfl rfl, S.c 1 1 rfl rfl⟩ fun hS => ?_
        clear hKK KK
        refine wpAnyH_ready (rs := [3]) (by kernel_rfl) (by simp) (AllReadyH.cons (opOf rfl) (fun KK hKK => ?_) AllReadyH.nil)
        go_simp; clear hS
        refine (S.call (HK.out _ _ _ ⟨_, _, _, rfl, nn⟩ ⟨_, _, _, rfl, na⟩)).mono ?_
        clear S
        rintro e w5 ⟨⟨_, rfl, b, p, l, K, q', j, J, rfl, hb, nz, dz⟩, S, H⟩
        refine iv3 H nn nd na ?_; clear nn nd na; intro nn nd na; replace HH := HH.trans H; clear H; go_wp2_with fail
        refine ho hKK ⟨S.c 1 0 rfl rfl, S.c 1 1 rfl rfl⟩ fun hS => ?_
        clear hKK KK
        refine wpAnyH_take (i := 4) (v := ?_) (opOf rfl) (by kernel_rfl) (by kernel_rfl) (by kernel_rfl) (fun _ _ _ h => h) (Or.inl ⟨rfl, fun W hW => ?_⟩) hS ?_
        rotate_left
        · obtain ⟨hW0, hW1⟩ := hW; go_simp; try first | rfl | (rw [if_neg (by first | omega | (simp only [ByteArray.size_append]; first | omega | (have h1 : (ByteArray.mk #[47]).size = 1 := rfl; omega)))]; try rfl) | kernel_rfl
        try simp only [Act.put, List.setIfInBounds_toArray, List.set_cons_zero, List.set_cons_succ]
        refine wpAnyH_take (i := 5) (v := ?_) (opOf rfl) (by kernel_rfl) (by kernel_rfl) (by kernel_rfl) (fun _ _ _ h => h) (Or.inl ⟨rfl, fun W hW => ?_⟩) hS ?_
        rotate_left
        · obtain ⟨hW0, hW1⟩ := hW; go_simp; try first | rfl | (rw [if_neg (by first | omega | (simp only [ByteArray.size_append]; first | omega | (have h1 : (ByteArray.mk #[47]).size = 1 := rfl; omega)))]; try rfl) | kernel_rfl
        try simp only [Act.put, List.setIfInBounds_toArray, List.set_cons_zero, List.set_cons_succ]
        refine wpAnyH_ready (rs := [6]) (by kernel_rfl) (by simp) (AllReadyH.cons (opOf rfl) (fun KK hKK => ?_) AllReadyH.nil)
        have c0 := S.c 0 0 rfl rfl; have f0 := S.f 0 0 rfl; have c1 := S.c 0 1 rfl rfl; have f1 := S.f 0 1 rfl; have c2 := S.c 0 2 rfl rfl; have f2 := S.f 0 2 rfl; go_simp; clear hS c0 f0 c1 f1 c2 f2
        have H := S.hset 0 0 (.bool b) rfl rfl (by intro q n e; cases e)
        replace S := S.set 0 0 (.bool b) rfl
        refine iv5 H nn nd na nz dz ?_; clear nn nd na nz dz; intro nn nd na nz dz; replace HH := HH.trans H; clear H
        have H := S.hset 0 1 (.slice p l K) rfl rfl (by intro q n e; cases e)
        replace S := S.set 0 1 (.slice p l K) rfl
        refine iv5 H nn nd na nz dz ?_; clear nn nd na nz dz; intro nn nd na nz dz; replace HH := HH.trans H; clear H
        have H := S.hset 0 2 (.slice q' j J) rfl rfl (by intro q n e; cases e)
        replace S := S.set 0 2 (.slice q' j J) rfl
        refine iv5 H nn nd na nz dz ?_; clear nn nd na nz dz; intro nn nd na nz dz; replace HH := HH.trans H; clear H
        refine ho hKK ⟨S.c 1 0 rfl rfl, S.c 1 1 rfl rfl⟩ fun hS => ?_
        generalize (((w5.setCell ⟨w.heap.size, 0, none⟩ (.bool b)).setCell ⟨w.heap.size, 1, none⟩ (.slice p l K)).setCell ⟨w.heap.size, 2, none⟩ (.slice q' j J)) = w6 at S nn nd na nz dz HH hS ⊢
        clear hKK KK
        refine wpAnyH_ready (rs := [7]) (by kernel_rfl) (by simp) (AllReadyH.cons (opOf rfl) (fun KK hKK => ?_) AllReadyH.nil)
        go_simp
        refine ho hKK hS fun hS => ?_
        clear hKK KK
        refine wpAnyH_done (by kernel_rfl) ?_ _
        clear hS HH; obtain ⟨c0_0, c0_1, c0_2⟩ := S.c3 0 rfl; have c1_0 := S.c 1 0 rfl rfl; have c1_1 := S.c 1 1 rfl rfl; go_wp2_with fail; obtain ⟨d0_0, d0_1, d0_2⟩ := S.c3 0 rfl
        exact bodyPost_ret (v := .tuple #[.agg #[.bool b, .slice p l K, .slice q' j J], .int .i64 10]) (by simp [results, Tryz.f32, go_sem, d0_0, d0_1, d0_2]) rfl (⟨⟨_, rfl, b, p, l, K, q', j, J, rfl, hb, nz, dz⟩, S.below⟩)
      · obtain ⟨hq, rfl⟩ : Rat.divInt n d = q ∧ 0 = c := by unfold ratioOf at h; rw [h1, h2, hd, hn, if_neg h0] at h; simpa using h
        have MK : ∀ (va vb : Value) (W : World), IsInt W va n → IsInt W vb (d : Int) → Calls Tryz.prog 55 #[va, vb] W fun e w' => (∃ u, e = .returned (.tuple #[u, .int .i64 0]) ∧ IsRat w' u q) ∧ Below W.heap.size W w'   := fun _ _ _ a b => rmake_any a b hnm hdm (by omega) q hq.symm
        have HK := Lib.hid MK
        clear MK PT h h1 h2 hn hl1 hnm hd hdm h0 hq
        have S := (St.start w).alloc 39 [.bool false, .slice none 0 0, .slice none 0 0] (w.heap.size)
        try simp only [List.nil_append] at S
        obtain ⟨c0_0, c0_1, c0_2⟩ := S.c3 0 rfl
        go_enter Tryz.func32, Tryz.ntmps32
        go_wp2_with fail; clear c0_0 c0_1 c0_2
        refine (S.call (wparse_to s _ n H1.out.1 H1.out.2.1 H1.out.2.2.1)).mono ?_
        clear S
        rintro e w1 ⟨⟨_, rfl, pn, ln, Kn, rfl, nn⟩, S, H⟩
        clear H; obtain ⟨c0_0, c0_1, c0_2⟩ := S.c3 0 rfl
        have H := S.hnew 37 [.bool (negB n), .slice pn ln Kn]
        replace S := S.al 37 [.bool (negB n), .slice pn ln Kn] (w1.heap.size)
        replace nn := nn.hold H; clear H; clear c0_0 c0_1 c0_2; obtain ⟨c0_0, c0_1, c0_2⟩ := S.c3 0 rfl; have c1_0 := S.c 1 0 rfl rfl; have c1_1 := S.c 1 1 rfl rfl; go_wp2_with fail; clear c0_0 c0_1 c0_2 c1_0 c1_1
        refine (S.call (HP.out _)).mono ?_
        clear S
        rintro e w2 ⟨⟨vd, rfl, nd⟩, S, H⟩
        replace nn := nn.hold H; clear H; obtain ⟨c0_0, c0_1, c0_2⟩ := S.c3 0 rfl; have c1_0 := S.c 1 0 rfl rfl; have c1_1 := S.c 1 1 rfl rfl
        go_upto_region 7 with fail
        clear c0_0 c0_1 c0_2 c1_0 c1_1
        have HH := Hold.drew w2
        replace nn := nn.hold HH; replace nd := nd.hold HH
        replace S := S.drew
        refine wp_region_held_drew (S := fun W => W.cell? ⟨w1.heap.size, 0, none⟩ = some (.bool (negB n)) ∧ W.cell? ⟨w1.heap.size, 1, none⟩ = some (.slice pn ln Kn)) (by kernel_rfl) ⟨S.c 1 0 rfl rfl, S.c 1 1 rfl rfl⟩ (fun hS => ?_)
        generalize w2.drew = w3 at S nn nd HH hS ⊢
        refine wpAnyH_take (i := 0) (v := ?_) (opOf rfl) (by kernel_rfl) (by kernel_rfl) (by kernel_rfl) (fun _ _ _ h => h) (Or.inl ⟨rfl, fun W hW => ?_⟩) hS ?_
        rotate_left
        · obtain ⟨hW0, hW1⟩ := hW; go_simp; try first | rfl | (rw [if_neg (by first | omega | (simp only [ByteArray.size_append]; first | omega | (have h1 : (ByteArray.mk #[47]).size = 1 := rfl; omega)))]; try rfl) | kernel_rfl
        try simp only [Act.put, List.setIfInBounds_toArray, List.set_cons_zero, List.set_cons_succ]
        refine wpAnyH_take (i := 1) (v := ?_) (opOf rfl) (by kernel_rfl) (by kernel_rfl) (by kernel_rfl) (fun _ _ _ h => h) (Or.inl ⟨rfl, fun W hW => ?_⟩) hS ?_
        rotate_left
        · obtain ⟨hW0, hW1⟩ := hW; go_simp; try first | rfl | (rw [if_neg (by first | omega | (simp only [ByteArray.size_append]; first | omega | (have h1 : (ByteArray.mk #[47]).size = 1 := rfl; omega)))]; try rfl) | kernel_rfl
        try simp only [Act.put, List.setIfInBounds_toArray, List.set_cons_zero, List.set_cons_succ]
        refine wpAnyH_ready (rs := [2]) (by kernel_rfl) (by simp) (AllReadyH.cons (opOf rfl) (fun KK hKK => ?_) AllReadyH.nil)
        go_simp; clear hS
        refine (S.call (wnat_any nd HM.out (d : Int) rfl)).mono ?_
        clear S
        rintro e w4 ⟨⟨_, rfl, pa, la, Ka, rfl, na⟩, S, H⟩
        replace nn := nn.hold H; replace nd := nd.hold H; replace HH := HH.trans H; clear H; go_wp2_with fail
        refine ho hKK ⟨S.c 1 0 rfl rfl, S.c 1 1 rfl rfl⟩ fun hS => ?_
        clear hKK KK
        refine wpAnyH_ready (rs := [3]) (by kernel_rfl) (by simp) (AllReadyH.cons (opOf rfl) (fun KK hKK => ?_) AllReadyH.nil)
        go_simp; clear hS
        refine (S.call (HK.out _ _ _ ⟨_, _, _, rfl, nn⟩ ⟨_, _, _, rfl, na⟩)).mono ?_
        clear S
        rintro e w5 ⟨⟨_, rfl, b, p, l, K, q', j, J, rfl, hb, nz, dz⟩, S, H⟩
        refine iv3 H nn nd na ?_; clear nn nd na; intro nn nd na; replace HH := HH.trans H; clear H; go_wp2_with fail
        refine ho hKK ⟨S.c 1 0 rfl rfl, S.c 1 1 rfl rfl⟩ fun hS => ?_
        clear hKK KK
        refine wpAnyH_take (i := 4) (v := ?_) (opOf rfl) (by kernel_rfl) (by kernel_rfl) (by kernel_rfl) (fun _ _ _ h => h) (Or.inl ⟨rfl, fun W hW => ?_⟩) hS ?_
        rotate_left
        · obtain ⟨hW0, hW1⟩ := hW; go_simp; try first | rfl | (rw [if_neg (by first | omega | (simp only [ByteArray.size_append]; first | omega | (have h1 : (ByteArray.mk #[47]).size = 1 := rfl; omega)))]; try rfl) | kernel_rfl
        try simp only [Act.put, List.setIfInBounds_toArray, List.set_cons_zero, List.set_cons_succ]
        refine wpAnyH_take (i := 5) (v := ?_) (opOf rfl) (by kernel_rfl) (by kernel_rfl) (by kernel_rfl) (fun _ _ _ h => h) (Or.inl ⟨rfl, fun W hW => ?_⟩) hS ?_
        rotate_left
        · obtain ⟨hW0, hW1⟩ := hW; go_simp; try first | rfl | (rw [if_neg (by first | omega | (simp only [ByteArray.size_append]; first | omega | (have h1 : (ByteArray.mk #[47]).size = 1 := rfl; omega)))]; try rfl) | kernel_rfl
        try simp only [Act.put, List.setIfInBounds_toArray, List.set_cons_zero, List.set_cons_succ]
        refine wpAnyH_ready (rs := [6]) (by kernel_rfl) (by simp) (AllReadyH.cons (opOf rfl) (fun KK hKK => ?_) AllReadyH.nil)
        have c0 := S.c 0 0 rfl rfl; have f0 := S.f 0 0 rfl; have c1 := S.c 0 1 rfl rfl; have f1 := S.f 0 1 rfl; have c2 := S.c 0 2 rfl rfl; have f2 := S.f 0 2 rfl; go_simp; clear hS c0 f0 c1 f1 c2 f2
        have H := S.hset 0 0 (.bool b) rfl rfl (by intro q n e; cases e)
        replace S := S.set 0 0 (.bool b) rfl
        refine iv5 H nn nd na nz dz ?_; clear nn nd na nz dz; intro nn nd na nz dz; replace HH := HH.trans H; clear H
        have H := S.hset 0 1 (.slice p l K) rfl rfl (by intro q n e; cases e)
        replace S := S.set 0 1 (.slice p l K) rfl
        refine iv5 H nn nd na nz dz ?_; clear nn nd na nz dz; intro nn nd na nz dz; replace HH := HH.trans H; clear H
        have H := S.hset 0 2 (.slice q' j J) rfl rfl (by intro q n e; cases e)
        replace S := S.set 0 2 (.slice q' j J) rfl
        refine iv5 H nn nd na nz dz ?_; clear nn nd na nz dz; intro nn nd na nz dz; replace HH := HH.trans H; clear H
        refine ho hKK ⟨S.c 1 0 rfl rfl, S.c 1 1 rfl rfl⟩ fun hS => ?_
        generalize (((w5.setCell ⟨w.heap.size, 0, none⟩ (.bool b)).setCell ⟨w.heap.size, 1, none⟩ (.slice p l K)).setCell ⟨w.heap.size, 2, none⟩ (.slice q' j J)) = w6 at S nn nd na nz dz HH hS ⊢
        clear hKK KK
        refine wpAnyH_ready (rs := [7]) (by kernel_rfl) (by simp) (AllReadyH.cons (opOf rfl) (fun KK hKK => ?_) AllReadyH.nil)
        go_simp
        refine ho hKK hS fun hS => ?_
        clear hKK KK
        refine wpAnyH_done (by kernel_rfl) ?_ _
        clear hS HH; obtain ⟨c0_0, c0_1, c0_2⟩ := S.c3 0 rfl; have c1_0 := S.c 1 0 rfl rfl; have c1_1 := S.c 1 1 rfl rfl; go_wp2_with fail; obtain ⟨d0_0, d0_1, d0_2⟩ := S.c3 0 rfl
        exact bodyPost_ret (v := .tuple #[.agg #[.bool b, .slice p l K, .slice q' j J], .int .i64 0]) (by simp [results, Tryz.f32, go_sem, d0_0, d0_1, d0_2]) rfl (⟨⟨_, rfl, b, p, l, K, q', j, J, rfl, hb, nz, dz⟩, S.below⟩)
theorem ten_ok (k : Nat) (hk : k ≤ 4900) (m : Nat) (hm : 10 ^ k = m) (w : World) :
    Calls Tryz.prog 71 #[.int .i64 k] w fun e w' => (∃ v, e = .returned (.tuple #[v, .int .i64 0]) ∧ IsNat w' v m) ∧ Below w.heap.size w w' := by
  refine (ten_any k w (by omega)).mono fun e w' h => ⟨?_, h.2⟩
  rcases h.1 with ⟨_, v, h1, h2⟩ | ⟨h1, _⟩
  · exact ⟨v, h1, hm ▸ h2⟩
  · have h3 := ten_max 4900 49 100 rfl rfl rfl
    have h4 := pow_mono10 hk
    omega
theorem restI_app {l m : List Nat} (h : restI l ≠ []) : restI (l ++ m) = restI l ++ m := by
  cases l with
  | nil => exact absurd rfl h
  | cons a l => unfold restI; simp; split <;> simp
theorem onlyB_app {l m : List Nat} (h : onlyB l = true) (k : onlyB m = true) : onlyB (l ++ m) = true :=
  onlyB_pos ((onlyB_out h).1.append (onlyB_out k).1) (by simp [(onlyB_out h).2])
set_option maxRecDepth 100000 in
set_option maxHeartbeats 4000000 in
theorem parsePlaces_any (s t : ByteArray) (w : World) (hs : s.size ≤ 2000) (ht : t.size ≤ 1000) (q : Rat) (c : Int) (h : placesOf (bs s) (bs t) = (q, c)) :
    Calls Tryz.prog 33 #[.string s, .string t] w fun e w' => (∃ u, e = .returned (.tuple #[u, .int .i64 c]) ∧ IsRat w' u q) ∧ Below w.heap.size w w' := by
  have ht' : ¬ (1000 : Int) < (t.size : Int) := by omega
  cases h1 : onlyB (restI (bs s)) with
  | false =>
    obtain ⟨rfl, rfl⟩ : 0 = q ∧ 2 = c := by unfold placesOf at h; rw [h1] at h; simpa using h
    have H1 := Lib.hid h1
    clear h h1
    have S := (St.start w).alloc 39 [.bool false, .slice none 0 0, .slice none 0 0] (w.heap.size)
    obtain ⟨c0_0, c0_1, c0_2⟩ := S.c3 0 rfl
    go_enter Tryz.func33, Tryz.ntmps33
    go_wp2_with fail; clear c0_0 c0_1 c0_2
    refine (S.call (wparse_bad s _ H1.out)).mono ?_
    clear S
    rintro e w1 ⟨⟨_, rfl, pn, ln, Kn, rfl, nn⟩, S, H⟩
    clear H; obtain ⟨c0_0, c0_1, c0_2⟩ := S.c3 0 rfl
    have H := S.hnew 37 [.bool (negB 0), .slice pn ln Kn]
    replace S := S.alloc 37 [.bool (negB 0), .slice pn ln Kn] (w1.heap.size)
    replace nn := nn.hold H; clear H; clear c0_0 c0_1 c0_2; obtain ⟨c0_0, c0_1, c0_2⟩ := S.c3 0 rfl; have c1_0 := S.c 1 0 rfl rfl; have c1_1 := S.c 1 1 rfl rfl; go_wp2_with fail; clear c0_0 c0_1 c0_2 c1_0 c1_1
    refine (S.call (rzero_any _)).mono ?_
    clear S
    rintro e w2 ⟨⟨_, rfl, bz, pz, lz, Kz, qz, jz, Jz, rfl, hbz, nz, dz⟩, S, H⟩
    replace nn := nn.hold H; clear H; obtain ⟨c0_0, c0_1, c0_2⟩ := S.c3 0 rfl; have c1_0 := S.c 1 0 rfl rfl; have c1_1 := S.c 1 1 rfl rfl; have f0_0 := S.f 0 0 rfl
    have H := S.hset 0 0 (.bool bz) rfl rfl (by intro q n e; cases e)
    replace S := S.set 0 0 (.bool bz) rfl
    refine iv3 H nn nz dz ?_; clear nn nz dz; intro nn nz dz; clear H; have f0_1 := S.f 0 1 rfl
    have H := S.hset 0 1 (.slice pz lz Kz) rfl rfl (by intro q n e; cases e)
    replace S := S.set 0 1 (.slice pz lz Kz) rfl
    refine iv3 H nn nz dz ?_; clear nn nz dz; intro nn nz dz; clear H; have f0_2 := S.f 0 2 rfl
    have H := S.hset 0 2 (.slice qz jz Jz) rfl rfl (by intro q n e; cases e)
    replace S := S.set 0 2 (.slice qz jz Jz) rfl
    refine iv3 H nn nz dz ?_; clear nn nz dz; intro nn nz dz; clear H; go_wp2_with fail; obtain ⟨d0_0, d0_1, d0_2⟩ := S.c3 0 rfl
    exact bodyPost_ret (v := .tuple #[.agg #[.bool bz, .slice pz lz Kz, .slice qz jz Jz], .int .i64 2]) (by simp [results, Tryz.f33, go_sem, d0_0, d0_1, d0_2]) rfl (⟨⟨_, rfl, bz, pz, lz, Kz, qz, jz, Jz, rfl, hbz, nz, dz⟩, S.below⟩)
  | true =>
    obtain ⟨n, hn⟩ : ∃ n, parseI (bs s) = n := ⟨_, rfl⟩
    have hl1 : (restI (bs s)).length ≤ 4900 := by have := restI_len (bs s); rw [bs_len] at this; omega
    have H1 := Lib.hid (And.intro h1 (And.intro hl1 hn))
    cases h2 : onlyB (bs t) with
    | false =>
      obtain ⟨rfl, rfl⟩ : 0 = q ∧ 2 = c := by unfold placesOf at h; rw [h1, h2] at h; simpa using h
      have H2 := Lib.hid h2
      clear h h1 h2 hn hl1
      have S := (St.start w).alloc 39 [.bool false, .slice none 0 0, .slice none 0 0] (w.heap.size)
      obtain ⟨c0_0, c0_1, c0_2⟩ := S.c3 0 rfl
      go_enter Tryz.func33, Tryz.ntmps33
      go_wp2_with fail; clear c0_0 c0_1 c0_2
      refine (S.call (wparse_to s _ n H1.out.1 H1.out.2.1 H1.out.2.2)).mono ?_
      clear S
      rintro e w1 ⟨⟨_, rfl, pn, ln, Kn, rfl, nn⟩, S, H⟩
      clear H; obtain ⟨c0_0, c0_1, c0_2⟩ := S.c3 0 rfl
      have H := S.hnew 37 [.bool (negB n), .slice pn ln Kn]
      replace S := S.alloc 37 [.bool (negB n), .slice pn ln Kn] (w1.heap.size)
      replace nn := nn.hold H; clear H; clear c0_0 c0_1 c0_2; obtain ⟨c0_0, c0_1, c0_2⟩ := S.c3 0 rfl; have c1_0 := S.c 1 0 rfl rfl; have c1_1 := S.c 1 1 rfl rfl; go_wp2_with fail; clear c0_0 c0_1 c0_2 c1_0 c1_1
      refine (S.call (parse_bad t _ H2.out)).mono ?_
      clear S
      rintro e w2 ⟨rfl, S, H⟩
      replace nn := nn.hold H; clear H; obtain ⟨c0_0, c0_1, c0_2⟩ := S.c3 0 rfl; have c1_0 := S.c 1 0 rfl rfl; have c1_1 := S.c 1 1 rfl rfl; go_wp2_with fail; clear c0_0 c0_1 c0_2 c1_0 c1_1
      refine (S.call (rzero_any _)).mono ?_
      clear S
      rintro e w3 ⟨⟨_, rfl, bz, pz, lz, Kz, qz, jz, Jz, rfl, hbz, nz, dz⟩, S, H⟩
      replace nn := nn.hold H; clear H; obtain ⟨c0_0, c0_1, c0_2⟩ := S.c3 0 rfl; have c1_0 := S.c 1 0 rfl rfl; have c1_1 := S.c 1 1 rfl rfl; have f0_0 := S.f 0 0 rfl
      have H := S.hset 0 0 (.bool bz) rfl rfl (by intro q n e; cases e)
      replace S := S.set 0 0 (.bool bz) rfl
      refine iv3 H nn nz dz ?_; clear nn nz dz; intro nn nz dz; clear H; have f0_1 := S.f 0 1 rfl
      have H := S.hset 0 1 (.slice pz lz Kz) rfl rfl (by intro q n e; cases e)
      replace S := S.set 0 1 (.slice pz lz Kz) rfl
      refine iv3 H nn nz dz ?_; clear nn nz dz; intro nn nz dz; clear H; have f0_2 := S.f 0 2 rfl
      have H := S.hset 0 2 (.slice qz jz Jz) rfl rfl (by intro q n e; cases e)
      replace S := S.set 0 2 (.slice qz jz Jz) rfl
      refine iv3 H nn nz dz ?_; clear nn nz dz; intro nn nz dz; clear H; go_wp2_with fail; obtain ⟨d0_0, d0_1, d0_2⟩ := S.c3 0 rfl
      exact bodyPost_ret (v := .tuple #[.agg #[.bool bz, .slice pz lz Kz, .slice qz jz Jz], .int .i64 2]) (by simp [results, Tryz.f33, go_sem, d0_0, d0_1, d0_2]) rfl (⟨⟨_, rfl, bz, pz, lz, Kz, qz, jz, Jz, rfl, hbz, nz, dz⟩, S.below⟩)
    | true =>
      obtain ⟨x, hx⟩ : ∃ x, parseI (bs s ++ bs t) = x := ⟨_, rfl⟩
      obtain ⟨d, hd⟩ : ∃ d, 10 ^ t.size = d := ⟨_, rfl⟩
      have hdm : d < maxN := by
        rw [← hd]
        exact Nat.lt_of_le_of_lt (pow_mono10 (show t.size ≤ 4900 by omega)) (ten_max 4900 49 100 rfl rfl rfl)
      have hd0 : 0 < d := by rw [← hd]; exact Nat.pos_of_ne_zero (by simp)
      have h3 : onlyB (restI (bs s ++ bs t)) = true := by rw [restI_app (onlyB_out h1).2]; exact onlyB_app h1 h2
      have hxm : x.natAbs < maxN := by rw [← hx]; exact parseI_max h3 (by rw [List.length_append, bs_len, bs_len]; omega)
      have hl3 : (restI (bs s ++ bs t)).length ≤ 4900 := by have := restI_len (bs s ++ bs t); rw [List.length_append, bs_len, bs_len] at this; omega
      have PS : ∀ W, Calls Tryz.prog 34 #[.string (s ++ t)] W fun e w' => (∃ u, e = .returned (.tuple #[u, .int .i64 0]) ∧ IsInt w' u x) ∧ Below W.heap.size W w' := fun W => wparse_to (s ++ t) W x (by rw [bs_add]; exact h3) (by rw [bs_add]; exact hl3) (by rw [bs_add]; exact hx)
      have HS := Lib.hid PS
      have PT : ∀ W, Calls Tryz.prog 69 #[.string t] W fun e w' => (∃ v, e = .returned (.tuple #[v, .int .i64 0]) ∧ IsNat w' v (dv (bs t))) ∧ Below W.heap.size W w' := fun W => parse_ok t W h2 (by omega)
      have HP := Lib.hid PT
      have HM := Lib.hid (And.intro hdm hd)
      obtain ⟨hq, rfl⟩ : Rat.divInt x d = q ∧ 0 = c := by unfold placesOf at h; rw [h1, h2, bs_len, hd, hx] at h; simpa using h
      have MK : ∀ (va vb : Value) (W : World), IsInt W va x → IsInt W vb (d : Int) → Calls Tryz.prog 55 #[va, vb] W fun e w' => (∃ u, e = .returned (.tuple #[u, .int .i64 0]) ∧ IsRat w' u q) ∧ Below W.heap.size W w' := fun _ _ _ a b => rmake_any a b hxm hdm (by omega) q hq.symm
      have HK := Lib.hid MK
      have HT := Lib.hid (show t.size ≤ 4900 by omega)
      clear MK PT PS h h1 h2 h3 hn hl1 hl3 hd hdm hq hx hxm hd0
      have S := (St.start w).alloc 39 [.bool false, .slice none 0 0, .slice none 0 0] (w.heap.size)
      obtain ⟨c0_0, c0_1, c0_2⟩ := S.c3 0 rfl
      go_enter Tryz.func33, Tryz.ntmps33
      go_wp2_with fail; clear c0_0 c0_1 c0_2
      refine (S.call (wparse_to s _ n H1.out.1 H1.out.2.1 H1.out.2.2)).mono ?_
      clear S
      rintro e w1 ⟨⟨_, rfl, pn, ln, Kn, rfl, nn⟩, S, H⟩
      clear H; obtain ⟨c0_0, c0_1, c0_2⟩ := S.c3 0 rfl
      have H := S.hnew 37 [.bool (negB n), .slice pn ln Kn]
      replace S := S.alloc 37 [.bool (negB n), .slice pn ln Kn] (w1.heap.size)
      replace nn := nn.hold H; clear H; clear c0_0 c0_1 c0_2; obtain ⟨c0_0, c0_1, c0_2⟩ := S.c3 0 rfl; have c1_0 := S.c 1 0 rfl rfl; have c1_1 := S.c 1 1 rfl rfl; go_wp2_with fail; clear c0_0 c0_1 c0_2 c1_0 c1_1
      refine (S.call (HP.out _)).mono ?_
      clear S
      rintro e w2 ⟨⟨vd, rfl, nd⟩, S, H⟩
      replace nn := nn.hold H; clear H; obtain ⟨c0_0, c0_1, c0_2⟩ := S.c3 0 rfl; have c1_0 := S.c 1 0 rfl rfl; have c1_1 := S.c 1 1 rfl rfl; go_wp2_with fail; clear c0_0 c0_1 c0_2 c1_0 c1_1
      refine (S.call (HS.out _)).mono ?_
      clear S
      rintro e w3 ⟨⟨_, rfl, px, lx, Kx, rfl, nx⟩, S, H⟩
      replace nn := nn.hold H; replace nd := nd.hold H; clear H; obtain ⟨c0_0, c0_1, c0_2⟩ := S.c3 0 rfl; have c1_0 := S.c 1 0 rfl rfl; have c1_1 := S.c 1 1 rfl rfl
      have H := S.hnew 37 [.bool (negB x), .slice px lx Kx]
      replace S := S.alloc 37 [.bool (negB x), .slice px lx Kx] (w3.heap.size)
      refine iv3 H nn nd nx ?_; clear nn nd nx; intro nn nd nx; clear H; clear c0_0 c0_1 c0_2 c1_0 c1_1; obtain ⟨c0_0, c0_1, c0_2⟩ := S.c3 0 rfl; have c1_0 := S.c 1 0 rfl rfl; have c1_1 := S.c 1 1 rfl rfl; have c2_0 := S.c 2 0 rfl rfl; have c2_1 := S.c 2 1 rfl rfl; go_wp2_with fail; clear c0_0 c0_1 c0_2 c1_0 c1_1 c2_0 c2_1
      refine (S.call (ten_ok t.size HT.out d HM.out.2 _)).mono ?_
      clear S
      rintro e w4 ⟨⟨vt, rfl, nt⟩, S, H⟩
      refine iv3 H nn nd nx ?_; clear nn nd nx; intro nn nd nx; clear H; obtain ⟨c0_0, c0_1, c0_2⟩ := S.c3 0 rfl; have c1_0 := S.c 1 0 rfl rfl; have c1_1 := S.c 1 1 rfl rfl; have c2_0 := S.c 2 0 rfl rfl; have c2_1 := S.c 2 1 rfl rfl
      go_upto_region 15 with fail
      clear c0_0 c0_1 c0_2 c1_0 c1_1 c2_0 c2_1
      have HH := Hold.drew w4
      refine iv4 HH nn nd nx nt ?_; clear nn nd nx nt; intro nn nd nx nt
      replace S := S.drew
      refine wp_region_held_drew (S := fun W => W.cell? ⟨w3.heap.size, 0, none⟩ = some (.bool (negB x)) ∧ W.cell? ⟨w3.heap.size, 1, none⟩ = some (.slice px lx Kx)) (by kernel_rfl) ⟨S.c 2 0 rfl rfl, S.c 2 1 rfl rfl⟩ (fun hS => ?_)
      generalize w4.drew = w5 at S nn nd nx nt HH hS ⊢
      refine wpAnyH_take (i := 0) (v := ?_) (opOf rfl) (by kernel_rfl) (by kernel_rfl) (by kernel_rfl) (fun _ _ _ h => h) (Or.inl ⟨rfl, fun W hW => ?_⟩) hS ?_
      rotate_left
      · obtain ⟨hW0, hW1⟩ := hW; go_simp; try first | rfl | (rw [if_neg (by first | omega | (simp only [ByteArray.size_append]; first | omega | (have h1 : (ByteArray.mk #[47]).size = 1 := rfl; omega)))]; try rfl) | kernel_rfl
      try simp only [Act.put, List.setIfInBounds_toArray, List.set_cons_zero, List.set_cons_succ]
      refine wpAnyH_take (i := 1) (v := ?_) (opOf rfl) (by kernel_rfl) (by kernel_rfl) (by kernel_rfl) (fun _ _ _ h => h) (Or.inl ⟨rfl, fun W hW => ?_⟩) hS ?_
      rotate_left
      · obtain ⟨hW0, hW1⟩ := hW; go_simp; try first | rfl | (rw [if_neg (by first | omega | (simp only [ByteArray.size_append]; first | omega | (have h1 : (ByteArray.mk #[47]).size = 1 := rfl; omega)))]; try rfl) | kernel_rfl
      try simp only [Act.put, List.setIfInBounds_toArray, List.set_cons_zero, List.set_cons_succ]
      refine wpAnyH_ready (rs := [2]) (by kernel_rfl) (by simp) (AllReadyH.cons (opOf rfl) (fun KK hKK => ?_) AllReadyH.nil)
      go_simp; clear hS
      refine (S.call (wnat_any nt HM.out.1 (d : Int) rfl)).mono ?_
      clear S
      rintro e w6 ⟨⟨_, rfl, pa, la, Ka, rfl, na⟩, S, H⟩
      refine iv4 H nn nd nx nt ?_; clear nn nd nx nt; intro nn nd nx nt; replace HH := HH.trans H; clear H; go_wp2_with fail
      refine ho hKK ⟨S.c 2 0 rfl rfl, S.c 2 1 rfl rfl⟩ fun hS => ?_
      clear hKK KK
      refine wpAnyH_ready (rs := [3]) (by kernel_rfl) (by simp) (AllReadyH.cons (opOf rfl) (fun KK hKK => ?_) AllReadyH.nil)
      go_simp; clear hS
      refine (S.call (HK.out _ _ _ ⟨_, _, _, rfl, nx⟩ ⟨_, _, _, rfl, na⟩)).mono ?_
      clear S
      rintro e w7 ⟨⟨_, rfl, b, p, l, K, q', j, J, rfl, hb, nz, dz⟩, S, H⟩
      refine iv5 H nn nd nx nt na ?_; clear nn nd nx nt na; intro nn nd nx nt na; replace HH := HH.trans H; clear H; go_wp2_with fail
      refine ho hKK ⟨S.c 2 0 rfl rfl, S.c 2 1 rfl rfl⟩ fun hS => ?_
      clear hKK KK
      refine wpAnyH_take (i := 4) (v := ?_) (opOf rfl) (by kernel_rfl) (by kernel_rfl) (by kernel_rfl) (fun _ _ _ h => h) (Or.inl ⟨rfl, fun W hW => ?_⟩) hS ?_
      rotate_left
      · obtain ⟨hW0, hW1⟩ := hW; go_simp; try first | rfl | (rw [if_neg (by first | omega | (simp only [ByteArray.size_append]; first | omega | (have h1 : (ByteArray.mk #[47]).size = 1 := rfl; omega)))]; try rfl) | kernel_rfl
      try simp only [Act.put, List.setIfInBounds_toArray, List.set_cons_zero, List.set_cons_succ]
      refine wpAnyH_take (i := 5) (v := ?_) (opOf rfl) (by kernel_rfl) (by kernel_rfl) (by kernel_rfl) (fun _ _ _ h => h) (Or.inl ⟨rfl, fun W hW => ?_⟩) hS ?_
      rotate_left
      · obtain ⟨hW0, hW1⟩ := hW; go_simp; try first | rfl | (rw [if_neg (by first | omega | (simp only [ByteArray.size_append]; first | omega | (have h1 : (ByteArray.mk #[47]).size = 1 := rfl; omega)))]; try rfl) | kernel_rfl
      try simp only [Act.put, List.setIfInBounds_toArray, List.set_cons_zero, List.set_cons_succ]
      refine wpAnyH_ready (rs := [6]) (by kernel_rfl) (by simp) (AllReadyH.cons (opOf rfl) (fun KK hKK => ?_) AllReadyH.nil)
      have c0 := S.c 0 0 rfl rfl; have f0 := S.f 0 0 rfl; have c1 := S.c 0 1 rfl rfl; have f1 := S.f 0 1 rfl; have c2 := S.c 0 2 rfl rfl; have f2 := S.f 0 2 rfl; go_simp; clear hS c0 f0 c1 f1 c2 f2
      have H := S.hset 0 0 (.bool b) rfl rfl (by intro q n e; cases e)
      replace S := S.set 0 0 (.bool b) rfl
      refine iv7 H nn nd nx nt na nz dz ?_; clear nn nd nx nt na nz dz; intro nn nd nx nt na nz dz; replace HH := HH.trans H; clear H
      have H := S.hset 0 1 (.slice p l K) rfl rfl (by intro q n e; cases e)
      replace S := S.set 0 1 (.slice p l K) rfl
      refine iv7 H nn nd nx nt na nz dz ?_; clear nn nd nx nt na nz dz; intro nn nd nx nt na nz dz; replace HH := HH.trans H; clear H
      have H := S.hset 0 2 (.slice q' j J) rfl rfl (by intro q n e; cases e)
      replace S := S.set 0 2 (.slice q' j J) rfl
      refine iv7 H nn nd nx nt na nz dz ?_; clear nn nd nx nt na nz dz; intro nn nd nx nt na nz dz; replace HH := HH.trans H; clear H
      refine ho hKK ⟨S.c 2 0 rfl rfl, S.c 2 1 rfl rfl⟩ fun hS => ?_
      generalize (((w7.setCell ⟨w.heap.size, 0, none⟩ (.bool b)).setCell ⟨w.heap.size, 1, none⟩ (.slice p l K)).setCell ⟨w.heap.size, 2, none⟩ (.slice q' j J)) = w8 at S nn nd nx nt na nz dz HH hS ⊢
      clear hKK KK
      refine wpAnyH_ready (rs := [7]) (by kernel_rfl) (by simp) (AllReadyH.cons (opOf rfl) (fun KK hKK => ?_) AllReadyH.nil)
      go_simp
      refine ho hKK hS fun hS => ?_
      clear hKK KK
      refine wpAnyH_done (by kernel_rfl) ?_ _
      clear hS HH; obtain ⟨c0_0, c0_1, c0_2⟩ := S.c3 0 rfl; have c1_0 := S.c 1 0 rfl rfl; have c1_1 := S.c 1 1 rfl rfl; have c2_0 := S.c 2 0 rfl rfl; have c2_1 := S.c 2 1 rfl rfl; go_wp2_with fail; obtain ⟨d0_0, d0_1, d0_2⟩ := S.c3 0 rfl
      exact bodyPost_ret (v := .tuple #[.agg #[.bool b, .slice p l K, .slice q' j J], .int .i64 0]) (by simp [results, Tryz.f33, go_sem, d0_0, d0_1, d0_2]) rfl (⟨⟨_, rfl, b, p, l, K, q', j, J, rfl, hb, nz, dz⟩, S.below⟩)
end Go.Proofs.YtcfgefbkeeedgaaGreat
