/-
  ratio.Check of whatever is handed in, of any length.
-/
import Derived.Test.YtggnjlbnfgjgdaaM20

namespace Go.Proofs.Ytggnjlbnfgjgdaa
open Go.RowKit

set_option maxRecDepth 100000 in
theorem check_big (p : Option Addr) (K l : Nat) (w : World) (h : 512 < l) :
    Calls Try.prog 45 #[.slice p l K] w fun e w' => e = .returned (.int .i64 11) ∧ Below w.heap.size w w' := by
  have h' : (512 : Int) < (l : Int) := by omega
  have S := St.start w
  try simp only [List.cons_append, List.nil_append] at S
  go_enter Try.func45, Try.ntmps45
  go_wp2_with fail
  exact bodyPost_ret (v := .int .i64 11) (by simp [results, Try.f45, go_sem]) rfl (⟨rfl, S.below⟩)
theorem check_all (p : Option Addr) (K l : Nat) (es : List Nat) (w : World) (hat : At .u32 w p K es) (hl : es.length = l) (c : Int) (hc : ((checkOf es : Nat) : Int) = c) :
    Calls Try.prog 45 #[.slice p l K] w fun e w' => e = .returned (.int .i64 c) ∧ Below w.heap.size w w' := by
  by_cases h : 512 < l
  · have e : checkOf es = 11 := by unfold checkOf; rw [if_pos (by omega)]
    subst hc
    rw [e]
    exact check_big p K l w h
  · exact check_rawN p K l es w hat hl (by omega) c hc

set_option maxRecDepth 100000 in
theorem wcheck_big (b : Bool) (p : Option Addr) (K l : Nat) (w : World) (h : 512 < l) :
    Calls Try.prog 12 #[.agg #[.bool b, .slice p l K]] w fun e w' => e = .returned (.int .i64 11) ∧ Below w.heap.size w w' := by
  have HL := Lib.hid h
  clear h
  have S := (St.start w).alloc 25 [.bool b, .slice p l K] (w.heap.size)
  try simp only [List.cons_append, List.nil_append] at S
  have c0_0 := S.c 0 0 rfl rfl
  have c0_1 := S.c 0 1 rfl rfl
  go_enter Try.func12, Try.ntmps12
  go_wp2_with fail
  clear c0_0 c0_1
  refine (S.call (check_big p K l _ HL.out)).mono ?_
  clear S
  rintro e w1 ⟨rfl, S, H⟩
  clear H
  have c0_0 := S.c 0 0 rfl rfl
  have c0_1 := S.c 0 1 rfl rfl
  go_wp2_with fail
  exact bodyPost_ret (v := .int .i64 11) (by simp [results, Try.f12, go_sem]) rfl (⟨rfl, S.below⟩)
theorem wcheck_all (b : Bool) (p : Option Addr) (K l : Nat) (ds : List Nat) (w : World) (hat : At .u32 w p K ds) (hd : Dig 4294967296 ds) (hl : ds.length = l) :
    Calls Try.prog 12 #[.agg #[.bool b, .slice p l K]] w fun e w' => (∃ c : Int, e = .returned (.int .i64 c) ∧ Hid (c = 0 → l ≤ 512 ∧ cut ds = ds ∧ (b = true → ds ≠ []))) ∧ Below w.heap.size w w' := by
  by_cases h : 512 < l
  · exact (wcheck_big b p K l w h).mono fun e w' h => ⟨⟨11, h.1, fun h => by cases h⟩, h.2⟩
  · exact (wcheck_raw b p K l ds w hat hd hl (by omega)).mono fun e w' ⟨⟨c, h1, h2⟩, h3⟩ => ⟨⟨c, h1, fun h0 => ⟨by omega, h2.out h0⟩⟩, h3⟩

set_option maxRecDepth 100000 in
set_option maxHeartbeats 4000000 in
theorem rcheck_big (b : Bool) (p p' : Option Addr) (K K' l l' : Nat) (ds es : List Nat) (w : World) (at1 : At .u32 w p K ds) (at2 : At .u32 w p' K' es) (d1 : Dig 4294967296 ds) (hl : ds.length = l) (hl' : es.length = l') (h5 : 512 < l ∨ 512 < l') :
    Calls Try.prog 19 #[.agg #[.bool b, .slice p l K, .slice p' l' K']] w fun e w' => (∃ c : Int, e = .returned (.int .i64 c) ∧ Hid (c ≠ 0)) ∧ Below w.heap.size w w' := by
  obtain ⟨c2, hc2⟩ : ∃ c2 : Int, ((checkOf es : Nat) : Int) = c2 := ⟨_, rfl⟩
  have h2 : 512 < l' → c2 ≠ 0 := fun h e => by
    have e2 : checkOf es = 11 := by unfold checkOf; rw [if_pos (by omega)]
    omega
  have HD := Lib.hid (And.intro d1 (And.intro hl (And.intro hl' (And.intro h5 (And.intro hc2 h2)))))
  clear d1 hl hl' h5 hc2 h2
  have S := (St.start w).alloc 30 [.bool b, .slice p l K, .slice p' l' K'] (w.heap.size)
  try simp only [List.cons_append, List.nil_append] at S
  replace at1 := at1.hold S.hold
  replace at2 := at2.hold S.hold
  have c0_0 := S.c 0 0 rfl rfl
  have c0_1 := S.c 0 1 rfl rfl
  have c0_2 := S.c 0 2 rfl rfl
  go_enter Try.func19, Try.ntmps19
  go_upto_region 1 with fail
  clear c0_0 c0_1 c0_2
  generalize (w.alloc (.cells #[.bool b, .slice p l K, .slice p' l' K'] 30)) = w1 at S at1 at2 ⊢
  have HH := Hold.drew w1
  replace at1 := at1.hold HH
  replace at2 := at2.hold HH
  replace S := S.drew
  refine wp_region_held_drew (S := fun W => W.cell? ⟨w.heap.size, 0, none⟩ = some (.bool b) ∧ W.cell? ⟨w.heap.size, 1, none⟩ = some (.slice p l K) ∧ W.cell? ⟨w.heap.size, 2, none⟩ = some (.slice p' l' K')) (by kernel_rfl) ⟨S.c 0 0 rfl rfl, S.c 0 1 rfl rfl, S.c 0 2 rfl rfl⟩ (fun hS => ?_)
  generalize w1.drew = w2 at S at1 at2 HH hS ⊢
  refine wpAnyH_take (i := 0) (v := ?_) ((List.getElem?_toArray ..).trans rfl) (by kernel_rfl) (by kernel_rfl) (by kernel_rfl) (fun _ _ _ h => h) (Or.inl ⟨rfl, fun W hW => ?_⟩) hS ?_
  rotate_left
  · obtain ⟨hW0, hW1, hW2⟩ := hW; go_simp; try first | rfl | (rw [if_neg (by first | omega | (simp only [ByteArray.size_append]; first | omega | (have h1 : (ByteArray.mk #[47]).size = 1 := rfl; omega)))]; try rfl) | kernel_rfl
  try simp only [Act.put, List.setIfInBounds_toArray, List.set_cons_zero, List.set_cons_succ]
  refine wpAnyH_take (i := 1) (v := ?_) ((List.getElem?_toArray ..).trans rfl) (by kernel_rfl) (by kernel_rfl) (by kernel_rfl) (fun _ _ _ h => h) (Or.inl ⟨rfl, fun W hW => ?_⟩) hS ?_
  rotate_left
  · obtain ⟨hW0, hW1, hW2⟩ := hW; go_simp; try first | rfl | (rw [if_neg (by first | omega | (simp only [ByteArray.size_append]; first | omega | (have h1 : (ByteArray.mk #[47]).size = 1 := rfl; omega)))]; try rfl) | kernel_rfl
  try simp only [Act.put, List.setIfInBounds_toArray, List.set_cons_zero, List.set_cons_succ]
  refine wpAnyH_take (i := 3) (v := ?_) ((List.getElem?_toArray ..).trans rfl) (by kernel_rfl) (by kernel_rfl) (by kernel_rfl) (fun _ _ _ h => h) (Or.inl ⟨rfl, fun W hW => ?_⟩) hS ?_
  rotate_left
  · obtain ⟨hW0, hW1, hW2⟩ := hW; go_simp; try first | rfl | (rw [if_neg (by first | omega | (simp only [ByteArray.size_append]; first | omega | (have h1 : (ByteArray.mk #[47]).size = 1 := rfl; omega)))]; try rfl) | kernel_rfl
  try simp only [Act.put, List.setIfInBounds_toArray, List.set_cons_zero, List.set_cons_succ]
  refine wpAnyH_take (i := 4) (v := ?_) ((List.getElem?_toArray ..).trans rfl) (by kernel_rfl) (by kernel_rfl) (by kernel_rfl) (fun _ _ _ h => h) (Or.inl ⟨rfl, fun W hW => ?_⟩) hS ?_
  rotate_left
  · obtain ⟨hW0, hW1, hW2⟩ := hW; go_simp; try first | rfl | (rw [if_neg (by first | omega | (simp only [ByteArray.size_append]; first | omega | (have h1 : (ByteArray.mk #[47]).size = 1 := rfl; omega)))]; try rfl) | kernel_rfl
  try simp only [Act.put, List.setIfInBounds_toArray, List.set_cons_zero, List.set_cons_succ]
  refine wpAnyH_ready (rs := [2]) (by kernel_rfl) (by simp) (AllReadyH.cons ((List.getElem?_toArray ..).trans rfl) (fun KK hKK => ?_) AllReadyH.nil)
  go_simp
  clear hS
  refine (S.call (wcheck_all b p K l ds _ at1 HD.out.1 HD.out.2.1)).mono ?_
  clear S
  rintro e w3 ⟨⟨c1, rfl, h1⟩, S, H⟩
  replace at1 := at1.hold H
  replace at2 := at2.hold H
  replace HH := HH.trans H
  clear H
  go_wp2_with fail
  refine hKK.out _ _ ⟨S.c 0 0 rfl rfl, S.c 0 1 rfl rfl, S.c 0 2 rfl rfl⟩ (fun hS => ?_)
  clear hKK KK
  try simp only [Act.put, List.setIfInBounds_toArray, List.set_cons_zero, List.set_cons_succ]
  refine wpAnyH_ready (rs := [5]) (by kernel_rfl) (by simp) (AllReadyH.cons ((List.getElem?_toArray ..).trans rfl) (fun KK hKK => ?_) AllReadyH.nil)
  go_simp
  clear hS
  refine (S.call (check_all p' K' l' es _ at2 HD.out.2.2.1 c2 HD.out.2.2.2.2.1)).mono ?_
  clear S
  rintro e w4 ⟨rfl, S, H⟩
  replace at1 := at1.hold H
  replace at2 := at2.hold H
  replace HH := HH.trans H
  clear H
  go_wp2_with fail
  refine hKK.out _ _ ⟨S.c 0 0 rfl rfl, S.c 0 1 rfl rfl, S.c 0 2 rfl rfl⟩ (fun hS => ?_)
  clear hKK KK
  try simp only [Act.put, List.setIfInBounds_toArray, List.set_cons_zero, List.set_cons_succ]
  refine wpAnyH_ready (rs := [6]) (by kernel_rfl) (by simp) (AllReadyH.cons ((List.getElem?_toArray ..).trans rfl) (fun KK hKK => ?_) AllReadyH.nil)
  go_simp
  clear hS
  have H := S.hnew 27 [.int .i64 c1, .int .i64 c2]
  replace S := S.alloc 27 [.int .i64 c1, .int .i64 c2] (w4.heap.size)
  try simp only [List.cons_append, List.nil_append] at S
  replace at1 := at1.hold H
  replace at2 := at2.hold H
  replace HH := HH.trans H
  clear H
  refine hKK.out _ _ ⟨S.c 0 0 rfl rfl, S.c 0 1 rfl rfl, S.c 0 2 rfl rfl⟩ (fun hS => ?_)
  generalize (w4.alloc (.cells #[.int .i64 c1, .int .i64 c2] 27)) = w5 at S at1 at2 HH hS ⊢
  clear hKK KK
  try simp only [Act.put, List.setIfInBounds_toArray, List.set_cons_zero, List.set_cons_succ]
  refine wpAnyH_ready (rs := [7]) (by kernel_rfl) (by simp) (AllReadyH.cons ((List.getElem?_toArray ..).trans rfl) (fun KK hKK => ?_) AllReadyH.nil)
  go_simp
  clear hS
  refine (S.call (or_pair S 1 rfl)).mono ?_
  clear S
  rintro e w6 ⟨⟨r, rfl, hr⟩, S, H⟩
  replace at1 := at1.hold H
  replace at2 := at2.hold H
  replace HH := HH.trans H
  clear H
  go_wp2_with fail
  refine hKK.out _ _ ⟨S.c 0 0 rfl rfl, S.c 0 1 rfl rfl, S.c 0 2 rfl rfl⟩ (fun hS => ?_)
  clear hKK KK
  try simp only [Act.put, List.setIfInBounds_toArray, List.set_cons_zero, List.set_cons_succ]
  refine wpAnyH_ready (rs := [8]) (by kernel_rfl) (by simp) (AllReadyH.cons ((List.getElem?_toArray ..).trans rfl) (fun KK hKK => ?_) AllReadyH.nil)
  go_simp
  refine hKK.out _ _ hS (fun hS => ?_)
  clear hKK KK
  try simp only [Act.put, List.setIfInBounds_toArray, List.set_cons_zero, List.set_cons_succ]
  refine wpAnyH_done (by kernel_rfl) ?_ _
  clear hS HH
  have h0 : r ≠ 0 := fun e => by
    obtain ⟨e1, e2⟩ := hr.out e
    rcases HD.out.2.2.2.1 with h | h
    · have := (h1.out e1).1; omega
    · exact HD.out.2.2.2.2.2 h e2
  have h0' : (r != 0) = true := by simpa using h0
  have H0 := Lib.hid h0
  clear h0 hr h1
  have c0_0 := S.c 0 0 rfl rfl
  have c0_1 := S.c 0 1 rfl rfl
  have c0_2 := S.c 0 2 rfl rfl
  go_wp2_with fail
  exact bodyPost_ret (v := .int .i64 r) (by simp [results, Try.f19, go_sem]) rfl (⟨⟨r, rfl, H0⟩, S.below⟩)

theorem rcheck_all (b : Bool) (p p' : Option Addr) (K K' l l' : Nat) (ds es : List Nat) (w : World) (at1 : At .u32 w p K ds) (at2 : At .u32 w p' K' es) (d1 : Dig 4294967296 ds) (d2 : Dig 4294967296 es) (hl : ds.length = l) (hl' : es.length = l') :
    Calls Try.prog 19 #[.agg #[.bool b, .slice p l K, .slice p' l' K']] w fun e w' => (∃ c : Int, e = .returned (.int .i64 c) ∧ Hid (c = 0 → ValidR b ds es)) ∧ Below w.heap.size w w' := by
  by_cases h : 512 < l ∨ 512 < l'
  · exact (rcheck_big b p p' K K' l l' ds es w at1 at2 d1 hl hl' h).mono fun e w' ⟨⟨c, h1, h2⟩, h3⟩ => ⟨⟨c, h1, fun h0 => absurd h0 h2.out⟩, h3⟩
  · exact rcheck_raw b p p' K K' l l' ds es w at1 at2 d1 d2 hl hl' (by omega) (by omega)

end Go.Proofs.Ytggnjlbnfgjgdaa
