/-
  What the statement stands on.
-/
import Derived.Test.YtcfgefbkeeedgaaGreatM25
import Derived.Test.YtcfgefbkeeedgaaGreatShelf
namespace Go.Proofs.YtcfgefbkeeedgaaGreat
open Go.RowKit
theorem num_le (l : List Nat) (f : Nat) (hf : f ≤ l.length) : numL l f ≤ l.length := by
  have h1 := cnt_le (inB digitsT) (l.drop f)
  have h2 := cnt_le (inB digitsT) (l.drop (f + cnt (inB digitsT) (l.drop f) + 1))
  rw [List.length_drop] at h1 h2
  unfold numL
  split
  · omega
  · split
    · omega
    · split
      · omega
      · split <;> omega
theorem sign_le (l : List Nat) (h : 0 < l.length) : signL l ≤ l.length := by
  unfold signL
  split
  · rename_i h1
    rcases h1 with h1 | h1 <;> (have := congrArg List.length h1; rw [List.length_take] at this; simp at this; omega)
  · split <;> omega
theorem begin_le (l : List Nat) (h : 0 < l.length) : (beginL l).2 ≤ l.length := by
  unfold beginL
  have := cnt_le (inB lettersT) l
  have := num_le l 1 (by omega)
  have := num_le l 0 (by omega)
  have := sign_le l h
  split
  · assumption
  · split
    · assumption
    · split
      · assumption
      · split
        · show 1 ≤ _; omega
        · assumption
theorem Toks.form {w : World} {base : Nat} {v : Value} {l : List Tk} (h : Toks w base v l) : ∃ p c, v = .slice p l.length c := by
  obtain ⟨_, h | ⟨g, cap, cur, h, _⟩⟩ := h
  · rw [h.1, h.2]; exact ⟨none, 0, rfl⟩
  · exact ⟨_, _, h⟩
theorem Toks.to {w w' : World} {base : Nat} {v : Value} {l : List Tk} (h : Toks w base v l) (hB : Below w.heap.size w w') : Toks w' base v l := by
  obtain ⟨h0, h | ⟨g, cap, cur, h1, h2, h3, h4⟩⟩ := h
  · exact ⟨h0, .inl h⟩
  · exact ⟨h0, .inr ⟨g, cap, cur, h1, h2, (hB.block g (lt_of_heap h3)).trans h3, h4⟩⟩
theorem Toks.mono {w : World} {base base' : Nat} {v : Value} {l : List Tk} (h : Toks w base v l) (hb : base' ≤ base) : Toks w base' v l := by
  obtain ⟨h0, h | ⟨g, cap, cur, h1, h2, h3⟩⟩ := h
  · exact ⟨h0, .inl h⟩
  · exact ⟨h0, .inr ⟨g, cap, cur, h1, Nat.le_trans hb h2, h3⟩⟩
theorem Toks.set {w : World} {base : Nat} {v : Value} {l : List Tk} (h : Toks w base v l) (b j : Nat) (x : Value) (hb : b < base) : Toks (w.setCell ⟨b, j, none⟩ x) base v l := by
  obtain ⟨h0, h | ⟨g, cap, cur, h1, h2, h3, h4⟩⟩ := h
  · exact ⟨h0, .inl h⟩
  · exact ⟨h0, .inr ⟨g, cap, cur, h1, h2, (Below.heap_setCell _ _ _ _ (by show g ≠ b; omega)).trans h3, h4⟩⟩
theorem St.one {w W W' : World} {t : TypeId} {vs : List Value} (S : St w W [(w.heap.size, t, vs)]) (hB : Below (w.heap.size + 1) W W') : St w W' [(w.heap.size, t, vs)] :=
  ⟨S.below.trans (hB.mono (Nat.le_succ _)), Nat.le_refl _, (hB.block w.heap.size (Nat.lt_succ_self _)).trans S.locs.2.1, trivial⟩
set_option maxRecDepth 100000 in
theorem sclone_any (s : ByteArray) (w : World) (hl : s.size ≤ 281474976710656) :
    Calls Tryz.prog 14 #[.string s] w fun e w' => e = .returned (.string s) ∧ Below w.heap.size w w' := by
  have H := Lib.hid (Tryz.stringslite_Clone s w hl)
  clear hl
  go_enter Tryz.func14, Tryz.ntmps14
  go_wp2_with (go_at_call 44; refine H.out.mono ?_; rintro e w1 ⟨rfl, hB⟩)
  go_ret
  exact ⟨rfl, hB⟩
def ScanOut (s : ByteArray) (w : World) (e : Ending) (w' : World) : Prop :=
  match scanL s with
  | .ok l => ∃ v, e = .returned (.tuple #[v, .agg #[.int .i64 0, .int .i64 0]]) ∧ Toks w' w.heap.size v l
  | .error (c, p) => e = .returned (.tuple #[.slice none 0 0, .agg #[.int .i64 c, .int .i64 p]])
set_option maxRecDepth 100000 in
set_option maxHeartbeats 8000000 in
theorem scan_any (s : ByteArray) (w : World) :
    Calls Tryz.prog 4 #[.string s] w fun e w' => ScanOut s w e w' ∧ Below w.heap.size w w' := by
  have S := (St.start w).alloc 29 [.int .i64 0, .int .i64 0] (w.heap.size)
  by_cases h0 : 65536 < s.size
  · have h0' : (65536 : Int) < (s.size : Int) := by omega
    have HR := Lib.hid (show scanL s = .error (3, 65536) by unfold scanL; rw [if_pos h0])
    clear S
    have S := (St.start w).alloc 29 [.int .i64 3, .int .i64 65536] (w.heap.size)
    have d0 := S.c 0 0 rfl rfl; have d1 := S.c 0 1 rfl rfl; clear h0
    go_enter Tryz.func4, Tryz.ntmps4
    go_wp2_with fail
    exact bodyPost_ret (v := .tuple #[.slice none 0 0, .agg #[.int .i64 3, .int .i64 65536]]) (by simp [results, Tryz.f4, go_sem, d0, d1]) rfl ⟨by unfold ScanOut; rw [HR.out]; rfl, S.below⟩
  · have h0' : ¬ (65536 : Int) < (s.size : Int) := by omega
    have hs : s.size ≤ 100000 := by omega
    have HL := Lib.hid (leftOut_any s (w.alloc (.cells #[.int .i64 0, .int .i64 0] 29)) hs)
    have hp := leftL_le (bs s)
    rw [bs_len] at hp
    obtain ⟨p0, hp0⟩ : ∃ p, leftL (bs s) = p := ⟨_, rfl⟩
    rw [hp0] at HL hp
    have HH := Lib.hid (And.intro h0 (And.intro hp0 hp))
    clear h0 hp0
    go_enter Tryz.func4, Tryz.ntmps4
    go_wp2_with fail
    refine HL.out.mono ?_
    rintro e w1 ⟨rfl, hB⟩
    replace S := S.to hB
    clear hB HL; go_wp2_with fail
    go_loopw [4, 5] (fun sv sa wr => ∃ (acc : List Tk) (q : Option Addr) (c p f : Nat), sv = .slice q acc.length c ∧ sa = .int .i64 p ∧ Hid (scanA s (s.size + 1) (leftL (bs s)) [] = scanA s f p acc ∧ s.size < f + p ∧ p ≤ s.size ∧ acc.length ≤ 16384) ∧ Toks wr (w.heap.size + 1) (.slice q acc.length c) acc ∧ St w wr [(w.heap.size, 29, [.int .i64 0, .int .i64 0])]) (fun _ sa _ => s.size - (intOf sa).toNat)
    case atStart => exact ⟨[], none, 0, p0, s.size + 1, rfl, rfl, ⟨by rw [HH.out.2.1], by omega, HH.out.2.2, by simp⟩, Toks.nil _ _, S⟩
    case round =>
      clear S
      obtain ⟨acc, q, c, p, f, rfl, rfl, hz, HT, S⟩ := hrel
      replace HT := Lib.hid HT
      have hpl := hz.out.2.2.1
      have hal := hz.out.2.2.2
      have hff := hz.out.2.1
      clear hp
      by_cases hlt : p < s.size
      · have hlt' : (p : Int) < (s.size : Int) := by omega
        have c1 : (0 : Int) ≤ (p : Int) := by omega
        have c2 : (p : Int) ≤ (s.size : Int) := by omega
        obtain ⟨f, rfl⟩ : ∃ g, f = g + 1 := ⟨f - 1, by omega⟩
        have HBg := Lib.hid (begin_any (s.extract p s.size) wr (by simp; omega) (by simp; omega))
        rw [bs_drop] at HBg
        have hle := begin_le ((bs s).drop p) (by rw [List.length_drop, bs_len]; omega)
        rw [List.length_drop, bs_len] at hle
        have hq : scanA s (f + 1) p acc = scanA s (f + 1) p acc := rfl
        conv at hq => rhs; rw [scanA, if_pos hlt]
        obtain ⟨kd, hkd⟩ : ∃ k, (beginL ((bs s).drop p)).1 = k := ⟨_, rfl⟩
        obtain ⟨sz, hsz⟩ : ∃ k, (beginL ((bs s).drop p)).2 = k := ⟨_, rfl⟩
        rw [hkd, hsz] at HBg hq
        rw [hsz] at hle
        clear hkd hsz
        by_cases hz0 : sz = 0
        · have hzb : ((sz : Int) == 0) = true := by rw [hz0]; rfl
          rw [if_pos hz0] at hq
          have HR := Lib.hid (show scanL s = .error (2, p) by unfold scanL; rw [if_neg HH.out.1, hz.out.1, hq])
          clear hz0 hq hle hff; go_wp2_with fail
          refine HBg.out.mono ?_
          rintro e w1 ⟨rfl, hB⟩
          replace S := S.to hB
          clear HBg hB; have e0 := S.c 0 0 rfl rfl; have e1 := S.c 0 1 rfl rfl; have f0 := S.f 0 0 rfl; have f1 := S.f 0 1 rfl
          replace S := S.set 0 0 (.int .i64 2) rfl
          replace S := S.set 0 1 (.int .i64 p) rfl
          go_wp2_with fail; have d0 := S.c 0 0 rfl rfl; have d1 := S.c 0 1 rfl rfl
          exact bodyPost_ret (v := .tuple #[.slice none 0 0, .agg #[.int .i64 2, .int .i64 p]]) (by simp [results, Tryz.f4, go_sem, d0, d1]) rfl ⟨by unfold ScanOut; rw [HR.out]; rfl, S.below⟩
        · have hzb : ((sz : Int) == 0) = false := by rw [beq_eq_false_iff_ne]; omega
          rw [if_neg hz0] at hq
          by_cases hmx : acc.length = 16384
          · have hmb : ((acc.length : Int) == 16384) = true := by rw [hmx]; rfl
            rw [if_pos hmx] at hq
            have HR := Lib.hid (show scanL s = .error (3, p) by unfold scanL; rw [if_neg HH.out.1, hz.out.1, hq])
            clear hz0 hq hle hff hmx; go_wp2_with fail
            refine HBg.out.mono ?_
            rintro e w1 ⟨rfl, hB⟩
            replace S := S.to hB
            clear HBg hB; have e0 := S.c 0 0 rfl rfl; have e1 := S.c 0 1 rfl rfl; have f0 := S.f 0 0 rfl; have f1 := S.f 0 1 rfl
            replace S := S.set 0 0 (.int .i64 3) rfl
            replace S := S.set 0 1 (.int .i64 p) rfl
            go_wp2_with fail; have d0 := S.c 0 0 rfl rfl; have d1 := S.c 0 1 rfl rfl
            exact bodyPost_ret (v := .tuple #[.slice none 0 0, .agg #[.int .i64 3, .int .i64 p]]) (by simp [results, Tryz.f4, go_sem, d0, d1]) rfl ⟨by unfold ScanOut; rw [HR.out]; rfl, S.below⟩
          · have hmb : ((acc.length : Int) == 16384) = false := by rw [beq_eq_false_iff_ne]; omega
            rw [if_neg hmx] at hq
            obtain ⟨m, hm⟩ : ∃ m, p + sz = m := ⟨_, rfl⟩
            rw [hm] at hq
            have hadd : IntKind.i64.wrap ((p : Int) + (sz : Int)) = (m : Int) := by
              rw [show (p : Int) + (sz : Int) = (m : Int) by omega]
              exact wrap_num (by omega) (by omega)
            have c3 : (p : Int) ≤ (m : Int) := by omega
            have c4 : (m : Int) ≤ (s.size : Int) := by omega
            have c5 : (0 : Int) ≤ (m : Int) := by omega
            have hll := leftL_le ((bs s).drop m)
            rw [List.length_drop, bs_len] at hll
            have HL := fun w3 => leftOut_any (s.extract m s.size) w3 (by simp; omega)
            rw [bs_drop] at HL
            obtain ⟨lf, hlf⟩ : ∃ k, leftL ((bs s).drop m) = k := ⟨_, rfl⟩
            rw [hlf] at HL hll hq
            replace HL := Lib.hid HL
            obtain ⟨n, hn⟩ : ∃ n, m + lf = n := ⟨_, rfl⟩
            rw [hn] at hq
            have hadd2 : IntKind.i64.wrap ((m : Int) + (lf : Int)) = (n : Int) := by
              rw [show (m : Int) + (lf : Int) = (n : Int) by omega]
              exact wrap_num (by omega) (by omega)
            have HN := Lib.hid (And.intro hm hn)
            have hns : n ≤ s.size := by omega
            have hpn : p < n := by omega
            have hmp : m ≤ s.size := by omega
            have hal' : acc.length < 16384 := by omega
            have HQ := Lib.hid (And.intro hq (And.intro hmx hz0))
            clear hq hmx hz0 hlf hm hn hle hll; go_wp2_with fail
            refine HBg.out.mono ?_
            rintro e w1 ⟨rfl, hB⟩
            replace S := S.to hB
            replace HT := Lib.hid (HT.out.to hB)
            clear HBg hB
            have HC := Lib.hid (sclone_any (s.extract p m) w1 (by simp; omega))
            go_wp2_with fail
            refine HC.out.mono ?_
            rintro e w2 ⟨rfl, hB⟩
            replace S := S.to hB
            replace HT := Lib.hid (HT.out.to hB)
            clear HC hB
            go_wp2_with (at_builtin; refine append_tok rfl (.tmp 36) (.tmp 47) rfl (w.heap.size + 1) _ acc rfl (HT.out.to ((Below.refl _ w2).alloc (Nat.le_refl _) _)) w2.heap.size ⟨kd, p, s.extract p m⟩ rfl ?c1 ?c2 ?c3 (by omega) ?c4 (w.heap.size + 1) w2 ?c5 (Nat.le_refl _) (fun v3 w3 hT3 hB3 => ?_))
            try case c1 => simp [go_sem]
            try case c2 => simp [go_sem]
            try case c3 => simp [go_sem]
            case c4 => have := lt_of_heap S.locs.2.1; simp; omega
            case c5 => exact (Below.refl _ w2).alloc (lt_of_heap S.locs.2.1) _
            obtain ⟨q3, k3, rfl⟩ := hT3.form
            replace HT := Lib.hid hT3
            replace S := S.one hB3
            clear hB3
            refine (HL.out w3).mono ?_
            rintro e w4 ⟨rfl, hB⟩
            replace S := S.to hB
            replace HT := Lib.hid (HT.out.to hB)
            clear HL hB; go_wp2_with fail
            go_roundw
            case rel => exact ⟨_, q3, k3, n, f, by rw [List.length_append]; rfl, rfl, ⟨by rw [hz.out.1, HQ.out.1], by omega, hns, by simp; omega⟩, HT.out, S⟩
            case measure => simp [intOf]; omega
      · have hlt' : ¬ (p : Int) < (s.size : Int) := by omega
        obtain ⟨f, rfl⟩ : ∃ g, f = g + 1 := ⟨f - 1, by omega⟩
        have HR := Lib.hid (show scanL s = .ok (acc ++ [⟨4, s.size, ⟨#[]⟩⟩]) by unfold scanL; rw [if_neg HH.out.1, hz.out.1, scanA, if_neg hlt])
        have hbe : Below (w.heap.size + 1) wr (wr.alloc (.cells #[.int .i64 4, .int .i64 s.size, .string ⟨#[]⟩] 45)) := (Below.refl _ wr).alloc (lt_of_heap S.locs.2.1) _
        have hb4 : w.heap.size + 1 ≤ (wr.alloc (.cells #[.int .i64 4, .int .i64 s.size, .string ⟨#[]⟩] 45)).heap.size := by
          have := lt_of_heap S.locs.2.1; simp; omega
        go_wp2_with (at_builtin; refine append_tok rfl (.tmp 58) (.tmp 62) rfl (w.heap.size + 1) _ acc rfl (HT.out.to ((Below.refl _ wr).alloc (Nat.le_refl _) _)) wr.heap.size ⟨4, s.size, ⟨#[]⟩⟩ rfl (by simp [go_sem]) (by simp [go_sem]) (by simp [go_sem]) (by omega) hb4 (w.heap.size + 1) wr hbe (Nat.le_refl _) (fun v3 w3 hT3 hB3 => ?_); replace S := S.one hB3; have e0 := S.c 0 0 rfl rfl; have e1 := S.c 0 1 rfl rfl; have f0 := S.f 0 0 rfl; have f1 := S.f 0 1 rfl; replace S := S.set 0 0 (.int .i64 0) rfl; replace S := S.set 0 1 (.int .i64 0) rfl)
        have d0 := S.c 0 0 rfl rfl; have d1 := S.c 0 1 rfl rfl
        refine bodyPost_ret (v := .tuple #[v3, .agg #[.int .i64 0, .int .i64 0]]) (by simp [results, Tryz.f4, go_sem, d0, d1]) rfl ⟨?_, S.below⟩
        unfold ScanOut
        rw [HR.out]
        exact ⟨v3, rfl, ((hT3.set _ _ _ (Nat.lt_succ_self _)).set _ _ _ (Nat.lt_succ_self _)).mono (Nat.le_succ _)⟩
theorem cnt_app (f : Nat → Bool) : ∀ (l m : List Nat), (∀ c, c ∈ l → f c = true) → cnt f (l ++ m) = l.length + cnt f m
  | [], m, _ => by simp
  | c :: l, m, h => by
    show cnt f (c :: (l ++ m)) = _
    unfold cnt
    rw [if_pos (h c (by simp)), cnt_app f l m fun x hx => h x (by simp [hx])]
    cases m <;> simp [cnt] <;> omega
theorem cnt_no (f : Nat → Bool) (c : Nat) (l : List Nat) (h : f c = false) : cnt f (c :: l) = 0 := by
  unfold cnt; rw [if_neg (by rw [h]; decide)]
def DigL (l : List Nat) : Prop := 0 < l.length ∧ ∀ c, c ∈ l → ∃ k : Fin 10, c = 48 + k.val
theorem dig_in : ∀ k : Fin 10, inB digitsT (48 + k.val) = true := by decide +kernel
theorem dig_letter : ∀ k : Fin 10, inB lettersT (48 + k.val) = false := by decide +kernel
theorem dig_blank : ∀ k : Fin 10, inB blanksT (48 + k.val) = false := by decide +kernel
theorem DigL.all {l : List Nat} (h : DigL l) : ∀ c, c ∈ l → inB digitsT c = true := fun c hc => by
  obtain ⟨k, rfl⟩ := h.2 c hc; exact dig_in k
theorem cnt_dig {l : List Nat} (h : DigL l) (c : Nat) (m : List Nat) (hc : inB digitsT c = false) : cnt (inB digitsT) (l ++ c :: m) = l.length := by
  rw [cnt_app _ _ _ h.all, cnt_no _ _ _ hc]; rfl
theorem dg_app (l : List Nat) (c : Nat) (m : List Nat) : dg (l ++ c :: m) l.length = c := by
  simp [dg]
theorem num_one {l : List Nat} (h : DigL l) (p : List Nat) (c : Nat) (m : List Nat) (hc : inB digitsT c = false) (h1 : c ≠ 46) (h2 : c ≠ 47) : numL (p ++ (l ++ c :: m)) p.length = p.length + l.length := by
  have e : (p ++ (l ++ c :: m)).drop p.length = l ++ c :: m := by simp
  have e2 : dg (p ++ (l ++ c :: m)) (p.length + l.length) = c := by
    rw [← List.append_assoc, ← List.length_append]; exact dg_app _ _ _
  have := h.1
  unfold numL
  rw [e, cnt_dig h c m hc, if_neg (by omega), if_neg (by simp), e2, if_pos ⟨h1, h2⟩]
theorem begin_dig {l : List Nat} (h : DigL l) (m : List Nat) : beginL (l ++ m) = (1, numL (l ++ m) 0) := by
  match l, h with
  | c :: l, h =>
    obtain ⟨k, rfl⟩ := h.2 c (by simp)
    unfold beginL
    rw [show dg ((48 + k.val) :: l ++ m) 0 = 48 + k.val from rfl, if_neg (by rw [dig_letter]; decide), if_neg (by omega), if_pos (dig_in k)]
theorem begin_minus (l : List Nat) : beginL (45 :: l) = (1, numL (45 :: l) 1) := by
  unfold beginL
  rw [show dg (45 :: l) 0 = 45 from rfl, if_neg (by decide +kernel), if_pos rfl]
def Stop (r : List Nat) : Prop := r = [] ∨ ∃ c t, r = c :: t ∧ (c = 10 ∨ c = 32)
theorem cnt_stop_app {f : Nat → Bool} : ∀ (u : List Nat) {r : List Nat}, (r = [] ∨ ∃ c t, r = c :: t ∧ f c = false) → cnt f (u ++ r) = cnt f u
  | [], r, h => by
    rcases h with rfl | ⟨c, t, rfl, h⟩
    · rfl
    · rw [List.nil_append, cnt_no _ _ _ h]; rfl
  | x :: u, r, h => by
    show cnt f (x :: (u ++ r)) = cnt f (x :: u)
    unfold cnt
    rw [cnt_stop_app u h]
theorem stop_no {f : Nat → Bool} (h10 : f 10 = false) (h32 : f 32 = false) {r : List Nat} (h : Stop r) : r = [] ∨ ∃ c t, r = c :: t ∧ f c = false := by
  rcases h with h | ⟨c, t, h, rfl | rfl⟩
  · exact .inl h
  · exact .inr ⟨_, t, h, h10⟩
  · exact .inr ⟨_, t, h, h32⟩
theorem dg_left {u r : List Nat} {j : Nat} (h : j < u.length) : dg (u ++ r) j = dg u j := by
  unfold dg; rw [List.getElem?_append_left h]
theorem dg_at {u : List Nat} {c : Nat} {t : List Nat} : dg (u ++ c :: t) u.length = c := by simp [dg]
theorem drop_app {u r : List Nat} {j : Nat} (h : j ≤ u.length) : (u ++ r).drop j = u.drop j ++ r := List.drop_append_of_le_length h
theorem num_stop {u r : List Nat} {f : Nat} (hr : Stop r) (hf : f ≤ u.length) : numL (u ++ r) f = numL u f := by
  have hd := stop_no (f := inB digitsT) (by decide +kernel) (by decide +kernel) hr
  have e1 : cnt (inB digitsT) ((u ++ r).drop f) = cnt (inB digitsT) (u.drop f) := by rw [drop_app hf, cnt_stop_app _ hd]
  have h1 := cnt_le (inB digitsT) (u.drop f)
  rw [List.length_drop] at h1
  unfold numL
  rw [e1]
  by_cases h0 : cnt (inB digitsT) (u.drop f) = 0
  · rw [if_pos h0, if_pos h0]
  rw [if_neg h0, if_neg h0]
  by_cases he : f + cnt (inB digitsT) (u.drop f) = u.length
  · rw [if_pos he]
    rcases hr with rfl | ⟨c, t, rfl, hc⟩
    · rw [List.append_nil, if_pos he]
    · rw [if_neg (by simp; omega), he, dg_at, if_pos (by omega)]
  · have hlt : f + cnt (inB digitsT) (u.drop f) < u.length := by omega
    rw [if_neg he, if_neg (by simp; omega), dg_left hlt]
    split
    · rfl
    · rw [drop_app (by omega), cnt_stop_app _ hd]
theorem left_zero {c : Nat} (l : List Nat) (hc : inB blanksT c = false) (h : c ≠ 35) : leftL (c :: l) = 0 := by
  unfold leftL
  rw [cnt_no _ _ _ hc, if_neg (by simp; exact h)]
end Go.Proofs.YtcfgefbkeeedgaaGreat
